/-
  What the layers below the seventh lean on: texts copied, rows of the call's own, blocks, cells alike.
-/
import Derived.Test.YtbdlokijednoiaaOwn
import Derived.Test.YtbdlokijednoiaaShelf
import Derived.RegionTactic
import Derived.BigQuiet
import Derived.Deep.QuietTactic
import Derived.Deep.RegionLaw
import Derived.Deep.LoopGhost
import Derived.Deep.RegionWith
import Derived.Laws.StructEq
import Derived.Deep.RegionHeld3
import Derived.Shelf.Abstract
namespace Go.Proofs.Ytbdlokijednoiaa
open Go.RowKit
set_option linter.unusedVariables false
set_option linter.unusedSimpArgs false
set_option maxRecDepth 100000

theorem get_data (s : ByteArray) (k : Nat) (h : k < s.size) : s.data.toList[k]? = some s[k] := by
  have hk : k < s.data.toList.length := h
  rw [List.getElem?_eq_getElem hk]
  rfl

theorem below_drewN (w : World) (n : Nat) : Below w.heap.size w (w.drewN n) := ⟨rfl, rfl, rfl, Nat.le_refl _, fun _ _ => rfl⟩

theorem clone_any (s : ByteArray) (w : World) (hs : s.size ≤ 281474976710656) :
    Calls Try.prog 36 #[.string s] w fun e w' => e = .returned (.string s) ∧ Below w.heap.size w w' := by
  go_enter Try.func36, Try.ntmps36
  go_wp2_with (go_at_call 63; refine (Try.stringslite_Clone s _ hs).mono ?_; rintro e w1 ⟨rfl, hb1⟩)
  go_ret
  exact ⟨rfl, hb1⟩

/-- append to a list of the call's own, as a step of a region that draws its order -/
theorem step_append_own {P : Program} {ops : Array Oper} {o : Oper} {a : Act} {w : World} {K : Act → World → Prop} {Q : Exit → Act → World → Prop} {E : Prop}
    (hg : o.guard = none) (s x : Operand) (t : TypeId) (hop : o.op = Op.call { callee := Callee.builtin Builtin.append, args := #[s, x], argTypes := #[t, t] })
    (base : Nat) (e : TypeId) (i : TypeInfo) (z : Value) (size bytes : Nat) (ht : P.underlying t = some (.slice e)) (hi : P.info? e = some i) (hz : i.zero = some z)
    (hsize : i.size = size) (hby : i.bytes = bytes) (hzs : z.cells.size = size) (hsz : 0 < size)
    (v : Value) (n : Nat) (xs : List Value) (hs : a.eval s = v) (hown : w.ownsRow base e size v n xs)
    (ad : Addr) (m c : Nat) (news : List Value) (hx : a.eval x = .slice (some ad) m c) (hl : news.length = m * size) (hnews : ∀ j u, news[j]? = some u → w.cell? (ad.add j) = some u) (h1 : ∀ u ∈ news, u.oneCell' = true)
    (h63 : n + m ≤ maxLen) (hbytes : (n + m) * bytes ≤ 140737488355328) (hbase : base ≤ w.heap.size)
    (h : ∀ v' w', w'.ownsRow base e size v' (n + m) (xs ++ news) → w.grownBy w' v.ownBlock → K (a.put o.dst v') w') :
    if Region.wanted o (yielded ops a.tmps) = true then Oper.wp P o a w K Q else E := by
  have hw : Region.wanted o (yielded ops a.tmps) = true := by simp [Region.wanted, hg]
  rw [if_pos hw]
  exact wp_append_own w s x t hop base e i z size bytes ht hi hz hsize hby hzs hsz v n xs hs hown ad m c news hx hl hnews h1 h63 hbytes hbase fun v' w' h2 h3 _ => h v' w' h2 h3

/-- two cells in a new block -/
theorem two_cells (W : World) (x y : Value) (t : TypeId) : ∀ j u, [x, y][j]? = some u → (W.alloc (.cells #[x, y] t)).cell? ((⟨W.heap.size, 0, none⟩ : Addr).add j) = some u := by
  intro j u hj
  match j, hj with
  | 0, hj => simp at hj; subst hj; simp [Addr.add]
  | 1, hj => simp at hj; subst hj; simp [Addr.add]

theorem own_set {w : World} {B : Nat} {e : TypeId} {size n cap g : Nat} {xs : List Value} (h : w.ownsRow B e size (.slice (some ⟨g, 0, none⟩) n cap) n xs) (i : Nat) (u : Value) :
    (w.setCell ⟨g, i, none⟩ u).ownsRow B e size (.slice (some ⟨g, 0, none⟩) n cap) n (xs.set i u) := by
  obtain ⟨hl, hn | ⟨g', cap', cur, hv, hB, hg, h1, h2, h3, h4⟩⟩ := h
  · cases hn.1
  · cases hv
    refine ⟨by rw [List.length_set]; exact hl, .inr ⟨g, cap, cur.setIfInBounds i u, rfl, hB, ?_, h1, h2, by rw [Array.size_setIfInBounds]; exact h3, ?_⟩⟩
    · simp only [World.setCell, Array.getElem?_modify, hg, if_true]
      rfl
    · rw [Array.toList_setIfInBounds, ← h4, List.take_set]

theorem Fo.flat_cons (nm : ByteArray) (k r : Fo) : (Fo.cons nm k r).flat = (Fo.cons nm k .nil).flat ++ r.flat := by
  simp [Fo.flat]

/-- cells of a list in old memory, in a world in which that memory is as it was -/
theorem cell_at {w0 w : World} {a : Option Addr} {L : List Cl} (hc : CellsAt w0 a L) (hb : Below w0.heap.size w0 w) {k : Nat} {c : Cl} (h : L[k]? = some c) :
    ∃ b off, a = some ⟨b, off, none⟩ ∧ w.cell? ⟨b, off + k * 2, none⟩ = some (.string c.nm) ∧ w.cell? ⟨b, off + k * 2 + 1, none⟩ = some (.int .i64 c.ar) := by
  obtain ⟨b, off, ha, hlt, c1, c2⟩ := hc k c h
  exact ⟨b, off, ha, (hb.cell (p := ⟨b, off + k * 2, none⟩) hlt).trans c1, (hb.cell (p := ⟨b, off + k * 2 + 1, none⟩) hlt).trans c2⟩

theorem get_drop {L M : List Cl} {c : Cl} {k : Nat} (h : L.drop k = c :: M) : L[k]? = some c ∧ L.drop (k + 1) = M ∧ k < L.length := by
  have h1 : (L.drop k)[0]? = some c := by rw [h]; rfl
  rw [List.getElem?_drop, Nat.add_zero] at h1
  refine ⟨h1, ?_, (List.getElem?_eq_some_iff.1 h1).1⟩
  rw [← List.drop_drop, h]; rfl

theorem name_len {c : Cl} (h : cellErr c = 0) : 0 < c.nm.size ∧ c.nm.size ≤ 8 := by
  have hk := cellErr_kind h
  rcases Nat.lt_or_ge c.nm.data.toList.length 1 with h1 | h1
  · exact absurd (kind_out (.inl h1)) hk
  · rcases Nat.lt_or_ge 8 c.nm.data.toList.length with h2 | h2
    · exact absurd (kind_out (.inr h2)) hk
    · rw [size_list] at h1 h2; omega

theorem equal59 (a b : ByteArray) (x y : Int) (w : World) : (Op.equalIn 10000 49 (.agg #[.string a, .int .i64 x]) (.agg #[.string b, .int .i64 y])).run Try.prog w = .ok (decide ((⟨a, x⟩ : Cl) = ⟨b, y⟩)) w := by
  have u3 := Try.underlying3
  have u9 := Try.underlying9
  have a3 := Try.isAgg3
  have a9 := Try.isAgg9
  have z3 := Try.sizeOf3
  have z9 := Try.sizeOf9
  have hS : Try.prog.underlying 49 = some (.struct (Try.prog.fieldsOf 49)) := by kernel_rfl
  have hp : Try.prog.stoodInHeld 49 = false := by kernel_rfl
  rw [show (10000 : Nat) = 9999 + 1 from rfl, run_equalIn_agg w 9999 49 _ _ hS hp]
  simp only [Program.fieldsOf, Try.underlying49]
  go_simp
  have hab : (a.toList = b.toList) ↔ a = b := by
    constructor
    · intro h
      rw [ByteArray.toList_eq, ByteArray.toList_eq] at h
      exact ByteArray.ext (Array.toList_inj.1 h)
    · rintro rfl; rfl
  by_cases h1 : a = b <;> by_cases h2 : x = y <;> simp [h1, h2, hab]

theorem eql59 (a b : ByteArray) (x y : Int) (w : World) : (binOp .eql 49 (.agg #[.string a, .int .i64 x]) (.agg #[.string b, .int .i64 y])).run Try.prog w = .ok (.bool (decide ((⟨a, x⟩ : Cl) = ⟨b, y⟩))) w := by
  rw [run_eql_struct, equal59]; rfl

theorem neq59 (a b : ByteArray) (x y : Int) (w : World) : (binOp .neq 49 (.agg #[.string a, .int .i64 x]) (.agg #[.string b, .int .i64 y])).run Try.prog w = .ok (.bool (!decide ((⟨a, x⟩ : Cl) = ⟨b, y⟩))) w := by
  rw [run_neq_struct, equal59]; rfl

/-- two lists of cells alike -/
theorem same_any (w : World) (u v : Value) (L M : List Cl) (hu : Lies w u L) (hv : Lies w v M) :
    Calls Try.prog 12 #[u, v] w fun e w' => e = .returned (.bool (decide (L = M))) ∧ Below w.heap.size w w' := by
  obtain ⟨a, cap, rfl, hc1, hc2, _, HC⟩ := hu
  obtain ⟨a', cap', rfl, hc1', hc2', _, HC'⟩ := hv
  have hml : L.length ≤ 9223372036854775807 := by unfold maxLen at hc2; omega
  have hml' : M.length ≤ 9223372036854775807 := by unfold maxLen at hc2'; omega
  by_cases hlen : L.length = M.length
  · obtain ⟨r, hr⟩ : ∃ r, decide (L = M) = r := ⟨_, rfl⟩
    have HR : Hid (r = decide (L = M)) := hr.symm
    have hHC : Hid (CellsAt w a L) := HC
    have hHC' : Hid (CellsAt w a' M) := HC'
    rw [hr]
    clear hr HC HC'
    have hle1 : ((L.length : Int) == (M.length : Int)) = true := by simp [hlen]
    have hle2 : (L.length : Int) = (M.length : Int) := by omega
    have hlc : cap' = cap' := rfl
    go_enter Try.func12, Try.ntmps12
    go_wp2_with fail
    go_loopw [13] (fun i wr => ∃ k : Nat, k ≤ L.length ∧ Hid (L.take k = M.take k) ∧ i = .int .i64 k ∧ Below w.heap.size w wr) (fun i _ => L.length - (intOf i).toNat)
    case atStart => exact ⟨0, Nat.zero_le _, by show _ = _; simp, rfl, Below.refl _ _⟩
    case round =>
      obtain ⟨k, hk, HK, rfl, hb⟩ := hrel
      by_cases hlt : k < L.length
      · obtain ⟨c, hc⟩ : ∃ c, L[k]? = some c := ⟨L[k], List.getElem?_eq_getElem hlt⟩
        obtain ⟨d, hd⟩ : ∃ d, M[k]? = some d := ⟨M[k]'(by omega), List.getElem?_eq_getElem (by omega)⟩
        obtain ⟨b1, o1, rfl, p1, p2⟩ := cell_at hHC.out hb hc
        obtain ⟨b2, o2, rfl, q1, q2⟩ := cell_at hHC'.out hb hd
        have hltM : (k : Int) < (M.length : Int) := by omega
        have hltL : (k : Int) < (L.length : Int) := by omega
        have hEq := neq59 c.nm d.nm c.ar d.ar
        have hb0 : ∀ nq, Below w.heap.size w (wr.drewN nq) := fun nq => hb.trans ((below_drewN wr nq).mono hb.size)
        have HB0 : Hid (∀ nq, Below w.heap.size w (wr.drewN nq)) := hb0
        clear hb0
        by_cases hcd : c = d
        · subst hcd
          have hde : (!decide ((⟨c.nm, c.ar⟩ : Cl) = ⟨c.nm, c.ar⟩)) = false := by simp
          rw [hde] at hEq
          have HK2 : Hid (L.take (k + 1) = M.take (k + 1)) := by
            show _ = _
            rw [List.take_add_one, List.take_add_one, HK.out, hc, hd]
          clear HK hc hd
          go_wp2_with fail
          go_quiet (fail)
          go_wp2_with fail
          go_roundw
          case rel => exact ⟨k + 1, by omega, HK2, by go_num, HB0.out _⟩
          case measure => simp [intOf]; omega
        · have hde : (!decide ((⟨c.nm, c.ar⟩ : Cl) = ⟨d.nm, d.ar⟩)) = true := by
            have hn : ¬ ((⟨c.nm, c.ar⟩ : Cl) = ⟨d.nm, d.ar⟩) := hcd
            rw [decide_eq_false hn]; rfl
          rw [hde] at hEq
          have HRF : Hid (r = false) := by
            show _ = _
            rw [HR.out, decide_eq_false_iff_not]
            rintro rfl
            rw [hc] at hd; cases hd; exact hcd rfl
          clear HK hc hd hde hcd
          go_wp2_with fail
          go_quiet (fail)
          go_wp2_with fail
          go_ret
          exact ⟨by rw [HRF.out]; rfl, HB0.out _⟩
      · obtain rfl : k = L.length := by omega
        have HRT : Hid (r = true) := by
          show _ = _
          rw [HR.out, decide_eq_true_iff]
          have := HK.out
          rw [List.take_length, hlen, List.take_length] at this
          exact this
        clear HK
        go_wp2_with fail
        go_ret
        exact ⟨by rw [HRT.out]; rfl, hb⟩
  · have HR : Hid (decide (L = M) = false) := by show _ = _; rw [decide_eq_false_iff_not]; rintro rfl; exact hlen rfl
    have hle1 : ((L.length : Int) != (M.length : Int)) = true := by simp; omega
    have hle2 : ¬ (L.length : Int) = (M.length : Int) := by omega
    have hle3 : ((L.length : Int) == (M.length : Int)) = false := by simp; omega
    go_enter Try.func12, Try.ntmps12
    go_wp2_with fail
    go_ret
    exact ⟨by rw [HR.out]; rfl, Below.refl _ _⟩

theorem set_grown (w : World) (g i : Nat) (u : Value) : w.grownBy (w.setCell ⟨g, i, none⟩ u) (some g) :=
  ⟨rfl, rfl, rfl, by simp [World.setCell], fun k _ hk => Below.heap_setCell _ _ _ _ (fun e => hk (by rw [e]))⟩

/-- a block of just these cells -/
def Blk (w : World) (k : Nat) (cs : Array Value) (t : TypeId) : Prop := w.heap[k]? = some (.cells cs t (0, 0))

theorem Blk.lt {w : World} {k : Nat} {cs : Array Value} {t : TypeId} (h : Blk w k cs t) : k < w.heap.size := lt_of_block h

theorem Blk.cell {w : World} {k : Nat} {cs : Array Value} {t : TypeId} (h : Blk w k cs t) {i : Nat} {v : Value} (hi : cs[i]? = some v) : w.cell? ⟨k, i, none⟩ = some v := by
  unfold Blk at h
  simp [World.cell?, h, hi]

theorem Blk.free {w : World} {k : Nat} {cs : Array Value} {t : TypeId} (h : Blk w k cs t) (i : Nat) : w.frozen? ⟨k, i, none⟩ = false := Lib.frozen_of_heap h _

theorem Blk.on {w w' : World} {B k : Nat} {cs : Array Value} {t : TypeId} (h : Blk w k cs t) (hb : Below B w w') (hk : k < B) : Blk w' k cs t := (hb.block k hk).trans h

theorem Blk.made (w : World) (cs : Array Value) (t : TypeId) : Blk (w.alloc (.cells cs t)) w.heap.size cs t := by
  unfold Blk World.alloc
  show (w.heap.push _)[w.heap.size]? = _
  rw [Array.getElem?_push_size]

theorem Blk.alloc {w : World} {k : Nat} {cs : Array Value} {t : TypeId} (h : Blk w k cs t) (o : Obj) : Blk (w.alloc o) k cs t := (Below.heap_alloc w o k h.lt).trans h

theorem Blk.other {w : World} {k p i : Nat} {cs : Array Value} {t : TypeId} (h : Blk w k cs t) (hk : k ≠ p) (v : Value) : Blk (w.setCell ⟨p, i, none⟩ v) k cs t := (Below.heap_setCell _ _ _ _ hk).trans h

theorem Blk.set {w : World} {k : Nat} {cs : Array Value} {t : TypeId} (h : Blk w k cs t) (i : Nat) (v : Value) : Blk (w.setCell ⟨k, i, none⟩ v) k (cs.setIfInBounds i v) t := by
  unfold Blk at h ⊢
  have hk := lt_of_block h
  have hg : w.heap[k] = .cells cs t (0, 0) := (Array.getElem?_eq_some_iff.1 h).2
  unfold World.setCell
  simp only [Array.getElem?_modify, if_pos, h, Option.map_some]
  rfl

theorem Blk.kept {w w' : World} {k p : Nat} {cs : Array Value} {t : TypeId} (h : Blk w k cs t) (hg : w.grownBy w' (some p)) (hk : k ≠ p) : Blk w' k cs t := (hg.block k h.lt (fun e => hk (Option.some.inj e))).trans h

theorem grown_on {w0 w w' : World} {r : Option Nat} (h : w0.grownBy w r) (hb : Below w.heap.size w w') : w0.grownBy w' r :=
  ⟨hb.os.trans h.os, hb.tape.trans h.tape, hb.output.trans h.output, Nat.le_trans h.size hb.size, fun k hk hr => (hb.block k (Nat.lt_of_lt_of_le hk h.size)).trans (h.block k hk hr)⟩

theorem Blk.madeAt (w : World) (cs : Array Value) (t : TypeId) {k : Nat} (h : w.heap.size = k) : Blk (w.alloc (.cells cs t)) k cs t := h ▸ Blk.made w cs t

theorem set3 {w : World} {k : Nat} {a b c : Value} {t : TypeId} (h : Blk w k #[a, b, c] t) (x y z : Value) : Blk (((w.setCell ⟨k, 0, none⟩ x).setCell ⟨k, 1, none⟩ y).setCell ⟨k, 2, none⟩ z) k #[x, y, z] t ∧ w.grownBy (((w.setCell ⟨k, 0, none⟩ x).setCell ⟨k, 1, none⟩ y).setCell ⟨k, 2, none⟩ z) (some k) :=
  ⟨((h.set 0 x).set 1 y).set 2 z, ((set_grown w k 0 x).trans (set_grown _ k 1 y)).trans (set_grown _ k 2 z)⟩

theorem own_apart {w w' : World} {B : Nat} {v : Value} {L : List Cl} {p : Nat} (h : Owns w B v L) (hg : w.grownBy w' (some p)) (hp : p < B) : Owns w' B v L :=
  World.ownsRow.kept h hg (by
    cases e : v.ownBlock with
    | none => exact .inl rfl
    | some k =>
      right
      intro e2
      have := (World.ownsRow.lt h k e).1
      cases e2
      omega)

end Go.Proofs.Ytbdlokijednoiaa
