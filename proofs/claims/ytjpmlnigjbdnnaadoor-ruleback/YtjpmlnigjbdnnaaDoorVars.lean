/-
  Lists of texts in memory; what the program's Vars, and the document's, answer.
-/
import Derived.Test.YtjpmlnigjbdnnaaDoorMany
import Derived.Test.YtjpmlnigjbdnnaaDoorWake
namespace Go.Proofs.YtjpmlnigjbdnnaaDoor
open Go.RowKit
set_option linter.unusedVariables false
set_option maxRecDepth 100000
set_option linter.unusedSimpArgs false

theorem info9 : (Tryd.prog.info? 9).map (fun i => (i.zero, i.size, i.bytes)) = some (some (.string ⟨#[]⟩), 1, 16) := by kernel_rfl

/-- is a text one of a list? -/
def inS (x : ByteArray) (S : List ByteArray) : Bool := S.any fun y => decide (y = x)
theorem inS_iff {x : ByteArray} {S : List ByteArray} : inS x S = true ↔ x ∈ S := by
  unfold inS
  simp
/-- the variables of cells, each once -/
def varStep (acc : List ByteArray) (c : Cl) : List ByteArray := if kind c.nm.data.toList = 2 ∧ inS c.nm acc = false then acc ++ [c.nm] else acc
def varsOf (L : List Cl) : List ByteArray := L.foldl varStep []
theorem vars_next {L : List Cl} {k : Nat} {c : Cl} (h : L[k]? = some c) : varsOf (L.take (k + 1)) = varStep (varsOf (L.take k)) c := by
  unfold varsOf
  rw [List.take_add_one, h, List.foldl_append]
  rfl
theorem vars_len : ∀ (L : List Cl) (acc : List ByteArray), (L.foldl varStep acc).length ≤ acc.length + L.length
  | [], acc => by simp
  | c :: r, acc => by
    have := vars_len r (varStep acc c)
    have h2 : (varStep acc c).length ≤ acc.length + 1 := by unfold varStep; split <;> simp
    simp only [List.foldl_cons, List.length_cons]
    omega
theorem varsOf_len (L : List Cl) (k : Nat) : (varsOf (L.take k)).length ≤ k := by
  have := vars_len (L.take k) []
  simp only [List.length_nil, List.length_take] at this
  unfold varsOf
  omega

/-- a list of texts of the call's own, and one as it lies in memory -/
def OwnsS (w : World) (B : Nat) (v : Value) (S : List ByteArray) : Prop := w.ownsRow B 9 1 v S.length (S.map Value.string)
def LiesS (w : World) (v : Value) (S : List ByteArray) : Prop :=
  ∃ a cap, v = .slice a S.length cap ∧ S.length ≤ cap ∧ cap ≤ maxLen ∧ ∀ (j : Nat) x, S[j]? = some x → ∃ b off, a = some ⟨b, off, none⟩ ∧ b < w.heap.size ∧ w.cell? ⟨b, off + j, none⟩ = some (.string x)
theorem OwnsS.lies {w : World} {B : Nat} {v : Value} {S : List ByteArray} (h : OwnsS w B v S) : LiesS w v S := by
  obtain ⟨a, cap, hv, c1, c2, c3⟩ := own_cells h
  refine ⟨a, cap, hv, c1, c2, fun j x hj => ?_⟩
  obtain ⟨g, ha, _, hlt, hc⟩ := c3 j (.string x) (by rw [List.getElem?_map, hj]; rfl)
  exact ⟨g, 0, ha, hlt, by rw [Nat.zero_add]; exact hc⟩
theorem LiesS.on {w w' : World} {v : Value} {S : List ByteArray} (h : LiesS w v S) (hb : Below w.heap.size w w') : LiesS w' v S := by
  obtain ⟨a, cap, hv, c1, c2, c3⟩ := h
  refine ⟨a, cap, hv, c1, c2, fun j l hj => ?_⟩
  obtain ⟨b, off, ha, hlt, hc⟩ := c3 j l hj
  exact ⟨b, off, ha, Nat.lt_of_lt_of_le hlt hb.size, (hb.cell (p := ⟨b, off + j, none⟩) hlt).trans hc⟩
theorem ownS_more {w W' : World} {B : Nat} {v' : Value} {S : List ByteArray} {x : ByteArray} (h : W'.ownsRow B 9 1 v' (S.length + 1) (S.map Value.string ++ [.string x])) : OwnsS W' B v' (S ++ [x]) := by
  show World.ownsRow _ _ _ _ _ _ _
  rw [List.length_append, List.map_append]
  exact h

theorem contains_any (w : World) (v : Value) (S : List ByteArray) (x : ByteArray) (h : LiesS w v S) :
    Calls Tryd.prog 67 #[v, .string x] w fun e w' => e = .returned (.bool (inS x S)) ∧ w = w' := by
  obtain ⟨a, cap, rfl, c1, c2, c3⟩ := h
  cases S with
  | nil =>
    refine (Tryd.slices_Contains_string_empty a cap x w).mono fun e w' h => ?_
    obtain ⟨rfl, rfl⟩ := h
    exact ⟨rfl, rfl⟩
  | cons y r =>
    obtain ⟨b, off, rfl, _, _⟩ := c3 0 y rfl
    refine (Tryd.slices_Contains_string b off (y :: r).length cap (y :: r) x w (Nat.le_refl _) (by unfold maxLen at c2; omega) ?_).mono fun e w' h => ?_
    · intro j hj
      obtain ⟨b', off', e, _, hc⟩ := c3 j ((y :: r)[j]) (List.getElem?_eq_getElem hj)
      cases e
      rw [hc, List.getD_eq_getElem?_getD, List.getElem?_eq_getElem hj]
      rfl
    · obtain ⟨rfl, rfl⟩ := h
      rw [List.take_length]
      refine ⟨?_, rfl⟩
      congr 2
      rw [Bool.eq_iff_iff, Lib.containsS_iff, inS_iff]

theorem bytes_ne {x y : ByteArray} (h : x ≠ y) : (x.toList == y.toList) = false := by
  simp only [beq_eq_false_iff_ne, ne_eq]
  intro e
  rw [ByteArray.toList_eq, ByteArray.toList_eq] at e
  apply h
  cases x; cases y
  simpa using e

theorem has_any (w : World) (v : Value) (S : List ByteArray) (x : ByteArray) (h : LiesS w v S) :
    Calls Tryd.prog 39 #[v, .string x] w fun e w' => e = .returned (.bool (inS x S)) ∧ w = w' := by
  obtain ⟨a, cap, rfl, c1, c2, c3⟩ := h
  have hm : S.length ≤ 9223372036854775807 := by unfold maxLen at c2; omega
  have HC : Hid (∀ (j : Nat) x, S[j]? = some x → ∃ b off, a = some ⟨b, off, none⟩ ∧ b < w.heap.size ∧ w.cell? ⟨b, off + j, none⟩ = some (.string x)) := c3
  obtain ⟨d, hd⟩ : ∃ d, inS x S = d := ⟨_, rfl⟩
  have HD : Hid (inS x S = d) := hd
  rw [hd]
  clear c3 hd
  go_enter Tryd.func39, Tryd.ntmps39
  go_wp2_with fail
  go_loop [8] (fun i => ∃ k : Nat, k ≤ S.length ∧ i = .int .i64 k ∧ Hid (x ∉ S.take k)) (fun i => S.length - (intOf i).toNat)
  case atStart => exact ⟨0, Nat.zero_le _, rfl, by show x ∉ _; simp⟩
  case round =>
    obtain ⟨k, hk, rfl, HK⟩ := hrel
    by_cases hlt : k < S.length
    · obtain ⟨y, hy⟩ : ∃ y, S[k]? = some y := ⟨S[k], List.getElem?_eq_getElem hlt⟩
      obtain ⟨b, off, rfl, _, hc⟩ := HC.out k y hy
      have hki : (k : Int) < (S.length : Int) := by omega
      by_cases hxy : y = x
      · have HR : Hid (d = true) := by show _ = _; rw [← HD.out]; exact inS_iff.2 (by rw [← hxy]; exact List.mem_of_getElem? hy)
        subst hxy
        have hst : (y.toList == y.toList) = true := by simp
        clear HK hy
        go_wp2_with fail
        go_ret
        exact ⟨by rw [HR.out]; rfl, rfl⟩
      · have HK2 : Hid (x ∉ S.take (k + 1)) := by
          show x ∉ _
          rw [List.take_add_one, hy]
          simp only [Option.toList_some, List.mem_append, List.mem_singleton]
          intro h
          rcases h with h | h
          · exact HK.out h
          · exact hxy h.symm
        have hst := bytes_ne hxy
        have hst2 : ¬ y.toList = x.toList := by simpa using hst
        clear HK hy hxy
        go_wp2_with fail
        go_round
        case rel => exact ⟨k + 1, by omega, by go_num, HK2⟩
        case measure => simp [intOf]; omega
    · have HR : Hid (d = false) := by
        show _ = _
        rw [← HD.out]
        have := HK.out
        rw [show k = S.length by omega, List.take_length, ← inS_iff] at this
        simpa using this
      have hki : ¬ (k : Int) < (S.length : Int) := by omega
      clear HK
      go_wp2_with fail
      go_ret
      exact ⟨by rw [HR.out]; rfl, rfl⟩

theorem vars_bad (w : World) (v : Value) (L : List Cl) (hv : Lies w v L) (hE : check L ≠ 0) :
    Calls Tryd.prog 64 #[v] w fun e w' => e = .returned (.tuple #[.slice none 0 0, .int .i64 (check L : Nat)]) ∧ Below w.heap.size w w' := by
  have hck := check_any w v L hv
  generalize check L = e0 at hck hE ⊢
  have e1 : ((e0 : Int) == 0) = false := by simp only [beq_eq_false_iff_ne]; omega
  have e2 : ¬ (e0 : Int) = 0 := by omega
  go_enter Tryd.func64, Tryd.ntmps64
  go_wp2_with (go_at_call 29; refine hck.mono ?_; rintro e w1 ⟨rfl, hb1⟩)
  go_ret2
  exact ⟨rfl, hb1⟩

set_option maxHeartbeats 2000000 in
theorem vars_ok (w : World) (v : Value) (L : List Cl) (hv : Lies w v L) (hE : check L = 0) :
    Calls Tryd.prog 64 #[v] w fun e w' => ∃ v', e = .returned (.tuple #[v', .int .i64 0]) ∧ OwnsS w' w.heap.size v' (varsOf L) ∧ Below w.heap.size w w' := by
  have hck := check_any w v L hv
  obtain ⟨h64, hcE, _⟩ := check_zero hE
  rw [hE] at hck
  obtain ⟨i0, hi, hz0, hz1, hz2⟩ := info_parts info9
  have HNM : Hid (∀ c ∈ L, c.nm.size ≤ 8) := fun c hc => (name_len (cellsErr_zero.1 hcE c hc)).2
  obtain ⟨a, cap, rfl, hc1, hc2, hF, HC0⟩ := hv
  have HC : Hid (CellsAt w a L) := HC0
  obtain ⟨T, hT⟩ : ∃ T, varsOf L = T := ⟨_, rfl⟩
  have HT : Hid (varsOf L = T) := hT
  rw [hT]
  clear hE hcE HC0 hT
  go_enter Tryd.func64, Tryd.ntmps64
  go_wp2_with (go_at_call 29; refine hck.mono ?_; rintro e w1 ⟨rfl, hb1⟩)
  go_loopw [5, 15] (fun kv i wr => ∃ k : Nat, k ≤ L.length ∧ i = .int .i64 k ∧ OwnsS wr w.heap.size kv (varsOf (L.take k)) ∧ Below w.heap.size w wr) (fun _ i _ => L.length - (intOf i).toNat)
  case atStart => exact ⟨0, Nat.zero_le _, rfl, World.ownsRow_nil _ _ _ _, hb1⟩
  case round =>
    obtain ⟨k, hk, rfl, hO, hbr⟩ := hrel
    have hvl := varsOf_len L k
    obtain ⟨ka, kc, hkv, _⟩ := own_cells hO
    subst hkv
    by_cases hlt : k < L.length
    · obtain ⟨c, hc⟩ : ∃ c, L[k]? = some c := ⟨L[k], List.getElem?_eq_getElem hlt⟩
      obtain ⟨b, off, rfl, d1, d2⟩ := cell_at HC.out hbr hc
      have hcn := HNM.out c (List.mem_of_getElem? hc)
      have hki : (k : Int) < (L.length : Int) := by omega
      have HN : Hid (varsOf (L.take (k + 1)) = varStep (varsOf (L.take k)) c) := vars_next hc
      have hkd := fun w => kind_any c.nm w (by unfold maxLen; omega)
      obtain ⟨nm, ar⟩ := c
      simp only at d1 d2 hcn hkd
      have hbs := hbr.size
      have HOA : Hid (OwnsS (wr.alloc (.cells #[.string nm, .int .i64 ar] 33)) w.heap.size (.slice ka (varsOf (L.take k)).length kc) (varsOf (L.take k))) := World.ownsRow.alloc hO _
      have HBA : Hid (Below w.heap.size w (wr.alloc (.cells #[.string nm, .int .i64 ar] 33))) := hbr.alloc hbs _
      have hcon := contains_any _ _ _ nm (OwnsS.lies HOA.out)
      clear hc hO hbr
      generalize varsOf (L.take k) = S at HN HOA hcon hvl ⊢
      unfold varStep at HN
      generalize kind nm.data.toList = q at hkd HN
      by_cases hq : q = 2
      · subst hq
        by_cases hm : inS nm S = true
        · have HN2 : Hid (varsOf (L.take (k + 1)) = S) := by show _ = _; rw [HN.out, if_neg (by simp [hm])]
          rw [hm] at hcon
          clear HN hm
          go_wp2_with (first | (go_at_call 33; refine (hkd _).mono ?_; rintro e w2 ⟨rfl, rfl⟩) | (go_at_call 67; refine hcon.mono ?_; rintro e w3 ⟨rfl, rfl⟩))
          go_roundw
          case rel => exact ⟨k + 1, by omega, by go_num, by rw [HN2.out]; exact HOA.out, HBA.out⟩
          case measure => simp [intOf]; omega
        · have HN2 : Hid (varsOf (L.take (k + 1)) = S ++ [nm]) := by show _ = _; rw [HN.out, if_pos (by simp [hm])]
          rw [show inS nm S = false by simpa using hm] at hcon
          have hclone := fun w => clone_any nm w (by omega)
          clear HN hm
          go_wp2_with (first | (go_at_call 33; refine (hkd _).mono ?_; rintro e w2 ⟨rfl, rfl⟩) | (go_at_call 67; refine hcon.mono ?_; rintro e w3 ⟨rfl, rfl⟩) | (go_at_call 40; refine (hclone _).mono ?_; rintro e w4 ⟨rfl, hb4⟩; have hrow4 := own_below HOA.out hb4; have hb5 := HBA.out.trans (hb4.mono HBA.out.size); have hs5 := hb5.size) | (at_builtin; refine wpList_append_own _ rfl _ _ 58 rfl w.heap.size 9 i0 (.string ⟨#[]⟩) 1 16 Tryd.underlying58 hi hz0 hz1 hz2 rfl (by decide) _ S.length (S.map Value.string) rfl (hrow4.alloc _) ⟨w4.heap.size, 0, none⟩ 1 1 [.string nm] rfl rfl ?c1 ?c2 ?c3 ?c4 ?c5 ?_))
          case c1 => exact one_cell w4 _ _
          case c2 => intro u hu; simp at hu; subst hu; rfl
          case c3 => unfold maxLen; omega
          case c4 => omega
          case c5 => simp; omega
          intro v' w6 hown' hgrow _
          have hOS : OwnsS w6 w.heap.size v' (S ++ [nm]) := ownS_more (w := w6) hown'
          have hb6 : Below w.heap.size w w6 := (hb5.alloc hs5 _).grown hgrow (by simp; omega) (fun k hk => (hrow4.lt k hk).1)
          clear hown' hgrow hrow4 hb4 hb5
          go_wp2_with fail
          go_roundw
          case rel => exact ⟨k + 1, by omega, by go_num, by rw [HN2.out]; exact hOS, hb6⟩
          case measure => simp [intOf]; omega
      · have HN2 : Hid (varsOf (L.take (k + 1)) = S) := by show _ = _; rw [HN.out, if_neg (by simp [hq])]
        have q1 : ((q : Int) == 2) = false := by simp only [beq_eq_false_iff_ne]; omega
        have q2 : ¬ (q : Int) = 2 := by omega
        clear HN hq
        go_wp2_with (first | (go_at_call 33; refine (hkd _).mono ?_; rintro e w2 ⟨rfl, rfl⟩))
        go_roundw
        case rel => exact ⟨k + 1, by omega, by go_num, by rw [HN2.out]; exact HOA.out, HBA.out⟩
        case measure => simp [intOf]; omega
    · have hki : ¬ (k : Int) < (L.length : Int) := by omega
      have HX : Hid (varsOf (L.take k) = T) := by show _ = _; rw [List.take_of_length_le (by omega)]; exact HT.out
      go_wp2_with fail
      go_ret2
      exact ⟨_, rfl, by rw [← HX.out]; exact hO, hbr⟩

end Go.Proofs.YtjpmlnigjbdnnaaDoor
