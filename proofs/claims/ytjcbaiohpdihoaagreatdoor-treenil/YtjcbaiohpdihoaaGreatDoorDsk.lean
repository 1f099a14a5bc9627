/-
  What the program's small calls answer: mayHave, isBlock, refuses, begin, Len, Down, Cut, Restore, Read; of a nil disk, too.
-/
import Derived.Test.YtjcbaiohpdihoaaGreatDoorApp
import Derived.Test.YtjcbaiohpdihoaaGreatDoorShelf
import Derived.Lib.FrozenHead
import Derived.Lib.MakeNoZero
import Derived.Lib.UnsafeStr
import Derived.Lib.MinMax
import Derived.Laws.Externs
import Derived.RegionTactic
import Derived.BigQuiet
import Derived.Deep.LoopGhost
namespace Go.Proofs.YtjcbaiohpdihoaaGreatDoor
open Go.RowKit
set_option linter.unusedVariables false
set_option linter.unusedSimpArgs false
set_option maxRecDepth 100000

theorem clone_any (s : ByteArray) (w : World) (hs : s.size ≤ 281474976710656) :
    Calls Tryz.prog 104 #[.string s] w fun e w' => e = .returned (.string s) ∧ Below w.heap.size w w' := by
  go_enter Tryz.func104, Tryz.ntmps104
  go_wp2_with (go_at_call 160; refine (Tryz.stringslite_Clone s _ hs).mono ?_; rintro e w1 ⟨rfl, hb1⟩)
  go_ret
  exact ⟨rfl, hb1⟩

theorem size77 : (Tryz.prog.info? 173).map (·.size) = some 2 := by kernel_rfl
theorem size5 : (Tryz.prog.info? 5).map (·.size) = some 1 := by kernel_rfl
theorem lies77 : liesAt Tryz.prog Tryz.prog.depth 173 (2 / Tryz.prog.cellsOf 173) 0 173 1 = true := by kernel_rfl
theorem cells5 : Tryz.prog.cellsOf 5 = 1 := by kernel_rfl

/-- n bytes 0 -/
def zs (n : Nat) : List UInt8 := List.replicate n 0
/-- a builder at block b that holds n bytes 0, some of them told already -/
def Zb (w : World) (b n : Nat) : Prop := Lib.IsBuilderF 173 5 b b (Lib.byteCells (zs n)) w

set_option maxHeartbeats 1000000 in
theorem check_zb (b : Nat) (bs : List Value) (w : World) (h : Lib.IsBuilderF 173 5 b b bs w) :
    Calls Tryz.prog 172 #[.pointer (some ⟨b, 0, none⟩)] w fun e w' => e = .returned (.tuple #[]) ∧ (Lib.BuilderAtF 173 5 b b (.pointer (some ⟨b, 0, none⟩)) bs w' ∧ Below b w w') := by
  obtain ⟨j, hj, hjs⟩ := Option.map_eq_some_iff.1 size77
  rcases h with h | h
  · have h0 := h.cell0
    have hfz := h.frozen0
    have hsh := h.shape
    have HF := hid (h.used (.pointer (some ⟨b, 0, none⟩)))
    have HB := hid ((Below.refl b w).setCell (p := ⟨b, 0, none⟩) h.1 (.pointer (some ⟨b, 0, none⟩)))
    have hto := Lib.run_to_unsafe (P := Tryz.prog) w ⟨b, 0, none⟩ Tryz.underlying170 Tryz.underlying198 hj (by rw [hjs]; decide) hsh (Nat.zero_lt_succ 1)
    have hfrom := Lib.run_from_unsafe (P := Tryz.prog) w ⟨b, 0, none⟩ Tryz.underlying198 Tryz.underlying170 hj hsh lies77
    have hno : (callFunc 226 #[.pointer (some ⟨b, 0, none⟩)]).run Tryz.prog w = .ok (.value (.pointer (some ⟨b, 0, none⟩))) w := by
      rw [run_callFunc_extern Tryz.func226 (by kernel_rfl) (by kernel_rfl) (by kernel_rfl) (e := Extern.AbiNoEscape.same) (by kernel_rfl), Lib.run_noEscape]
      rfl
    clear h
    go_enter Tryz.func172, Tryz.ntmps172
    go_wp2
    go_end0
    exact ⟨rfl, HF.out, HB.out⟩
  · have h0 := h.cell0
    have hne := Lib.run_neq_ptr_same (P := Tryz.prog) w (⟨b, 0, none⟩ : Addr) Tryz.underlying170 hj
    have HF := hid h
    clear h
    go_enter Tryz.func172, Tryz.ntmps172
    go_wp2
    go_end0
    exact ⟨rfl, HF.out, Below.refl b _⟩

set_option maxHeartbeats 1000000 in
theorem check_fresh (b : Nat) (w : World) (hbk : w.heap[b]? = some (.cells #[.pointer none, .slice none 0 0] 173 (0, 0))) :
    Calls Tryz.prog 172 #[.pointer (some ⟨b, 0, none⟩)] w fun e w' => e = .returned (.tuple #[]) ∧ w.setCell ⟨b, 0, none⟩ (.pointer (some ⟨b, 0, none⟩)) = w' := by
  obtain ⟨j, hj, hjs⟩ := Option.map_eq_some_iff.1 size77
  have h0 : w.cell? ⟨b, 0, none⟩ = some (.pointer none) := by rw [Lib.cell_of_heap hbk]; rfl
  have hfz : w.frozen? ⟨b, 0, none⟩ = false := Lib.frozen_of_heap hbk 0
  have hsh : w.shape? b = some (173, 2) := by simp [World.shape?, hbk]
  have hto := Lib.run_to_unsafe (P := Tryz.prog) w ⟨b, 0, none⟩ Tryz.underlying170 Tryz.underlying198 hj (by rw [hjs]; decide) hsh (Nat.zero_lt_succ 1)
  have hfrom := Lib.run_from_unsafe (P := Tryz.prog) w ⟨b, 0, none⟩ Tryz.underlying198 Tryz.underlying170 hj hsh lies77
  have hno : (callFunc 226 #[.pointer (some ⟨b, 0, none⟩)]).run Tryz.prog w = .ok (.value (.pointer (some ⟨b, 0, none⟩))) w := by
    rw [run_callFunc_extern Tryz.func226 (by kernel_rfl) (by kernel_rfl) (by kernel_rfl) (e := Extern.AbiNoEscape.same) (by kernel_rfl), Lib.run_noEscape]
    rfl
  clear hbk
  go_enter Tryz.func172, Tryz.ntmps172
  go_wp2
  go_end0
  exact ⟨rfl, rfl⟩

set_option maxHeartbeats 2000000 in
theorem grow_zb (b n : Nat) (w : World) (hbk : w.heap[b]? = some (.cells #[.pointer (some ⟨b, 0, none⟩), .slice none 0 0] 173 (0, 0))) (hn : n ≤ 100000) :
    Calls Tryz.prog 173 #[.pointer (some ⟨b, 0, none⟩), .int .i64 n] w fun e w' => e = .returned (.tuple #[]) ∧ (Lib.BuilderAt 173 5 b b (.pointer (some ⟨b, 0, none⟩)) [] w' ∧ Below b w w') := by
  obtain ⟨cs, hrun, hle, hmax⟩ := Lib.run_makeNoZero (P := Tryz.prog) w.drew #[3] 171 5 Tryz.underlying171 n (by omega)
  have hw : IntKind.i64.wrap (IntKind.i64.wrap 0 + (n : Int)) = n := by
    rw [IntKind.wrap_i64, IntKind.wrap_i64]
    omega
  have hcall : (callFunc 227 #[.int .i64 (n : Int)]).run Tryz.prog w.drew = .ok (.value (.slice (some ⟨w.drew.heap.size, 0, none⟩) n cs.size)) (w.drew.drew.drew.alloc (.cells cs 5)) := by
    rw [run_callFunc_extern Tryz.func227 (by kernel_rfl) (by kernel_rfl) (by kernel_rfl) (e := Extern.BytealgMakeNoZero.makeNoZero #[3] #[171]) (by kernel_rfl), hrun]
    rfl
  have hlt : b < w.heap.size := lt_of_block hbk
  have hk1 : w.drew.heap[b]? = _ := hbk
  have hk2 : (w.alloc (.cells cs 5)).heap[b]? = _ := (Lib.alloc_old w _ b hlt).trans hbk
  have c1 : w.drew.cell? ⟨b, 1, none⟩ = some (.slice none 0 0) := by rw [Lib.cell_of_heap hk1]; rfl
  have c2 : (w.alloc (.cells cs 5)).cell? ⟨b, 1, none⟩ = some (.slice none 0 0) := by rw [Lib.cell_of_heap hk2]; rfl
  have f2 : (w.alloc (.cells cs 5)).frozen? ⟨b, 1, none⟩ = false := Lib.frozen_of_heap hk2 1
  have hcopy : ∀ W : World, (Builtin.copy_ #[171, 171] 3 #[.slice (some ⟨w.heap.size, 0, none⟩) 0 cs.size, .slice none 0 0]).run Tryz.prog W = .ok (goInt 0) W :=
    fun W => run_copy_none W 171 171 3 5 _ _ 0 cs.size 0 0 Tryz.underlying171 size5 rfl
  have hfin := Lib.grown_fresh (T := 173) (e := 5) (cs := cs) (Nat.le_refl b) hbk (Nat.le_of_lt hlt) (hmax (by unfold maxLen; omega)) (by decide)
  have HF := hid hfin
  clear hfin hk1 hk2 hrun hlt
  go_enter Tryz.func173, Tryz.ntmps173
  go_wp2
  go_region
  all_goals (go_wp2; go_end0; exact ⟨rfl, HF.out⟩)

set_option maxHeartbeats 2000000 in
theorem Grow_zb (b n : Nat) (w : World) (hbk : w.heap[b]? = some (.cells #[.pointer none, .slice none 0 0] 173 (0, 0))) (hn : n ≤ 100000) (h0 : 0 < n) :
    Calls Tryz.prog 115 #[.pointer (some ⟨b, 0, none⟩), .int .i64 n] w fun e w' => e = .returned (.tuple #[]) ∧ (Lib.BuilderAt 173 5 b b (.pointer (some ⟨b, 0, none⟩)) [] w' ∧ Below b w w') := by
  have hfr := check_fresh b w hbk
  have hgr : ∀ w1 : World, w1.heap[b]? = some (.cells #[.pointer (some ⟨b, 0, none⟩), .slice none 0 0] 173 (0, 0)) → _ := fun w1 h => grow_zb b n w1 h hn
  have hbk1 : (w.setCell ⟨b, 0, none⟩ (.pointer (some ⟨b, 0, none⟩))).heap[b]? = some (.cells #[.pointer (some ⟨b, 0, none⟩), .slice none 0 0] 173 (0, 0)) := by
    simp [World.setCell, Array.getElem?_modify, hbk]
  have c1 : (w.setCell ⟨b, 0, none⟩ (.pointer (some ⟨b, 0, none⟩))).drew.cell? ⟨b, 1, none⟩ = some (.slice none 0 0) := by
    have : (w.setCell ⟨b, 0, none⟩ (.pointer (some ⟨b, 0, none⟩))).drew.heap[b]? = _ := hbk1
    rw [Lib.cell_of_heap this]; rfl
  have HB := hid ((Below.refl b w).setCell (p := ⟨b, 0, none⟩) (Nat.le_refl _) (.pointer (some ⟨b, 0, none⟩)))
  have HK := hid hbk1
  clear hbk hbk1
  go_enter Tryz.func115, Tryz.ntmps115
  go_wp2_with (go_at_call 172; refine hfr.mono ?_; rintro e w' ⟨rfl, rfl⟩)
  clear hfr
  generalize w.setCell ⟨b, 0, none⟩ (.pointer (some ⟨b, 0, none⟩)) = w1 at HB HK c1 ⊢
  go_region
  all_goals go_wp2_with (go_at_call 173; refine (hgr w1.drew HK.out).mono ?_; rintro e w' ⟨rfl, h1, h2⟩)
  all_goals (go_end0; exact ⟨rfl, h1, HB.out.drew.trans h2⟩)

set_option maxHeartbeats 2000000 in
theorem write_zb (b n : Nat) (s : ByteArray) (m : Nat) (hs : s = ⟨(zs m).toArray⟩) (w : World) (h : Zb w b n) (hlen : n + m ≤ 100000) :
    Calls Tryz.prog 116 #[.pointer (some ⟨b, 0, none⟩), .string s] w fun e w' => (∃ k, e = .returned (.tuple #[.int .i64 k, .nilIface])) ∧ Zb w' b (n + m) ∧ Below b w w' := by
  obtain ⟨i0, hi, hz0, hz1, hz2⟩ := info_parts info5
  have hcc := check_zb b (Lib.byteCells (zs n)) w h
  have hll : (Lib.byteCells (zs n)).length = n := by rw [Lib.byteCells_length]; simp [zs]
  have hsz : s.size = m := by rw [hs]; show (zs m).toArray.size = m; simp [zs]
  have HC : Hid (Lib.byteCells (zs (n + m)) = Lib.byteCells (zs n) ++ Lib.strCells s) := by
    show _ = _
    rw [Lib.strCells_eq, ← Lib.byteCells_append, hs]
    simp [zs, List.replicate_append_replicate]
  have HZ : Hid (∀ w', Lib.IsBuilderF 173 5 b b (Lib.byteCells (zs (n + m))) w' → Zb w' b (n + m)) := fun _ h => h
  generalize Lib.byteCells (zs n) = bs at hcc hll HC
  have HZ2 : Hid (∀ w', Lib.IsBuilderF 173 5 b b (bs ++ Lib.strCells s) w' → Zb w' b (n + m)) := fun w' h => HZ.out w' (by rw [HC.out]; exact h)
  clear h HZ HC hs
  go_enter Tryz.func116, Tryz.ntmps116
  go_wp2_with (first | (go_at_call 172; refine hcc.mono ?_; rintro e w1 ⟨rfl, h1, hb1⟩; have hlt := h1.lt; obtain ⟨hB, v, hbk, hown, hne⟩ := h1; have c0 : w1.cell? ⟨b, 0, none⟩ = some (.pointer (some ⟨b, 0, none⟩)) := by { rw [Lib.cell_of_heap hbk]; rfl }; have c1 : w1.cell? ⟨b, 1, none⟩ = some v := by { rw [Lib.cell_of_heap hbk]; rfl }) | (at_builtin; refine Lib.wpList_append_own_stringF _ rfl _ _ 171 9 rfl b 5 i0 Tryz.underlying171 Tryz.underlying9 hi hz0 hz1 hz2 _ _ _ rfl hown s rfl ?c3 ?c4 ?c5 ?_))
  case c3 => unfold maxLen; omega
  case c4 => omega
  case c5 => omega
  intro v' w2 hown' hgrow _
  have hb2 : w2.heap[b]? = some (.cells #[.pointer (some ⟨b, 0, none⟩), v] 173 (0, 0)) := by
    rw [hgrow.block b hlt (fun e => hne e.symm)]
    exact hbk
  have d1 : w2.cell? ⟨b, 1, none⟩ = some v := by rw [Lib.cell_of_heap hb2]; rfl
  have f1 : w2.frozen? ⟨b, 1, none⟩ = false := Lib.frozen_of_heap hb2 1
  have hput := Lib.BuilderAtF.put (T := 173) (e := 5) hB hb2 (bs' := bs ++ Lib.strCells s) (by simpa [Lib.strCells_length, hll, hsz] using hown') (by decide)
  have HBel := hid ((hb1.grown hgrow (by omega) (fun k hk => (hown.lt k hk).1)).setCell (p := ⟨b, 1, none⟩) (Nat.le_refl _) v')
  obtain ⟨ao, n', cap, hv'⟩ : ∃ ao n' cap, v' = .slice ao n' cap := by
    rcases hown'.2 with ⟨hv, _⟩ | ⟨g, cap, cur, fz, hv, _⟩
    · exact ⟨_, _, _, hv⟩
    · exact ⟨_, _, _, hv⟩
  subst hv'
  have HP := hid (HZ2.out _ (.inr hput))
  clear hput hgrow hown hown' hbk
  go_wp2
  go_ret2
  exact ⟨⟨_, rfl⟩, HP.out, HBel.out⟩

theorem len_zb (b n : Nat) (w : World) (h : Zb w b n) : Calls Tryz.prog 117 #[.pointer (some ⟨b, 0, none⟩)] w fun e w' => e = .returned (.int .i64 (n : Nat)) ∧ w = w' := by
  have hll : (Lib.byteCells (zs n)).length = n := by rw [Lib.byteCells_length]; simp [zs]
  obtain ⟨p, _, v, hbk, hown, _⟩ : ∃ p, Lib.BuilderAtF 173 5 b b p (Lib.byteCells (zs n)) w := by
    rcases h with h | h <;> exact ⟨_, h⟩
  rw [hll] at hown
  obtain ⟨ao, cap, hv⟩ : ∃ ao cap, v = .slice ao n cap := by
    rcases hown.2 with ⟨hv, h0⟩ | ⟨g, cap, cur, fz, hv, _⟩
    · exact ⟨none, 0, by rw [hv, h0]⟩
    · exact ⟨_, _, hv⟩
  subst hv
  have c1 : w.cell? ⟨b, 1, none⟩ = some (.slice ao n cap) := by rw [Lib.cell_of_heap hbk]; rfl
  clear hown hbk hll
  go_enter Tryz.func117, Tryz.ntmps117
  go_wp2
  go_ret
  exact ⟨rfl, rfl⟩

set_option maxHeartbeats 1000000 in
theorem string_zb (b n : Nat) (w : World) (h : Zb w b n) (h0 : 0 < n) :
    Calls Tryz.prog 118 #[.pointer (some ⟨b, 0, none⟩)] w fun e w' => e = .returned (.string ⟨(zs n).toArray⟩) ∧ Zb w' b n ∧ Below b w w' := by
  obtain ⟨p, hp, hAt⟩ : ∃ p, (p = .pointer none ∨ p = .pointer (some ⟨b, 0, none⟩)) ∧ Lib.BuilderAtF 173 5 b b p (Lib.byteCells (zs n)) w := by
    rcases h with h | h
    · exact ⟨_, .inl rfl, h⟩
    · exact ⟨_, .inr rfl, h⟩
  have hA2 := hAt.drew
  obtain ⟨hB, v, hbk, hown, hne⟩ := hAt
  have hll : (zs n).length = n := by simp [zs]
  have hne0 : zs n ≠ [] := fun e => by rw [e] at hll; simp at hll; omega
  rw [Lib.byteCells_length, hll] at hown
  rcases hown.2 with ⟨_, hz⟩ | ⟨g, cap, cur, fz, hv, hbg, hg, hfz, hnc, hcm, hcs, htake⟩
  · omega
  subst hv
  have hk1 : w.drew.heap[b]? = some (.cells #[p, .slice (some ⟨g, 0, none⟩) n cap] 173 (0, 0)) := hbk
  have hg1 : w.drew.heap[g]? = some (.cells cur 5 fz) := hg
  have c1 : w.drew.cell? ⟨b, 1, none⟩ = some (.slice (some ⟨g, 0, none⟩) n cap) := by rw [Lib.cell_of_heap hk1]; rfl
  have hSD : (Builtin.unsafeSliceData_ #[171] 240 #[.slice (some ⟨g, 0, none⟩) n cap]).run Tryz.prog w.drew = .ok (.pointer (some ⟨g, 0, none⟩)) w.drew := Lib.run_unsafeSliceData_row _ _ _ _ _ _ (by omega)
  have hUS : (Builtin.unsafeString_ #[240, 3] 9 #[.pointer (some ⟨g, 0, none⟩), .int .i64 n]).run Tryz.prog w.drew = .ok (.string ⟨(zs n).toArray⟩) (w.drew.freeze ⟨g, 0, none⟩ n) := by
    have := Lib.run_unsafeString_row w.drew 240 3 9 5 Tryz.underlying240 cells5 g cur.size (by simp [World.shape?, hg1]) (zs n) hne0 (by omega) (by unfold maxLen at hcm; omega) (fun j x hx => hown.cells (g := g) rfl j (.int .u8 x.toNat) (by simp [Lib.byteCells, hx]))
    rwa [hll] at this
  have hF := hA2.froze (g := g) (cap := cap) (by rw [Lib.byteCells_length, hll]; exact c1)
  rw [Lib.byteCells_length, hll] at hF
  have HZ : Hid (Zb (w.drew.freeze ⟨g, 0, none⟩ n) b n) := by
    rcases hp with rfl | rfl
    · exact .inl hF
    · exact .inr hF
  have HB := hid (Lib.below_freeze (Below.drew (Below.refl b w)) (p := ⟨g, 0, none⟩) hbg n)
  clear hF hA2 hown htake hk1 hg1 hll hne0 hbk hg
  go_enter Tryz.func118, Tryz.ntmps118
  go_wp2
  go_region
  all_goals (go_wp2; go_ret; exact ⟨rfl, HZ.out, HB.out⟩)

theorem min3 (ts : Array TypeId) (t : TypeId) (x y z r : Int) (hr : (if z < (if y < x then y else x) then z else (if y < x then y else x)) = r) (W : World) :
    (Builtin.min_ ts t #[.int .i64 x, .int .i64 y, .int .i64 z]).run Tryz.prog W = .ok (.int .i64 r) W := by
  rw [← hr]
  simp [Builtin.min_, Builtin.min2]

theorem zb_zero {w : World} {b : Nat} (h : Lib.BuilderAt 173 5 b b (.pointer (some ⟨b, 0, none⟩)) [] w) : Zb w b 0 := Lib.IsBuilderF.of (.inr h)

set_option maxHeartbeats 4000000 in
theorem repeat_any (w : World) :
    Calls Tryz.prog 64 #[.string ⟨#[0]⟩, .int .i64 256] w fun e w' => e = .returned (.string ⟨(zs 256).toArray⟩) ∧ Below w.heap.size w w' := by
  have hMul : Calls Tryz.prog 113 #[.int .u64 1, .int .u64 256] w fun e w' => e = .returned (.tuple #[.int .u64 0, .int .u64 256]) ∧ w = w' := (Tryz.bits_Mul 1 256 (by decide) (by decide) w).mono fun e w' h => ⟨h.1, h.2.symm⟩
  have b0 : Below w.heap.size w (w.alloc (.cells #[.pointer none, .slice none 0 0] 173)) := (Below.refl _ w).alloc (Nat.le_refl _) _
  have hG : Calls Tryz.prog 115 #[.pointer (some ⟨w.heap.size, 0, none⟩), .int .i64 256] (w.alloc (.cells #[.pointer none, .slice none 0 0] 173)) fun e w' => e = .returned (.tuple #[]) ∧ (Lib.BuilderAt 173 5 w.heap.size w.heap.size (.pointer (some ⟨w.heap.size, 0, none⟩)) [] w' ∧ Below w.heap.size (w.alloc (.cells #[.pointer none, .slice none 0 0] 173)) w') := Grow_zb w.heap.size 256 (w.alloc (.cells #[.pointer none, .slice none 0 0] 173)) (heap_alloc_new w _) (by omega) (by omega)
  have hW1 : ∀ w1, Zb w1 w.heap.size 0 → _ := fun w1 h => write_zb w.heap.size 0 ⟨#[0]⟩ 1 rfl w1 h (by omega)
  go_enter Tryz.func64, Tryz.ntmps64
  go_wp2_with (first
    | (go_at_call 113; refine hMul.mono ?_; clear hMul; rintro e w' ⟨rfl, rfl⟩)
    | (go_at_call 115; go_loud (refine hG.mono ?_; clear hG; rintro e w1 ⟨rfl, h1, b1⟩; have HB1 := hid (b0.trans b1); have HZ1 := hid (zb_zero h1); clear h1 b1 b0))
    | (go_at_call 116; refine (hW1 _ HZ1.out).mono ?_; clear hW1; rintro e w2 ⟨⟨k, rfl⟩, h2, b2⟩; have HB2 := hid (HB1.out.trans b2); have HZ2 := hid h2; clear h2 b2 HZ1 HB1))
  go_loopg [] 255 (fun g wx => ∃ q : Nat, 1 ≤ q ∧ q + g = 256 ∧ Hid (Zb wx w.heap.size q) ∧ Hid (Below w.heap.size w wx))
  case atStart => exact ⟨1, Nat.le_refl _, rfl, HZ2, HB2⟩
  case round =>
    obtain ⟨q, hq1, hqg, HZ, HB⟩ := hrel
    clear HZ2 HB2
    have hL := len_zb _ _ _ HZ.out
    have hS := string_zb _ _ _ HZ.out hq1
    cases gk with
    | zero =>
      obtain rfl : q = 256 := by omega
      go_wp2_with (first
        | (go_at_call 117; refine hL.mono ?_; rintro e w' ⟨rfl, rfl⟩)
        | (go_at_call 118; refine hS.mono ?_; rintro e w3 ⟨rfl, h3, b3⟩))
      go_ret
      exact ⟨rfl, HB.out.trans b3⟩
    | succ g =>
      have hlt : (q : Int) < 256 := by omega
      obtain ⟨k, hk⟩ : ∃ k : Nat, k = min (256 - q) q := ⟨_, rfl⟩
      have hk1 : 1 ≤ k := by omega
      have hk2 : k ≤ q := by omega
      have hk3 : q + k ≤ 256 := by omega
      have hmin : ∀ (ts : Array TypeId) (t : TypeId) (W : World), (Builtin.min_ ts t #[.int .i64 ((256 : Int) - (q : Int)), .int .i64 (q : Int), .int .i64 256]).run Tryz.prog W = .ok (.int .i64 (k : Int)) W := fun ts t W => min3 ts t _ _ _ _ (by rw [hk]; split <;> split <;> omega) W
      obtain ⟨S, hSS⟩ : ∃ S : ByteArray, (⟨(zs q).toArray⟩ : ByteArray) = S := ⟨_, rfl⟩
      have hSz : S.size = q := by rw [← hSS]; show (zs q).toArray.size = q; simp [zs]
      have hSx : S.extract 0 k = ⟨(zs k).toArray⟩ := by
        apply ByteArray.ext
        apply Array.ext'
        rw [Lib.extract_data, ← hSS]
        simp only [List.drop_zero, Nat.sub_zero, zs, List.take_replicate]
        rw [Nat.min_eq_left hk2]
      have hW : ∀ w1, Zb w1 w.heap.size q → _ := fun w1 h => write_zb w.heap.size q (S.extract 0 k) k hSx w1 h (by omega)
      rw [hSS] at hS
      clear hSS hSx hk
      go_wp2_with (first
        | (go_at_call 117; refine hL.mono ?_; rintro e w' ⟨rfl, rfl⟩)
        | (go_at_call 118; refine hS.mono ?_; clear hS; rintro e w3 ⟨rfl, h3, b3⟩; have HZ3 := hid h3; have HB3 := hid (HB.out.trans b3); clear h3 b3)
        | (go_at_call 116; refine (hW _ HZ3.out).mono ?_; clear hW; rintro e w4 ⟨⟨_, rfl⟩, h4, b4⟩; have HZ4 := hid h4; have HB4 := hid (HB3.out.trans b4); clear h4 b4))
      go_roundg (256 - (q + k))
      case measure => omega
      case rel => exact ⟨q + k, by omega, by omega, HZ4, HB4⟩

end Go.Proofs.YtjcbaiohpdihoaaGreatDoor

namespace Go.Proofs.YtjcbaiohpdihoaaGreatDoor
open Go.RowKit
set_option linter.unusedVariables false
set_option linter.unusedSimpArgs false
set_option maxRecDepth 100000

/-- a write that was done -/
structure Pg where
  pl : Int
  data : ByteArray
/-- a disk -/
structure Ds where
  bs : List ByteArray
  lg : List Pg
  lf : Int
  dn : Bool
def Ds.out (d : Ds) (a : Int) : Prop := a < 0 ∨ (d.bs.length : Int) ≤ a
instance (d : Ds) (a : Int) : Decidable (d.out a) := by unfold Ds.out; infer_instance
/-- why it isn't read -/
def Ds.rdE (d : Ds) (a : Int) : Nat := if d.dn = true then 17 else if d.out a then 1 else 0
def Ds.rdS (d : Ds) (a : Int) : ByteArray := if d.rdE a = 0 then d.bs.getD a.toNat ⟨#[]⟩ else ⟨#[]⟩
/-- what a write answers -/
def Ds.wrE (d : Ds) (a : Int) (s : ByteArray) : Nat := if d.dn = true then 17 else if d.out a then 1 else if ¬ s.size = 256 then 3 else if d.lf = 0 then 17 else 0
/-- and what it leaves -/
def Ds.put (d : Ds) (a : Int) (s : ByteArray) : Ds := { d with bs := d.bs.set a.toNat s, lg := d.lg ++ [⟨a, s⟩], lf := if 0 < d.lf then d.lf - 1 else d.lf }
def Ds.wr (d : Ds) (a : Int) (s : ByteArray) : Ds := if d.dn = true then d else if d.out a then d else if ¬ s.size = 256 then d else if d.lf = 0 then { d with dn := true } else d.put a s

theorem Ds.rdE_down {d : Ds} (a : Int) (h : d.dn = true) : d.rdE a = 17 := by unfold Ds.rdE; rw [if_pos h]
theorem Ds.rdE_out {d : Ds} {a : Int} (h : d.dn = false) (ho : d.out a) : d.rdE a = 1 := by unfold Ds.rdE; rw [if_neg (by rw [h]; decide), if_pos ho]
theorem Ds.rdE_in {d : Ds} {a : Int} (h : d.dn = false) (ho : ¬ d.out a) : d.rdE a = 0 := by unfold Ds.rdE; rw [if_neg (by rw [h]; decide), if_neg ho]
theorem Ds.rdE_zero {d : Ds} {a : Int} (h : d.rdE a = 0) : d.dn = false ∧ ¬ d.out a := by
  cases hd : d.dn with
  | true => rw [Ds.rdE_down a hd] at h; cases h
  | false =>
    refine ⟨rfl, fun ho => ?_⟩
    rw [Ds.rdE_out hd ho] at h
    cases h

structure Ds.Ok (d : Ds) : Prop where
  lo : 64 ≤ d.bs.length
  hi : d.bs.length ≤ 2048
  bs : ∀ s ∈ d.bs, s.size = 256
  lg : ∀ p ∈ d.lg, p.data.size = 256 ∧ 0 ≤ p.pl ∧ p.pl < d.bs.length
  lf : -9223372036854775808 ≤ d.lf ∧ d.lf ≤ 9223372036854775807

theorem Ds.Ok.put {d : Ds} (h : d.Ok) {a : Int} {s : ByteArray} (ho : ¬ d.out a) (hs : s.size = 256) : (d.put a s).Ok := by
  unfold Ds.out at ho
  refine ⟨?_, ?_, ?_, ?_, ?_⟩
  · simp only [Ds.put, List.length_set]; exact h.lo
  · simp only [Ds.put, List.length_set]; exact h.hi
  · intro t ht
    simp only [Ds.put] at ht
    rcases List.mem_or_eq_of_mem_set ht with h' | h'
    · exact h.bs t h'
    · rw [h']; exact hs
  · intro p hp
    simp only [Ds.put, List.length_set] at hp ⊢
    rcases List.mem_append.1 hp with h' | h'
    · exact h.lg p h'
    · simp only [List.mem_singleton] at h'
      rw [h']
      refine ⟨hs, ?_, ?_⟩ <;> simp only <;> omega
  · have := h.lf
    simp only [Ds.put]
    split <;> omega
theorem Ds.Ok.wr {d : Ds} (h : d.Ok) (a : Int) (s : ByteArray) : (d.wr a s).Ok := by
  unfold Ds.wr
  split
  · exact h
  split
  · exact h
  split
  · exact h
  split
  · exact ⟨h.lo, h.hi, h.bs, h.lg, h.lf⟩
  · rename_i h1 h2 h3
    exact h.put ‹_› (by simpa using h2)
theorem Ds.wr_len (d : Ds) (a : Int) (s : ByteArray) : (d.wr a s).bs.length = d.bs.length := by
  unfold Ds.wr
  split
  · rfl
  split
  · rfl
  split
  · rfl
  split
  · rfl
  · simp [Ds.put]
theorem Ds.wr_lg (d : Ds) (a : Int) (s : ByteArray) : (d.wr a s).lg.length ≤ d.lg.length + 1 := by
  unfold Ds.wr
  split
  · omega
  split
  · omega
  split
  · omega
  split
  · simp
  · simp [Ds.put]

/-- writes, as they stand in memory -/
def flatP : List Pg → List Value
  | [] => []
  | p :: r => .int .i64 p.pl :: .string p.data :: flatP r
theorem flatP_length : ∀ L, (flatP L).length = L.length * 2
  | [] => rfl
  | c :: r => by simp only [flatP, List.length_cons, flatP_length r]; omega
theorem flatP_append : ∀ L M, flatP (L ++ M) = flatP L ++ flatP M
  | [], M => rfl
  | c :: r, M => by simp only [List.cons_append, flatP, flatP_append r M]
theorem flatP_even : ∀ (L : List Pg) (k : Nat), (flatP L)[k * 2]? = (L[k]?).map fun c => .int .i64 c.pl
  | [], k => by simp [flatP]
  | c :: r, 0 => rfl
  | c :: r, k + 1 => by
    rw [show (k + 1) * 2 = k * 2 + 1 + 1 by omega]
    simp only [flatP, List.getElem?_cons_succ]
    exact flatP_even r k
theorem flatP_odd : ∀ (L : List Pg) (k : Nat), (flatP L)[k * 2 + 1]? = (L[k]?).map fun c => .string c.data
  | [], k => by simp [flatP]
  | c :: r, 0 => rfl
  | c :: r, k + 1 => by
    rw [show (k + 1) * 2 + 1 = k * 2 + 1 + 1 + 1 by omega]
    simp only [flatP, List.getElem?_cons_succ]
    exact flatP_odd r k
theorem flatP_one : ∀ L, ∀ u ∈ flatP L, u.oneCell' = true
  | [], u, h => by simp [flatP] at h
  | c :: r, u, h => by
    simp only [flatP, List.mem_cons] at h
    rcases h with rfl | rfl | h
    · rfl
    · rfl
    · exact flatP_one r u h
/-- texts, as they stand in memory -/
def flatS (L : List ByteArray) : List Value := L.map Value.string
theorem flatS_length (L : List ByteArray) : (flatS L).length = L.length * 1 := by simp [flatS]
theorem flatS_at {L : List ByteArray} {i : Nat} {s : ByteArray} (h : L[i]? = some s) : (flatS L)[i]? = some (.string s) := by simp [flatS, h]
theorem flatS_set (L : List ByteArray) (i : Nat) (s : ByteArray) : (flatS L).set i (.string s) = flatS (L.set i s) := by simp [flatS, List.map_set]
theorem flatS_one (L : List ByteArray) : ∀ u ∈ flatS L, u.oneCell' = true := by
  intro u hu
  obtain ⟨s, _, rfl⟩ := List.mem_map.1 hu
  rfl
theorem flatS_append (L M : List ByteArray) : flatS (L ++ M) = flatS L ++ flatS M := by simp [flatS]

/-- rows of texts, rows of writes -/
def RowS (w : World) (B : Nat) (v : Value) (L : List ByteArray) : Prop := w.ownsRow B 9 1 v L.length (flatS L)
def RowP (w : World) (B : Nat) (v : Value) (L : List Pg) : Prop := w.ownsRow B 110 2 v L.length (flatP L)
/-- all of v's block lies in S -/
def In (S : Nat → Prop) (v : Value) : Prop := ∀ g, v.ownBlock = some g → S g

/-- a disk of the program at block k, of which all lies in S -/
def Dk (w : World) (S : Nat → Prop) (k : Nat) (d : Ds) : Prop :=
  d.Ok ∧ (∀ j, S j → j < w.heap.size) ∧ S k ∧ ∃ bv lv, Blk w k #[bv, lv, .int .i64 d.lf, .bool d.dn] 178 ∧ RowS w 0 bv d.bs ∧ RowP w 0 lv d.lg ∧ In S bv ∧ In S lv
/-- what belongs to S behind a call belonged to it, or is new -/
def Grows (S S' : Nat → Prop) (w : World) : Prop := ∀ j, S' j → S j ∨ w.heap.size ≤ j

theorem Keep.dk {T S : Nat → Prop} {w w' : World} {k : Nat} {d : Ds} (h : Keep T w w') (hd : Dk w S k d) (hn : ∀ j, S j → ¬ T j) : Dk w' S k d := by
  obtain ⟨h1, h2, h3, bv, lv, h4, h5, h6, h7, h8⟩ := hd
  exact ⟨h1, fun j hj => Nat.lt_of_lt_of_le (h2 j hj) h.size, h3, bv, lv, h.blk h4 (hn k h3), h.row h5 (fun g hg => hn g (h7 g hg)), h.row h6 (fun g hg => hn g (h8 g hg)), h7, h8⟩
theorem Dk.on {S : Nat → Prop} {w w' : World} {k : Nat} {d : Ds} (hd : Dk w S k d) (h : Below w.heap.size w w') : Dk w' S k d :=
  (Keep.of_below (S := fun _ => False) h).dk hd (fun _ _ h => h)
theorem Grows.refl (S : Nat → Prop) (w : World) : Grows S S w := fun _ h => .inl h
theorem Grows.trans {S S' S'' : Nat → Prop} {w w' : World} (h : Grows S S' w) (h' : Grows S' S'' w') (hs : w.heap.size ≤ w'.heap.size) : Grows S S'' w := fun j hj =>
  (h' j hj).elim (fun x => h j x) (fun x => .inr (Nat.le_trans hs x))
theorem Dk.lt {S : Nat → Prop} {w : World} {k : Nat} {d : Ds} (hd : Dk w S k d) : ∀ j, S j → j < w.heap.size := hd.2.1
theorem Dk.ok {S : Nat → Prop} {w : World} {k : Nat} {d : Ds} (hd : Dk w S k d) : d.Ok := hd.1
theorem RowS.on {w w' : World} {B : Nat} {v : Value} {L : List ByteArray} (h : RowS w B v L) (hb : Below w.heap.size w w') : RowS w' B v L := own_below h hb
theorem RowP.on {w w' : World} {B : Nat} {v : Value} {L : List Pg} (h : RowP w B v L) (hb : Below w.heap.size w w') : RowP w' B v L := own_below h hb

/-- the cells of a disk's block turned, its rows not -/
theorem Dk.set {S : Nat → Prop} {w : World} {k : Nat} {d : Ds} (hd : Dk w S k d) {i : Nat} {v : Value} {d' : Ds} (hi : i = 2 ∧ v = .int .i64 d'.lf ∧ d' = { d with lf := d'.lf } ∨ i = 3 ∧ v = .bool d'.dn ∧ d' = { d with dn := d'.dn }) (hok : d'.Ok) : Dk (w.setCell ⟨k, i, none⟩ v) S k d' := by
  obtain ⟨h1, h2, h3, bv, lv, h4, h5, h6, h7, h8⟩ := hd
  have hg := set_grown w k i v
  have e1 : ∀ g, bv.ownBlock = some g → g ≠ k := fun g hg => h4.ne h5 (by decide) hg
  have e2 : ∀ g, lv.ownBlock = some g → g ≠ k := fun g hg => h4.ne h6 (by decide) hg
  have r5 : RowS (w.setCell ⟨k, i, none⟩ v) 0 bv d.bs := World.ownsRow.kept h5 hg (by
    cases e : bv.ownBlock with
    | none => exact .inl rfl
    | some g => exact .inr (fun x => e1 g e (Option.some.inj x)))
  have r6 : RowP (w.setCell ⟨k, i, none⟩ v) 0 lv d.lg := World.ownsRow.kept h6 hg (by
    cases e : lv.ownBlock with
    | none => exact .inl rfl
    | some g => exact .inr (fun x => e2 g e (Option.some.inj x)))
  rcases hi with ⟨rfl, rfl, e⟩ | ⟨rfl, rfl, e⟩
  · have hb := h4.set 2 (.int .i64 d'.lf)
    refine ⟨hok, fun j hj => by simpa [World.setCell] using h2 j hj, h3, bv, lv, ?_, ?_, ?_, h7, h8⟩
    · rw [e]; exact hb
    · rw [e]; exact r5
    · rw [e]; exact r6
  · have hb := h4.set 3 (.bool d'.dn)
    refine ⟨hok, fun j hj => by simpa [World.setCell] using h2 j hj, h3, bv, lv, ?_, ?_, ?_, h7, h8⟩
    · rw [e]; exact hb
    · rw [e]; exact r5
    · rw [e]; exact r6

theorem mayHave_any (n : Int) (w : World) : Calls Tryz.prog 63 #[.int .i64 n] w fun e w' => e = .returned (.bool (decide (64 ≤ n ∧ n ≤ 2048))) ∧ w = w' := by
  by_cases h1 : 64 ≤ n
  · by_cases h2 : n ≤ 2048
    · have hd : decide (64 ≤ n ∧ n ≤ 2048) = true := decide_eq_true ⟨h1, h2⟩
      rw [hd]
      clear hd
      go_enter Tryz.func63, Tryz.ntmps63
      go_wp2
      go_ret
      exact ⟨rfl, rfl⟩
    · have hd : decide (64 ≤ n ∧ n ≤ 2048) = false := decide_eq_false (fun h => h2 h.2)
      rw [hd]
      clear hd
      go_enter Tryz.func63, Tryz.ntmps63
      go_wp2
      go_ret
      exact ⟨rfl, rfl⟩
  · have hd : decide (64 ≤ n ∧ n ≤ 2048) = false := decide_eq_false (fun h => h1 h.1)
    have h3 : decide (64 ≤ n) = false := decide_eq_false h1
    rw [hd]
    clear hd
    go_enter Tryz.func63, Tryz.ntmps63
    go_wp2
    go_ret
    exact ⟨rfl, rfl⟩

theorem isBlock_any (s : ByteArray) (w : World) : Calls Tryz.prog 234 #[.string s] w fun e w' => e = .returned (.bool (decide (s.size = 256))) ∧ w = w' := by
  by_cases h : s.size = 256
  · have h2 : ((s.size : Int) == 256) = true := by simp; omega
    rw [decide_eq_true h]
    clear h
    go_enter Tryz.func234, Tryz.ntmps234
    go_wp2
    go_ret
    exact ⟨rfl, rfl⟩
  · have h2 : ((s.size : Int) == 256) = false := by simp; omega
    rw [decide_eq_false h]
    clear h
    go_enter Tryz.func234, Tryz.ntmps234
    go_wp2
    go_ret
    exact ⟨rfl, rfl⟩

theorem refuses_nil (a : Int) (w : World) : Calls Tryz.prog 174 #[.pointer none, .int .i64 a] w fun e w' => e = .returned (.int .i64 18) ∧ w = w' := by
  go_enter Tryz.func174, Tryz.ntmps174
  go_wp2
  go_ret
  exact ⟨rfl, rfl⟩

theorem refuses_any (a : Int) (w : World) (S : Nat → Prop) (k : Nat) (d : Ds) (hd : Dk w S k d) : Calls Tryz.prog 174 #[.pointer (some ⟨k, 0, none⟩), .int .i64 a] w fun e w' => e = .returned (.int .i64 (d.rdE a : Nat)) ∧ w = w' := by
  obtain ⟨ok, _, _, bv, lv, hb, h5, _⟩ := hd
  obtain ⟨ba, bc, hbv⟩ := own_form h5
  subst hbv
  have c0 : w.cell? ⟨k, 0, none⟩ = some (.slice ba d.bs.length bc) := hb.cell rfl
  have c3 : w.cell? ⟨k, 3, none⟩ = some (.bool d.dn) := hb.cell rfl
  have hl := ok.hi
  clear h5 hb ok
  cases hdn : d.dn with
  | true =>
    rw [hdn] at c3
    rw [Ds.rdE_down a hdn]
    go_enter Tryz.func174, Tryz.ntmps174
    go_wp2
    go_ret
    exact ⟨rfl, rfl⟩
  | false =>
    rw [hdn] at c3
    by_cases h1 : a < 0
    · have h2 : decide (a < 0) = true := decide_eq_true h1
      rw [Ds.rdE_out hdn (.inl h1)]
      go_enter Tryz.func174, Tryz.ntmps174
      go_wp2
      go_ret
      exact ⟨rfl, rfl⟩
    · have h2 : decide (a < 0) = false := decide_eq_false h1
      by_cases h3 : (d.bs.length : Int) ≤ a
      · rw [Ds.rdE_out hdn (.inr h3)]
        go_enter Tryz.func174, Tryz.ntmps174
        go_wp2
        go_ret
        exact ⟨rfl, rfl⟩
      · rw [Ds.rdE_in hdn (fun h => h.elim h1 h3)]
        go_enter Tryz.func174, Tryz.ntmps174
        go_wp2
        go_ret
        exact ⟨rfl, rfl⟩

theorem begin_any (bv : Value) (n c : Nat) (a : Option Addr) (hv : bv = .slice a n c) (w : World) : Calls Tryz.prog 65 #[bv] w fun e w' => e = .returned (.pointer (some ⟨w.heap.size, 0, none⟩)) ∧ w.alloc (.cells #[bv, .slice none 0 0, .int .i64 (-1), .bool false] 178) = w' := by
  subst hv
  go_enter Tryz.func65, Tryz.ntmps65
  go_wp2
  go_ret
  exact ⟨rfl, rfl⟩

theorem len_nil (w : World) : Calls Tryz.prog 84 #[.pointer none] w fun e w' => e = .returned (.int .i64 0) ∧ w = w' := by
  go_enter Tryz.func84, Tryz.ntmps84
  go_wp2
  go_ret
  exact ⟨rfl, rfl⟩
theorem len_any (w : World) (S : Nat → Prop) (k : Nat) (d : Ds) (hd : Dk w S k d) : Calls Tryz.prog 84 #[.pointer (some ⟨k, 0, none⟩)] w fun e w' => e = .returned (.int .i64 (d.bs.length : Nat)) ∧ w = w' := by
  obtain ⟨ok, _, _, bv, lv, hb, h5, _⟩ := hd
  obtain ⟨ba, bc, hbv⟩ := own_form h5
  subst hbv
  have c0 := hb.cell (i := 0) rfl
  clear h5 hb
  go_enter Tryz.func84, Tryz.ntmps84
  go_wp2
  go_ret
  exact ⟨rfl, rfl⟩

theorem down_nil (w : World) : Calls Tryz.prog 92 #[.pointer none] w fun e w' => e = .returned (.bool false) ∧ w = w' := by
  go_enter Tryz.func92, Tryz.ntmps92
  go_wp2
  go_ret
  exact ⟨rfl, rfl⟩
theorem down_any (w : World) (S : Nat → Prop) (k : Nat) (d : Ds) (hd : Dk w S k d) : Calls Tryz.prog 92 #[.pointer (some ⟨k, 0, none⟩)] w fun e w' => e = .returned (.bool d.dn) ∧ w = w' := by
  obtain ⟨ok, _, _, bv, lv, hb, h5, _⟩ := hd
  have c3 := hb.cell (i := 3) rfl
  clear h5 hb
  go_enter Tryz.func92, Tryz.ntmps92
  go_wp2
  go_ret
  exact ⟨rfl, rfl⟩

theorem read_nil (a : Int) (w : World) : Calls Tryz.prog 119 #[.pointer none, .int .i64 a] w fun e w' => e = .returned (.tuple #[.string ⟨#[]⟩, .int .i64 18]) ∧ w = w' := by
  go_enter Tryz.func119, Tryz.ntmps119
  go_wp2_with (go_at_call 174; refine (refuses_nil a w).mono ?_; rintro e w1 ⟨rfl, rfl⟩)
  go_ret2
  exact ⟨rfl, rfl⟩

theorem read_any (a : Int) (w : World) (S : Nat → Prop) (k : Nat) (d : Ds) (hd : Dk w S k d) : Calls Tryz.prog 119 #[.pointer (some ⟨k, 0, none⟩), .int .i64 a] w fun e w' => e = .returned (.tuple #[.string (d.rdS a), .int .i64 (d.rdE a : Nat)]) ∧ Below w.heap.size w w' := by
  have hr := refuses_any a w S k d hd
  obtain ⟨ok, _, _, bv, lv, hb, h5, _⟩ := hd
  have c0 : w.cell? ⟨k, 0, none⟩ = some bv := hb.cell rfl
  by_cases h0 : d.rdE a = 0
  · have hin := (Ds.rdE_zero h0).2
    unfold Ds.out at hin
    have hS : d.rdS a = d.bs.getD a.toNat ⟨#[]⟩ := by unfold Ds.rdS; rw [if_pos h0]
    rw [h0] at hr ⊢
    rw [hS]
    obtain ⟨g, bc, hbv, hc1, hc2, _, hgl⟩ := own_some h5 (by have := ok.lo; omega)
    subst hbv
    obtain ⟨n, rfl⟩ : ∃ n : Nat, a = (n : Int) := ⟨a.toNat, by omega⟩
    have hnl : n < d.bs.length := by omega
    obtain ⟨s, hs⟩ : ∃ s, d.bs[n]? = some s := ⟨_, List.getElem?_eq_getElem hnl⟩
    have hgd : d.bs.getD (n : Int).toNat ⟨#[]⟩ = s := by rw [Int.toNat_natCast, List.getD_eq_getElem?_getD, hs]; rfl
    rw [hgd]
    have hcl := clone_any s w (by rw [ok.bs s (List.mem_of_getElem? hs)]; decide)
    obtain ⟨_, _, e1, _, _, hcc⟩ := own_cells h5
    cases e1
    obtain ⟨g', hg', _, _, cs, _⟩ := hcc n (.string s) (flatS_at hs)
    cases hg'
    have hhi := ok.hi
    have hi : (n : Int) < (d.bs.length : Int) := by omega
    clear h5 hb ok hcc hgd hs hS h0 hin hnl
    generalize d.bs.length = m at c0 hhi hi hc1
    go_enter Tryz.func119, Tryz.ntmps119
    go_wp2_with (first
      | (go_at_call 174; refine hr.mono ?_; rintro e w1 ⟨rfl, rfl⟩)
      | (go_at_call 104; refine hcl.mono ?_; rintro e w2 ⟨rfl, hb2⟩))
    go_ret2
    exact ⟨rfl, hb2⟩
  · have hS : d.rdS a = ⟨#[]⟩ := by unfold Ds.rdS; rw [if_neg h0]
    rw [hS]
    obtain ⟨q, hq⟩ : ∃ q, d.rdE a = q := ⟨_, rfl⟩
    rw [hq] at hr h0 ⊢
    have hqn : ((q : Int) != 0) = true := by simp; omega
    have hqz : ¬ (q : Int) = 0 := by omega
    clear h5 hb ok hS hq
    go_enter Tryz.func119, Tryz.ntmps119
    go_wp2_with (go_at_call 174; refine hr.mono ?_; rintro e w1 ⟨rfl, rfl⟩)
    go_ret2
    exact ⟨rfl, Below.refl _ _⟩

end Go.Proofs.YtjcbaiohpdihoaaGreatDoor
