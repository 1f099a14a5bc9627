/-
  What the net's whole, key and grow answer.
-/
import Derived.Test.YtpflbdkbbkobbaaEnds
namespace Go.Proofs.Ytpflbdkbbkobbaa
open Go.RowKit Go.Maps
set_option linter.unusedVariables false
set_option maxRecDepth 100000
set_option linter.unusedSimpArgs false

set_option maxHeartbeats 1000000 in
theorem whole_any (w : World) : Calls Try.prog 66 #[] w fun e w' => e = .returned (.agg #[.string ⟨#[]⟩, .int .i64 0]) ∧ Below w.heap.size w w' := by
  have hb := ((Below.refl _ w).alloc (Nat.le_refl _) (.cells #[.string ⟨#[]⟩, .int .i64 0] 51))
  have hx := Blk.made w #[.string ⟨#[]⟩, .int .i64 0] 51
  go_enter Try.func66, Try.ntmps66
  go_wp2_with fail
  have e0 := hx.cell (i := 0) rfl
  have e1 := hx.cell (i := 1) rfl
  exact bodyPost_ret (v := .agg #[.string ⟨#[]⟩, .int .i64 0]) (by simp [results, Try.results66, go_sem, e0, e1]) rfl ⟨rfl, hb⟩

/-- two cells of a block are written -/
theorem Blk.put2 {w : World} {k : Nat} {a b : Value} {t : TypeId} (h : Blk w k #[a, b] t) (x y : Value) :
    w.cell? ⟨k, 0, none⟩ = some a ∧ w.frozen? ⟨k, 0, none⟩ = false ∧ (w.setCell ⟨k, 0, none⟩ x).cell? ⟨k, 1, none⟩ = some b ∧ (w.setCell ⟨k, 0, none⟩ x).frozen? ⟨k, 1, none⟩ = false ∧
      Blk ((w.setCell ⟨k, 0, none⟩ x).setCell ⟨k, 1, none⟩ y) k #[x, y] t :=
  ⟨h.cell rfl, h.free 0, (h.set 0 x).cell rfl, (h.set 0 x).free 1, (h.set 0 x).set 1 y⟩

set_option maxHeartbeats 1000000 in
theorem key_any (w : World) (c : Cl) (hc : c.nm.size ≤ maxLen) : Calls Try.prog 47 #[.agg #[.string c.nm, .int .i64 c.ar]] w fun e w' => e = .returned (.agg #[.string (keyC c).nm, .int .i64 (keyC c).ar]) ∧ Below w.heap.size w w' := by
  have hx : Blk ((w.alloc (.cells #[.string c.nm, .int .i64 c.ar] 51)).alloc (.cells #[.string ⟨#[]⟩, .int .i64 0] 51)) w.heap.size #[.string c.nm, .int .i64 c.ar] 51 := (Blk.made w _ 51).alloc _
  have hy : Blk ((w.alloc (.cells #[.string c.nm, .int .i64 c.ar] 51)).alloc (.cells #[.string ⟨#[]⟩, .int .i64 0] 51)) (w.heap.size + 1) #[.string ⟨#[]⟩, .int .i64 0] 51 := Blk.madeAt _ _ _ (by simp)
  have hb : Below w.heap.size w ((w.alloc (.cells #[.string c.nm, .int .i64 c.ar] 51)).alloc (.cells #[.string ⟨#[]⟩, .int .i64 0] 51)) := ((Below.refl _ w).alloc (Nat.le_refl _) _).alloc (by simp) _
  have hk := fun w => kind_any c.nm w hc
  have hX0 := hx.cell (i := 0) rfl
  by_cases hv : isV c = true
  · have hk2 : kind c.nm.data.toList = 2 := by unfold isV at hv; simpa using hv
    have hkc : keyC c = wh := by unfold keyC; rw [if_pos hv]
    rw [hkc]
    rw [hk2] at hk
    have hwh := whole_any
    clear hv hk2 hkc
    go_enter Try.func47, Try.ntmps47
    go_wp2_with (first | (go_at_call 42; refine (hk _).mono ?_; rintro e w1 ⟨rfl, rfl⟩) | (go_at_call 66; refine (hwh _).mono ?_; rintro e w1 ⟨rfl, hb1⟩; have hY := hy.on hb1 hy.lt; obtain ⟨c0, f0, c1, f1, hD⟩ := hY.put2 (.string ⟨#[]⟩) (.int .i64 0); have hb2 : Below w.heap.size w ((w1.setCell ⟨w.heap.size + 1, 0, none⟩ (.string ⟨#[]⟩)).setCell ⟨w.heap.size + 1, 1, none⟩ (.int .i64 0)) := ((hb.trans (hb1.mono hb.size)).setCell (by simp) _).setCell (by simp) _))
    have e0 := hD.cell (i := 0) rfl
    have e1 := hD.cell (i := 1) rfl
    exact bodyPost_ret (v := .agg #[.string ⟨#[]⟩, .int .i64 0]) (by simp [results, Try.results47, go_sem, e0, e1]) rfl ⟨rfl, hb2⟩
  · have hk2 : ¬ kind c.nm.data.toList = 2 := by unfold isV at hv; simpa using hv
    have hkc : keyC c = c := by unfold keyC; rw [if_neg hv]
    rw [hkc]
    have hkb : (((kind c.nm.data.toList : Nat) : Int) == 2) = false := by simp only [beq_eq_false_iff_ne]; omega
    have hX1 := hx.cell (i := 1) rfl
    have hD : Blk ((w.alloc (.cells #[.string c.nm, .int .i64 c.ar] 51)).alloc (.cells #[.string c.nm, .int .i64 c.ar] 51)) (w.heap.size + 1) #[.string c.nm, .int .i64 c.ar] 51 := Blk.madeAt _ _ _ (by simp)
    have hb2 : Below w.heap.size w ((w.alloc (.cells #[.string c.nm, .int .i64 c.ar] 51)).alloc (.cells #[.string c.nm, .int .i64 c.ar] 51)) := ((Below.refl _ w).alloc (Nat.le_refl _) _).alloc (by simp) _
    clear hv hkc hk2
    go_enter Try.func47, Try.ntmps47
    go_wp2_with (first | (go_at_call 42; refine (hk _).mono ?_; rintro e w1 ⟨rfl, rfl⟩))
    have e0 := hD.cell (i := 0) rfl
    have e1 := hD.cell (i := 1) rfl
    exact bodyPost_ret (v := .agg #[.string c.nm, .int .i64 c.ar]) (by simp [results, Try.results47, go_sem, e0, e1]) rfl ⟨rfl, hb2⟩

end Go.Proofs.Ytpflbdkbbkobbaa
