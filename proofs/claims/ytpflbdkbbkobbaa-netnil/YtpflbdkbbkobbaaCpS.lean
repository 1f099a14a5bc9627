/-
  What the document's Same answers of two rules.
-/
import Derived.Test.YtpflbdkbbkobbaaRs
namespace Go.Proofs.Ytpflbdkbbkobbaa
open Go.RowKit
set_option linter.unusedVariables false
set_option maxRecDepth 100000
set_option linter.unusedSimpArgs false

theorem rSame_rule (w : World) (i j : Int) (l1 r1 l2 r2 : Value) (L R M N : List Cl) (h1 : Lies w l1 L) (h2 : Lies w r1 R) (h3 : Lies w l2 M) (h4 : Lies w r2 N) :
    Calls Try.prog 33 #[.agg #[.int .i64 i, l1, r1], .agg #[.int .i64 j, l2, r2]] w fun e w' => e = .returned (.bool (decide (i = j ∧ L = M ∧ R = N))) ∧ Below w.heap.size w w' := by
  have hs1 : ∀ w1, Below w.heap.size w w1 → _ := fun w1 h => same_any w1 l1 l2 L M (h1.on h) (h3.on h)
  have hs2 : ∀ w1, Below w.heap.size w w1 → _ := fun w1 h => same_any w1 r1 r2 R N (h2.on h) (h4.on h)
  have hx : Blk ((w.alloc (.cells #[.int .i64 i, l1, r1] 40)).alloc (.cells #[.int .i64 j, l2, r2] 40)) w.heap.size #[.int .i64 i, l1, r1] 40 := (Blk.made w _ 40).alloc _
  have hy : Blk ((w.alloc (.cells #[.int .i64 i, l1, r1] 40)).alloc (.cells #[.int .i64 j, l2, r2] 40)) (w.heap.size + 1) #[.int .i64 j, l2, r2] 40 := Blk.madeAt _ _ _ (by simp)
  have hb : Below w.heap.size w ((w.alloc (.cells #[.int .i64 i, l1, r1] 40)).alloc (.cells #[.int .i64 j, l2, r2] 40)) := ((Below.refl _ w).alloc (Nat.le_refl _) _).alloc (by simp) _
  obtain ⟨la, lc, rfl, _⟩ := h1
  obtain ⟨ra, rc, rfl, _⟩ := h2
  obtain ⟨ma, mc, rfl, _⟩ := h3
  obtain ⟨na, nc, rfl, _⟩ := h4
  have HX : Hid (Blk ((w.alloc (.cells #[.int .i64 i, .slice la L.length lc, .slice ra R.length rc] 40)).alloc (.cells #[.int .i64 j, .slice ma M.length mc, .slice na N.length nc] 40)) w.heap.size #[.int .i64 i, .slice la L.length lc, .slice ra R.length rc] 40) := hx
  have HY : Hid (Blk ((w.alloc (.cells #[.int .i64 i, .slice la L.length lc, .slice ra R.length rc] 40)).alloc (.cells #[.int .i64 j, .slice ma M.length mc, .slice na N.length nc] 40)) (w.heap.size + 1) #[.int .i64 j, .slice ma M.length mc, .slice na N.length nc] 40) := hy
  have HB : Hid (Below w.heap.size w ((w.alloc (.cells #[.int .i64 i, .slice la L.length lc, .slice ra R.length rc] 40)).alloc (.cells #[.int .i64 j, .slice ma M.length mc, .slice na N.length nc] 40))) := hb
  clear hx hy hb
  by_cases hij : i = j
  · have q : (i == j) = true := by simpa using hij
    by_cases hLM : L = M
    · have e : decide (i = j ∧ L = M ∧ R = N) = decide (R = N) := by simp [hij, hLM]
      rw [e]
      rw [decide_eq_true hLM] at hs1
      generalize decide (R = N) = d at hs2 ⊢
      clear hLM e hij
      go_enter Try.func33, Try.ntmps33
      go_wp2_with (first | (go_at_call 21; refine (hs1 _ HB.out).mono ?_; clear hs1; rintro e w1 ⟨rfl, b1⟩; have hbw := HB.out.trans (b1.mono HB.out.size); have c1 := (HX.out.on b1 HX.out.lt).cell (i := 2) rfl; have c2 := (HY.out.on b1 HY.out.lt).cell (i := 2) rfl) | (go_at_call 21; refine (hs2 _ hbw).mono ?_; rintro e w2 ⟨rfl, b2⟩))
      go_ret
      exact ⟨rfl, hbw.trans (b2.mono hbw.size)⟩
    · have e : decide (i = j ∧ L = M ∧ R = N) = false := by simp [hLM]
      rw [e]
      rw [decide_eq_false hLM] at hs1
      clear hLM e hs2 hij
      go_enter Try.func33, Try.ntmps33
      go_wp2_with (first | (go_at_call 21; refine (hs1 _ HB.out).mono ?_; clear hs1; rintro e w1 ⟨rfl, b1⟩; have hbw := HB.out.trans (b1.mono HB.out.size)))
      go_ret
      exact ⟨rfl, hbw⟩
  · have q : (i == j) = false := by simpa using hij
    have e : decide (i = j ∧ L = M ∧ R = N) = false := by simp [hij]
    rw [e]
    clear e hs1 hs2
    go_enter Try.func33, Try.ntmps33
    go_wp2_with fail
    go_ret
    exact ⟨rfl, HB.out⟩

end Go.Proofs.Ytpflbdkbbkobbaa
