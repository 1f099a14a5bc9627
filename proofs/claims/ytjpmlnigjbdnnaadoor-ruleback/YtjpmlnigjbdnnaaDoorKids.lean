/-
  What the program's Kids and End, and the document's Kids, answer.
-/
import Derived.Test.YtjpmlnigjbdnnaaDoorMany
namespace Go.Proofs.YtjpmlnigjbdnnaaDoor
open Go.RowKit
set_option linter.unusedVariables false
set_option maxRecDepth 100000
set_option linter.unusedSimpArgs false

theorem end_bad (w : World) (v : Value) (L : List Cl) (hv : Lies w v L) (at_ : Int) (hE : at_ < 0 ∨ check L ≠ 0) :
    Calls Tryd.prog 98 #[v, .int .i64 at_] w fun e w' => e = .returned (.int .i64 0) ∧ Below w.heap.size w w' := by
  have hck := check_any w v L hv
  by_cases h0 : at_ < 0
  · go_enter Tryd.func98, Tryd.ntmps98
    go_wp2_with fail
    go_ret
    exact ⟨rfl, Below.refl _ _⟩
  · have hc : check L ≠ 0 := by rcases hE with h | h; exact absurd h h0; exact h
    have hd0 : decide (at_ < 0) = false := decide_eq_false h0
    generalize check L = e0 at hck hc
    have e1 : ((e0 : Int) == 0) = false := by simp only [beq_eq_false_iff_ne]; omega
    have e2 : ¬ (e0 : Int) = 0 := by omega
    clear hE
    go_enter Tryd.func98, Tryd.ntmps98
    go_wp2_with (go_at_call 29; refine hck.mono ?_; rintro e w1 ⟨rfl, hb1⟩)
    go_ret
    exact ⟨rfl, hb1⟩
theorem end_ok (w : World) (v : Value) (L : List Cl) (hv : Lies w v L) (k : Nat) (hE : check L = 0) :
    Calls Tryd.prog 98 #[v, .int .i64 (k : Nat)] w fun e w' => e = .returned (.int .i64 (posN L k : Nat)) ∧ Below w.heap.size w w' := by
  have hck := check_any w v L hv
  obtain ⟨h1, h2, _⟩ := check_zero hE
  rw [hE] at hck
  have hbe : ∀ w1, Below w.heap.size w w1 → _ := fun w1 hb => behind_any w1 v L (hv.on hb) h1 h2 k
  have hd0 : decide ((k : Int) < 0) = false := decide_eq_false (by omega)
  generalize posN L k = p at hbe ⊢
  clear hE
  go_enter Tryd.func98, Tryd.ntmps98
  go_wp2_with (first | (go_at_call 29; refine hck.mono ?_; rintro e w1 ⟨rfl, hb1⟩) | (go_at_call 62; refine (hbe _ hb1).mono ?_; rintro e w2 ⟨rfl, rfl⟩))
  go_ret
  exact ⟨rfl, hb1⟩

theorem trees_fine {f : Fo} (h : Fine f.flat) : ∀ l ∈ f.trees, Fine l := by
  intro l hl c hc
  exact h c (by rw [← Fo.trees_flatten]; exact List.mem_flatten.2 ⟨l, hl, hc⟩)

end Go.Proofs.YtjpmlnigjbdnnaaDoor
