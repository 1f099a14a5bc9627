/-
  What kind answers; Commit of no pages.
-/
import Derived.Test.YtoecopmbaoklkaaPv
import Derived.Test.YtoecopmbaoklkaaOa
namespace Go.Proofs.Ytoecopmbaoklkaa
open Go.RowKit
set_option linter.unusedVariables false
set_option linter.unusedSimpArgs false
set_option maxRecDepth 100000

/-- a number, modulo -/
def kd (k : Int) (n : Nat) : Int := IntKind.u64.wrap k % (n : Int)
theorem kd_lo (k : Int) {n : Nat} (h : 0 < n) : 0 ≤ kd k n := Int.emod_nonneg _ (by omega)
theorem kd_hi (k : Int) {n : Nat} (h : 0 < n) : kd k n < n := Int.emod_lt_of_pos _ (by omega)
theorem kind_any (k : Int) (n : Nat) (hn : 0 < n ∧ n ≤ 1000) (w : World) : Calls Try.prog 10 #[.int .i64 k, .int .i64 (n : Nat)] w fun e w' => e = .returned (.int .i64 (kd k n)) ∧ w = w' := by
  have h1 := kd_lo k hn.1
  have h2 := kd_hi k hn.1
  have h0 : 0 ≤ IntKind.u64.wrap k := by rw [IntKind.wrap_u64]; omega
  have h3 : IntKind.u64.wrap k ≤ 18446744073709551615 := by rw [IntKind.wrap_u64]; omega
  have h4 : ¬ (n : Int) = 0 := by omega
  have h5 : (IntKind.u64.wrap k).tmod (n : Int) = kd k n := by unfold kd; exact Int.tmod_eq_emod_of_nonneg h0
  have h6 : IntKind.i64.wrap (kd k n) = kd k n := IntWalk.i64_in _ ⟨by omega, by omega⟩
  go_enter Try.func10, Try.ntmps10
  go_wp2
  go_ret
  exact ⟨rfl, rfl⟩
theorem cm_nil {p : Pp} (h : p.ch = []) : p.cmE = 0 ∧ p.cm.d = p.d := by
  have e : cmt p.d p.ch = (0, p.d) := by rw [h]; exact cmt_nil p.d
  constructor
  · unfold Pp.cmE; rw [e]
  · unfold Pp.cm; rw [e, if_pos rfl]

end Go.Proofs.Ytoecopmbaoklkaa
