/-
  The pair of fuels that came in.
-/
import Derived.Test.YtgijdhnkkbenoaaGreatOpenR
import Derived.OpenShut
import Derived.Lib.SmallJoins
namespace Go.Proofs.YtgijdhnkkbenoaaGreat
open Go.ChangeShapes Go.WideShapes Go.ChangeAt Go.RowKit Go.Joins
set_option linter.unusedVariables false
set_option linter.unusedSimpArgs false
set_option maxRecDepth 100000

theorem open_pair {H : Type} {enc : TypeId × Value → H} {W : World} {base : Nat} {v : Value} {d : DataW H} {p : List MemPlace}
    (hv : Value.okWide Tryz.prog W .any base 66 v) (h : DataW.Trod enc Tryz.prog W 0 (fun _ => true) true 66 v d p) :
    ∃ a b : Int, v = .agg #[.int .u8 a, .int .u8 b] ∧ (Lit.int .u8 a).wf = true ∧ (Lit.int .u8 b).wf = true := by
  have hv2 := hv
  simp only [Value.okWide, Tryz.underlying66] at hv2
  obtain ⟨cs, rfl, hsz, _⟩ := hv2
  have hC : Tryz.prog.cellsOf 66 = 2 := by kernel_rfl
  obtain ⟨c0, c1, rfl⟩ := array2 (hsz.trans hC)
  obtain ⟨fuel, hf⟩ := h
  obtain ⟨xs, m, _, ex, _, hl, hel⟩ := DataW.trod_array Tryz.underlying66 hf
  have h0 := hel 0 (by decide)
  have h1 := hel 1 (by decide)
  have hc5 : Tryz.prog.cellsOf 5 = 1 := by kernel_rfl
  rw [hc5] at h0 h1
  obtain ⟨x0, x1, rfl⟩ : ∃ x0 x1, xs = [x0, x1] := by
    match xs, hl with
    | [x0, x1], _ => exact ⟨x0, x1, rfl⟩
  simp [Value.cells] at h0 h1
  obtain ⟨a, e0, _, w0⟩ := DataW.trod_int Tryz.underlying5 h0
  obtain ⟨b, e1, _, w1⟩ := DataW.trod_int Tryz.underlying5 h1
  simp only [List.cons.injEq, and_true] at e0 e1
  subst e0 e1
  exact ⟨a, b, rfl, w0, w1⟩

end Go.Proofs.YtgijdhnkkbenoaaGreat
