/-
  The listed variable: a handle of the type 'error'; a world that holds it.
-/
import Derived.Test.YtjcbaiohpdihoaaGreatDoorRows
import Derived.Test.YtjcbaiohpdihoaaGreatDoorEt
import Derived.ChangeVars
import Derived.LaidLaws
import Derived.LaidHandle
import Derived.RowKitTokens
namespace Go.Proofs.YtjcbaiohpdihoaaGreatDoor
open Go.RowKit
set_option linter.unusedVariables false
set_option maxRecDepth 100000

theorem ev_et : Tryz.prog.globalNamed "errors.errorType" = some 0 := by kernel_rfl
theorem ev_rt : (Tryz.prog.cutTypes.find? (·.1 == "internal/reflectlite.rtype")).map (·.2) = some 260 := by kernel_rfl
theorem ev_one : ((List.range 339).filter fun t => Tryz.prog.rowNamed t [101, 114, 114, 111, 114]) = [92] := by kernel_rfl
theorem ev_size : Tryz.prog.types.size = 339 := by kernel_rfl
theorem env_of {W : World} (h : laidMetH Tryz.prog [("errors.errorType", Rows.laid_errors_errorType)] W) : Env W := by
  have h' : laidMet Tryz.prog [] W ∧ handlesMet Tryz.prog [("errors.errorType", Rows.laid_errors_errorType)] W := h
  obtain ⟨name, u, ty, e1, e2, e3, e4, e5⟩ := h'.2 _ (List.mem_singleton.2 rfl)
  have en : name = [101, 114, 114, 111, 114] := (Option.some.inj e1).symm
  subst en
  obtain rfl := Option.some.inj (ev_rt.symm.trans e2)
  have hm : ty ∈ (List.range 339).filter fun t => Tryz.prog.rowNamed t [101, 114, 114, 111, 114] := List.mem_filter.2 ⟨List.mem_range.2 (by rw [← ev_size]; exact e3), e4⟩
  rw [ev_one] at hm
  obtain rfl := List.mem_singleton.1 hm
  have hh : typeHandle Tryz.prog 92 = .pointer (some ⟨2, 92, none⟩) := by kernel_rfl
  rw [hh] at e5
  unfold Env
  simpa using World.var?_cell ev_et e5 0
/-- a world that holds it -/
noncomputable def laidW (os : Os) : World :=
  let w0 := World.holding Tryz.prog os ⟨#[], #[], []⟩
  { w0 with heap := w0.heap.modify 0 fun
      | .cells _ t frozen => .cells #[.iface 260 (.agg #[.pointer (some ⟨2, 92, none⟩)])] t frozen
      | o => o }
end Go.Proofs.YtjcbaiohpdihoaaGreatDoor
