/-
  A rule that is handed in, opened: its ID, and its sides as they lie in memory.
-/
import Derived.Test.YtjpmlnigjbdnnabDoorOpenT
import Derived.Lib.SmallJoins
namespace Go.Proofs.YtjpmlnigjbdnnabDoor
open Go.ChangeShapes Go.WideShapes Go.ChangeAt Go.RowKit Go.Joins
set_option linter.unusedVariables false
set_option linter.unusedSimpArgs false
set_option maxRecDepth 100000

theorem open_rule {H : Type} {enc : TypeId × Value → H} {W : World} {base : Nat} {v : Value} {d : DataW H} {p : List MemPlace}
    (hv : Value.okWide Tryd.prog W .any base 25 v) (h : DataW.Trod enc Tryd.prog W 0 (fun _ => true) true 25 v d p) (hw : ∀ n ∈ d.weights Tryd.prog 25, n ≤ reachBytes) :
    ∃ id lv rv L R, v = .agg #[.int .i64 id, lv, rv] ∧ Lies W lv L ∧ Lies W rv R ∧ L.length * 24 ≤ 140737488355328 ∧ R.length * 24 ≤ 140737488355328 := by
  obtain ⟨c0, c1, c2, y0, y1, y2, n, rfl, rfl, rfl, h0, h1, h2⟩ := open_agg3 Tryd.underlying25 (by kernel_rfl) (by kernel_rfl) hv h
  obtain ⟨id, e0, _, _⟩ := DataW.trod_int Tryd.underlying3 h0
  simp only [List.cons.injEq, and_true] at e0
  subst e0
  have hw1 : ∀ n ∈ y1.1.weights Tryd.prog 23, n ≤ reachBytes := fun n hn => hw n (by
    simp only [DataW.weights, Tryd.underlying25, DataW.weightsEach]
    exact List.mem_append_right _ (List.mem_append_left _ hn))
  have hw2 : ∀ n ∈ y2.1.weights Tryd.prog 23, n ≤ reachBytes := fun n hn => hw n (by
    simp only [DataW.weights, Tryd.underlying25, DataW.weightsEach]
    exact List.mem_append_right _ (List.mem_append_right _ (List.mem_append_left _ hn)))
  obtain ⟨L, l1, l2⟩ := open_cells1 (d := y1.1) (p := y1.2) h1 hw1
  obtain ⟨R, r1, r2⟩ := open_cells1 (d := y2.1) (p := y2.2) h2 hw2
  exact ⟨id, c1, c2, L, R, rfl, l1, r1, l2, r2⟩

end Go.Proofs.YtjpmlnigjbdnnabDoor
