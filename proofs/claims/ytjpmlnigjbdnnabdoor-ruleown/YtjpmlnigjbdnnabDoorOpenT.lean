/-
  A list of terms that came in, as it lies in memory.
-/
import Derived.Test.YtjpmlnigjbdnnabDoorOpen
import Derived.Test.YtjpmlnigjbdnnabDoorMany
namespace Go.Proofs.YtjpmlnigjbdnnabDoor
open Go.ChangeShapes Go.WideShapes Go.ChangeAt Go.RowKit Go.Deep
set_option linter.unusedVariables false
set_option maxRecDepth 100000
set_option linter.unusedSimpArgs false

theorem cells23 : Tryd.prog.cellsOf 23 = 1 := by kernel_rfl
theorem bytes23 : Tryd.prog.bytesOf 23 = 24 := by kernel_rfl

theorem weights_part {H : Type} {P : Program} {e : TypeId} : ∀ {l : List (DataW H)} {d : DataW H}, d ∈ l → ∀ n ∈ d.weights P e, n ∈ DataW.weightsAll P e l
  | [], d, h, n, hn => by cases h
  | c :: r, d, h, n, hn => by
    unfold DataW.weightsAll
    rcases List.mem_cons.1 h with rfl | h
    · exact List.mem_append.2 (.inl hn)
    · exact List.mem_append.2 (.inr (weights_part h n hn))

theorem open_cells1 {H : Type} {enc : TypeId × Value → H} {W : World} {fuel : Nat} {x : Value} {d : DataW H} {p : List MemPlace}
    (h : DataW.trod enc Tryd.prog W 0 (fun _ => true) true fuel 23 [x] = some (d, p)) (hw : ∀ n ∈ d.weights Tryd.prog 23, n ≤ reachBytes) :
    ∃ L, Lies W x L ∧ L.length * 24 ≤ 140737488355328 := by
  obtain ⟨a0, len, cap, rfl⟩ : ∃ a0 len cap, x = .slice a0 len cap := by
    rcases open_slice_pairs Tryd.underlying23 Tryd.underlying30 cells59 rfl rfl cells9 cells3 h with ⟨hcs, _⟩ | ⟨a, len', cap', m, n, V0, V1, D0, D1, P0, P1, hcs, _⟩
    · simp at hcs; exact ⟨_, _, _, hcs⟩
    · simp at hcs; exact ⟨_, _, _, hcs⟩
  exact open_cells0 h hw

end Go.Proofs.YtjpmlnigjbdnnabDoor
