/-
  What the document's Match answers; that two lists of binds that hold the same are told as alike.
-/
import Derived.Test.YtbdlokijednoiaaRKids
import Derived.Test.YtbdlokijednoiaaRVars
import Derived.Test.YtbdlokijednoiaaRFit
import Derived.Deep.QuietTactic
import Derived.BigQuiet
namespace Go.Proofs.Ytbdlokijednoiaa
open Go.RowKit
set_option linter.unusedVariables false
set_option maxRecDepth 100000
set_option linter.unusedSimpArgs false
set_option maxHeartbeats 4000000 in

theorem trees_fo : ∀ (f : Fo) (l : List Cl), l ∈ f.trees → ∃ nm k, l = (Fo.cons nm k .nil).flat ∧ k.size + 1 ≤ f.size
  | .nil, l, h => by simp [Fo.trees] at h
  | .cons nm k r, l, h => by
    simp only [Fo.trees, List.mem_cons] at h
    rcases h with rfl | h
    · exact ⟨nm, k, by simp [Fo.flat], by simp only [Fo.size]; omega⟩
    · obtain ⟨nm', k', e, h'⟩ := trees_fo r l h
      exact ⟨nm', k', e, by simp only [Fo.size]; omega⟩
theorem tree_check {nm : ByteArray} {kd : Fo} (hE : check (Fo.cons nm kd .nil).flat = 0) {l : List Cl} (hl : l ∈ kd.trees) : check l = 0 := by
  obtain ⟨h1, h2, _⟩ := check_zero hE
  obtain ⟨nm', k', rfl, hk⟩ := trees_fo kd l hl
  rw [Fo.flat_length] at h1
  simp only [Fo.size] at h1
  refine check_of rfl (by simp only [Fo.size]; omega) (cellsErr_zero.2 fun c hc => cellsErr_zero.1 h2 c ?_)
  have : c ∈ kd.flat := by rw [← Fo.trees_flatten]; exact List.mem_flatten.2 ⟨_, hl, hc⟩
  simp [Fo.flat, this]
theorem drop_tree {K : List (List Cl)} {j : Nat} {nm : ByteArray} {k r : Fo} (h : K.drop j = (Fo.cons nm k r).trees) : K[j]? = some (Fo.cons nm k .nil).flat ∧ K.drop (j + 1) = r.trees := by
  have h1 : (K.drop j)[0]? = some (Fo.cons nm k .nil).flat := by rw [h]; simp [Fo.trees, Fo.flat]
  rw [List.getElem?_drop, Nat.add_zero] at h1
  refine ⟨h1, ?_⟩
  rw [← List.drop_drop, h]; rfl

theorem trees_get : ∀ (f : Fo) (l : List Cl), l ∈ f.trees → ∃ nm k, l = (Fo.cons nm k .nil).flat ∧ k.size + 1 ≤ f.size
  | .nil, l, h => by simp [Fo.trees] at h
  | .cons nm k r, l, h => by
    simp only [Fo.trees, List.mem_cons] at h
    rcases h with rfl | h
    · exact ⟨nm, k, by simp [Fo.flat], by simp only [Fo.size]; omega⟩
    · obtain ⟨nm', k', e, h'⟩ := trees_get r l h
      exact ⟨nm', k', e, by simp only [Fo.size]; omega⟩
theorem tree_right {nm : ByteArray} {kd : Fo} (hE : check (Fo.cons nm kd .nil).flat = 0) {l : List Cl} (hl : l ∈ kd.trees) : check l = 0 := by
  obtain ⟨h1, h2, _⟩ := check_zero hE
  obtain ⟨nm', k', rfl, hk⟩ := trees_get kd l hl
  rw [Fo.flat_length] at h1
  simp only [Fo.size] at h1
  refine check_of rfl (by simp only [Fo.size]; omega) (cellsErr_zero.2 fun c hc => cellsErr_zero.1 h2 c ?_)
  have : c ∈ kd.flat := by rw [← Fo.trees_flatten]; exact List.mem_flatten.2 ⟨_, hl, hc⟩
  simp [Fo.flat, this]
theorem trees_fine2 {f : Fo} (h : ∀ l ∈ f.trees, check l = 0) : ∀ l ∈ f.trees, Fine l := fun l hl => fine_check (h l hl)

theorem fit_same {nm nm' : ByteArray} {kd kd' : Fo} (hp : check (Fo.cons nm kd .nil).flat = 0) : fitL (Fo.cons nm kd .nil).flat (Fo.cons nm' kd' .nil).flat [] = fitF (.cons nm kd .nil) (.cons nm' kd' .nil) [] := by
  have := fit_flat (.cons nm kd .nil) (.cons nm' kd' .nil) [] [] [] rfl (plainly_of _ (cellsErr_zero.1 (check_zero hp).2.1))
  rw [List.append_nil, List.append_nil] at this
  rw [this]
  cases fitF (.cons nm kd .nil) (.cons nm' kd' .nil) [] <;> rfl

end Go.Proofs.Ytbdlokijednoiaa
