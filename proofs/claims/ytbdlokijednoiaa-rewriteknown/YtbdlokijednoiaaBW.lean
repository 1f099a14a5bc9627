/-
  What the document's One answers: an op that makes a node which the table knows.
-/
import Derived.Test.YtbdlokijednoiaaBM
namespace Go.Proofs.Ytbdlokijednoiaa
open Go.RowKit
set_option linter.unusedVariables false
set_option linter.unusedSimpArgs false
set_option maxRecDepth 100000

theorem knownI_get : ∀ {ms : List Mm} {t : List Cl} {k : Nat}, knownI ms t = some k → ∃ m, ms[k]? = some m ∧ m.t = t
  | [], t, k, h => by simp [knownI] at h
  | m :: r, t, k, h => by
    unfold knownI at h
    by_cases e : m.t = t
    · rw [if_pos e] at h
      cases h
      exact ⟨m, rfl, e⟩
    · rw [if_neg e] at h
      cases hr : knownI r t with
      | none => rw [hr] at h; cases h
      | some j =>
        rw [hr] at h
        simp only [Option.map_some, Option.some.injEq] at h
        subst h
        obtain ⟨m', h1, h2⟩ := knownI_get hr
        exact ⟨m', by simpa using h1, h2⟩

end Go.Proofs.Ytbdlokijednoiaa
