/-
  What the program's Fill answers.
-/
import Derived.Test.YtbdlokijednoiaaMatch
namespace Go.Proofs.Ytbdlokijednoiaa
open Go.RowKit
set_option linter.unusedVariables false
set_option maxRecDepth 100000
set_option linter.unusedSimpArgs false

/-- what Fill answers: the error, and the cells -/
def told (P : List Cl) (l : List Bd) : Bool := P.all fun c => !isV c || (look l c.nm).isSome
def fillE (P : List Cl) (l : List Bd) : Nat :=
  if check P = 0 then (if gatherE [] l = 0 then (if told P l = true then (if (sub (at_ l) P).length ≤ 64 then 0 else 6) else 7) else gatherE [] l) else check P
def fillM (P : List Cl) (l : List Bd) : List Cl := if fillE P l = 0 then sub (at_ l) P else []
theorem fillE_zero {P : List Cl} {l : List Bd} (h : fillE P l = 0) : check P = 0 ∧ gatherE [] l = 0 ∧ told P l = true ∧ (sub (at_ l) P).length ≤ 64 := by
  unfold fillE at h
  by_cases h1 : check P = 0
  · rw [if_pos h1] at h
    by_cases h2 : gatherE [] l = 0
    · rw [if_pos h2] at h
      by_cases h3 : told P l = true
      · rw [if_pos h3] at h
        by_cases h4 : (sub (at_ l) P).length ≤ 64
        · exact ⟨h1, h2, h3, h4⟩
        · rw [if_neg h4] at h; cases h
      · rw [if_neg h3] at h; cases h
    · rw [if_neg h2] at h; exact absurd h h2
  · rw [if_neg h1] at h; exact absurd h h1
theorem told_iff {P : List Cl} {l : List Bd} : told P l = true ↔ ∀ c ∈ P, isV c = true → (look l c.nm).isSome = true := by
  unfold told
  rw [List.all_eq_true]
  constructor
  · intro h c hc hv
    have := h c hc
    simpa [hv] using this
  · intro h c hc
    by_cases hv : isV c = true
    · simp [hv, h c hc hv]
    · simp [hv]
theorem sub_next {s : ByteArray → List Cl} {P : List Cl} {k : Nat} {c : Cl} (h : P[k]? = some c) : sub s (P.take (k + 1)) = sub s (P.take k) ++ (if isV c then s c.nm else [c]) := by
  rw [List.take_add_one, h]
  unfold sub
  rw [List.flatMap_append]
  simp
theorem fine_append {L M : List Cl} (h : Fine L) (k : Fine M) : Fine (L ++ M) := by
  intro c hc
  rcases List.mem_append.1 hc with hc | hc
  · exact h c hc
  · exact k c hc

end Go.Proofs.Ytbdlokijednoiaa
