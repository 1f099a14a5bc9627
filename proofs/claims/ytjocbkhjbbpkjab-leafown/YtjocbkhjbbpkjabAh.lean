/-
  The document's At and Has.
-/
import Derived.Test.YtjocbkhjbbpkjabPn
namespace Go.Proofs.Ytjocbkhjbbpkjab
open Go.RowKit
set_option linter.unusedVariables false
set_option linter.unusedSimpArgs false
set_option maxRecDepth 100000

/-- behind j rounds n is the place behind the last key that is below -/
def lowA (L : List Ent) (key : ByteArray) (j n : Nat) : Prop := n ≤ j ∧ (∀ (i : Nat) (x : Ent), n ≤ i → i < j → L[i]? = some x → lt x.k key = false) ∧ (n = 0 ∨ ∃ (i : Nat) (x : Ent), i + 1 = n ∧ L[i]? = some x ∧ lt x.k key = true)
theorem lowA_zero (L : List Ent) (key : ByteArray) : lowA L key 0 0 := ⟨Nat.le_refl _, fun i x h1 h2 => absurd h2 (Nat.not_lt_zero _), .inl rfl⟩
theorem lowA_yes {L : List Ent} {key : ByteArray} {j n : Nat} {x : Ent} (h : lowA L key j n) (hx : L[j]? = some x) (hk : lt x.k key = true) : lowA L key (j + 1) (j + 1) :=
  ⟨Nat.le_refl _, fun i y h1 h2 => by omega, .inr ⟨j, x, rfl, hx, hk⟩⟩
theorem lowA_no {L : List Ent} {key : ByteArray} {j n : Nat} {x : Ent} (h : lowA L key j n) (hx : L[j]? = some x) (hk : lt x.k key = false) : lowA L key (j + 1) n :=
  ⟨by have := h.1; omega, fun i y h1 h2 hy => by
    rcases Nat.lt_or_ge i j with c | c
    · exact h.2.1 i y h1 c hy
    · obtain rfl : i = j := by omega
      rw [hx] at hy
      cases hy
      exact hk, h.2.2⟩
theorem lowA_is {L : List Ent} {key : ByteArray} {n : Nat} (h : lowA L key L.length n) (hm : Mono L key) : IsAt L key n := by
  refine ⟨fun j x hj hx => ?_, fun j x hj hx => h.2.1 j x hj (List.getElem?_eq_some_iff.1 hx).1 hx⟩
  rcases h.2.2 with h0 | ⟨i, y, hi, hy, hk⟩
  · omega
  · exact hm j i x y (by omega) hx hy hk
def hasL (L : List Ent) (key : ByteArray) : Bool := L.any fun x => decide (x.k = key)
theorem hasL_iff {L : List Ent} {key : ByteArray} : hasL L key = true ↔ ∃ (j : Nat) (x : Ent), L[j]? = some x ∧ x.k = key := by
  unfold hasL
  rw [List.any_eq_true]
  constructor
  · rintro ⟨x, hx, hk⟩
    obtain ⟨j, hj⟩ := List.mem_iff_getElem?.1 hx
    exact ⟨j, x, hj, of_decide_eq_true hk⟩
  · rintro ⟨j, x, hj, hk⟩
    exact ⟨x, List.mem_of_getElem? hj, decide_eq_true hk⟩
theorem fnd_iff {L : List Ent} {key : ByteArray} {i : Nat} : fnd L key i = true ↔ ∃ x, L[i]? = some x ∧ x.k = key := by
  unfold fnd
  cases h : L[i]? with
  | none => simp
  | some x => simp
theorem fnd_has {L : List Ent} {key : ByteArray} {i : Nat} (h : ckE none L = 0) (ha : IsAt L key i) : fnd L key i = hasL L key := by
  rw [Bool.eq_iff_iff, fnd_iff, hasL_iff]
  constructor
  · rintro ⟨x, hx, hk⟩
    exact ⟨i, x, hx, hk⟩
  · rintro ⟨j, x, hx, rfl⟩
    have h1 : ¬ j < i := fun hj => by
      have := ha.1 j x hj hx
      rw [lt_self] at this
      cases this
    have h2 : ¬ i < j := fun hj => by
      obtain ⟨y, hy⟩ : ∃ y, L[i]? = some y := ⟨_, List.getElem?_eq_getElem (by have := (List.getElem?_eq_some_iff.1 hx).1; omega)⟩
      have h3 := ha.2 i y (Nat.le_refl _) hy
      rw [(ckE_rise h).2 i j y x hj hy hx] at h3
      cases h3
    obtain rfl : i = j := by omega
    exact ⟨x, hx, rfl⟩

end Go.Proofs.Ytjocbkhjbbpkjab

