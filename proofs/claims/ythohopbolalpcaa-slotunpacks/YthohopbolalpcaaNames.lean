/-
  Layer 4 as plain functions of lists: names, terms as lists of cells, forests, the reader; and what is known of them.
-/
import Derived.Lib.Strings
namespace Go.Proofs.Ythohopbolalpcaa
open Go.Lib
set_option linter.unusedVariables false
set_option maxRecDepth 100000

/-! ## Names -/

/-- what a byte of a name is: 1 a small letter, 2 a great one, 3 a digit, 0 another -/
def sg (c : UInt8) : Nat :=
  if 97 ≤ c.toNat ∧ c.toNat ≤ 122 then 1 else if 65 ≤ c.toNat ∧ c.toNat ≤ 90 then 2 else if 48 ≤ c.toNat ∧ c.toNat ≤ 57 then 3 else 0
def okAt (q j : Nat) (c : UInt8) : Bool := sg c == q || (sg c == 3 && decide (0 < j))
/-- are the first k bytes fit for a name whose letters are of the sort q? -/
def fits (q : Nat) (l : List UInt8) (k : Nat) : Bool := (List.range k).all fun j => okAt q j (l.getD j 0)
/-- the kind of a name -/
def kind (l : List UInt8) : Nat :=
  if l.length < 1 ∨ 8 < l.length then 0 else if fits 1 l l.length then 1 else if fits 2 l l.length then 2 else 0

theorem fits_zero (q : Nat) (l : List UInt8) : fits q l 0 = true := rfl
theorem fits_succ (q : Nat) (l : List UInt8) (k : Nat) : fits q l (k + 1) = (fits q l k && okAt q k (l.getD k 0)) := by
  unfold fits
  rw [List.range_succ, List.all_append]
  simp
theorem fits_at {q : Nat} {l : List UInt8} {n : Nat} (h : fits q l n = true) (k : Nat) (hk : k < n) : okAt q k (l.getD k 0) = true :=
  List.all_eq_true.1 h k (List.mem_range.2 hk)
theorem fits_of {q : Nat} {l : List UInt8} {n : Nat} (h : ∀ k, k < n → okAt q k (l.getD k 0) = true) : fits q l n = true :=
  List.all_eq_true.2 fun k hk => h k (List.mem_range.1 hk)

theorem kind_out {l : List UInt8} (h : l.length < 1 ∨ 8 < l.length) : kind l = 0 := by unfold kind; rw [if_pos h]
/-- the sort of the first byte decides; a byte behind it that fits neither spoils it -/
theorem kind_bad {l : List UInt8} (k : Nat) (h0 : 0 < k) (hk : k < l.length) (h1 : sg (l.getD k 0) ≠ sg (l.getD 0 0)) (h3 : sg (l.getD k 0) ≠ 3) : kind l = 0 := by
  unfold kind
  split
  · rfl
  have no : ∀ q, q ≠ 3 → fits q l l.length = false := by
    intro q hq
    cases hf : fits q l l.length with
    | false => rfl
    | true =>
      have a0 := fits_at hf 0 (by omega)
      have ak := fits_at hf k hk
      simp only [okAt, Bool.or_eq_true, beq_iff_eq, Bool.and_eq_true, decide_eq_true_eq] at a0 ak
      omega
  rw [no 1 (by decide), no 2 (by decide)]
  simp
theorem kind_good {l : List UInt8} (hn : ¬ (l.length < 1 ∨ 8 < l.length)) (h : ∀ k, 0 < k → k < l.length → sg (l.getD k 0) = sg (l.getD 0 0) ∨ sg (l.getD k 0) = 3) :
    kind l = if sg (l.getD 0 0) = 1 then 1 else if sg (l.getD 0 0) = 2 then 2 else 0 := by
  unfold kind
  rw [if_neg hn]
  have yes : ∀ q, q ≠ 3 → fits q l l.length = decide (sg (l.getD 0 0) = q) := by
    intro q hq
    by_cases hs : sg (l.getD 0 0) = q
    · rw [decide_eq_true hs]
      refine fits_of fun k hk => ?_
      simp only [okAt, Bool.or_eq_true, beq_iff_eq, Bool.and_eq_true, decide_eq_true_eq]
      by_cases k0 : k = 0
      · subst k0; exact .inl hs
      · rcases h k (by omega) hk with h' | h'
        · exact .inl (h'.trans hs)
        · exact .inr ⟨h', by omega⟩
    · rw [decide_eq_false hs]
      cases hf : fits q l l.length with
      | false => rfl
      | true =>
        have a0 := fits_at hf 0 (by omega)
        simp only [okAt, Bool.or_eq_true, beq_iff_eq, Bool.and_eq_true, decide_eq_true_eq] at a0
        omega
  rw [yes 1 (by decide), yes 2 (by decide)]
  simp


end Go.Proofs.Ythohopbolalpcaa
