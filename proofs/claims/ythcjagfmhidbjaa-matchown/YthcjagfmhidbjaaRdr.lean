/-
  The reader in memory: what its small functions do.
-/
import Derived.Test.YthcjagfmhidbjaaOwn
import Derived.Test.YthcjagfmhidbjaaRead
import Derived.RegionTactic
import Derived.BigQuiet
import Derived.Deep.QuietTactic
import Derived.Deep.RegionLaw
namespace Go.Proofs.Ythcjagfmhidbjaa
open Go.RowKit
set_option linter.unusedVariables false

theorem isS_nat (c : UInt8) : isS c = ((decide ((97 : Int) ≤ (c.toNat : Int)) && decide ((c.toNat : Int) ≤ 122)) || (decide ((65 : Int) ≤ (c.toNat : Int)) && decide ((c.toNat : Int) ≤ 90)) || (decide ((48 : Int) ≤ (c.toNat : Int)) && decide ((c.toNat : Int) ≤ 57))) := by
  unfold isS
  rw [sg_eq]
  unfold sgN
  generalize c.toNat = n
  by_cases h1 : 97 ≤ n ∧ n ≤ 122
  · rw [if_pos h1]
    have a1 : (97 : Int) ≤ n := by omega
    have a2 : (n : Int) ≤ 122 := by omega
    simp [a1, a2]
  · rw [if_neg h1]
    by_cases h2 : 65 ≤ n ∧ n ≤ 90
    · rw [if_pos h2]
      have a1 : (65 : Int) ≤ n := by omega
      have a2 : (n : Int) ≤ 90 := by omega
      simp [a1, a2]
    · rw [if_neg h2]
      by_cases h3 : 48 ≤ n ∧ n ≤ 57
      · rw [if_pos h3]
        have a1 : (48 : Int) ≤ n := by omega
        have a2 : (n : Int) ≤ 57 := by omega
        simp [a1, a2]
      · rw [if_neg h3]
        have e1 : (decide ((97 : Int) ≤ (n : Int)) && decide ((n : Int) ≤ 122)) = false := by simp; omega
        have e2 : (decide ((65 : Int) ≤ (n : Int)) && decide ((n : Int) ≤ 90)) = false := by simp; omega
        have e3 : (decide ((48 : Int) ≤ (n : Int)) && decide ((n : Int) ≤ 57)) = false := by simp; omega
        rw [e1, e2, e3]; rfl

/-- the byte that stands at a place -/
def stand (s : ByteArray) (k : Nat) (c : UInt8) : Bool := decide (s.data.toList[k]? = some c)

theorem get_data (s : ByteArray) (k : Nat) (h : k < s.size) : s.data.toList[k]? = some s[k] := by
  have hk : k < s.data.toList.length := h
  rw [List.getElem?_eq_getElem hk]
  rfl

theorem below_drewN (w : World) (n : Nat) : Below w.heap.size w (w.drewN n) := ⟨rfl, rfl, rfl, Nat.le_refl _, fun _ _ => rfl⟩

/-- what is wrong behind the n-th argument -/
def behindArg (s : ByteArray) (k : Nat) (n : Int) : Option Nat :=
  if stand s k 41 then none else if stand s k 44 then (if n = 4 then some 5 else none) else some 3
end Go.Proofs.Ythcjagfmhidbjaa
