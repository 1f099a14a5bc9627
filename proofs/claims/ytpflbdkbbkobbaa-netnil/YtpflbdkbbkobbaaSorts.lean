/-
  What slices.Sort does to places of the call's own.
-/
import Derived.Test.YtpflbdkbbkobbaaSortS
import Derived.Test.YtpflbdkbbkobbaaLead
import Derived.Sort.OwnSortedInts
namespace Go.Proofs.Ytpflbdkbbkobbaa
open Go.RowKit Go.Maps Go.Sort
set_option linter.unusedVariables false
set_option maxRecDepth 100000
set_option linter.unusedSimpArgs false

theorem ints_map (l : List Nat) : intsV l = (l.map fun (i : Nat) => (i : Int)).map (Value.int .i64) := by simp [intsV]
theorem sorted_ints {l m : List Nat} (h : l.Perm m) (hm : m.Pairwise (· < ·)) : (l.map fun (i : Nat) => (i : Int)).mergeSort (fun x y => decide (x ≤ y)) = m.map fun (i : Nat) => (i : Int) := by
  apply List.Perm.eq_of_pairwise (le := fun x y => decide (x ≤ y) = true)
  · intro a b _ _ h1 h2
    simp only [decide_eq_true_eq] at h1 h2
    omega
  · exact List.pairwise_mergeSort (fun a b c h1 h2 => by simp only [decide_eq_true_eq] at *; omega) (fun a b => by simp only [Bool.or_eq_true, decide_eq_true_eq]; omega) _
  · rw [List.pairwise_map]
    exact hm.imp (fun h => by simp only [decide_eq_true_eq]; omega)
  · exact (List.mergeSort_perm _ _).trans (h.map _)
theorem sort_any (w : World) (B : Nat) (v : Value) (l m : List Nat) (ho : w.ownsRow B 3 1 v l.length (intsV l)) (h : l.Perm m) (hm : m.Pairwise (· < ·)) (hl : l.length ≤ 1000) :
    Calls Try.prog 52 #[v] w fun e w' => e = .returned (.tuple #[]) ∧ w'.ownsRow B 3 1 v m.length (intsV m) ∧ w.grownBy w' v.ownBlock := by
  have hlm := h.length_eq
  rcases ho.2 with ⟨rfl, h0⟩ | ⟨g, cap, cur, rfl, hbg, hg, hnc, hcm, hcs, htake⟩
  · obtain rfl : l = [] := List.eq_nil_of_length_eq_zero h0
    obtain rfl : m = [] := List.eq_nil_of_length_eq_zero (by rw [← hlm]; rfl)
    refine (Try.slices_Sort_int_none none 0 w).mono ?_
    rintro e w' ⟨rfl, rfl⟩
    exact ⟨rfl, ho, ⟨rfl, rfl, rfl, Nat.le_refl _, fun _ _ _ => rfl⟩⟩
  · have hH : Go.Sort.Holds (Value.int .i64) w g 0 (l.map fun (i : Nat) => (i : Int)).toArray := holds_of_blockI hg (by rw [← ints_map, List.length_map, ← htake, Nat.mul_one])
    have hs := Try.slices_Sort_int g 0 cap (l.map fun (i : Nat) => (i : Int)) w hH (lt_of_block hg) (by rw [List.length_map]; omega)
    rw [List.length_map] at hs
    refine hs.mono ?_
    rintro e w' ⟨rfl, n, os, rfl⟩
    rw [sorted_ints h hm]
    refine ⟨rfl, ?_, grownBy_sortedI _⟩
    have := ownsRow_sortedI (w := w) (base := B) (g := g) (cap := cap) (n := n) (e := 3) (os := os) (cur := cur) (ss := l.map fun (i : Nat) => (i : Int)) (ts := m.map fun (i : Nat) => (i : Int)) (by simp [hlm]) hbg hg (by rw [List.length_map]; exact hnc) hcm hcs
    rw [List.length_map, ← ints_map, hlm] at this
    rw [hlm]
    exact this

end Go.Proofs.Ytpflbdkbbkobbaa
