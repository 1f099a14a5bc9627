/-
  Pack.
-/
import Derived.Test.YtjocbkhjbbpkjabWt
namespace Go.Proofs.Ytjocbkhjbbpkjab
open Go.RowKit
set_option linter.unusedVariables false
set_option linter.unusedSimpArgs false
set_option maxRecDepth 100000

def packE (k : Int) (L : List Ent) : Nat := if k ≠ 1 ∧ k ≠ 2 then 1 else if ckE none L ≠ 0 then ckE none L else if 256 < 2 + sumE L then 16 else 0
def packS (k : Int) (L : List Ent) : ByteArray := if packE k L = 0 then pageB k.toNat L else ⟨#[]⟩
theorem sumE_le : ∀ {L : List Ent}, (∀ x ∈ L, x.k.size ≤ 32 ∧ x.v.size ≤ 64) → sumE L ≤ 98 * L.length
  | [], _ => Nat.le_refl _
  | x :: r, h => by
    have := sumE_le (L := r) (fun y hy => h y (List.mem_cons_of_mem _ hy))
    have := h x List.mem_cons_self
    simp only [sumE, Ent.sz, List.length_cons]
    omega
theorem ckE_vals : ∀ (L : List Ent) (p : Option ByteArray), ckE p L = 0 ∨ ckE p L = 2 ∨ ckE p L = 19
  | [], p => by cases p <;> exact .inl rfl
  | x :: r, none => by
    simp only [ckE]
    by_cases h : 32 < x.k.size ∨ 64 < x.v.size
    · rw [if_pos h]; exact .inr (.inl rfl)
    · rw [if_neg h]; exact ckE_vals r _
  | x :: r, some q => by
    simp only [ckE]
    by_cases h : 32 < x.k.size ∨ 64 < x.v.size
    · rw [if_pos h]; exact .inr (.inl rfl)
    · rw [if_neg h]
      by_cases h2 : lt q x.k = true
      · rw [if_pos h2]; exact ckE_vals r _
      · rw [if_neg h2]; exact .inr (.inr rfl)
theorem szL_of {L : List Ent} (h : ckE none L = 0) (hz : L.length ≤ 4398046511104) : szL L = ((2 + sumE L : Nat) : Int) := by
  have := sumE_le (ckE_zero h)
  exact wr64_in (by omega)
theorem packE_zero {k : Int} {L : List Ent} (h : packE k L = 0) : (k = 1 ∨ k = 2) ∧ ckE none L = 0 ∧ 2 + sumE L ≤ 256 := by
  unfold packE at h
  by_cases h1 : k ≠ 1 ∧ k ≠ 2
  · rw [if_pos h1] at h; cases h
  · rw [if_neg h1] at h
    by_cases h2 : ckE none L ≠ 0
    · rw [if_pos h2] at h; exact absurd h h2
    · rw [if_neg h2] at h
      by_cases h3 : 256 < 2 + sumE L
      · rw [if_pos h3] at h; cases h
      · exact ⟨by omega, by omega, by omega⟩

set_option maxHeartbeats 1000000 in
theorem pack_any (w : World) (k : Int) (v : Value) (L : List Ent) (hl : LiesE w v L) (hz : L.length ≤ 4398046511104) :
    Calls Try.prog 10 #[.int .i64 k, v] w fun e w' => e = .returned (.tuple #[.string (packS k L), .int .i64 (packE k L : Nat)]) ∧ Below w.heap.size w w' := by
  have HL := hid hl
  unfold packS
  by_cases h1 : k ≠ 1 ∧ k ≠ 2
  · have he : packE k L = 1 := by unfold packE; rw [if_pos h1]
    rw [he]
    have d1 : (k == 1) = false := beq_eq_false_iff_ne.2 h1.1
    have d2 : (k == 2) = false := beq_eq_false_iff_ne.2 h1.2
    have d3 : (k != 1) = true := by simp [h1.1]
    have d4 : (k != 2) = true := by simp [h1.2]
    have e1 := h1.1
    have e2 := h1.2
    clear h1 he hl hz
    go_enter Try.func10, Try.ntmps10
    go_wp2_with fail
    go_ret2
    exact ⟨rfl, Below.refl _ _⟩
  · obtain ⟨m, hm, hm2⟩ : ∃ m : Nat, k = (m : Int) ∧ (m = 1 ∨ m = 2) := ⟨k.toNat, by omega, by omega⟩
    subst hm
    have HCK : Hid (∀ w1 : World, Below w.heap.size w w1 → Calls Try.prog 16 #[v] w1 fun e w' => e = .returned (.int .i64 (ckE none L : Nat)) ∧ Below w1.heap.size w1 w') := fun w1 hb => check_any w1 v L (hl.on hb)
    have HSZ : Hid (∀ w1 : World, Below w.heap.size w w1 → Calls Try.prog 13 #[v] w1 fun e w' => e = .returned (.int .i64 (szL L)) ∧ Below w1.heap.size w1 w') := fun w1 hb => size_any w1 v L (hl.on hb)
    have d3 : (((m : Int) != 1) && ((m : Int) != 2)) = false := by rcases hm2 with rfl | rfl <;> rfl
    by_cases h2 : ckE none L = 0
    · have hsz := szL_of h2 hz
      rw [h2] at HCK
      rw [hsz] at HSZ
      by_cases h3 : 256 < 2 + sumE L
      · have he : packE (m : Int) L = 16 := by unfold packE; rw [if_neg h1, if_neg (by omega), if_pos h3]
        rw [he]
        have d5 : (256 : Int) < ((2 + sumE L : Nat) : Int) := by omega
        generalize 2 + sumE L = q at *
        clear he h1 h2 hl hz hsz h3
        rcases hm2 with rfl | rfl
        · clear d3
          go_enter Try.func10, Try.ntmps10
          go_wp2_with (first
            | (go_at_call 16; refine (HCK.out _ (Below.refl _ _)).mono ?_; clear HCK; rintro e w1 ⟨rfl, hb1⟩)
            | (go_at_call 13; refine (HSZ.out _ hb1).mono ?_; clear HSZ; rintro e w2 ⟨rfl, hb2⟩))
          go_ret2
          exact ⟨rfl, hb1.trans (hb2.mono hb1.size)⟩
        · clear d3
          go_enter Try.func10, Try.ntmps10
          go_wp2_with (first
            | (go_at_call 16; refine (HCK.out _ (Below.refl _ _)).mono ?_; clear HCK; rintro e w1 ⟨rfl, hb1⟩)
            | (go_at_call 13; refine (HSZ.out _ hb1).mono ?_; clear HSZ; rintro e w2 ⟨rfl, hb2⟩))
          go_ret2
          exact ⟨rfl, hb1.trans (hb2.mono hb1.size)⟩
      · have he : packE (m : Int) L = 0 := by unfold packE; rw [if_neg h1, if_neg (by omega), if_neg h3]
        rw [he, if_pos rfl]
        have HWR : Hid (∀ w1 : World, Below w.heap.size w w1 → Calls Try.prog 17 #[.int .i64 (m : Nat), v] w1 fun e w' => e = .returned (.string (pageB m L)) ∧ Below w1.heap.size w1 w') := fun w1 hb => write_any w1 m (by omega) v L (hl.on hb) (fits_of h2 (by omega))
        have ht : ((m : Nat) : Int).toNat = m := by omega
        rw [ht]
        have d5 : ¬ (256 : Int) < ((2 + sumE L : Nat) : Int) := by omega
        generalize 2 + sumE L = q at *
        clear he h1 h2 hl hz hsz h3 ht
        rcases hm2 with rfl | rfl
        · clear d3
          generalize pageB 1 L = pg at *
          go_enter Try.func10, Try.ntmps10
          go_wp2_with (first
            | (go_at_call 16; refine (HCK.out _ (Below.refl _ _)).mono ?_; clear HCK; rintro e w1 ⟨rfl, hb1⟩)
            | (go_at_call 13; refine (HSZ.out _ hb1).mono ?_; clear HSZ; rintro e w2 ⟨rfl, hb2⟩; have HB2 := hid (hb1.trans (hb2.mono hb1.size)))
            | (go_at_call 17; refine (HWR.out _ HB2.out).mono ?_; clear HWR; rintro e w3 ⟨rfl, hb3⟩))
          go_ret2
          exact ⟨rfl, HB2.out.trans (hb3.mono HB2.out.size)⟩
        · clear d3
          generalize pageB 2 L = pg at *
          go_enter Try.func10, Try.ntmps10
          go_wp2_with (first
            | (go_at_call 16; refine (HCK.out _ (Below.refl _ _)).mono ?_; clear HCK; rintro e w1 ⟨rfl, hb1⟩)
            | (go_at_call 13; refine (HSZ.out _ hb1).mono ?_; clear HSZ; rintro e w2 ⟨rfl, hb2⟩; have HB2 := hid (hb1.trans (hb2.mono hb1.size)))
            | (go_at_call 17; refine (HWR.out _ HB2.out).mono ?_; clear HWR; rintro e w3 ⟨rfl, hb3⟩))
          go_ret2
          exact ⟨rfl, HB2.out.trans (hb3.mono HB2.out.size)⟩
    · have he : packE (m : Int) L = ckE none L := by unfold packE; rw [if_neg h1, if_pos h2]
      rw [he, if_neg h2]
      have hv := ckE_vals L none
      generalize ckE none L = q at *
      have d5 : ((q : Int) == 0) = false := beq_eq_false_iff_ne.2 (by omega)
      have d6 : ((q : Int) != 0) = true := by simp; omega
      have d7 : ¬ (q : Int) = 0 := by omega
      clear he h1 hl hz hv h2
      rcases hm2 with rfl | rfl
      · clear d3
        go_enter Try.func10, Try.ntmps10
        go_wp2_with (go_at_call 16; refine (HCK.out _ (Below.refl _ _)).mono ?_; clear HCK; rintro e w1 ⟨rfl, hb1⟩)
        go_ret2
        exact ⟨rfl, hb1⟩
      · clear d3
        go_enter Try.func10, Try.ntmps10
        go_wp2_with (go_at_call 16; refine (HCK.out _ (Below.refl _ _)).mono ?_; clear HCK; rintro e w1 ⟨rfl, hb1⟩)
        go_ret2
        exact ⟨rfl, hb1⟩
end Go.Proofs.Ytjocbkhjbbpkjab

