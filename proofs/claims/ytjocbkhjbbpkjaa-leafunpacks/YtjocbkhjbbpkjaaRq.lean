/-
  The document's Pack, of whatever list.
-/
import Derived.Test.YtjocbkhjbbpkjaaRp
namespace Go.Proofs.Ytjocbkhjbbpkjaa
open Go.RowKit
set_option linter.unusedVariables false
set_option linter.unusedSimpArgs false
set_option maxRecDepth 100000

set_option maxHeartbeats 1000000 in
theorem rPack_any (w : World) (k : Int) (v : Value) (L : List Ent) (hl : LiesE w v L) (hz : L.length ≤ 4398046511104) :
    Calls Try.prog 12 #[.int .i64 k, v] w fun e w' => e = .returned (.tuple #[.string (packS k L), .int .i64 (packE k L : Nat)]) ∧ Below w.heap.size w w' := by
  by_cases hp : packE k L = 0
  · obtain ⟨h1, h2, h3⟩ := packE_zero hp
    unfold packS
    rw [if_pos hp, hp]
    exact rPack_loop w k.toNat k (by omega) v L hl h2 h3 h1
  have HL := hid hl
  unfold packS
  rw [if_neg hp]
  by_cases h1 : k ≠ 1 ∧ k ≠ 2
  · have he : packE k L = 1 := by unfold packE; rw [if_pos h1]
    rw [he]
    have d1 : (k == 1) = false := beq_eq_false_iff_ne.2 h1.1
    have d2 : (k == 2) = false := beq_eq_false_iff_ne.2 h1.2
    have d3 : (k != 1) = true := by simp [h1.1]
    have d4 : (k != 2) = true := by simp [h1.2]
    have e1 := h1.1
    have e2 := h1.2
    clear h1 he hl hz hp
    go_enter Try.func12, Try.ntmps12
    go_wp2_with fail
    go_ret2
    exact ⟨rfl, Below.refl _ _⟩
  · have hm2 : k = 1 ∨ k = 2 := by omega
    have HCK : Hid (∀ w1 : World, Below w.heap.size w w1 → Calls Try.prog 19 #[v] w1 fun e w' => e = .returned (.int .i64 (ckE none L : Nat)) ∧ Below w1.heap.size w1 w') := fun w1 hb => right_any w1 v L (hl.on hb)
    have HSZ : Hid (∀ w1 : World, Below w.heap.size w w1 → Calls Try.prog 14 #[v] w1 fun e w' => e = .returned (.int .i64 (szL L)) ∧ Below w1.heap.size w1 w') := fun w1 hb => rSize_any w1 v L (hl.on hb)
    by_cases h2 : ckE none L = 0
    · have hsz := szL_of h2 hz
      rw [h2] at HCK
      rw [hsz] at HSZ
      by_cases h3 : 256 < 2 + sumE L
      · have he : packE k L = 16 := by unfold packE; rw [if_neg h1, if_neg (by omega), if_pos h3]
        rw [he]
        have d5 : (256 : Int) < ((2 + sumE L : Nat) : Int) := by omega
        generalize 2 + sumE L = q at *
        clear he h1 h2 hl hz hsz h3 hp
        rcases hm2 with rfl | rfl
        · go_enter Try.func12, Try.ntmps12
          go_wp2_with (first
            | (go_at_call 19; refine (HCK.out _ (Below.refl _ _)).mono ?_; clear HCK; rintro e w1 ⟨rfl, hb1⟩)
            | (go_at_call 14; refine (HSZ.out _ hb1).mono ?_; clear HSZ; rintro e w2 ⟨rfl, hb2⟩))
          go_ret2
          exact ⟨rfl, hb1.trans (hb2.mono hb1.size)⟩
        · go_enter Try.func12, Try.ntmps12
          go_wp2_with (first
            | (go_at_call 19; refine (HCK.out _ (Below.refl _ _)).mono ?_; clear HCK; rintro e w1 ⟨rfl, hb1⟩)
            | (go_at_call 14; refine (HSZ.out _ hb1).mono ?_; clear HSZ; rintro e w2 ⟨rfl, hb2⟩))
          go_ret2
          exact ⟨rfl, hb1.trans (hb2.mono hb1.size)⟩
      · exact absurd (by unfold packE; rw [if_neg h1, if_neg (by omega), if_neg h3]) hp
    · have he : packE k L = ckE none L := by unfold packE; rw [if_neg h1, if_pos h2]
      rw [he]
      have hv := ckE_vals L none
      generalize ckE none L = q at *
      have d5 : ((q : Int) == 0) = false := beq_eq_false_iff_ne.2 (by omega)
      have d6 : ((q : Int) != 0) = true := by simp; omega
      have d7 : ¬ (q : Int) = 0 := by omega
      clear he h1 hl hz hv h2 hp
      rcases hm2 with rfl | rfl
      · go_enter Try.func12, Try.ntmps12
        go_wp2_with (go_at_call 19; refine (HCK.out _ (Below.refl _ _)).mono ?_; clear HCK; rintro e w1 ⟨rfl, hb1⟩)
        go_ret2
        exact ⟨rfl, hb1⟩
      · go_enter Try.func12, Try.ntmps12
        go_wp2_with (go_at_call 19; refine (HCK.out _ (Below.refl _ _)).mono ?_; clear HCK; rintro e w1 ⟨rfl, hb1⟩)
        go_ret2
        exact ⟨rfl, hb1⟩
end Go.Proofs.Ytjocbkhjbbpkjaa

