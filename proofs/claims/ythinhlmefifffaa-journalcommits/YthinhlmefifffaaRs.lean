/-
  What the document's small calls answer: rooms, numbers of pages.
-/
import Derived.Test.YthinhlmefifffaaP10
namespace Go.Proofs.Ythinhlmefifffaa
open Go.RowKit
set_option linter.unusedVariables false
set_option linter.unusedSimpArgs false
set_option maxRecDepth 100000

theorem rRows_any (m : Nat) (h : m ≤ 100000) (w : World) : Calls Try.prog 28 #[.int .i64 (m : Nat)] w fun e w' => e = .returned (.int .i64 (lb m : Nat)) ∧ w = w' := by
  by_cases h0 : 0 < m % 128
  · have HL : Hid ((((lb m : Nat) : Int)) = (m : Int) / 128 + 1) := by show _ = _; unfold lb; omega
    have h1 : (0 : Int) < (m : Int) % 128 := by omega
    go_enter Try.func28, Try.ntmps28
    go_wp2
    go_ret
    exact ⟨by rw [HL.out]; rfl, rfl⟩
  · have HL : Hid ((((lb m : Nat) : Int)) = (m : Int) / 128) := by show _ = _; unfold lb; omega
    have h1 : ¬ (0 : Int) < (m : Int) % 128 := by omega
    go_enter Try.func28, Try.ntmps28
    go_wp2
    go_ret
    exact ⟨by rw [HL.out]; rfl, rfl⟩
theorem rPages_no (n : Int) (h : n < 64 ∨ 2048 < n) (w : World) : Calls Try.prog 12 #[.int .i64 n] w fun e w' => e = .returned (.int .i64 0) ∧ w = w' := by
  rcases h with h | h
  · have hd : decide (n < 64) = true := decide_eq_true h
    go_enter Try.func12, Try.ntmps12
    go_wp2
    go_ret
    exact ⟨rfl, rfl⟩
  · have hd : decide (n < 64) = false := decide_eq_false (by omega)
    go_enter Try.func12, Try.ntmps12
    go_wp2
    go_ret
    exact ⟨rfl, rfl⟩
theorem rPages_any (n : Nat) (h1 : 64 ≤ n) (h2 : n ≤ 2048) (w : World) : Calls Try.prog 12 #[.int .i64 (n : Nat)] w fun e w' => e = .returned (.int .i64 (pgs n : Nat)) ∧ w = w' := by
  have hd : decide ((n : Int) < 64) = false := decide_eq_false (by omega)
  have f1 := pgs_more h1
  have f3 := pgs_hi h2
  have f2 : ∀ m, m < pgs n → 2 * (m + 1) + 1 + lb (m + 1) ≤ n := fun m hm => by
    have := pgs_fit h1
    have := @lb_mono (m + 1) (pgs n) hm
    omega
  have hl : ∀ m : Nat, m ≤ 2048 → _ := fun m hm => rRows_any m (by omega) w
  have hlb : ∀ m : Nat, m ≤ 2048 → lb m ≤ 20 := fun m hm => by unfold lb; omega
  generalize pgs n = q at *
  go_enter Try.func12, Try.ntmps12
  go_wp2
  go_loop [3] (fun x => ∃ m : Nat, m ≤ q ∧ x = .int .i64 (m : Nat)) (fun x => q - (intOf x).toNat)
  case atStart => exact ⟨0, by omega, by go_num⟩
  case round =>
    obtain ⟨m, hm1, rfl⟩ := hrel
    have hlm := hl (m + 1) (by omega)
    have hbm := hlb (m + 1) (by omega)
    by_cases hlt : m < q
    · have hf := f2 m hlt
      generalize lb (m + 1) = x at hlm hbm hf
      go_wp2_with (go_at_call 28; refine hlm.mono ?_; rintro e w1 ⟨rfl, rfl⟩)
      go_round
      case rel => exact ⟨m + 1, by omega, by go_num⟩
      case measure => simp [intOf]; omega
    · obtain rfl : m = q := by omega
      generalize lb (m + 1) = x at hlm hbm f1
      go_wp2_with (go_at_call 28; refine hlm.mono ?_; rintro e w1 ⟨rfl, rfl⟩)
      go_ret
      exact ⟨rfl, rfl⟩
theorem rFirst_no (n : Int) (h : n < 64 ∨ 2048 < n) (w : World) : Calls Try.prog 13 #[.int .i64 n] w fun e w' => e = .returned (.int .i64 0) ∧ w = w' := by
  have hp := rPages_no n h w
  go_enter Try.func13, Try.ntmps13
  go_wp2_with (go_at_call 12; refine hp.mono ?_; rintro e w1 ⟨rfl, rfl⟩)
  go_ret
  exact ⟨rfl, rfl⟩
theorem rFirst_any (n : Nat) (h1 : 64 ≤ n) (h2 : n ≤ 2048) (w : World) : Calls Try.prog 13 #[.int .i64 (n : Nat)] w fun e w' => e = .returned (.int .i64 (frs n : Nat)) ∧ w = w' := by
  have hp := rPages_any n h1 h2 w
  have b2 := pgs_hi h2
  have hf := rRows_any (pgs n) (by omega) w
  have h0 : ¬ ((pgs n : Nat) : Int) = 0 := by have := pgs_lo h1; omega
  have hlb : lb (pgs n) ≤ 20 := by unfold lb; omega
  unfold frs
  generalize pgs n = q at *
  generalize lb q = r at *
  go_enter Try.func13, Try.ntmps13
  go_wp2_with (first | (go_at_call 12; refine hp.mono ?_; rintro e w1 ⟨rfl, rfl⟩) | (go_at_call 28; refine hf.mono ?_; rintro e w1 ⟨rfl, rfl⟩))
  go_ret
  exact ⟨rfl, rfl⟩
theorem rPage_any (n : Nat) (h1 : 64 ≤ n) (h2 : n ≤ 2048) (a : Int) (w : World) : Calls Try.prog 66 #[.int .i64 (n : Nat), .int .i64 a] w fun e w' => e = .returned (.bool (decide (isPg n a))) ∧ w = w' := by
  have hf : ∀ w, _ := fun w => rFirst_any n h1 h2 w
  have hp : ∀ w, _ := fun w => rPages_any n h1 h2 w
  have b1 := pgs_lo h1
  have b2 := pgs_hi h2
  have b3 : frs n ≤ 100000 := by have := frs_end h1; omega
  obtain ⟨b, hb⟩ : ∃ b, b = decide (isPg n a) := ⟨_, rfl⟩
  rw [← hb]
  have hB : b = true ↔ (a = 0 ∨ ((frs n : Nat) : Int) ≤ a ∧ a < ((frs n + pgs n - 1 : Nat) : Int)) := by rw [hb, decide_eq_true_iff]; exact Iff.rfl
  clear hb
  generalize pgs n = q at *
  generalize frs n = r at *
  by_cases c0 : a = 0
  · have hd : b = true := hB.2 (.inl c0)
    have e0 : (a == 0) = true := by simp [c0]
    subst hd
    clear hB c0
    go_enter Try.func66, Try.ntmps66
    go_wp2
    go_ret
    exact ⟨rfl, rfl⟩
  · have e0 : (a == 0) = false := by simp [c0]
    by_cases c1 : (r : Int) ≤ a
    · have e1 : decide ((r : Int) ≤ a) = true := decide_eq_true c1
      by_cases c2 : a < ((r + q - 1 : Nat) : Int)
      · have hd : b = true := hB.2 (.inr ⟨c1, c2⟩)
        have e2 : decide (a ≤ (r : Int) + (q : Int) - 2) = true := decide_eq_true (by omega)
        subst hd
        clear hB c0
        go_enter Try.func66, Try.ntmps66
        go_wp2_with (first | (go_at_call 13; refine (hf _).mono ?_; rintro e w1 ⟨rfl, rfl⟩) | (go_at_call 12; refine (hp _).mono ?_; rintro e w1 ⟨rfl, rfl⟩))
        go_ret
        exact ⟨rfl, rfl⟩
      · have hd : b = false := by cases b with | false => rfl | true => have := hB.1 rfl; omega
        have e2 : decide (a ≤ (r : Int) + (q : Int) - 2) = false := decide_eq_false (by omega)
        subst hd
        clear hB c0
        go_enter Try.func66, Try.ntmps66
        go_wp2_with (first | (go_at_call 13; refine (hf _).mono ?_; rintro e w1 ⟨rfl, rfl⟩) | (go_at_call 12; refine (hp _).mono ?_; rintro e w1 ⟨rfl, rfl⟩))
        go_ret
        exact ⟨rfl, rfl⟩
    · have e1 : decide ((r : Int) ≤ a) = false := decide_eq_false c1
      have hd : b = false := by cases b with | false => rfl | true => have := hB.1 rfl; omega
      subst hd
      clear hB c0
      go_enter Try.func66, Try.ntmps66
      go_wp2_with (first | (go_at_call 13; refine (hf _).mono ?_; rintro e w1 ⟨rfl, rfl⟩) | (go_at_call 12; refine (hp _).mono ?_; rintro e w1 ⟨rfl, rfl⟩))
      go_ret
      exact ⟨rfl, rfl⟩

end Go.Proofs.Ythinhlmefifffaa
