/-
  What the small calls answer: rooms, numbers of pages, sizes.
-/
import Derived.Test.YtoecopmbaoklkaaP10
namespace Go.Proofs.Ytoecopmbaoklkaa
open Go.RowKit
set_option linter.unusedVariables false
set_option linter.unusedSimpArgs false
set_option maxRecDepth 100000

theorem listBlocks_any (m : Nat) (h : m ≤ 100000) (w : World) : Calls Try.prog 80 #[.int .i64 (m : Nat)] w fun e w' => e = .returned (.int .i64 (lb m : Nat)) ∧ w = w' := by
  have HL : Hid ((((lb m : Nat) : Int)) = ((m : Int) + 128 - 1) / 128) := by show _ = _; unfold lb; omega
  go_enter Try.func80, Try.ntmps80
  go_wp2
  go_ret
  exact ⟨by rw [HL.out]; rfl, rfl⟩
theorem copiesAt_any (m : Nat) (h : m ≤ 100000) (w : World) : Calls Try.prog 77 #[.int .i64 (m : Nat)] w fun e w' => e = .returned (.int .i64 (2 + lb m : Nat)) ∧ w = w' := by
  have hl := listBlocks_any m h w
  have hb : lb m ≤ 100000 := by unfold lb; omega
  generalize lb m = x at hl hb
  go_enter Try.func77, Try.ntmps77
  go_wp2_with (go_at_call 80; refine hl.mono ?_; rintro e w1 ⟨rfl, rfl⟩)
  go_ret
  exact ⟨rfl, rfl⟩
theorem firstPage_any (m : Nat) (h : m ≤ 100000) (w : World) : Calls Try.prog 85 #[.int .i64 (m : Nat)] w fun e w' => e = .returned (.int .i64 (2 + lb m + m : Nat)) ∧ w = w' := by
  have hl := copiesAt_any m h w
  have hb : 2 + lb m ≤ 100002 := by unfold lb; omega
  generalize 2 + lb m = x at hl hb
  go_enter Try.func85, Try.ntmps85
  go_wp2_with (go_at_call 77; refine hl.mono ?_; rintro e w1 ⟨rfl, rfl⟩)
  go_ret
  exact ⟨rfl, rfl⟩

theorem pages_no (n : Int) (h : n < 64 ∨ 2048 < n) (w : World) : Calls Try.prog 60 #[.int .i64 n] w fun e w' => e = .returned (.int .i64 0) ∧ w = w' := by
  rcases h with h | h
  · have hd : decide (n < 64) = true := decide_eq_true h
    go_enter Try.func60, Try.ntmps60
    go_wp2
    go_ret
    exact ⟨rfl, rfl⟩
  · have hd : decide (n < 64) = false := decide_eq_false (by omega)
    go_enter Try.func60, Try.ntmps60
    go_wp2
    go_ret
    exact ⟨rfl, rfl⟩
theorem pages_any (n : Nat) (h1 : 64 ≤ n) (h2 : n ≤ 2048) (w : World) : Calls Try.prog 60 #[.int .i64 (n : Nat)] w fun e w' => e = .returned (.int .i64 (pgs n : Nat)) ∧ w = w' := by
  have hd : decide ((n : Int) < 64) = false := decide_eq_false (by omega)
  have f1 := pgs_fit h1
  have f3 := pgs_hi h2
  have f2 : ∀ m, pgs n < m → n < 2 * m + 1 + lb m := fun m hm => by
    have := pgs_more h1
    have := @lb_mono (pgs n + 1) m hm
    omega
  have hl : ∀ m : Nat, m ≤ 2048 → _ := fun m hm => listBlocks_any m (by omega) w
  have hlb : ∀ m : Nat, m ≤ 2048 → lb m ≤ 20 := fun m hm => by unfold lb; omega
  generalize pgs n = q at *
  go_enter Try.func60, Try.ntmps60
  go_wp2
  go_loop [3] (fun x => ∃ m : Nat, q ≤ m ∧ m ≤ 2048 ∧ x = .int .i64 (m : Nat)) (fun x => (intOf x).toNat)
  case atStart => exact ⟨n / 2, by omega, by omega, by go_num⟩
  case round =>
    obtain ⟨m, hm1, hm2, rfl⟩ := hrel
    have hlm := hl m hm2
    have hbm := hlb m hm2
    by_cases hlt : q < m
    · have hf := f2 m hlt
      generalize lb m = x at hlm hbm hf
      go_wp2_with (go_at_call 80; refine hlm.mono ?_; rintro e w1 ⟨rfl, rfl⟩)
      go_round
      case rel => exact ⟨m - 1, by omega, by omega, by go_num⟩
      case measure => simp [intOf]; omega
    · obtain rfl : m = q := by omega
      generalize lb m = x at hlm hbm f1
      go_wp2_with (go_at_call 80; refine hlm.mono ?_; rintro e w1 ⟨rfl, rfl⟩)
      go_ret
      exact ⟨rfl, rfl⟩
theorem first_no (n : Int) (h : n < 64 ∨ 2048 < n) (w : World) : Calls Try.prog 67 #[.int .i64 n] w fun e w' => e = .returned (.int .i64 0) ∧ w = w' := by
  have hp := pages_no n h w
  go_enter Try.func67, Try.ntmps67
  go_wp2_with (go_at_call 60; refine hp.mono ?_; rintro e w1 ⟨rfl, rfl⟩)
  go_ret
  exact ⟨rfl, rfl⟩
theorem first_any (n : Nat) (h1 : 64 ≤ n) (h2 : n ≤ 2048) (w : World) : Calls Try.prog 67 #[.int .i64 (n : Nat)] w fun e w' => e = .returned (.int .i64 (frs n : Nat)) ∧ w = w' := by
  have hp := pages_any n h1 h2 w
  have hf := firstPage_any (pgs n) (by have := pgs_hi h2; omega) w
  rw [show 2 + lb (pgs n) + pgs n = frs n from rfl] at hf
  have h0 : ¬ ((pgs n : Nat) : Int) = 0 := by have := pgs_lo h1; omega
  generalize pgs n = q at hp hf h0
  generalize frs n = r at hf
  go_enter Try.func67, Try.ntmps67
  go_wp2_with (first | (go_at_call 60; refine hp.mono ?_; rintro e w1 ⟨rfl, rfl⟩) | (go_at_call 85; refine hf.mono ?_; rintro e w1 ⟨rfl, rfl⟩))
  go_ret
  exact ⟨rfl, rfl⟩
theorem isPage_any (n : Nat) (h1 : 64 ≤ n) (h2 : n ≤ 2048) (a : Int) (w : World) : Calls Try.prog 74 #[.int .i64 (pgs n : Nat), .int .i64 a] w fun e w' => e = .returned (.bool (decide (isPg n a))) ∧ w = w' := by
  have hf : ∀ w, _ := fun w => firstPage_any (pgs n) (by have := pgs_hi h2; omega) w
  rw [show 2 + lb (pgs n) + pgs n = frs n from rfl] at hf
  have b1 := pgs_lo h1
  have b2 := pgs_hi h2
  have b3 : frs n ≤ 100000 := by have := frs_end h1; omega
  obtain ⟨b, hb⟩ : ∃ b, b = decide (isPg n a) := ⟨_, rfl⟩
  rw [← hb]
  have hB : b = true ↔ (a = 0 ∨ ((frs n : Nat) : Int) ≤ a ∧ a < ((frs n + pgs n - 1 : Nat) : Int)) := by rw [hb, decide_eq_true_iff]; exact Iff.rfl
  clear hb
  generalize pgs n = q at *
  generalize frs n = r at *
  by_cases c0 : a = 0
  · have hd : b = true := hB.2 (.inl c0)
    have e0 : (a == 0) = true := by simp [c0]
    subst hd
    clear hB c0
    go_enter Try.func74, Try.ntmps74
    go_wp2
    go_ret
    exact ⟨rfl, rfl⟩
  · have e0 : (a == 0) = false := by simp [c0]
    by_cases c1 : (r : Int) ≤ a
    · have e1 : decide ((r : Int) ≤ a) = true := decide_eq_true c1
      by_cases c2 : a < ((r + q - 1 : Nat) : Int)
      · have hd : b = true := hB.2 (.inr ⟨c1, c2⟩)
        have e2 : decide (a < (r : Int) + (q : Int) - 1) = true := decide_eq_true (by omega)
        subst hd
        clear hB c0
        go_enter Try.func74, Try.ntmps74
        go_wp2_with (go_at_call 85; refine (hf _).mono ?_; rintro e w1 ⟨rfl, rfl⟩)
        go_ret
        exact ⟨rfl, rfl⟩
      · have hd : b = false := by cases b with | false => rfl | true => have := hB.1 rfl; omega
        have e2 : decide (a < (r : Int) + (q : Int) - 1) = false := decide_eq_false (by omega)
        subst hd
        clear hB c0
        go_enter Try.func74, Try.ntmps74
        go_wp2_with (go_at_call 85; refine (hf _).mono ?_; rintro e w1 ⟨rfl, rfl⟩)
        go_ret
        exact ⟨rfl, rfl⟩
    · have e1 : decide ((r : Int) ≤ a) = false := decide_eq_false c1
      have hd : b = false := by cases b with | false => rfl | true => have := hB.1 rfl; omega
      subst hd
      clear hB c0
      go_enter Try.func74, Try.ntmps74
      go_wp2_with (go_at_call 85; refine (hf _).mono ?_; rintro e w1 ⟨rfl, rfl⟩)
      go_ret
      exact ⟨rfl, rfl⟩

end Go.Proofs.Ytoecopmbaoklkaa
