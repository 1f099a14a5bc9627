/-
  What the program's Set, the document's Set, and the fixed fact that each statement asks first answer, at every input.
-/
import Derived.Test.YtnpdleankjjeaaaNumA
import Derived.Deep.QuietTactic
import Derived.BigQuiet
namespace Go.Proofs.Ytnpdleankjjeaaa
open Go.RowKit
set_option linter.unusedVariables false

/-- What Set answers: s, in which the bytes from p on are n's. -/
def setOf (s : ByteArray) (p n c : Nat) : ByteArray := s.extract 0 p ++ ⟨(be n c).toArray⟩ ++ s.extract (p + c) s.size

set_option maxHeartbeats 400000 in
theorem set_ok (s : ByteArray) (p n c : Nat) (w : World) (h1 : 1 ≤ c) (h2 : c ≤ 8) (hn : n < 256 ^ c) (hs : s.size ≤ maxLen) (h : p + c ≤ s.size) :
    Calls Try.prog 14 #[.string s, .int .i64 p, .int .u64 n, .int .i64 c] w fun e w' => e = .returned (.tuple #[.string (setOf s p n c), .int .i64 0]) ∧ Below w.heap.size w w' := by
  have hs' := hs
  unfold maxLen at hs'
  have hlen := be_length n c
  go_enter Try.func14, Try.ntmps14
  go_wp2_with (first
    | (go_at_call 10; refine (put_ok n c _ h1 h2 hn).mono ?_; rintro e w1 ⟨rfl, hb⟩)
    | (go_at_call 23; refine (stands_yes s p c _ h2 hs h).mono ?_; rintro e w' ⟨rfl, rfl⟩))
  go_quiet (fail)
  go_wp2
  go_ret2
  exact ⟨rfl, below_drewN hb _⟩

theorem set_badWidth (s : ByteArray) (p n c : Int) (w : World) (h : c < 1 ∨ 8 < c) :
    Calls Try.prog 14 #[.string s, .int .i64 p, .int .u64 n, .int .i64 c] w fun e w' => e = .returned (.tuple #[.string ⟨#[]⟩, .int .i64 1]) ∧ w = w' := by
  go_enter Try.func14, Try.ntmps14
  go_wp2_with (go_at_call 10; refine (put_badWidth _ _ _ h).mono ?_; rintro e w' ⟨rfl, rfl⟩)
  go_ret2
  exact ⟨rfl, rfl⟩

theorem set_great (s : ByteArray) (p : Int) (n c : Nat) (w : World) (h1 : 1 ≤ c) (h2 : c ≤ 8) (hu : n ≤ 18446744073709551615) (hn : 256 ^ c ≤ n) :
    Calls Try.prog 14 #[.string s, .int .i64 p, .int .u64 n, .int .i64 c] w fun e w' => e = .returned (.tuple #[.string ⟨#[]⟩, .int .i64 1]) ∧ w = w' := by
  go_enter Try.func14, Try.ntmps14
  go_wp2_with (go_at_call 10; refine (put_great n c _ h1 h2 hu hn).mono ?_; rintro e w' ⟨rfl, rfl⟩)
  go_ret2
  exact ⟨rfl, rfl⟩

theorem set_off (s : ByteArray) (p : Int) (n c : Nat) (w : World) (h1 : 1 ≤ c) (h2 : c ≤ 8) (hn : n < 256 ^ c) (hp : -9223372036854775808 ≤ p ∧ p ≤ 9223372036854775807) (hs : s.size ≤ maxLen) (h : p < 0 ∨ s.size < p + c) :
    Calls Try.prog 14 #[.string s, .int .i64 p, .int .u64 n, .int .i64 c] w fun e w' => e = .returned (.tuple #[.string ⟨#[]⟩, .int .i64 3]) ∧ Below w.heap.size w w' := by
  go_enter Try.func14, Try.ntmps14
  go_wp2_with (first
    | (go_at_call 10; refine (put_ok n c _ h1 h2 hn).mono ?_; rintro e w1 ⟨rfl, hb⟩)
    | (go_at_call 23; refine (stands_no s p c _ h2 hp hs h).mono ?_; rintro e w' ⟨rfl, rfl⟩))
  go_ret2
  exact ⟨rfl, hb⟩

set_option maxHeartbeats 400000 in
theorem rSet_ok (s : ByteArray) (p n c : Nat) (w : World) (h1 : 1 ≤ c) (h2 : c ≤ 8) (hn : n < 256 ^ c) (hs : s.size ≤ maxLen) (h : p + c ≤ s.size) :
    Calls Try.prog 15 #[.string s, .int .i64 p, .int .u64 n, .int .i64 c] w fun e w' => e = .returned (.tuple #[.string (setOf s p n c), .int .i64 0]) ∧ Below w.heap.size w w' := by
  have hs' := hs
  unfold maxLen at hs'
  have hlen := be_length n c
  go_enter Try.func15, Try.ntmps15
  go_wp2_with (first
    | (go_at_call 11; refine (rPut_ok n c _ h1 h2 hn).mono ?_; rintro e w1 ⟨rfl, hb⟩)
    | (go_at_call 24; refine (place_yes s p c _ h2 hs h).mono ?_; rintro e w' ⟨rfl, rfl⟩))
  go_quiet (fail)
  go_wp2
  go_ret2
  exact ⟨rfl, below_drewN hb _⟩

theorem rSet_badWidth (s : ByteArray) (p n c : Int) (w : World) (h : c < 1 ∨ 8 < c) :
    Calls Try.prog 15 #[.string s, .int .i64 p, .int .u64 n, .int .i64 c] w fun e w' => e = .returned (.tuple #[.string ⟨#[]⟩, .int .i64 1]) ∧ w = w' := by
  go_enter Try.func15, Try.ntmps15
  go_wp2_with (go_at_call 11; refine (rPut_bad _ _ _ h).mono ?_; rintro e w' ⟨rfl, rfl⟩)
  go_ret2
  exact ⟨rfl, rfl⟩

theorem rSet_great (s : ByteArray) (p : Int) (n c : Nat) (w : World) (h1 : 1 ≤ c) (h2 : c ≤ 8) (hu : n ≤ 18446744073709551615) (hn : 256 ^ c ≤ n) :
    Calls Try.prog 15 #[.string s, .int .i64 p, .int .u64 n, .int .i64 c] w fun e w' => e = .returned (.tuple #[.string ⟨#[]⟩, .int .i64 1]) ∧ w = w' := by
  go_enter Try.func15, Try.ntmps15
  go_wp2_with (go_at_call 11; refine (rPut_great n c _ h1 h2 hu hn).mono ?_; rintro e w' ⟨rfl, rfl⟩)
  go_ret2
  exact ⟨rfl, rfl⟩

theorem rSet_off (s : ByteArray) (p : Int) (n c : Nat) (w : World) (h1 : 1 ≤ c) (h2 : c ≤ 8) (hn : n < 256 ^ c) (hp : -9223372036854775808 ≤ p ∧ p ≤ 9223372036854775807) (hs : s.size ≤ maxLen) (h : p < 0 ∨ s.size < p + c) :
    Calls Try.prog 15 #[.string s, .int .i64 p, .int .u64 n, .int .i64 c] w fun e w' => e = .returned (.tuple #[.string ⟨#[]⟩, .int .i64 3]) ∧ Below w.heap.size w w' := by
  go_enter Try.func15, Try.ntmps15
  go_wp2_with (first
    | (go_at_call 11; refine (rPut_ok n c _ h1 h2 hn).mono ?_; rintro e w1 ⟨rfl, hb⟩)
    | (go_at_call 24; refine (place_no s p c _ h2 hp hs h).mono ?_; rintro e w' ⟨rfl, rfl⟩))
  go_ret2
  exact ⟨rfl, hb⟩

theorem wake_put (w : World) : Calls Try.prog 10 #[.int .u64 258, .int .i64 2] w fun e w' => e = .returned (.tuple #[.string ⟨#[1, 2]⟩, .int .i64 0]) ∧ Below w.heap.size w w' :=
  put_ok 258 2 w (by omega) (by omega) (by omega)

theorem wake_get (w : World) : Calls Try.prog 12 #[.string ⟨#[0, 1, 2]⟩, .int .i64 1, .int .i64 2] w fun e w' => e = .returned (.tuple #[.int .u64 258, .int .i64 0]) ∧ w = w' :=
  get_ok ⟨#[0, 1, 2]⟩ 1 2 w (by omega) (by omega) (by decide) (by decide)

theorem wake_set (w : World) : Calls Try.prog 14 #[.string ⟨#[97, 98, 99]⟩, .int .i64 1, .int .u64 122, .int .i64 1] w fun e w' => e = .returned (.tuple #[.string ⟨#[97, 122, 99]⟩, .int .i64 0]) ∧ Below w.heap.size w w' := by
  have e : setOf ⟨#[97, 98, 99]⟩ 1 122 1 = ⟨#[97, 122, 99]⟩ := by decide
  refine (set_ok ⟨#[97, 98, 99]⟩ 1 122 1 w (by omega) (by omega) (by omega) (by decide) (by decide)).mono fun x w' h => ?_
  rw [e] at h
  exact h

theorem wakes_any (w : World) : Calls Try.prog 9 #[] w fun e w' => e = .returned (.bool true) ∧ Below w.heap.size w w' := by
  go_enter Try.func9, Try.ntmps9
  go_wp2_with (first
    | (go_at_call 10; refine (wake_put _).mono ?_; rintro e w1 ⟨rfl, hb1⟩)
    | (go_at_call 12; refine (wake_get _).mono ?_; rintro e w' ⟨rfl, rfl⟩)
    | (go_at_call 14; refine (wake_set _).mono ?_; rintro e w2 ⟨rfl, hb2⟩))
  go_ret
  exact ⟨rfl, hb1.trans (hb2.mono hb1.size)⟩
end Go.Proofs.Ytnpdleankjjeaaa
