/-
  The small calls of layer 15, the program's and the document's: put, get, padded, addresses.
-/
import Derived.Test.YthohopbolalpcaaApp
import Derived.Test.YthohopbolalpcaaNumC
import Derived.Test.YthohopbolalpcaaMix
import Derived.Test.YthohopbolalpcaaNamK
namespace Go.Proofs.Ythohopbolalpcaa
open Go.RowKit
set_option linter.unusedVariables false
set_option linter.unusedSimpArgs false
set_option maxRecDepth 100000

/-- may a number be an address? -/
def isA (a : Nat) : Bool := decide (a < 281474976710656) && decide (a % 65536 ≠ 0)

theorem sput (n c : Nat) (w : World) (h1 : 1 ≤ c) (h2 : c ≤ 8) (hn : n < 256 ^ c) :
    Calls Try.prog 43 #[.int .u64 (n : Nat), .int .i64 (c : Nat)] w fun e w' => e = .returned (.string ⟨(be n c).toArray⟩) ∧ Below w.heap.size w w' := by
  have hp := put_ok n c w h1 h2 hn
  clear h1 h2 hn
  generalize (⟨(be n c).toArray⟩ : ByteArray) = s at *
  go_enter Try.func43, Try.ntmps43
  go_wp2_with (go_at_call 57; refine hp.mono ?_; rintro e w1 ⟨rfl, hb1⟩)
  go_ret
  exact ⟨rfl, hb1⟩
theorem rput (n c : Nat) (w : World) (h1 : 1 ≤ c) (h2 : c ≤ 8) (hn : n < 256 ^ c) :
    Calls Try.prog 27 #[.int .u64 (n : Nat), .int .i64 (c : Nat)] w fun e w' => e = .returned (.string ⟨(be n c).toArray⟩) ∧ Below w.heap.size w w' := by
  have hp := rPut_ok n c w h1 h2 hn
  clear h1 h2 hn
  generalize (⟨(be n c).toArray⟩ : ByteArray) = s at *
  go_enter Try.func27, Try.ntmps27
  go_wp2_with (go_at_call 44; refine hp.mono ?_; rintro e w1 ⟨rfl, hb1⟩)
  go_ret
  exact ⟨rfl, hb1⟩
theorem spad (s : ByteArray) (w : World) (h : s.size ≤ 8) :
    Calls Try.prog 42 #[.string s] w fun e w' => e = .returned (.string (padOf s 8)) ∧ Below w.heap.size w w' := by
  have hp := pad_ok s 8 w (by omega) h
  generalize padOf s 8 = t at *
  go_enter Try.func42, Try.ntmps42
  go_wp2_with (go_at_call 56; refine hp.mono ?_; rintro e w1 ⟨rfl, hb1⟩)
  go_ret
  exact ⟨rfl, hb1⟩
theorem rpad (s : ByteArray) (w : World) (h : s.size ≤ 8) :
    Calls Try.prog 26 #[.string s] w fun e w' => e = .returned (.string (padOf s 8)) ∧ Below w.heap.size w w' := by
  obtain ⟨m, hm⟩ : ∃ m : Nat, 8 - s.size = m := ⟨_, rfl⟩
  have hp := zeros_ok m w (by omega)
  have hmi : (8 : Int) - (s.size : Int) = (m : Int) := by omega
  have hs : s.size ≤ maxLen := by unfold maxLen; omega
  have hz : (⟨(List.replicate m 0).toArray⟩ : ByteArray).size = m := by show (List.replicate m (0 : UInt8)).toArray.size = m; simp
  have he : s ++ (⟨(List.replicate m 0).toArray⟩ : ByteArray) = padOf s 8 := by
    unfold padOf
    rw [hm]
    apply ByteArray.ext
    apply Array.toList_inj.1
    simp
  have hsz : s.size + (⟨(List.replicate m 0).toArray⟩ : ByteArray).size ≤ 8 := by rw [hz]; omega
  clear hm
  generalize (⟨(List.replicate m 0).toArray⟩ : ByteArray) = t at *
  go_enter Try.func26, Try.ntmps26
  go_wp2_with (go_at_call 32; refine hp.mono ?_; rintro e w1 ⟨rfl, hb1⟩)
  go_ret
  exact ⟨rfl, hb1⟩
theorem sget (s : ByteArray) (p c : Nat) (w : World) (h1 : 1 ≤ c) (h2 : c ≤ 8) (hs : s.size ≤ maxLen) (h : p + c ≤ s.size) :
    Calls Try.prog 51 #[.string s, .int .i64 (p : Nat), .int .i64 (c : Nat)] w fun e w' => e = .returned (.int .u64 (val (sub s p c) : Nat)) ∧ w = w' := by
  have hp := get_ok s p c w h1 h2 hs h
  generalize val (sub s p c) = v at *
  go_enter Try.func51, Try.ntmps51
  go_wp2_with (go_at_call 76; refine hp.mono ?_; rintro e w1 ⟨rfl, rfl⟩)
  go_ret
  exact ⟨rfl, rfl⟩
theorem rnum (s : ByteArray) (p c : Nat) (w : World) (h1 : 1 ≤ c) (h2 : c ≤ 8) (hs : s.size ≤ maxLen) (h : p + c ≤ s.size) :
    Calls Try.prog 36 #[.string s, .int .i64 (p : Nat), .int .i64 (c : Nat)] w fun e w' => e = .returned (.int .u64 (val (sub s p c) : Nat)) ∧ w = w' := by
  have hp := rGet_ok s p c w h1 h2 hs h
  generalize val (sub s p c) = v at *
  go_enter Try.func36, Try.ntmps36
  go_wp2_with (go_at_call 53; refine hp.mono ?_; rintro e w1 ⟨rfl, rfl⟩)
  go_ret
  exact ⟨rfl, rfl⟩

theorem and_low64 (n : Nat) (h : n < 18446744073709551616) : bits .and .u64 (n : Int) 65535 = ((n % 65536 : Nat) : Int) := by
  have h1 := u64_and_nat n 65535 h (by omega)
  have e : n &&& 65535 = n % 65536 := Nat.and_two_pow_sub_one_eq_mod n 16
  rw [e] at h1
  exact h1
theorem or_shift (b a : Nat) (hb : b < 4294967296) (ha : a < 65536) : bits .or .u64 ((b : Int) * 65536) (a : Int) = ((b * 65536 + a : Nat) : Int) := by
  have h1 := u64_or_nat (b * 65536) a (by omega) (by omega)
  have e : b * 65536 ||| a = b * 65536 + a := by
    have := Nat.two_pow_add_eq_or_of_lt (i := 16) (b := a) (by omega) b
    simp only [Nat.reducePow] at this
    rw [Nat.mul_comm b 65536]; omega
  rw [e] at h1
  rw [← h1]
  congr 1

/-- Parts -/
theorem parts_yes (a : Nat) (w : World) (h : isA a = true) :
    Calls Try.prog 14 #[.int .u64 (a : Nat)] w fun e w' => e = .returned (.tuple #[.int .u32 (a / 65536 : Nat), .int .i64 (a % 65536 : Nat), .bool true]) ∧ w = w' := by
  simp only [isA, Bool.and_eq_true, decide_eq_true_eq] at h
  have hb := and_low64 a (by omega)
  have e1 : (a : Int) / 65536 = ((a / 65536 : Nat) : Int) := by omega
  obtain ⟨q, hq⟩ : ∃ q, a / 65536 = q := ⟨_, rfl⟩
  obtain ⟨r, hr⟩ : ∃ r, a % 65536 = r := ⟨_, rfl⟩
  rw [hq] at e1 ⊢
  rw [hr] at hb ⊢
  have q1 : q < 4294967296 := by omega
  have r1 : r < 65536 := by omega
  have r0 : ¬ (r : Int) = 0 := by omega
  have q2 : ¬ (4294967295 : Int) < (q : Int) := by omega
  clear hq hr h
  go_enter Try.func14, Try.ntmps14
  go_wp2
  go_ret3
  exact ⟨rfl, rfl⟩
theorem parts_no (a : Nat) (w : World) (ha : a < 18446744073709551616) (h : isA a = false) :
    Calls Try.prog 14 #[.int .u64 (a : Nat)] w fun e w' => e = .returned (.tuple #[.int .u32 0, .int .i64 0, .bool false]) ∧ w = w' := by
  have hb := and_low64 a ha
  have e1 : (a : Int) / 65536 = ((a / 65536 : Nat) : Int) := by omega
  obtain ⟨q, hq⟩ : ∃ q, a / 65536 = q := ⟨_, rfl⟩
  obtain ⟨r, hr⟩ : ∃ r, a % 65536 = r := ⟨_, rfl⟩
  rw [hq] at e1
  rw [hr] at hb
  have r1 : r < 65536 := by omega
  rcases (by simp only [isA, Bool.and_eq_false_iff, decide_eq_false_iff_not] at h; omega : 4294967295 < q ∨ (¬ 4294967295 < q ∧ r = 0)) with hc | ⟨hc, rfl⟩
  · have q2 : (4294967295 : Int) < (q : Int) := by omega
    clear hq hr h hc
    go_enter Try.func14, Try.ntmps14
    go_wp2
    go_ret3
    exact ⟨rfl, rfl⟩
  · have q2 : ¬ (4294967295 : Int) < (q : Int) := by omega
    clear hq hr h hc
    go_enter Try.func14, Try.ntmps14
    go_wp2
    go_ret3
    exact ⟨rfl, rfl⟩
theorem isAddr_any (a : Nat) (w : World) (ha : a < 18446744073709551616) :
    Calls Try.prog 40 #[.int .u64 (a : Nat)] w fun e w' => e = .returned (.bool (isA a)) ∧ w = w' := by
  cases h : isA a
  · have hp := parts_no a w ha h
    clear h
    go_enter Try.func40, Try.ntmps40
    go_wp2_with (go_at_call 14; refine hp.mono ?_; rintro e w1 ⟨rfl, rfl⟩)
    go_ret
    exact ⟨rfl, rfl⟩
  · have hp := parts_yes a w h
    clear h
    go_enter Try.func40, Try.ntmps40
    go_wp2_with (go_at_call 14; refine hp.mono ?_; rintro e w1 ⟨rfl, rfl⟩)
    go_ret
    exact ⟨rfl, rfl⟩
theorem rIsAddr_any (a : Nat) (w : World) (ha : a < 18446744073709551616) :
    Calls Try.prog 15 #[.int .u64 (a : Nat)] w fun e w' => e = .returned (.bool (isA a)) ∧ w = w' := by
  have e1 : (a : Int) % 65536 = ((a % 65536 : Nat) : Int) := by omega
  by_cases h1 : a < 281474976710656
  · by_cases h2 : a % 65536 = 0
    · have h : isA a = false := by simp [isA, h2]
      have c1 : (a : Int) < 281474976710656 := by omega
      rw [h2] at e1
      rw [h]
      clear h h1 h2
      go_enter Try.func15, Try.ntmps15
      go_wp2
      go_ret
      exact ⟨rfl, rfl⟩
    · have h : isA a = true := by simp [isA, h1, h2]
      have c1 : (a : Int) < 281474976710656 := by omega
      obtain ⟨r, hr⟩ : ∃ r, a % 65536 = r := ⟨_, rfl⟩
      rw [hr] at e1
      have r0 : ((r : Int) != 0) = true := by rw [bne_iff_ne]; omega
      rw [h]
      clear h h1 h2 hr
      go_enter Try.func15, Try.ntmps15
      go_wp2
      go_ret
      exact ⟨rfl, rfl⟩
  · have h : isA a = false := by simp [isA, h1]
    have c1 : ¬ (a : Int) < 281474976710656 := by omega
    rw [h]
    clear h h1
    go_enter Try.func15, Try.ntmps15
    go_wp2
    go_ret
    exact ⟨rfl, rfl⟩
theorem addr_yes (h s : Nat) (w : World) (hh : h < 4294967296) (h1 : 1 ≤ s) (h2 : s ≤ 65535) :
    Calls Try.prog 13 #[.int .u32 (h : Nat), .int .i64 (s : Nat)] w fun e w' => e = .returned (.tuple #[.int .u64 (h * 65536 + s : Nat), .int .i64 0]) ∧ w = w' := by
  have ho := or_shift h s hh (by omega)
  have c1 : ¬ (s : Int) < 1 := by omega
  have c2 : ¬ (65535 : Int) < (s : Int) := by omega
  generalize h * 65536 + s = q at *
  go_enter Try.func13, Try.ntmps13
  go_wp2
  go_ret2
  exact ⟨rfl, rfl⟩
theorem addr_no (h : Nat) (s : Int) (w : World) (hh : ¬ (1 ≤ s ∧ s ≤ 65535)) :
    Calls Try.prog 13 #[.int .u32 (h : Nat), .int .i64 s] w fun e w' => e = .returned (.tuple #[.int .u64 0, .int .i64 1]) ∧ w = w' := by
  rcases (by omega : s < 1 ∨ (¬ s < 1 ∧ 65535 < s)) with c1 | ⟨c1, c2⟩
  · go_enter Try.func13, Try.ntmps13
    go_wp2
    go_ret2
    exact ⟨rfl, rfl⟩
  · go_enter Try.func13, Try.ntmps13
    go_wp2
    go_ret2
    exact ⟨rfl, rfl⟩
end Go.Proofs.Ythohopbolalpcaa

