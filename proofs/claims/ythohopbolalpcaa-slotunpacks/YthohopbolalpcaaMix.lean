/-
  What the program's calls Hash, Sum and More, the document's, and their helpers answer, at every input.
-/
import Derived.Test.YthohopbolalpcaaProg
import Derived.Test.YthohopbolalpcaaMixPlain
import Derived.WalkKit
import Derived.WalkSpells
import Derived.WalkLawsBesides
import Derived.Laws.Bits64b
import Derived.Laws.BitsAllLaws
namespace Go.Proofs.Ythohopbolalpcaa
open Go.RowKit
set_option linter.unusedVariables false

/-- The first k bytes of s. -/
def front (s : ByteArray) (k : Nat) : List UInt8 := s.data.toList.take k

theorem front_snoc (s : ByteArray) (k : Nat) (h : k < s.size) : front s (k + 1) = front s k ++ [s[k]] := by
  have hl : k < s.data.toList.length := h
  unfold front
  rw [List.take_succ_eq_append_getElem hl]
  rfl

theorem front_all (s : ByteArray) : front s s.size = s.data.toList := by
  unfold front
  exact List.take_length

theorem and_low (n : Nat) (h : n < 4294967296) : bits .and .u32 (n : Int) 65535 = ((n % 65536 : Nat) : Int) := by
  have h1 := u32_and_nat n 65535 h (by omega)
  have e : n &&& 65535 = n % 65536 := Nat.and_two_pow_sub_one_eq_mod n 16
  rw [e] at h1
  exact h1

theorem or_low (b a : Nat) (hb : b < 65521) (ha : a < 65521) : bits .or .u32 ((b : Int) * 65536) (a : Int) = ((b * 65536 + a : Nat) : Int) := by
  have h := u32_or_nat (b * 65536) a (by omega) (by omega)
  have e : b * 65536 ||| a = b * 65536 + a := by
    have := Nat.shiftLeft_add_eq_or_of_lt (i := 16) (b := a) (by omega) b
    rw [Nat.shiftLeft_eq] at this
    simpa using this.symm
  rw [e] at h
  simpa using h

/-- What a round of the sum's loop keeps: the two numbers stand below the modulus. -/
theorem run_pair {n k a b : Nat} {s : ByteArray} (h : (a, b) = run (halves n) (front s k)) : a < 65521 ∧ b < 65521 := by
  have h1 := run_lt (halves n) (front s k) (halves_lt n).1 (halves_lt n).2
  rw [← h] at h1
  exact h1

theorem run_next {n k a b : Nat} {s : ByteArray} (h : (a, b) = run (halves n) (front s k)) (hk : k < s.size) :
    ((a + s[k].toNat) % 65521, (b + (a + s[k].toNat) % 65521) % 65521) = run (halves n) (front s (k + 1)) := by
  rw [front_snoc s k hk, run_snoc, ← h]
  rfl

theorem more_of {n a b : Nat} {s : ByteArray} (h : (a, b) = run (halves n) (front s s.size)) : b * 65536 + a = more n s.data.toList := by
  rw [front_all] at h
  unfold more
  rw [← h]
  rfl

theorem low_any (n : Int) (w : World) (h0 : 0 ≤ n) (hn : n ≤ 18446744073709551615) :
    Calls Try.prog 45 #[.int .u64 n] w fun e w' => e = .returned (.int .u64 (n % 4294967296)) ∧ w = w' := by
  go_enter Try.func45, Try.ntmps45
  go_wp2
  go_ret
  exact ⟨rfl, rfl⟩

theorem down_cast {h k f m : Nat} (hm : m = h / 2 ^ k) : ((h ^^^ m : Nat) : Int) * (f : Int) % 4294967296 = ((down h k f : Nat) : Int) := by
  unfold down
  rw [← hm, ← Int.natCast_mul]
  generalize (h ^^^ m) * f = y
  omega

set_option maxHeartbeats 400000 in
theorem down_any (h k f : Nat) (w : World) (hh : h < 4294967296) (hk : k ≤ 16) (hf : f < 4294967296) :
    Calls Try.prog 46 #[.int .u64 h, .int .u64 k, .int .u64 f] w fun e w' => e = .returned (.int .u64 (down h k f)) ∧ w = w' := by
  go_enter Try.func46, Try.ntmps46
  go_wp2
  go_loop [7, 8] (fun x i => ∃ j m : Nat, j ≤ k ∧ m = h / 2 ^ j ∧ i = .int .u64 j ∧ x = .int .u64 m) (fun _ i => k - (intOf i).toNat)
  case atStart => exact ⟨0, h, Nat.zero_le _, by simp, rfl, rfl⟩
  case round =>
    obtain ⟨j, m, hj, hm, rfl, rfl⟩ := hrel
    have hmu : m < 4294967296 := by rw [hm]; exact Nat.lt_of_le_of_lt (Nat.div_le_self _ _) hh
    have HM : Hid (m = h / 2 ^ j) := hm
    clear hm
    by_cases hlt : j < k
    · go_wp2
      go_round
      case rel => exact ⟨j + 1, m / 2, by omega, by rw [HM.out, Nat.div_div_eq_div_mul, Nat.pow_succ], by go_num, by go_num⟩
      case measure => simp [intOf]; omega
    · have hjk : j = k := by omega
      subst hjk
      have hx := xor_lt hh hmu
      have HX := bits_xor_u64_nat h m (by omega) (by omega)
      have hp : ((h ^^^ m : Nat) : Int) * (f : Int) ≤ 18446744073709551615 := by
        have hx' : h ^^^ m ≤ 4294967295 := by omega
        have hf' : f ≤ 4294967295 := by omega
        have := Nat.mul_le_mul hx' hf'
        rw [← Int.natCast_mul]
        omega
      have hp0 : 0 ≤ ((h ^^^ m : Nat) : Int) * (f : Int) := by
        rw [← Int.natCast_mul]
        omega
      have HD : Hid (((h ^^^ m : Nat) : Int) * (f : Int) % 4294967296 = ((down h j f : Nat) : Int)) := down_cast HM.out
      go_wp2_with (go_at_call 45; refine (low_any _ _ hp0 hp).mono ?_; rintro e w' ⟨rfl, rfl⟩)
      go_ret
      refine ⟨?_, rfl⟩
      rw [HD.out]
      rfl

theorem down_at (h : Nat) (k f : Int) (w : World) (hh : h < 4294967296) (k0 : 0 ≤ k) (hk : k ≤ 16) (f0 : 0 ≤ f) (hf : f < 4294967296) :
    Calls Try.prog 46 #[.int .u64 h, .int .u64 k, .int .u64 f] w fun e w' => e = .returned (.int .u64 (down h k.toNat f.toNat)) ∧ w = w' := by
  obtain ⟨k, rfl⟩ : ∃ n : Nat, k = n := ⟨k.toNat, by omega⟩
  obtain ⟨f, rfl⟩ : ∃ n : Nat, f = n := ⟨f.toNat, by omega⟩
  exact down_any h k f w hh (by omega) (by omega)

theorem hstep_cast {h : Nat} {c : UInt8} : ((h ^^^ c.toNat : Nat) : Int) * 16777619 % 4294967296 = ((hstep h c : Nat) : Int) := by
  unfold hstep
  generalize h ^^^ c.toNat = y
  omega

theorem xor_down (h d k : Nat) (hh : h < 4294967296) (hd : 2 ^ k = d) : bits .xor .u32 (h : Int) ((h : Int) / (d : Int)) = ((h ^^^ h / 2 ^ k : Nat) : Int) := by
  subst hd
  rw [← Int.natCast_ediv]
  exact u32_xor_nat h _ hh (Nat.lt_of_le_of_lt (Nat.div_le_self _ _) hh)

theorem blend_one (h : Nat) (hh : h < 4294967296) : bits .xor .u32 (h : Int) ((h : Int) / 65536) * 2246822507 % 4294967296 = ((down h 16 2246822507 : Nat) : Int) := by
  rw [show bits .xor .u32 (h : Int) ((h : Int) / 65536) = _ from xor_down h 65536 16 hh (by decide)]
  exact down_cast rfl

theorem blend_two (h : Nat) (hh : h < 4294967296) : bits .xor .u32 (h : Int) ((h : Int) / 8192) * 3266489909 % 4294967296 = ((down h 13 3266489909 : Nat) : Int) := by
  rw [show bits .xor .u32 (h : Int) ((h : Int) / 8192) = _ from xor_down h 8192 13 hh (by decide)]
  exact down_cast rfl

theorem blend_three (h : Nat) (hh : h < 4294967296) : bits .xor .u32 (h : Int) ((h : Int) / 65536) = ((down h 16 1 : Nat) : Int) := by
  rw [show bits .xor .u32 (h : Int) ((h : Int) / 65536) = _ from xor_down h 65536 16 hh (by decide)]
  have hx := xor_lt hh (b := h / 2 ^ 16) (Nat.lt_of_le_of_lt (Nat.div_le_self _ _) hh)
  unfold down
  rw [Nat.mul_one, Nat.mod_eq_of_lt hx]

theorem blend_any (h : Nat) (w : World) (hh : h < 4294967296) :
    Calls Try.prog 41 #[.int .u32 h] w fun e w' => e = .returned (.int .u32 (down (down (down h 16 2246822507) 13 3266489909) 16 1)) ∧ w = w' := by
  have H1 : Hid (bits .xor .u32 (h : Int) ((h : Int) / 65536) * 2246822507 % 4294967296 = ((down h 16 2246822507 : Nat) : Int)) := blend_one h hh
  have H2 := blend_two (down h 16 2246822507) (down_lt _ _ _)
  have H3 := blend_three (down (down h 16 2246822507) 13 3266489909) (down_lt _ _ _)
  have H2' : Hid _ := H2
  have H3' : Hid _ := H3
  clear H2 H3
  go_enter Try.func41, Try.ntmps41
  go_wp2
  go_ret
  refine ⟨?_, rfl⟩
  rw [H1.out, H2'.out, H3'.out]
  rfl

theorem hash_xor (h : Nat) (c : UInt8) (hh : h < 4294967296) : bits .xor .u32 (h : Int) (c.toNat : Int) * 16777619 % 4294967296 = ((hstep h c : Nat) : Int) := by
  have hc := c.toNat_lt
  rw [u32_xor_nat h _ hh (by omega)]
  exact hstep_cast

set_option maxHeartbeats 400000 in
theorem hash_any (s : ByteArray) (w : World) (hs : s.size ≤ maxLen) :
    Calls Try.prog 23 #[.string s] w fun e w' => e = .returned (.int .u32 (hash s.data.toList)) ∧ w = w' := by
  unfold maxLen at hs
  go_enter Try.func23, Try.ntmps23
  go_wp2
  go_loop [3, 7] (fun x i => ∃ k a : Nat, k ≤ s.size ∧ a = (front s k).foldl hstep 2166136261 ∧ i = .int .i64 k ∧ x = .int .u32 a) (fun _ i => s.size - (intOf i).toNat)
  case atStart => exact ⟨0, 2166136261, Nat.zero_le _, rfl, rfl, rfl⟩
  case round =>
    obtain ⟨k, a, hk, hab, rfl, rfl⟩ := hrel
    have ha : a < 4294967296 := by rw [hab]; exact hrun_lt _ _ (by omega)
    have HB : Hid (a = (front s k).foldl hstep 2166136261) := hab
    clear hab
    by_cases hlt : k < s.size
    · have hby : (s[k].toNat : Int) ≤ 255 := by have := s[k].toNat_lt; omega
      have HX : Hid (bits .xor .u32 (a : Int) (s[k].toNat : Int) * 16777619 % 4294967296 = ((hstep a s[k] : Nat) : Int)) := hash_xor a s[k] ha
      go_wp2
      go_round
      case rel => exact ⟨k + 1, hstep a s[k], by omega, by rw [front_snoc s k hlt, hrun_snoc, ← HB.out], by go_num, by rw [HX.out]⟩
      case measure => simp [intOf]; omega
    · have hkc : k = s.size := by omega
      subst hkc
      have HE : Hid (hash s.data.toList = down (down (down a 16 2246822507) 13 3266489909) 16 1) := by
        show _ = _
        unfold hash
        rw [HB.out, front_all]
      go_wp2_with (go_at_call 41; refine (blend_any _ _ ha).mono ?_; rintro e w' ⟨rfl, rfl⟩)
      go_ret
      refine ⟨?_, rfl⟩
      rw [HE.out]
      rfl

theorem rHash_xor (h : Nat) (c : UInt8) (hh : h < 4294967296) : bits .xor .u64 (h : Int) (c.toNat : Int) = ((h ^^^ c.toNat : Nat) : Int) := by
  have hc := c.toNat_lt
  exact bits_xor_u64_nat h _ (by omega) (by omega)

set_option maxHeartbeats 400000 in
theorem rHash_any (s : ByteArray) (w : World) (hs : s.size ≤ maxLen) :
    Calls Try.prog 28 #[.string s] w fun e w' => e = .returned (.int .u32 (hash s.data.toList)) ∧ w = w' := by
  unfold maxLen at hs
  go_enter Try.func28, Try.ntmps28
  go_wp2
  go_loop [3, 4] (fun x i => ∃ k a : Nat, k ≤ s.size ∧ a = (front s k).foldl hstep 2166136261 ∧ i = .int .i64 k ∧ x = .int .u64 a) (fun _ i => s.size - (intOf i).toNat)
  case atStart => exact ⟨0, 2166136261, Nat.zero_le _, rfl, rfl, rfl⟩
  case round =>
    obtain ⟨k, a, hk, hab, rfl, rfl⟩ := hrel
    have ha : a < 4294967296 := by rw [hab]; exact hrun_lt _ _ (by omega)
    have HB : Hid (a = (front s k).foldl hstep 2166136261) := hab
    clear hab
    by_cases hlt : k < s.size
    · have hc : s[k].toNat < 256 := s[k].toNat_lt
      have hby : (s[k].toNat : Int) ≤ 255 := by omega
      have hx : a ^^^ s[k].toNat < 4294967296 := xor_lt ha (by omega)
      have hxi : ((a ^^^ s[k].toNat : Nat) : Int) ≤ 4294967295 := by omega
      have HX := rHash_xor a s[k] ha
      have HY : Hid (((a ^^^ s[k].toNat : Nat) : Int) * 16777619 % 4294967296 = ((hstep a s[k] : Nat) : Int)) := hstep_cast
      go_wp2_with (go_at_call 45; refine (low_any _ _ (by omega) (by omega)).mono ?_; rintro e w' ⟨rfl, rfl⟩)
      go_round
      case rel => exact ⟨k + 1, hstep a s[k], by omega, by rw [front_snoc s k hlt, hrun_snoc, ← HB.out], by go_num, by rw [HY.out]⟩
      case measure => simp [intOf]; omega
    · have hkc : k = s.size := by omega
      subst hkc
      have HE : Hid (hash s.data.toList = down (down (down a 16 2246822507) 13 3266489909) 16 1) := by
        show _ = _
        unfold hash
        rw [HB.out, front_all]
      have t1 : (16 : Int).toNat = 16 := rfl
      have t2 : (13 : Int).toNat = 13 := rfl
      have t3 : (2246822507 : Int).toNat = 2246822507 := rfl
      have t4 : (3266489909 : Int).toNat = 3266489909 := rfl
      have t5 : (1 : Int).toNat = 1 := rfl
      have l3 := down_lt (down (down a 16 2246822507) 13 3266489909) 16 1
      go_wp2_with (go_at_call 46; (refine (down_at _ _ _ _ (by first | exact ha | exact down_lt _ _ _) (by omega) (by omega) (by omega) (by omega)).mono ?_; rintro e w1 ⟨rfl, rfl⟩; try simp only [t1, t2, t3, t4, t5]))
      go_ret
      refine ⟨?_, rfl⟩
      rw [HE.out]
      rfl

end Go.Proofs.Ythohopbolalpcaa
