/-
  What the program's calls Hash, Sum and More, the document's, and their helpers answer, at every input.
-/
import Derived.Test.YtjcbaiohpdihoaaGreatDoorProg
import Derived.Test.YtjcbaiohpdihoaaGreatDoorMixPlain
import Derived.WalkKit
import Derived.WalkSpells
import Derived.WalkLawsBesides
import Derived.Laws.Bits64b
import Derived.Laws.BitsAllLaws
namespace Go.Proofs.YtjcbaiohpdihoaaGreatDoor.Nu
open Go.RowKit
set_option linter.unusedVariables false
set_option maxRecDepth 100000

/-- The first k bytes of s. -/
def front (s : ByteArray) (k : Nat) : List UInt8 := s.data.toList.take k

theorem front_snoc (s : ByteArray) (k : Nat) (h : k < s.size) : front s (k + 1) = front s k ++ [s[k]] := by
  have hl : k < s.data.toList.length := h
  unfold front
  rw [List.take_succ_eq_append_getElem hl]
  rfl

theorem front_all (s : ByteArray) : front s s.size = s.data.toList := by
  unfold front
  exact List.take_length

theorem and_low (n : Nat) (h : n < 4294967296) : bits .and .u32 (n : Int) 65535 = ((n % 65536 : Nat) : Int) := by
  have h1 := u32_and_nat n 65535 h (by omega)
  have e : n &&& 65535 = n % 65536 := Nat.and_two_pow_sub_one_eq_mod n 16
  rw [e] at h1
  exact h1

theorem or_low (b a : Nat) (hb : b < 65521) (ha : a < 65521) : bits .or .u32 ((b : Int) * 65536) (a : Int) = ((b * 65536 + a : Nat) : Int) := by
  have h := u32_or_nat (b * 65536) a (by omega) (by omega)
  have e : b * 65536 ||| a = b * 65536 + a := by
    have := Nat.shiftLeft_add_eq_or_of_lt (i := 16) (b := a) (by omega) b
    rw [Nat.shiftLeft_eq] at this
    simpa using this.symm
  rw [e] at h
  simpa using h

/-- What a round of the sum's loop keeps: the two numbers stand below the modulus. -/
theorem run_pair {n k a b : Nat} {s : ByteArray} (h : (a, b) = run (halves n) (front s k)) : a < 65521 ∧ b < 65521 := by
  have h1 := run_lt (halves n) (front s k) (halves_lt n).1 (halves_lt n).2
  rw [← h] at h1
  exact h1

theorem run_next {n k a b : Nat} {s : ByteArray} (h : (a, b) = run (halves n) (front s k)) (hk : k < s.size) :
    ((a + s[k].toNat) % 65521, (b + (a + s[k].toNat) % 65521) % 65521) = run (halves n) (front s (k + 1)) := by
  rw [front_snoc s k hk, run_snoc, ← h]
  rfl

theorem more_of {n a b : Nat} {s : ByteArray} (h : (a, b) = run (halves n) (front s s.size)) : b * 65536 + a = more n s.data.toList := by
  rw [front_all] at h
  unfold more
  rw [← h]
  rfl

set_option maxHeartbeats 400000 in
theorem more_any (n : Nat) (s : ByteArray) (w : World) (hn : n < 4294967296) (hs : s.size ≤ maxLen) :
    Calls Tryz.prog 233 #[.int .u32 n, .string s] w fun e w' => e = .returned (.int .u32 (more n s.data.toList)) ∧ w = w' := by
  unfold maxLen at hs
  have HA := and_low n hn
  go_enter Tryz.func233, Tryz.ntmps233
  go_wp2
  go_loop [5, 6, 16] (fun x y i => ∃ k a b : Nat, k ≤ s.size ∧ (a, b) = run (halves n) (front s k) ∧ i = .int .i64 k ∧ x = .int .u32 a ∧ y = .int .u32 b) (fun _ _ i => s.size - (intOf i).toNat)
  case atStart => exact ⟨0, n % 65536 % 65521, n / 65536 % 65521, Nat.zero_le _, rfl, rfl, rfl, rfl⟩
  case round =>
    obtain ⟨k, a, b, hk, hab, rfl, rfl, rfl⟩ := hrel
    obtain ⟨ha, hb⟩ := run_pair hab
    have HB : Hid ((a, b) = run (halves n) (front s k)) := hab
    clear hab
    by_cases hlt : k < s.size
    · have hby : (s[k].toNat : Int) ≤ 255 := by have := s[k].toNat_lt; omega
      go_wp2
      go_round
      case rel => exact ⟨k + 1, (a + s[k].toNat) % 65521, (b + (a + s[k].toNat) % 65521) % 65521, by omega, run_next HB.out hlt, by go_num, by go_num, by go_num⟩
      case measure => simp [intOf]; omega
    · have hkc : k = s.size := by omega
      subst hkc
      have HO : Hid (bits .or .u32 ((b : Int) * 65536) (a : Int) = ((more n s.data.toList : Nat) : Int)) := by
        show _ = _
        rw [or_low b a hb ha, more_of HB.out]
      go_wp2
      go_ret
      refine ⟨?_, rfl⟩
      rw [HO.out]
      rfl

theorem sum_any (s : ByteArray) (w : World) (hs : s.size ≤ maxLen) :
    Calls Tryz.prog 231 #[.string s] w fun e w' => e = .returned (.int .u32 (more 1 s.data.toList)) ∧ w = w' := by
  go_enter Tryz.func231, Tryz.ntmps231
  go_wp2_with (go_at_call 233; refine (more_any 1 s _ (by omega) hs).mono ?_; rintro e w' ⟨rfl, rfl⟩)
  go_ret
  exact ⟨rfl, rfl⟩

theorem down_cast {h k f m : Nat} (hm : m = h / 2 ^ k) : ((h ^^^ m : Nat) : Int) * (f : Int) % 4294967296 = ((down h k f : Nat) : Int) := by
  unfold down
  rw [← hm, ← Int.natCast_mul]
  generalize (h ^^^ m) * f = y
  omega

theorem hstep_cast {h : Nat} {c : UInt8} : ((h ^^^ c.toNat : Nat) : Int) * 16777619 % 4294967296 = ((hstep h c : Nat) : Int) := by
  unfold hstep
  generalize h ^^^ c.toNat = y
  omega

theorem xor_down (h d k : Nat) (hh : h < 4294967296) (hd : 2 ^ k = d) : bits .xor .u32 (h : Int) ((h : Int) / (d : Int)) = ((h ^^^ h / 2 ^ k : Nat) : Int) := by
  subst hd
  rw [← Int.natCast_ediv]
  exact u32_xor_nat h _ hh (Nat.lt_of_le_of_lt (Nat.div_le_self _ _) hh)

theorem blend_one (h : Nat) (hh : h < 4294967296) : bits .xor .u32 (h : Int) ((h : Int) / 65536) * 2246822507 % 4294967296 = ((down h 16 2246822507 : Nat) : Int) := by
  rw [show bits .xor .u32 (h : Int) ((h : Int) / 65536) = _ from xor_down h 65536 16 hh (by decide)]
  exact down_cast rfl

theorem blend_two (h : Nat) (hh : h < 4294967296) : bits .xor .u32 (h : Int) ((h : Int) / 8192) * 3266489909 % 4294967296 = ((down h 13 3266489909 : Nat) : Int) := by
  rw [show bits .xor .u32 (h : Int) ((h : Int) / 8192) = _ from xor_down h 8192 13 hh (by decide)]
  exact down_cast rfl

theorem blend_three (h : Nat) (hh : h < 4294967296) : bits .xor .u32 (h : Int) ((h : Int) / 65536) = ((down h 16 1 : Nat) : Int) := by
  rw [show bits .xor .u32 (h : Int) ((h : Int) / 65536) = _ from xor_down h 65536 16 hh (by decide)]
  have hx := xor_lt hh (b := h / 2 ^ 16) (Nat.lt_of_le_of_lt (Nat.div_le_self _ _) hh)
  unfold down
  rw [Nat.mul_one, Nat.mod_eq_of_lt hx]

theorem hash_xor (h : Nat) (c : UInt8) (hh : h < 4294967296) : bits .xor .u32 (h : Int) (c.toNat : Int) * 16777619 % 4294967296 = ((hstep h c : Nat) : Int) := by
  have hc := c.toNat_lt
  rw [u32_xor_nat h _ hh (by omega)]
  exact hstep_cast

theorem rHash_xor (h : Nat) (c : UInt8) (hh : h < 4294967296) : bits .xor .u64 (h : Int) (c.toNat : Int) = ((h ^^^ c.toNat : Nat) : Int) := by
  have hc := c.toNat_lt
  exact bits_xor_u64_nat h _ (by omega) (by omega)

end Go.Proofs.YtjcbaiohpdihoaaGreatDoor.Nu
