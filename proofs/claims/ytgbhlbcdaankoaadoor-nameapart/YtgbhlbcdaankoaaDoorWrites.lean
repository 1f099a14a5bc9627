/-
  What the document's Write answers, at every number.
-/
import Derived.Test.YtgbhlbcdaankoaaDoorNumbers
namespace Go.Proofs.YtgbhlbcdaankoaaDoor
open Go.RowKit
set_option linter.unusedVariables false

theorem add_zero_off (b k : Nat) : ((⟨b, 0, none⟩ : Addr).add k) = ⟨b, k, none⟩ := by
  cases k <;> simp [Addr.add]

theorem conv_one (W : World) (c : UInt8) (z : Int) (hz : z = (c.toNat : Int)) :
    (convert 35 9 (.slice (some ⟨W.heap.size, 0, none⟩) 1 1)).run Tryd.prog (W.alloc (.cells #[.int .u8 z] 5)) = .ok (.string ⟨#[c]⟩) (W.alloc (.cells #[.int .u8 z] 5)) := by
  subst hz
  have h := run_convert_bytes_back (P := Tryd.prog) (W.alloc (.cells #[.int .u8 (c.toNat : Int)] 5)) 35 9 5 ⟨W.heap.size, 0, none⟩ 1 [c] Tryd.underlying35 Tryd.underlying5 Tryd.underlying9 (fun j hj => by
    have hj0 : j = 0 := by simpa using hj
    subst hj0
    rw [add_zero_off, World.cell?_alloc_mark]
    simp)
  simpa using h

/-- the sign of a digit -/
def dig (d : Nat) : UInt8 := UInt8.ofNat (48 + d)
theorem dig_nat {d : Nat} (h : d < 10) : (dig d).toNat = 48 + d := by
  unfold dig; rw [UInt8.toNat_ofNat']; exact Nat.mod_eq_of_lt (by omega)

theorem cat_list (c : UInt8) (t : ByteArray) : ((⟨#[c]⟩ : ByteArray) ++ t).data.toList = c :: t.data.toList := by
  simp

theorem digits_step {m : Nat} (h : 9 < m) : Lib.decDigits m = Lib.decDigits (m / 10) ++ [dig (m % 10)] := by
  conv => lhs; rw [Lib.decDigits, dif_neg (by omega)]
  rfl
theorem digits_last {m : Nat} (h : m ≤ 9) : Lib.decDigits m = [dig m] := by
  rw [Lib.decDigits, dif_pos (by omega)]
  rfl

set_option maxHeartbeats 400000 in
theorem rWrite_nat (N : Nat) (w : World) (hN : N ≤ 9223372036854775807) :
    Calls Tryd.prog 18 #[.int .i64 (N : Int)] w fun e w' => e = .returned (.string (text N)) ∧ Below w.heap.size w w' := by
  have hNi : (N : Int) ≤ 9223372036854775807 := by omega
  have h1 : ((N : Int) == -9223372036854775808) = false := beq_eq_false_iff_ne.2 (by omega)
  have h2 : decide ((N : Int) < 0) = false := decide_eq_false (by omega)
  have HN19 : Hid ((Lib.decDigits N).length ≤ 19) := nDigits_le19 (by omega)
  go_enter Tryd.func18, Tryd.ntmps18
  go_wp2
  go_loopw [0, 3] (fun x y wr => ∃ (m : Nat) (t : ByteArray), m ≤ N ∧ t.size ≤ 19 ∧ Hid (Lib.decDigits m ++ t.data.toList = Lib.decDigits N) ∧ Below w.heap.size w wr ∧ x = .int .i64 m ∧ y = .string t) (fun x _ _ => (intOf x).toNat)
  case atStart => exact ⟨N, ⟨#[]⟩, Nat.le_refl _, by decide, by show _ = _; simp, Below.refl _ _, rfl, rfl⟩
  case round =>
    obtain ⟨m, t, hm, ht, HD, hb, rfl, rfl⟩ := hrel
    by_cases h9 : 9 < m
    · have hmi : (m : Int) ≤ 9223372036854775807 := by omega
      have h9i : (9 : Int) < m := by omega
      have hcv := conv_one wr (dig (m % 10)) (48 + (m : Int) % 10) (by rw [dig_nat (by omega)]; omega)
      have HE : Hid (Lib.decDigits (m / 10) ++ ((⟨#[dig (m % 10)]⟩ : ByteArray) ++ t).data.toList = Lib.decDigits N) := by
        show _ = _
        rw [cat_list, ← HD.out, digits_step h9]
        simp
      have hs19 : ((⟨#[dig (m % 10)]⟩ : ByteArray) ++ t).size ≤ 19 := by
        have h1 := HN19.out
        rw [← HE.out, List.length_append, size_list] at h1
        omega
      have hb1 := hb.alloc hb.size (.cells #[.int .u8 (48 + (m : Int) % 10)] 5)
      go_wp2
      go_roundw
      case rel => exact ⟨m / 10, _, by omega, hs19, HE, hb1, by go_num, rfl⟩
      case measure => simp [intOf]; omega
    · have h9i : (m : Int) ≤ 9 := by omega
      have hcv := conv_one wr (dig m) (48 + (m : Int)) (by rw [dig_nat (by omega)]; omega)
      have HE : Hid (((⟨#[dig m]⟩ : ByteArray) ++ t) = text N) := by
        show _ = _
        apply ByteArray.ext
        apply Array.ext'
        rw [cat_list, text_list]
        unfold Lib.itoa
        rw [if_neg (by omega), show ((N : Int)).toNat = N by omega, ← HD.out, digits_last (by omega)]
        rfl
      have hb1 := hb.alloc hb.size (.cells #[.int .u8 (48 + (m : Int))] 5)
      go_wp2
      go_ret
      exact ⟨by rw [← HE.out]; rfl, hb1⟩

theorem rWrite_any (n : Int) (w : World) (h0 : -9223372036854775808 ≤ n) (h1 : n ≤ 9223372036854775807) :
    Calls Tryd.prog 18 #[.int .i64 n] w fun e w' => e = .returned (.string (text n)) ∧ Below w.heap.size w w' := by
  by_cases hp : 0 ≤ n
  · obtain ⟨N, rfl⟩ : ∃ N : Nat, n = N := ⟨n.toNat, by omega⟩
    exact rWrite_nat N w (by omega)
  by_cases hm : n = -9223372036854775808
  · subst hm
    go_enter Tryd.func18, Tryd.ntmps18
    go_wp2
    go_ret
    refine ⟨?_, Below.refl _ _⟩
    have e : text (-9223372036854775808) = ⟨#[45, 57, 50, 50, 51, 51, 55, 50, 48, 51, 54, 56, 53, 52, 55, 55, 53, 56, 48, 56]⟩ := by decide +kernel
    rw [e]; rfl
  · have q1 : ((n : Int) == -9223372036854775808) = false := beq_eq_false_iff_ne.2 hm
    have q2 : n < 0 := by omega
    obtain ⟨N, hN⟩ : ∃ N : Nat, -n = N := ⟨(-n).toNat, by omega⟩
    have HT : Hid (((⟨#[45]⟩ : ByteArray) ++ text N) = text n) := by
      show _ = _
      apply ByteArray.ext
      apply Array.ext'
      rw [cat_list, text_list, text_list]
      unfold Lib.itoa
      rw [if_neg (by omega), if_pos q2, show ((N : Int)).toNat = N by omega, show n.natAbs = N by omega]
    have hz : (text N).size ≤ 21 := text_size (by omega) (by omega)
    have hlo : -9223372036854775807 ≤ n := by omega
    go_enter Tryd.func18, Tryd.ntmps18
    go_wp2_with (go_at_call 18; refine (rWrite_nat N _ (by omega)).mono ?_; rintro e w1 ⟨rfl, hb⟩)
    go_ret
    exact ⟨by rw [← HT.out]; rfl, hb⟩

end Go.Proofs.YtgbhlbcdaankoaaDoor
