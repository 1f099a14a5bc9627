/-
  What the program's calls Put and Get, the document's Put and Get, and their helpers answer, at every input.
-/
import Derived.Test.YthohopbolalpcaaProg
import Derived.Test.YthohopbolalpcaaPlain
import Derived.WalkKit
import Derived.WalkSpells
import Derived.WalkLawsBesides
import Derived.Lib.UnsafeStr
import Derived.Laws.IdiomStrings
import Derived.Laws.Bits64b
namespace Go.Proofs.Ythohopbolalpcaa
open Go.RowKit
set_option linter.unusedVariables false

theorem isWidth_yes (c : Int) (w : World) (h1 : 1 ≤ c) (h2 : c ≤ 8) :
    Calls Try.prog 79 #[.int .i64 c] w fun e w' => e = .returned (.bool true) ∧ w = w' := by
  go_enter Try.func79, Try.ntmps79
  go_wp2
  go_ret
  exact ⟨rfl, rfl⟩

theorem isWidth_no (c : Int) (w : World) (h : c < 1 ∨ 8 < c) :
    Calls Try.prog 79 #[.int .i64 c] w fun e w' => e = .returned (.bool false) ∧ w = w' := by
  rcases h with h | h
  · have hd : decide (1 ≤ c) = false := by simpa using h
    go_enter Try.func79, Try.ntmps79
    go_wp2
    go_ret
    exact ⟨rfl, rfl⟩
  · have hd : 1 ≤ c := by omega
    have hd2 : decide (c ≤ 8) = false := by simpa using h
    go_enter Try.func79, Try.ntmps79
    go_wp2
    go_ret
    exact ⟨rfl, rfl⟩

theorem fits_any (n : Int) (c : Int) (w : World) (h0 : 0 ≤ n) (h1 : 1 ≤ c) (h2 : c ≤ 8) (hn : n ≤ 18446744073709551615) :
    Calls Try.prog 80 #[.int .u64 n, .int .i64 c] w fun e w' => e = .returned (.bool (n / 2 ^ (8 * c).toNat == 0)) ∧ w = w' := by
  go_enter Try.func80, Try.ntmps80
  go_wp2
  go_ret
  exact ⟨rfl, rfl⟩

theorem pow_cast (c : Nat) : (2 : Int) ^ (8 * (c : Int)).toNat = ((256 ^ c : Nat) : Int) := by
  have : (8 * (c : Int)).toNat = 8 * c := by omega
  rw [this, Int.pow_mul]
  simp

theorem fits_yes (n c : Nat) (w : World) (h1 : 1 ≤ c) (h2 : c ≤ 8) (hn : n < 256 ^ c) :
    Calls Try.prog 80 #[.int .u64 n, .int .i64 c] w fun e w' => e = .returned (.bool true) ∧ w = w' := by
  have hp := pow_le8 h2
  refine (fits_any n c w (by omega) (by omega) (by omega) (by omega)).mono fun e w' ⟨he, hw⟩ => ⟨?_, hw⟩
  rw [he, pow_cast]
  have : ((n : Int) / ((256 ^ c : Nat) : Int)) = 0 := by
    rw [← Int.natCast_ediv, Nat.div_eq_of_lt hn]; rfl
  rw [this]; rfl

theorem fits_no (n c : Nat) (w : World) (h1 : 1 ≤ c) (h2 : c ≤ 8) (hu : n ≤ 18446744073709551615) (hn : 256 ^ c ≤ n) :
    Calls Try.prog 80 #[.int .u64 n, .int .i64 c] w fun e w' => e = .returned (.bool false) ∧ w = w' := by
  refine (fits_any n c w (by omega) (by omega) (by omega) (by omega)).mono fun e w' ⟨he, hw⟩ => ⟨?_, hw⟩
  rw [he, pow_cast]
  have h : 0 < n / 256 ^ c := Nat.div_pos hn (Nat.pow_pos (by omega))
  have : (((n : Int) / ((256 ^ c : Nat) : Int)) == 0) = false := by
    rw [← Int.natCast_ediv]; simp only [beq_eq_false_iff_ne]; omega
  rw [this]

theorem info5 : (Try.prog.info? 5).map (fun i => (i.zero, i.size, i.bytes)) = some (some (.int .u8 0), 1, 1) := by kernel_rfl

theorem add_zero_off (g j : Nat) : (⟨g, 0, none⟩ : Addr).add j = ⟨g, j, none⟩ := by
  cases j <;> simp [Addr.add]

theorem conv_own {wr : World} {B g c : Nat} {l : List UInt8} (ho : wr.ownsRow B 5 1 (.slice (some ⟨g, 0, none⟩) c c) c (Lib.byteCells l)) (hl : l.length = c) :
    (convert 76 9 (.slice (some ⟨g, 0, none⟩) c c)).run Try.prog wr = .ok (.string ⟨l.toArray⟩) wr := by
  have h := run_convert_bytes_back (P := Try.prog) wr 76 9 5 ⟨g, 0, none⟩ c l Try.underlying76 Try.underlying5 Try.underlying9 (fun j hj => by
    rw [add_zero_off, ho.cellAt j (by omega)]
    simp [Lib.byteCells, hj])
  rwa [hl] at h

theorem conv_one (W : World) (x : Nat) :
    (convert 76 9 (.slice (some ⟨W.heap.size, 0, none⟩) 1 1)).run Try.prog (W.alloc (.cells #[.int .u8 ((x : Int) % 256)] 5)) = .ok (.string ⟨#[UInt8.ofNat x]⟩) (W.alloc (.cells #[.int .u8 ((x : Int) % 256)] 5)) := by
  have h := run_convert_bytes_back (P := Try.prog) (W.alloc (.cells #[.int .u8 ((x : Int) % 256)] 5)) 76 9 5 ⟨W.heap.size, 0, none⟩ 1 [UInt8.ofNat x] Try.underlying76 Try.underlying5 Try.underlying9 (fun j hj => by
    have hj0 : j = 0 := by simpa using hj
    subst hj0
    rw [add_zero_off, World.cell?_alloc_mark]
    simp)
  simpa using h

theorem ba_append (a b : List UInt8) : ((⟨a.toArray⟩ : ByteArray) ++ (⟨b.toArray⟩ : ByteArray)) = ⟨(a ++ b).toArray⟩ := by
  apply ByteArray.ext
  rw [ByteArray.data_append]
  simp

theorem byte_cast (n k : Nat) : (n : Int) / 2 ^ (8 * k) % 256 = ((UInt8.ofNat (n / 256 ^ k)).toNat : Int) := by
  have h : (2 : Int) ^ (8 * k) = ((256 ^ k : Nat) : Int) := by rw [Int.pow_mul]; simp
  rw [h, UInt8.toNat_ofNat']
  simp

theorem put_step (n c k : Nat) (h : k < c) :
    (Lib.byteCells (List.replicate (c - k) 0 ++ be n k)).set (c - 1 - k) (.int .u8 ((n : Int) / 2 ^ (8 * k) % 256)) = Lib.byteCells (List.replicate (c - (k + 1)) 0 ++ be n (k + 1)) := by
  obtain ⟨m, rfl⟩ : ∃ m, c = m + (k + 1) := ⟨c - (k + 1), by omega⟩
  have e1 : m + (k + 1) - k = m + 1 := by omega
  have e2 : m + (k + 1) - 1 - k = m := by omega
  have e3 : m + (k + 1) - (k + 1) = m := by omega
  rw [e1, e2, e3, be_cons, byte_cast, List.replicate_succ']
  unfold Lib.byteCells
  simp [List.map_append]

set_option maxHeartbeats 400000 in
theorem put_ok (n c : Nat) (w : World) (h1 : 1 ≤ c) (h2 : c ≤ 8) (hn : n < 256 ^ c) :
    Calls Try.prog 57 #[.int .u64 n, .int .i64 c] w fun e w' => e = .returned (.tuple #[.string ⟨(be n c).toArray⟩, .int .i64 0]) ∧ Below w.heap.size w w' := by
  obtain ⟨i0, hi, hz0, hz1, hz2⟩ := info_parts info5
  have hp := pow_le8 h2
  go_enter Try.func57, Try.ntmps57
  go_wp2_with (first
    | (go_at_call 79; refine (isWidth_yes _ _ (by omega) (by omega)).mono ?_; rintro e w' ⟨rfl, rfl⟩)
    | (go_at_call 80; refine (fits_yes n c _ h1 h2 hn).mono ?_; rintro e w' ⟨rfl, rfl⟩)
    | (at_make; go_must (refine wpList_make_full _ rfl (.tmp 17) (.tmp 17) 76 rfl w.heap.size 5 i0 (.int .u8 0) 1 Try.underlying76 hi hz0 hz1 .i64 .i64 _ _ c rfl rfl rfl rfl (by rw [hz2]; omega) (by unfold maxLen; omega) (Nat.le_refl _) ?_; intro w1 hown hgrow)))
  have hB1 : Below w.heap.size w w1 := (Below.refl _ w).grown hgrow (Nat.le_refl _) (fun _ h => by cases h)
  have hmade : (madeCells (Value.int .u8 0).cells (c * 1)).toList = Lib.byteCells (List.replicate (c - 0) 0 ++ be n 0) := by
    simp [Lib.byteCells, be, Value.cells, toList_madeCells_one]
  rw [hmade] at hown
  clear hmade hgrow
  go_loopw [20] (fun i wr => ∃ k : Nat, k ≤ c ∧ i = .int .i64 k ∧ wr.ownsRow w.heap.size 5 1 (.slice (some ⟨w.heap.size, 0, none⟩) c c) c (Lib.byteCells (List.replicate (c - k) 0 ++ be n k)) ∧ Below w.heap.size w wr)
    (fun i _ => c - (intOf i).toNat)
  case atStart => exact ⟨0, Nat.zero_le _, rfl, hown, hB1⟩
  case round =>
    obtain ⟨k, hk, rfl, ho, hb⟩ := hrel
    by_cases hlt : k < c
    · have hfz := ho.frozenAt (c - 1 - k)
      have hce := ho.cellAt (c - 1 - k) (by omega)
      rw [List.getElem?_eq_getElem (by simp [Lib.byteCells, be_length]; omega)] at hce
      go_wp2
      have hst := ho.stored (c - 1 - k) (.int .u8 ((n : Int) / 2 ^ (8 * k) % 256))
      rw [put_step n c k hlt] at hst
      go_roundw
      case rel => exact ⟨k + 1, by omega, by go_num, hst.1, hb.grown hst.2 (hb.size) (fun r hr => by cases hr; exact Nat.le_refl _)⟩
      case measure => simp [intOf]; omega
    · have hkc : k = c := by omega
      subst hkc
      have hcv := conv_own ho (by simp [be_length])
      simp only [Nat.sub_self, List.replicate_zero, List.nil_append] at hcv
      go_wp2
      go_ret2
      exact ⟨rfl, hb⟩

theorem put_badWidth (n c : Int) (w : World) (h : c < 1 ∨ 8 < c) :
    Calls Try.prog 57 #[.int .u64 n, .int .i64 c] w fun e w' => e = .returned (.tuple #[.string ⟨#[]⟩, .int .i64 1]) ∧ w = w' := by
  go_enter Try.func57, Try.ntmps57
  go_wp2_with (go_at_call 79; refine (isWidth_no _ _ h).mono ?_; rintro e w' ⟨rfl, rfl⟩)
  go_ret2
  exact ⟨rfl, rfl⟩

theorem put_great (n c : Nat) (w : World) (h1 : 1 ≤ c) (h2 : c ≤ 8) (hu : n ≤ 18446744073709551615) (hn : 256 ^ c ≤ n) :
    Calls Try.prog 57 #[.int .u64 n, .int .i64 c] w fun e w' => e = .returned (.tuple #[.string ⟨#[]⟩, .int .i64 1]) ∧ w = w' := by
  go_enter Try.func57, Try.ntmps57
  go_wp2_with (first
    | (go_at_call 79; refine (isWidth_yes _ _ (by omega) (by omega)).mono ?_; rintro e w' ⟨rfl, rfl⟩)
    | (go_at_call 80; refine (fits_no n c _ h1 h2 hu hn).mono ?_; rintro e w' ⟨rfl, rfl⟩))
  go_ret2
  exact ⟨rfl, rfl⟩

theorem rFits_any (n c : Nat) (w : World) (h1 : 1 ≤ c) (h2 : c ≤ 8) (hu : n ≤ 18446744073709551615) (r : Bool) (hr : r = decide (n / 256 ^ c = 0)) :
    Calls Try.prog 58 #[.int .u64 n, .int .i64 c] w fun e w' => e = .returned (.bool r) ∧ w = w' := by
  have HR : Hid (r = decide (n / 256 ^ c = 0)) := hr
  clear hr
  go_enter Try.func58, Try.ntmps58
  go_wp2
  go_loop [0, 5] (fun x i => ∃ k m : Nat, k ≤ c ∧ m = n / 256 ^ k ∧ i = .int .i64 k ∧ x = .int .u64 m) (fun _ i => c - (intOf i).toNat)
  case atStart => exact ⟨0, n, Nat.zero_le _, by simp, rfl, rfl⟩
  case round =>
    obtain ⟨k, m, hk, hm, rfl, rfl⟩ := hrel
    have hmu : m ≤ 18446744073709551615 := by rw [hm]; exact Nat.le_trans (Nat.div_le_self _ _) hu
    have HM : Hid (m = n / 256 ^ k) := hm
    clear hm
    by_cases hlt : k < c
    · go_wp2
      go_round
      case rel => exact ⟨k + 1, m / 256, by omega, by rw [HM.out, div_pow'], by go_num, by go_num⟩
      case measure => simp [intOf]; omega
    · have hkc : k = c := by omega
      subst hkc
      have e : r = ((m : Int) == 0) := by
        rw [HR.out, ← HM.out, Bool.eq_iff_iff]; simp
      subst e
      go_wp2
      go_ret
      exact ⟨rfl, rfl⟩

theorem rFits_yes (n c : Nat) (w : World) (h1 : 1 ≤ c) (h2 : c ≤ 8) (hn : n < 256 ^ c) :
    Calls Try.prog 58 #[.int .u64 n, .int .i64 c] w fun e w' => e = .returned (.bool true) ∧ w = w' :=
  rFits_any n c w h1 h2 (by have := pow_le8 h2; omega) true (by rw [Nat.div_eq_of_lt hn]; rfl)

theorem rFits_no (n c : Nat) (w : World) (h1 : 1 ≤ c) (h2 : c ≤ 8) (hu : n ≤ 18446744073709551615) (hn : 256 ^ c ≤ n) :
    Calls Try.prog 58 #[.int .u64 n, .int .i64 c] w fun e w' => e = .returned (.bool false) ∧ w = w' :=
  rFits_any n c w h1 h2 hu false (by
    have h : 0 < n / 256 ^ c := Nat.div_pos hn (Nat.pow_pos (by omega))
    symm; simp only [decide_eq_false_iff_not]; omega)

theorem rFits_bad (n c : Int) (w : World) (h : c < 1 ∨ 8 < c) :
    Calls Try.prog 58 #[.int .u64 n, .int .i64 c] w fun e w' => e = .returned (.bool false) ∧ w = w' := by
  rcases h with h | h
  · go_enter Try.func58, Try.ntmps58
    go_wp2
    go_ret
    exact ⟨rfl, rfl⟩
  · have hd : decide (c < 1) = false := by simp; omega
    go_enter Try.func58, Try.ntmps58
    go_wp2
    go_ret
    exact ⟨rfl, rfl⟩

theorem rPut_bad (n c : Int) (w : World) (h : c < 1 ∨ 8 < c) :
    Calls Try.prog 44 #[.int .u64 n, .int .i64 c] w fun e w' => e = .returned (.tuple #[.string ⟨#[]⟩, .int .i64 1]) ∧ w = w' := by
  go_enter Try.func44, Try.ntmps44
  go_wp2_with (go_at_call 58; refine (rFits_bad _ _ _ h).mono ?_; rintro e w' ⟨rfl, rfl⟩)
  go_ret2
  exact ⟨rfl, rfl⟩

theorem rPut_great (n c : Nat) (w : World) (h1 : 1 ≤ c) (h2 : c ≤ 8) (hu : n ≤ 18446744073709551615) (hn : 256 ^ c ≤ n) :
    Calls Try.prog 44 #[.int .u64 n, .int .i64 c] w fun e w' => e = .returned (.tuple #[.string ⟨#[]⟩, .int .i64 1]) ∧ w = w' := by
  go_enter Try.func44, Try.ntmps44
  go_wp2_with (go_at_call 58; refine (rFits_no n c _ h1 h2 hu hn).mono ?_; rintro e w' ⟨rfl, rfl⟩)
  go_ret2
  exact ⟨rfl, rfl⟩

set_option maxHeartbeats 400000 in
theorem rPut_ok (n c : Nat) (w : World) (h1 : 1 ≤ c) (h2 : c ≤ 8) (hn : n < 256 ^ c) :
    Calls Try.prog 44 #[.int .u64 n, .int .i64 c] w fun e w' => e = .returned (.tuple #[.string ⟨(be n c).toArray⟩, .int .i64 0]) ∧ Below w.heap.size w w' := by
  have hu : n ≤ 18446744073709551615 := by have := pow_le8 h2; omega
  go_enter Try.func44, Try.ntmps44
  go_wp2_with (go_at_call 58; refine (rFits_yes n c _ h1 h2 hn).mono ?_; rintro e w' ⟨rfl, rfl⟩)
  go_loopw [0, 6, 7] (fun x s i wr => ∃ k m : Nat, k ≤ c ∧ m = n / 256 ^ k ∧ i = .int .i64 k ∧ x = .int .u64 m ∧ s = .string ⟨(be n k).toArray⟩ ∧ Below w.heap.size w wr) (fun _ _ i _ => c - (intOf i).toNat)
  case atStart => exact ⟨0, n, Nat.zero_le _, by simp, rfl, rfl, rfl, Below.refl _ _⟩
  case round =>
    obtain ⟨k, m, hk, hm, rfl, rfl, rfl, hb⟩ := hrel
    have hmu : m ≤ 18446744073709551615 := by rw [hm]; exact Nat.le_trans (Nat.div_le_self _ _) hu
    have HM : Hid (m = n / 256 ^ k) := hm
    clear hm
    by_cases hlt : k < c
    · have hcv := conv_one wr m
      have hlen : (be n k).length ≤ 8 := by rw [be_length]; omega
      have HS : Hid (((⟨#[UInt8.ofNat m]⟩ : ByteArray) ++ (⟨(be n k).toArray⟩ : ByteArray)) = ⟨(be n (k + 1)).toArray⟩) := by
        show _ = _
        rw [be_cons, HM.out]; exact ba_append [_] _
      go_wp2
      go_roundw
      case rel => exact ⟨k + 1, m / 256, by omega, by rw [HM.out, div_pow'], by go_num, by go_num, by rw [HS.out], hb.alloc hb.size _⟩
      case measure => simp [intOf]; omega
    · have hkc : k = c := by omega
      subst hkc
      go_wp2
      go_ret2
      exact ⟨rfl, hb⟩

theorem stands_yes (s : ByteArray) (p c : Nat) (w : World) (h1 : c ≤ 8) (hs : s.size ≤ maxLen) (h : p + c ≤ s.size) :
    Calls Try.prog 82 #[.string s, .int .i64 p, .int .i64 c] w fun e w' => e = .returned (.bool true) ∧ w = w' := by
  unfold maxLen at hs
  have hd : (c : Int) ≤ (s.size : Int) - (p : Int) := by omega
  go_enter Try.func82, Try.ntmps82
  go_wp2
  go_ret
  exact ⟨rfl, rfl⟩

theorem stands_no (s : ByteArray) (p : Int) (c : Nat) (w : World) (h1 : c ≤ 8) (hp : -9223372036854775808 ≤ p ∧ p ≤ 9223372036854775807) (hs : s.size ≤ maxLen) (h : p < 0 ∨ s.size < p + c) :
    Calls Try.prog 82 #[.string s, .int .i64 p, .int .i64 c] w fun e w' => e = .returned (.bool false) ∧ w = w' := by
  unfold maxLen at hs
  by_cases h0 : 0 ≤ p
  · have hd : decide ((c : Int) ≤ (s.size : Int) - p) = false := by simp; omega
    go_enter Try.func82, Try.ntmps82
    go_wp2
    go_ret
    exact ⟨rfl, rfl⟩
  · have hd : decide (0 ≤ p) = false := by simpa using h0
    go_enter Try.func82, Try.ntmps82
    go_wp2
    go_ret
    exact ⟨rfl, rfl⟩

theorem place_yes (s : ByteArray) (p c : Nat) (w : World) (h1 : c ≤ 8) (hs : s.size ≤ maxLen) (h : p + c ≤ s.size) :
    Calls Try.prog 77 #[.string s, .int .i64 p, .int .i64 c] w fun e w' => e = .returned (.bool true) ∧ w = w' := by
  unfold maxLen at hs
  have hd : (c : Int) ≤ (s.size : Int) - (p : Int) := by omega
  go_enter Try.func77, Try.ntmps77
  go_wp2
  go_ret
  exact ⟨rfl, rfl⟩

theorem place_no (s : ByteArray) (p : Int) (c : Nat) (w : World) (h1 : c ≤ 8) (hp : -9223372036854775808 ≤ p ∧ p ≤ 9223372036854775807) (hs : s.size ≤ maxLen) (h : p < 0 ∨ s.size < p + c) :
    Calls Try.prog 77 #[.string s, .int .i64 p, .int .i64 c] w fun e w' => e = .returned (.bool false) ∧ w = w' := by
  unfold maxLen at hs
  by_cases h0 : 0 ≤ p
  · by_cases hl : p ≤ (s.size : Int)
    · have hd : decide ((c : Int) ≤ (s.size : Int) - p) = false := by simp; omega
      go_enter Try.func77, Try.ntmps77
      go_wp2
      go_ret
      exact ⟨rfl, rfl⟩
    · have hd : decide (p ≤ (s.size : Int)) = false := by simpa using hl
      go_enter Try.func77, Try.ntmps77
      go_wp2
      go_ret
      exact ⟨rfl, rfl⟩
  · have hd : decide (0 ≤ p) = false := by simpa using h0
    go_enter Try.func77, Try.ntmps77
    go_wp2
    go_ret
    exact ⟨rfl, rfl⟩

/-- The bytes of s from p on, k of them. -/
def sub (s : ByteArray) (p k : Nat) : List UInt8 := (s.data.toList.drop p).take k

theorem sub_snoc (s : ByteArray) (p k : Nat) (h : p + k < s.size) : sub s p (k + 1) = sub s p k ++ [s[p + k]] := by
  have hl : k < (s.data.toList.drop p).length := by
    have e : s.data.size = s.size := rfl
    simp; omega
  unfold sub
  rw [List.take_succ_eq_append_getElem hl, List.getElem_drop]
  rfl

theorem sub_length (s : ByteArray) (p k : Nat) (h : p + k ≤ s.size) : (sub s p k).length = k := by
  have e : s.data.size = s.size := rfl
  simp [sub]; omega

theorem val_sub_le (s : ByteArray) (p k : Nat) (h : p + k ≤ s.size) (hk : k ≤ 7) : val (sub s p k) ≤ 72057594037927935 := by
  have h1 := val_lt (sub s p k)
  rw [sub_length s p k h] at h1
  have h2 := Nat.pow_le_pow_right (n := 256) (by omega) hk
  have h3 : 256 ^ 7 = 72057594037927936 := by decide
  omega

theorem or_byte (m : Nat) (b : UInt8) (hm : m ≤ 72057594037927935) : bits .or .u64 ((m : Int) * 256) (b.toNat : Int) = ((m * 256 + b.toNat : Nat) : Int) := by
  have hb := b.toNat_lt
  have h := bits_or_u64_nat (m * 256) b.toNat (by omega) (by omega)
  have e : m * 256 ||| b.toNat = m * 256 + b.toNat := by
    have := Nat.shiftLeft_add_eq_or_of_lt (i := 8) (b := b.toNat) (by omega) m
    rw [Nat.shiftLeft_eq] at this
    simpa using this.symm
  rw [e] at h
  simpa using h

set_option maxHeartbeats 400000 in
theorem get_ok (s : ByteArray) (p c : Nat) (w : World) (h1 : 1 ≤ c) (h2 : c ≤ 8) (hs : s.size ≤ maxLen) (h : p + c ≤ s.size) :
    Calls Try.prog 76 #[.string s, .int .i64 p, .int .i64 c] w fun e w' => e = .returned (.tuple #[.int .u64 (val (sub s p c)), .int .i64 0]) ∧ w = w' := by
  have hs' := hs
  unfold maxLen at hs'
  go_enter Try.func76, Try.ntmps76
  go_wp2_with (first
    | (go_at_call 79; refine (isWidth_yes _ _ (by omega) (by omega)).mono ?_; rintro e w' ⟨rfl, rfl⟩)
    | (go_at_call 82; refine (stands_yes s p c _ h2 hs h).mono ?_; rintro e w' ⟨rfl, rfl⟩))
  go_loop [8, 19] (fun x i => ∃ k m : Nat, k ≤ c ∧ m = val (sub s p k) ∧ i = .int .i64 k ∧ x = .int .u64 m) (fun _ i => c - (intOf i).toNat)
  case atStart => exact ⟨0, 0, Nat.zero_le _, rfl, rfl, rfl⟩
  case round =>
    obtain ⟨k, m, hk, hm, rfl, rfl⟩ := hrel
    have HM : Hid (m = val (sub s p k)) := hm
    clear hm
    by_cases hlt : k < c
    · have hpk : p + k < s.size := by omega
      have hmu : m ≤ 72057594037927935 := by rw [HM.out]; exact val_sub_le s p k (by omega) (by omega)
      have hby : (s[p + k].toNat : Int) ≤ 255 := by have := s[p + k].toNat_lt; omega
      have HO : Hid (bits .or .u64 ((m : Int) * 256) (s[p + k].toNat : Int) = ((m * 256 + s[p + k].toNat : Nat) : Int)) := or_byte m s[p + k] hmu
      go_wp2
      go_round
      case rel => exact ⟨k + 1, m * 256 + s[p + k].toNat, by omega, by rw [HM.out, sub_snoc s p k hpk, val_snoc], by go_num, by rw [HO.out]⟩
      case measure => simp [intOf]; omega
    · have hkc : k = c := by omega
      subst hkc
      go_wp2
      go_ret2
      exact ⟨by rw [← HM.out]; rfl, rfl⟩

set_option maxHeartbeats 400000 in
theorem rGet_ok (s : ByteArray) (p c : Nat) (w : World) (h1 : 1 ≤ c) (h2 : c ≤ 8) (hs : s.size ≤ maxLen) (h : p + c ≤ s.size) :
    Calls Try.prog 53 #[.string s, .int .i64 p, .int .i64 c] w fun e w' => e = .returned (.tuple #[.int .u64 (val (sub s p c)), .int .i64 0]) ∧ w = w' := by
  have hs' := hs
  unfold maxLen at hs'
  go_enter Try.func53, Try.ntmps53
  go_wp2_with (go_at_call 77; refine (place_yes s p c _ h2 hs h).mono ?_; rintro e w' ⟨rfl, rfl⟩)
  go_loop [8, 9] (fun x i => ∃ k m : Nat, k ≤ c ∧ m = val (sub s p k) ∧ i = .int .i64 k ∧ x = .int .u64 m) (fun _ i => c - (intOf i).toNat)
  case atStart => exact ⟨0, 0, Nat.zero_le _, rfl, rfl, rfl⟩
  case round =>
    obtain ⟨k, m, hk, hm, rfl, rfl⟩ := hrel
    have HM : Hid (m = val (sub s p k)) := hm
    clear hm
    by_cases hlt : k < c
    · have hpk : p + k < s.size := by omega
      have hmu : m ≤ 72057594037927935 := by rw [HM.out]; exact val_sub_le s p k (by omega) (by omega)
      have hby : (s[p + k].toNat : Int) ≤ 255 := by have := s[p + k].toNat_lt; omega
      go_wp2
      go_round
      case rel => exact ⟨k + 1, m * 256 + s[p + k].toNat, by omega, by rw [HM.out, sub_snoc s p k hpk, val_snoc], by go_num, by go_num⟩
      case measure => simp [intOf]; omega
    · have hkc : k = c := by omega
      subst hkc
      go_wp2
      go_ret2
      exact ⟨by rw [← HM.out]; rfl, rfl⟩

theorem get_bad (s : ByteArray) (p c : Int) (w : World) (h : c < 1 ∨ 8 < c) :
    Calls Try.prog 76 #[.string s, .int .i64 p, .int .i64 c] w fun e w' => e = .returned (.tuple #[.int .u64 0, .int .i64 1]) ∧ w = w' := by
  go_enter Try.func76, Try.ntmps76
  go_wp2_with (go_at_call 79; refine (isWidth_no _ _ h).mono ?_; rintro e w' ⟨rfl, rfl⟩)
  go_ret2
  exact ⟨rfl, rfl⟩

theorem rGet_bad (s : ByteArray) (p c : Int) (w : World) (h : c < 1 ∨ 8 < c) :
    Calls Try.prog 53 #[.string s, .int .i64 p, .int .i64 c] w fun e w' => e = .returned (.tuple #[.int .u64 0, .int .i64 1]) ∧ w = w' := by
  rcases h with h | h
  · go_enter Try.func53, Try.ntmps53
    go_wp2
    go_ret2
    exact ⟨rfl, rfl⟩
  · have hd : decide (c < 1) = false := by simp; omega
    go_enter Try.func53, Try.ntmps53
    go_wp2
    go_ret2
    exact ⟨rfl, rfl⟩

theorem get_off (s : ByteArray) (p : Int) (c : Nat) (w : World) (h1 : 1 ≤ c) (h2 : c ≤ 8) (hp : -9223372036854775808 ≤ p ∧ p ≤ 9223372036854775807) (hs : s.size ≤ maxLen) (h : p < 0 ∨ s.size < p + c) :
    Calls Try.prog 76 #[.string s, .int .i64 p, .int .i64 c] w fun e w' => e = .returned (.tuple #[.int .u64 0, .int .i64 3]) ∧ w = w' := by
  go_enter Try.func76, Try.ntmps76
  go_wp2_with (first
    | (go_at_call 79; refine (isWidth_yes _ _ (by omega) (by omega)).mono ?_; rintro e w' ⟨rfl, rfl⟩)
    | (go_at_call 82; refine (stands_no s p c _ h2 hp hs h).mono ?_; rintro e w' ⟨rfl, rfl⟩))
  go_ret2
  exact ⟨rfl, rfl⟩

theorem rGet_off (s : ByteArray) (p : Int) (c : Nat) (w : World) (h1 : 1 ≤ c) (h2 : c ≤ 8) (hp : -9223372036854775808 ≤ p ∧ p ≤ 9223372036854775807) (hs : s.size ≤ maxLen) (h : p < 0 ∨ s.size < p + c) :
    Calls Try.prog 53 #[.string s, .int .i64 p, .int .i64 c] w fun e w' => e = .returned (.tuple #[.int .u64 0, .int .i64 3]) ∧ w = w' := by
  go_enter Try.func53, Try.ntmps53
  go_wp2_with (go_at_call 77; refine (place_no s p c _ h2 hp hs h).mono ?_; rintro e w' ⟨rfl, rfl⟩)
  go_ret2
  exact ⟨rfl, rfl⟩
end Go.Proofs.Ythohopbolalpcaa
