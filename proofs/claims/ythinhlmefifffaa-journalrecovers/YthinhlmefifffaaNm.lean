/-
  What the journal's put, get and block answer, the document's block, the law's block and size; the number told by a head.
-/
import Derived.Test.YthinhlmefifffaaP10
import Derived.Test.YthinhlmefifffaaMix
import Derived.Test.YthinhlmefifffaaShelf
namespace Go.Proofs.Ythinhlmefifffaa
open Go.RowKit
set_option linter.unusedVariables false
set_option linter.unusedSimpArgs false
set_option maxRecDepth 100000

theorem put_any (n c : Nat) (h1 : 1 ≤ c) (h2 : c ≤ 8) (hn : n < 256 ^ c) (w : World) : Calls Try.prog 83 #[.int .u64 (n : Nat), .int .i64 (c : Nat)] w fun e w' => e = .returned (.string (bt (Nu.be n c))) ∧ Below w.heap.size w w' := by
  have hp := Nu.put_ok n c w h1 h2 hn
  rw [show (⟨(Nu.be n c).toArray⟩ : ByteArray) = bt (Nu.be n c) from rfl] at hp
  generalize bt (Nu.be n c) = s at *
  clear hn
  go_enter Try.func83, Try.ntmps83
  go_wp2_with (go_at_call 98; refine hp.mono ?_; rintro e w1 ⟨rfl, hb1⟩)
  go_ret
  exact ⟨rfl, hb1⟩
theorem get_any (s : ByteArray) (p : Nat) (hs : s.size ≤ maxLen) (h : p + 2 ≤ s.size) (w : World) : Calls Try.prog 91 #[.string s, .int .i64 (p : Nat)] w fun e w' => e = .returned (.int .i64 (Nu.val (Nu.sub s p 2) : Nat)) ∧ w = w' := by
  have hp : Calls Try.prog 100 #[.string s, .int .i64 (p : Nat), .int .i64 2] w fun e w' => e = .returned (.tuple #[.int .u64 (Nu.val (Nu.sub s p 2)), .int .i64 0]) ∧ w = w' := Nu.get_ok s p 2 w (by omega) (by omega) hs h
  have hv : Nu.val (Nu.sub s p 2) < 65536 := by
    have h1 := Nu.val_lt (Nu.sub s p 2)
    have h2 : (Nu.sub s p 2).length ≤ 2 := by unfold Nu.sub; rw [List.length_take]; omega
    have h3 := Nat.pow_le_pow_right (n := 256) (by omega) h2
    omega
  generalize Nu.val (Nu.sub s p 2) = v at *
  have hvi : (v : Int) < 65536 := by omega
  clear h hs
  go_enter Try.func91, Try.ntmps91
  go_wp2_with (go_at_call 100; refine hp.mono ?_; rintro e w1 ⟨rfl, rfl⟩)
  go_ret
  exact ⟨rfl, rfl⟩
theorem block_any (s : ByteArray) (h : s.size ≤ 256) (w : World) : Calls Try.prog 65 #[.string s] w fun e w' => e = .returned (.string (Nu.padOf s 256)) ∧ Below w.heap.size w w' := by
  have hp : Calls Try.prog 87 #[.string s, .int .i64 256] w fun e w' => e = .returned (.tuple #[.string (Nu.padOf s 256), .int .i64 0]) ∧ Below w.heap.size w w' := Nu.pad_ok s 256 w (by omega) h
  generalize Nu.padOf s 256 = t at *
  clear h
  go_enter Try.func65, Try.ntmps65
  go_wp2_with (go_at_call 87; refine hp.mono ?_; rintro e w1 ⟨rfl, hb1⟩)
  go_ret
  exact ⟨rfl, hb1⟩
theorem rBlock_any (s : ByteArray) (h : s.size ≤ 256) (w : World) : Calls Try.prog 70 #[.string s] w fun e w' => e = .returned (.string (Nu.padOf s 256)) ∧ Below w.heap.size w w' := by
  obtain ⟨m, hm⟩ : ∃ m : Nat, 256 - s.size = m := ⟨_, rfl⟩
  have hb : Nu.padOf s 256 = s ++ ⟨(List.replicate m 0).toArray⟩ := by
    unfold Nu.padOf
    rw [hm]
    exact (Nu.ba_append s.data.toList (List.replicate m 0)).symm
  have hmi : (256 : Int) - (s.size : Int) = (m : Int) := by omega
  have hl : (⟨(List.replicate m 0).toArray⟩ : ByteArray).size ≤ 256 := by
    show (List.replicate m (0 : UInt8)).toArray.size ≤ _
    simp; omega
  have hz : ∀ w1, _ := fun w1 => Nu.zeros_ok m w1 (by omega)
  rw [hb]
  generalize (⟨(List.replicate m 0).toArray⟩ : ByteArray) = t at *
  clear hb hm
  go_enter Try.func70, Try.ntmps70
  go_wp2_with (go_at_call 55; refine (hz _).mono ?_; rintro e w1 ⟨rfl, hb1⟩)
  go_ret
  exact ⟨rfl, hb1⟩
theorem blk_pad {s : ByteArray} (h : s.size ≤ 256) : blk s = Nu.padOf s 256 := by
  unfold blk Nu.padOf
  rw [if_neg (by omega)]
  exact Nu.ba_append s.data.toList _
theorem lBlock_any (s : ByteArray) (hs : s.size ≤ maxLen) (w : World) : Calls Try.prog 32 #[.string s] w fun e w' => e = .returned (.string (blk s)) ∧ Below w.heap.size w w' := by
  unfold maxLen at hs
  by_cases h : 256 < s.size
  · have hb : blk s = s.extract 0 256 := by unfold blk; rw [if_pos h]
    rw [hb]
    clear hb
    go_enter Try.func32, Try.ntmps32
    go_wp2
    go_ret
    exact ⟨rfl, Below.refl _ _⟩
  · obtain ⟨m, hm⟩ : ∃ m : Nat, 256 - s.size = m := ⟨_, rfl⟩
    have hb : blk s = s ++ ⟨(zs m).toArray⟩ := by unfold blk; rw [if_neg h, hm]
    have hmi : (256 : Int) - (s.size : Int) = (m : Int) := by omega
    have hl : (⟨(zs m).toArray⟩ : ByteArray).size ≤ 256 := by rw [zs_size]; omega
    rw [hb]
    clear hb hm
    go_enter Try.func32, Try.ntmps32
    go_wp2_with (go_at_call 55; refine (zeros_any m _ (by omega)).mono ?_; rintro e w1 ⟨rfl, hb1⟩)
    go_ret
    exact ⟨rfl, hb1⟩
/-- of how many blocks the law's disk is -/
def szN (x : Int) : Nat := 64 + (IntKind.u64.wrap x % 300).toNat
theorem szN_lo (x : Int) : 64 ≤ szN x := by unfold szN; omega
theorem szN_hi (x : Int) : szN x ≤ 363 := by
  unfold szN; omega
theorem size_any (x : Int) (w : World) : Calls Try.prog 37 #[.int .i64 x] w fun e w' => e = .returned (.int .i64 (szN x : Nat)) ∧ w = w' := by
  have hu : 0 ≤ IntKind.u64.wrap x := by rw [IntKind.wrap_u64]; omega
  have HW : Hid (((szN x : Nat) : Int) = 64 + IntKind.u64.wrap x % 300) := by show _ = _; unfold szN; omega
  go_enter Try.func37, Try.ntmps37
  go_wp2
  go_ret
  refine ⟨?_, rfl⟩
  rw [HW.out]
  rfl
theorem has_jrnl (l : List UInt8) : Lib.hasPrefix l [106, 114, 110, 108] = decide (l.take 4 = [106, 114, 110, 108]) := by
  unfold Lib.hasPrefix
  rw [Bool.eq_iff_iff, List.isPrefixOf_iff_prefix, List.prefix_iff_eq_take, decide_eq_true_iff]
  exact eq_comm
theorem told_any (h : ByteArray) (hs : h.size = 256) (w : World) : Calls Try.prog 72 #[.string h] w fun e w' => e = .returned (.int .i64 (told h : Nat)) ∧ w = w' := by
  have hp : Calls Try.prog 78 #[.string h, .string ⟨#[106, 114, 110, 108]⟩] w fun e w' => e = .returned (.bool (decide (h.data.toList.take 4 = [106, 114, 110, 108]))) ∧ w = w' := (Try.strings_HasPrefix h ⟨#[106, 114, 110, 108]⟩ w).mono fun e w' hh => ⟨by rw [hh.1, ← has_jrnl], hh.2.symm⟩
  have hg := get_any h 4 (by rw [hs]; decide) (by omega) w
  unfold told
  by_cases hj : h.data.toList.take 4 = [106, 114, 110, 108]
  · rw [if_pos hj]
    rw [decide_eq_true hj] at hp
    rw [show Nu.val (Nu.sub h 4 2) = Nu.val ((h.data.toList.drop 4).take 2) from rfl] at hg
    generalize Nu.val ((h.data.toList.drop 4).take 2) = v at *
    clear hj hs
    go_enter Try.func72, Try.ntmps72
    go_wp2_with (first | (go_at_call 78; refine hp.mono ?_; rintro e w1 ⟨rfl, rfl⟩) | (go_at_call 91; refine hg.mono ?_; rintro e w1 ⟨rfl, rfl⟩))
    go_ret
    exact ⟨rfl, rfl⟩
  · rw [if_neg hj]
    rw [decide_eq_false hj] at hp
    clear hj hs hg
    go_enter Try.func72, Try.ntmps72
    go_wp2_with (go_at_call 78; refine hp.mono ?_; rintro e w1 ⟨rfl, rfl⟩)
    go_ret
    exact ⟨rfl, rfl⟩

end Go.Proofs.Ythinhlmefifffaa
