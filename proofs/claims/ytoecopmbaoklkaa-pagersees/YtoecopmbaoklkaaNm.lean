/-
  What the journal's put, get and block answer, the document's block, the law's block and size; the number told by a head.
-/
import Derived.Test.YtoecopmbaoklkaaP10
import Derived.Test.YtoecopmbaoklkaaMix
import Derived.Test.YtoecopmbaoklkaaShelf
namespace Go.Proofs.Ytoecopmbaoklkaa
open Go.RowKit
set_option linter.unusedVariables false
set_option linter.unusedSimpArgs false
set_option maxRecDepth 100000

theorem put_any (n c : Nat) (h1 : 1 ≤ c) (h2 : c ≤ 8) (hn : n < 256 ^ c) (w : World) : Calls Try.prog 88 #[.int .u64 (n : Nat), .int .i64 (c : Nat)] w fun e w' => e = .returned (.string (bt (Nu.be n c))) ∧ Below w.heap.size w w' := by
  have hp := Nu.put_ok n c w h1 h2 hn
  rw [show (⟨(Nu.be n c).toArray⟩ : ByteArray) = bt (Nu.be n c) from rfl] at hp
  generalize bt (Nu.be n c) = s at *
  clear hn
  go_enter Try.func88, Try.ntmps88
  go_wp2_with (go_at_call 94; refine hp.mono ?_; rintro e w1 ⟨rfl, hb1⟩)
  go_ret
  exact ⟨rfl, hb1⟩
theorem block_any (s : ByteArray) (h : s.size ≤ 256) (w : World) : Calls Try.prog 82 #[.string s] w fun e w' => e = .returned (.string (Nu.padOf s 256)) ∧ Below w.heap.size w w' := by
  have hp : Calls Try.prog 92 #[.string s, .int .i64 256] w fun e w' => e = .returned (.tuple #[.string (Nu.padOf s 256), .int .i64 0]) ∧ Below w.heap.size w w' := Nu.pad_ok s 256 w (by omega) h
  generalize Nu.padOf s 256 = t at *
  clear h
  go_enter Try.func82, Try.ntmps82
  go_wp2_with (go_at_call 92; refine hp.mono ?_; rintro e w1 ⟨rfl, hb1⟩)
  go_ret
  exact ⟨rfl, hb1⟩
theorem blk_pad {s : ByteArray} (h : s.size ≤ 256) : blk s = Nu.padOf s 256 := by
  unfold blk Nu.padOf
  rw [if_neg (by omega)]
  exact Nu.ba_append s.data.toList _
theorem lBlock_any (s : ByteArray) (hs : s.size ≤ maxLen) (w : World) : Calls Try.prog 14 #[.string s] w fun e w' => e = .returned (.string (blk s)) ∧ Below w.heap.size w w' := by
  unfold maxLen at hs
  by_cases h : 256 < s.size
  · have hb : blk s = s.extract 0 256 := by unfold blk; rw [if_pos h]
    rw [hb]
    clear hb
    go_enter Try.func14, Try.ntmps14
    go_wp2
    go_ret
    exact ⟨rfl, Below.refl _ _⟩
  · obtain ⟨m, hm⟩ : ∃ m : Nat, 256 - s.size = m := ⟨_, rfl⟩
    have hb : blk s = s ++ ⟨(zs m).toArray⟩ := by unfold blk; rw [if_neg h, hm]
    have hmi : (256 : Int) - (s.size : Int) = (m : Int) := by omega
    have hl : (⟨(zs m).toArray⟩ : ByteArray).size ≤ 256 := by rw [zs_size]; omega
    rw [hb]
    clear hb hm
    go_enter Try.func14, Try.ntmps14
    go_wp2_with (go_at_call 36; refine (zeros_any m _ (by omega)).mono ?_; rintro e w1 ⟨rfl, hb1⟩)
    go_ret
    exact ⟨rfl, hb1⟩
/-- of how many blocks the law's disk is -/
def szN (x : Int) : Nat := 64 + (IntKind.u64.wrap x % 300).toNat
theorem szN_lo (x : Int) : 64 ≤ szN x := by unfold szN; omega
theorem szN_hi (x : Int) : szN x ≤ 363 := by
  unfold szN; omega
theorem has_jrnl (l : List UInt8) : Lib.hasPrefix l [106, 114, 110, 108] = decide (l.take 4 = [106, 114, 110, 108]) := by
  unfold Lib.hasPrefix
  rw [Bool.eq_iff_iff, List.isPrefixOf_iff_prefix, List.prefix_iff_eq_take, decide_eq_true_iff]
  exact eq_comm
end Go.Proofs.Ytoecopmbaoklkaa
