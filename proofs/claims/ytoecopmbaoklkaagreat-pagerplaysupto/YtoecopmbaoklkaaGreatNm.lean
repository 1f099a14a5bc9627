/-
  What the journal's put, get and block answer, the document's block, the law's block and size; the number told by a head.
-/
import Derived.Test.YtoecopmbaoklkaaGreatRs
import Derived.Test.YtoecopmbaoklkaaGreatMix
import Derived.Test.YtoecopmbaoklkaaGreatShelf
namespace Go.Proofs.YtoecopmbaoklkaaGreat
open Go.RowKit
set_option linter.unusedVariables false
set_option linter.unusedSimpArgs false
set_option maxRecDepth 100000

theorem put_any (n c : Nat) (h1 : 1 ≤ c) (h2 : c ≤ 8) (hn : n < 256 ^ c) (w : World) : Calls Tryz.prog 118 #[.int .u64 (n : Nat), .int .i64 (c : Nat)] w fun e w' => e = .returned (.string (bt (Nu.be n c))) ∧ Below w.heap.size w w' := by
  have hp := Nu.put_ok n c w h1 h2 hn
  rw [show (⟨(Nu.be n c).toArray⟩ : ByteArray) = bt (Nu.be n c) from rfl] at hp
  generalize bt (Nu.be n c) = s at *
  clear hn
  go_enter Tryz.func118, Tryz.ntmps118
  go_wp2_with (go_at_call 127; refine hp.mono ?_; rintro e w1 ⟨rfl, hb1⟩)
  go_ret
  exact ⟨rfl, hb1⟩
theorem block_any (s : ByteArray) (h : s.size ≤ 256) (w : World) : Calls Tryz.prog 110 #[.string s] w fun e w' => e = .returned (.string (Nu.padOf s 256)) ∧ Below w.heap.size w w' := by
  have hp : Calls Tryz.prog 122 #[.string s, .int .i64 256] w fun e w' => e = .returned (.tuple #[.string (Nu.padOf s 256), .int .i64 0]) ∧ Below w.heap.size w w' := Nu.pad_ok s 256 w (by omega) h
  generalize Nu.padOf s 256 = t at *
  clear h
  go_enter Tryz.func110, Tryz.ntmps110
  go_wp2_with (go_at_call 122; refine hp.mono ?_; rintro e w1 ⟨rfl, hb1⟩)
  go_ret
  exact ⟨rfl, hb1⟩
theorem rBlock_any (s : ByteArray) (h : s.size ≤ 256) (w : World) : Calls Tryz.prog 114 #[.string s] w fun e w' => e = .returned (.string (Nu.padOf s 256)) ∧ Below w.heap.size w w' := by
  obtain ⟨m, hm⟩ : ∃ m : Nat, 256 - s.size = m := ⟨_, rfl⟩
  have hb : Nu.padOf s 256 = s ++ ⟨(List.replicate m 0).toArray⟩ := by
    unfold Nu.padOf
    rw [hm]
    exact (Nu.ba_append s.data.toList (List.replicate m 0)).symm
  have hmi : (256 : Int) - (s.size : Int) = (m : Int) := by omega
  have hl : (⟨(List.replicate m 0).toArray⟩ : ByteArray).size ≤ 256 := by
    show (List.replicate m (0 : UInt8)).toArray.size ≤ _
    simp; omega
  have hz : ∀ w1, _ := fun w1 => Nu.zeros_ok m w1 (by omega)
  rw [hb]
  generalize (⟨(List.replicate m 0).toArray⟩ : ByteArray) = t at *
  clear hb hm
  go_enter Tryz.func114, Tryz.ntmps114
  go_wp2_with (go_at_call 25; refine (hz _).mono ?_; rintro e w1 ⟨rfl, hb1⟩)
  go_ret
  exact ⟨rfl, hb1⟩
theorem blk_pad {s : ByteArray} (h : s.size ≤ 256) : blk s = Nu.padOf s 256 := by
  unfold blk Nu.padOf
  rw [if_neg (by omega)]
  exact Nu.ba_append s.data.toList _
theorem lBlock_any (s : ByteArray) (hs : s.size ≤ maxLen) (w : World) : Calls Tryz.prog 20 #[.string s] w fun e w' => e = .returned (.string (blk s)) ∧ Below w.heap.size w w' := by
  unfold maxLen at hs
  by_cases h : 256 < s.size
  · have hb : blk s = s.extract 0 256 := by unfold blk; rw [if_pos h]
    rw [hb]
    clear hb
    go_enter Tryz.func20, Tryz.ntmps20
    go_wp2
    go_ret
    exact ⟨rfl, Below.refl _ _⟩
  · obtain ⟨m, hm⟩ : ∃ m : Nat, 256 - s.size = m := ⟨_, rfl⟩
    have hb : blk s = s ++ ⟨(zs m).toArray⟩ := by unfold blk; rw [if_neg h, hm]
    have hmi : (256 : Int) - (s.size : Int) = (m : Int) := by omega
    have hl : (⟨(zs m).toArray⟩ : ByteArray).size ≤ 256 := by rw [zs_size]; omega
    rw [hb]
    clear hb hm
    go_enter Tryz.func20, Tryz.ntmps20
    go_wp2_with (go_at_call 25; refine (zeros_any m _ (by omega)).mono ?_; rintro e w1 ⟨rfl, hb1⟩)
    go_ret
    exact ⟨rfl, hb1⟩
/-- of how many blocks the law's disk is -/
def szN (x : Int) : Nat := 64 + (IntKind.u64.wrap x % 300).toNat
theorem szN_lo (x : Int) : 64 ≤ szN x := by unfold szN; omega
theorem szN_hi (x : Int) : szN x ≤ 363 := by
  unfold szN; omega
theorem has_jrnl (l : List UInt8) : Lib.hasPrefix l [106, 114, 110, 108] = decide (l.take 4 = [106, 114, 110, 108]) := by
  unfold Lib.hasPrefix
  rw [Bool.eq_iff_iff, List.isPrefixOf_iff_prefix, List.prefix_iff_eq_take, decide_eq_true_iff]
  exact eq_comm
end Go.Proofs.YtoecopmbaoklkaaGreat
