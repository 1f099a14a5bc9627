/-
  Small helpers of the laws: kind, size, long; both spaces side by side.
-/
import Derived.Test.YtglallhblcjffaaGreatDoorRa6
namespace Go.Proofs.YtglallhblcjffaaGreatDoor
open Go.RowKit
set_option linter.unusedVariables false
set_option linter.unusedSimpArgs false
set_option maxRecDepth 100000

/-- a number, modulo -/
def kd (k : Int) (n : Nat) : Int := IntKind.u64.wrap k % (n : Int)
theorem kd_lo (k : Int) {n : Nat} (h : 0 < n) : 0 ≤ kd k n := Int.emod_nonneg _ (by omega)
theorem kd_hi (k : Int) {n : Nat} (h : 0 < n) : kd k n < n := Int.emod_lt_of_pos _ (by omega)
theorem kind_any (k : Int) (n : Nat) (hn : 0 < n ∧ n ≤ 1000) (w : World) : Calls Tryz.prog 13 #[.int .i64 k, .int .i64 (n : Nat)] w fun e w' => e = .returned (.int .i64 (kd k n)) ∧ w = w' := by
  have h1 := kd_lo k hn.1
  have h2 := kd_hi k hn.1
  have h0 : 0 ≤ IntKind.u64.wrap k := by rw [IntKind.wrap_u64]; omega
  have h3 : IntKind.u64.wrap k ≤ 18446744073709551615 := by rw [IntKind.wrap_u64]; omega
  have h4 : ¬ (n : Int) = 0 := by omega
  have h5 : (IntKind.u64.wrap k).tmod (n : Int) = kd k n := by unfold kd; exact Int.tmod_eq_emod_of_nonneg h0
  have h6 : IntKind.i64.wrap (kd k n) = kd k n := IntWalk.i64_in _ ⟨by omega, by omega⟩
  go_enter Tryz.func13, Tryz.ntmps13
  go_wp2
  go_ret
  exact ⟨rfl, rfl⟩
/-- the size of a disk that may be -/
def sz (a : Int) : Nat := 64 + (kd a 40).toNat
theorem sz_in (a : Int) : 64 ≤ sz a ∧ sz a ≤ 103 := by
  have h1 := kd_lo a (n := 40) (by decide)
  have h2 := kd_hi a (n := 40) (by decide)
  unfold sz
  omega
theorem size_any (a : Int) (w : World) : Calls Tryz.prog 19 #[.int .i64 a] w fun e w' => e = .returned (.int .i64 (sz a : Nat)) ∧ w = w' := by
  have hk := kind_any a 40 (by decide) w
  have h1 := kd_lo a (n := 40) (by decide)
  have h2 := kd_hi a (n := 40) (by decide)
  have he : ((sz a : Nat) : Int) = 64 + kd a 40 := by unfold sz; omega
  have hw : IntKind.i64.wrap (64 + kd a 40) = 64 + kd a 40 := IntWalk.i64_in _ ⟨by omega, by omega⟩
  rw [he]
  go_enter Tryz.func19, Tryz.ntmps19
  go_wp2_with (go_at_call 13; refine hk.mono ?_; clear hk; rintro e w1 ⟨rfl, rfl⟩)
  go_ret
  exact ⟨rfl, rfl⟩
/-- a text made so long -/
def lng (s : ByteArray) (n : Nat) : ByteArray := if n < s.size then s.extract 0 n else s ++ ⟨(zs (n - s.size)).toArray⟩
theorem lng_size (s : ByteArray) (n : Nat) : (lng s n).size = n := by
  unfold lng
  by_cases h : n < s.size
  · rw [if_pos h, ByteArray.size_extract]
    omega
  · rw [if_neg h, ByteArray.size_append]
    show s.size + (zs (n - s.size)).toArray.size = n
    simp [zs]
    omega
theorem long_any (s : ByteArray) (n : Nat) (hn : n ≤ 1000) (w : World) : Calls Tryz.prog 33 #[.string s, .int .i64 (n : Nat)] w fun e w' => e = .returned (.string (lng s n)) ∧ Below w.heap.size w w' := by
  unfold lng
  by_cases h : n < s.size
  · rw [if_pos h]
    have h1 : (n : Int) < (s.size : Int) := by omega
    have h2 : ¬ (n : Int) < 0 := by omega
    have h3 : (n : Int) ≤ (s.size : Int) := by omega
    have h4 : n ≤ s.size := by omega
    go_enter Tryz.func33, Tryz.ntmps33
    go_wp2_with fail
    go_ret
    exact ⟨rfl, Below.refl _ _⟩
  · rw [if_neg h]
    have h1 : ¬ (n : Int) < (s.size : Int) := by omega
    have hw : IntKind.i64.wrap ((n : Int) - (s.size : Int)) = ((n - s.size : Nat) : Int) := by rw [IntKind.wrap_i64]; omega
    have hz := zeros_any (n - s.size) w (by omega)
    have hzs : (⟨(zs (n - s.size)).toArray⟩ : ByteArray).size = n - s.size := by show (zs (n - s.size)).toArray.size = _; simp [zs]
    generalize (⟨(zs (n - s.size)).toArray⟩ : ByteArray) = z at *
    have hlen : ¬ 9223372036854775807 < s.size + z.size := by omega
    go_enter Tryz.func33, Tryz.ntmps33
    go_wp2_with (go_at_call 48; refine hz.mono ?_; clear hz; rintro e w1 ⟨rfl, hb⟩)
    go_ret
    exact ⟨rfl, hb⟩
end Go.Proofs.YtglallhblcjffaaGreatDoor
