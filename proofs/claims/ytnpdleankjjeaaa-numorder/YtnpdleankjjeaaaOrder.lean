/-
  Proved: NumOrder returns true for every two numbers and every width, and its arguments read behind the call as before.
-/
import Derived.Test.YtnpdleankjjeaaaRows
import Derived.Test.YtnpdleankjjeaaaNumB
import Derived.ProofKit
import Derived.OpenShut
import Derived.ShutString
import Derived.ChangeOld
import Derived.Below
import Derived.SizedLaws
import Derived.Lib.SmallJoins
namespace Go.Proofs.Ytnpdleankjjeaaa
open Go.ChangeShapes Go.WideShapes Go.ChangeAt Go.RowKit Go.Joins
open Go.ChangeMaps (open_string shut_string)
set_option linter.unusedVariables false

theorem byte_split (a b k : Nat) (ha : a < 256 ^ (k + 1)) : a = a / 256 ^ k * 256 ^ k + a % 256 ^ k ∧ a / 256 ^ k < 256 := by
  constructor
  · have := Nat.div_add_mod a (256 ^ k); rw [Nat.mul_comm]; omega
  · rw [Nat.pow_succ, Nat.mul_comm] at ha; exact Nat.div_lt_of_lt_mul (by rw [Nat.mul_comm]; exact ha)

theorem be_mod (n k : Nat) : be (n % 256 ^ k) k = be n k := by
  induction k generalizing n with
  | zero => rfl
  | succ k ih =>
    have h1 : n % 256 ^ (k + 1) / 256 = n / 256 % 256 ^ k := by
      rw [Nat.pow_succ, Nat.mul_comm, Nat.mod_mul]
      omega
    have h2 : UInt8.ofNat (n % 256 ^ (k + 1)) = UInt8.ofNat n := by
      apply UInt8.toNat_inj.1
      rw [UInt8.toNat_ofNat', UInt8.toNat_ofNat', Nat.pow_succ, Nat.mul_comm, Nat.mod_mul]
      omega
    rw [be, be, h1, h2, ih]

/-- The bytes of two numbers that fit are ordered as the numbers are. -/
theorem be_less (k : Nat) : ∀ a b : Nat, a < 256 ^ k → b < 256 ^ k → Op.bytesLess (be a k) (be b k) = decide (a < b) := by
  induction k with
  | zero => intro a b ha hb; simp at ha hb; subst ha hb; rfl
  | succ k ih =>
    intro a b ha hb
    obtain ⟨ea, la⟩ := byte_split a b k ha
    obtain ⟨eb, lb⟩ := byte_split b a k hb
    have hp : 0 < 256 ^ k := Nat.pow_pos (by omega)
    have ma := Nat.mod_lt a hp
    have mb := Nat.mod_lt b hp
    have h := ih (a % 256 ^ k) (b % 256 ^ k) ma mb
    rw [be_mod, be_mod] at h
    rw [be_cons, be_cons]
    simp only [Op.bytesLess]
    rw [h]
    have e1 : (UInt8.ofNat (a / 256 ^ k) < UInt8.ofNat (b / 256 ^ k)) ↔ a / 256 ^ k < b / 256 ^ k := by
      rw [UInt8.lt_iff_toNat_lt, UInt8.toNat_ofNat', UInt8.toNat_ofNat', Nat.mod_eq_of_lt la, Nat.mod_eq_of_lt lb]
    have e2 : (UInt8.ofNat (a / 256 ^ k) = UInt8.ofNat (b / 256 ^ k)) ↔ a / 256 ^ k = b / 256 ^ k := by
      rw [← UInt8.toNat_inj, UInt8.toNat_ofNat', UInt8.toNat_ofNat', Nat.mod_eq_of_lt la, Nat.mod_eq_of_lt lb]
    generalize a / 256 ^ k = x at *
    generalize b / 256 ^ k = y at *
    generalize a % 256 ^ k = r at *
    generalize b % 256 ^ k = s at *
    generalize 256 ^ k = m at *
    rcases Nat.lt_trichotomy x y with hxy | hxy | hxy
    · have : a < b := by
        have : (x + 1) * m ≤ y * m := Nat.mul_le_mul_right m hxy
        rw [Nat.add_mul] at this
        omega
      simp [e1.2 hxy, this]
    · subst hxy
      have n1 : ¬ UInt8.ofNat x < UInt8.ofNat x := fun h => absurd (e1.1 h) (by omega)
      have : (a < b) ↔ r < s := by omega
      simp [n1, this]
    · have n1 : ¬ UInt8.ofNat x < UInt8.ofNat y := fun h => absurd (e1.1 h) (by omega)
      have n2 : ¬ UInt8.ofNat x = UInt8.ofNat y := fun h => absurd (e2.1 h) (by omega)
      have : ¬ a < b := by
        have : (y + 1) * m ≤ x * m := Nat.mul_le_mul_right m hxy
        rw [Nat.add_mul] at this
        omega
      simp [n1, n2, this]

theorem be_beq {a b k : Nat} (ha : a < 256 ^ k) (hb : b < 256 ^ k) : (be a k == be b k) = ((a : Int) == (b : Int)) := by
  by_cases h : a = b
  · subst h; simp
  · have h1 : be a k ≠ be b k := fun e => h (be_inj ha hb e)
    have h2 : (a : Int) ≠ (b : Int) := by omega
    rw [beq_eq_false_iff_ne.2 h1, beq_eq_false_iff_ne.2 h2]

theorem numOrder_ok (a b c : Nat) (w : World) (h1 : 1 ≤ c) (h2 : c ≤ 8) (ha : a < 256 ^ c) (hb : b < 256 ^ c) :
    Calls Try.prog 7 #[.int .u64 a, .int .u64 b, .int .i64 c] w fun e w' => e = .returned (.bool true) ∧ Below w.heap.size w w' := by
  have hl := be_less c a b ha hb
  have he := be_beq ha hb
  go_enter Try.func7, Try.ntmps7
  go_wp2_with (first
    | (go_at_call 9; refine (wakes_any _).mono ?_; rintro e w1 ⟨rfl, hb1⟩)
    | (go_at_call 10; refine (put_ok _ c _ h1 h2 (by assumption)).mono ?_; first | (have := hb2; rintro e w3 ⟨rfl, hb3⟩) | (rintro e w2 ⟨rfl, hb2⟩)))
  go_ret
  exact ⟨rfl, hb1.trans ((hb2.trans (hb3.mono hb2.size)).mono hb1.size)⟩

/-- What Put answers where the width may be: the number's bytes, or a refusal; old memory stays. -/
theorem put_either (n c : Nat) (w : World) (h1 : 1 ≤ c) (h2 : c ≤ 8) (hu : n ≤ 18446744073709551615) :
    Calls Try.prog 10 #[.int .u64 n, .int .i64 c] w fun e w' => (∃ s k, (n < 256 ^ c ∧ k = 0 ∨ 256 ^ c ≤ n ∧ k = 1) ∧ e = .returned (.tuple #[.string s, .int .i64 k])) ∧ Below w.heap.size w w' := by
  by_cases hn : n < 256 ^ c
  · exact (put_ok n c w h1 h2 hn).mono fun e w' ⟨he, hb⟩ => ⟨⟨_, 0, .inl ⟨hn, rfl⟩, he⟩, hb⟩
  · refine (put_great n c w h1 h2 hu (by omega)).mono fun e w' ⟨he, hb⟩ => ?_
    subst hb
    exact ⟨⟨_, 1, .inr ⟨by omega, rfl⟩, he⟩, Below.refl _ _⟩

theorem numOrder_no (a b c : Nat) (w : World) (h1 : 1 ≤ c) (h2 : c ≤ 8) (hua : a ≤ 18446744073709551615) (hub : b ≤ 18446744073709551615) (h : 256 ^ c ≤ a ∨ 256 ^ c ≤ b) :
    Calls Try.prog 7 #[.int .u64 a, .int .u64 b, .int .i64 c] w fun e w' => e = .returned (.bool true) ∧ Below w.heap.size w w' := by
  go_enter Try.func7, Try.ntmps7
  go_wp2_with (first
    | (go_at_call 9; refine (wakes_any _).mono ?_; rintro e w1 ⟨rfl, hb1⟩)
    | (go_at_call 10; refine (put_either _ c _ h1 h2 (by assumption)).mono ?_; first | (have := hb2; rintro e w3 ⟨⟨s3, k3, hk3, rfl⟩, hb3⟩; rcases hk3 with ⟨hc3, rfl⟩ | ⟨hc3, rfl⟩) | (rintro e w2 ⟨⟨s2, k2, hk2, rfl⟩, hb2⟩; rcases hk2 with ⟨hc2, rfl⟩ | ⟨hc2, rfl⟩)))
  all_goals first
    | omega
    | (go_ret; exact ⟨rfl, hb1.trans ((hb2.trans (hb3.mono hb2.size)).mono hb1.size)⟩)

theorem numOrder_bad (a b c : Int) (w : World) (h : c < 1 ∨ 8 < c) :
    Calls Try.prog 7 #[.int .u64 a, .int .u64 b, .int .i64 c] w fun e w' => e = .returned (.bool true) ∧ Below w.heap.size w w' := by
  go_enter Try.func7, Try.ntmps7
  go_wp2_with (first
    | (go_at_call 9; refine (wakes_any _).mono ?_; rintro e w1 ⟨rfl, hb1⟩)
    | (go_at_call 10; refine (put_badWidth _ _ _ h).mono ?_; rintro e w2 ⟨rfl, rfl⟩))
  go_ret
  exact ⟨rfl, hb1⟩

theorem numOrder_walk (a0 a1 a2 : Int) (w0 : (Lit.int .u64 a0).wf = true) (w1 : (Lit.int .u64 a1).wf = true) (w2 : (Lit.int .i64 a2).wf = true) (w : World) :
    Calls Try.prog 7 #[.int .u64 a0, .int .u64 a1, .int .i64 a2] w fun e w' => e = .returned (.bool true) ∧ Below w.heap.size w w' := by
  obtain ⟨b1, b2⟩ := bounds_u64 w0
  obtain ⟨b3, b4⟩ := bounds_u64 w1
  by_cases h : a2 < 1 ∨ 8 < a2
  · exact numOrder_bad a0 a1 a2 w h
  · obtain ⟨a, rfl⟩ : ∃ n : Nat, a0 = n := ⟨a0.toNat, by omega⟩
    obtain ⟨b, rfl⟩ : ∃ n : Nat, a1 = n := ⟨a1.toNat, by omega⟩
    obtain ⟨c, rfl⟩ : ∃ c : Nat, a2 = c := ⟨a2.toNat, by omega⟩
    by_cases hn : a < 256 ^ c ∧ b < 256 ^ c
    · exact numOrder_ok a b c w (by omega) (by omega) hn.1 hn.2
    · exact numOrder_no a b c w (by omega) (by omega) (by omega) (by omega) (by omega)

theorem numOrder_own : ownKnob Try.prog.godebug = none := by kernel_rfl
theorem numOrder_laidOut : laidOutB Try.prog = true := by kernel_rfl

set_option maxRecDepth 100000 in
theorem numOrder_lifted (os : Os) (started : os.Started) (H : Type) (enc : TypeId × Value → H) :
    ReturnsInHanded {} Try.checked os 7 .any (Rows.numOrderSpec.pre6 enc Try.prog Try.f7 Rows.numOrderRow.domain false) (Rows.numOrderSpec.post enc Try.prog Try.f7 false true false false) := by
  refine returnsInHanded_of_change_sized (C := Try.checked) numOrder_own started (by kernel_rfl) Try.func7
    (ChangeSpec.witness6 (enc := enc) (C := Try.checked) false ⟨#[], #[.int .u64 0, .int .u64 0, .int .i64 0], []⟩ 8 (by kernel_rfl) (by kernel_rfl) (by kernel_rfl) (by kernel_rfl)) ?_
  intro W base args ds gs before hval0 hW hcnd hsz0 _
  have hsz : (DataW.weightsEach Try.prog (Try.f7.params.toList ++ Rows.numOrderSpec.plain.varTypes Try.prog) (ds ++ gs)).all (· ≤ reachBytes) = true := hsz0
  have hval : ∀ (j : Nat) t v, Try.f7.params[j]? = some t → args[j]? = some v → Value.okWide Try.prog W .any base t v := hval0
  have hW' := hW
  obtain ⟨p, q, hA0, hV, rfl, hfz, hnd⟩ := hW
  have hA : DataW.TrodAll enc Try.prog W 0 (fun _ => true) true Try.f7.params.toList args.toList ds p := hA0
  rw [Try.params7] at hA hval hsz
  obtain ⟨v0, vs0, d0, ds0, p0, q0, hargs, rfl, rfl, h0, r0⟩ := trodAll_cons hA
  obtain ⟨v1, vs1, d1, ds1, p1, q1, rfl, rfl, rfl, h1, r1⟩ := trodAll_cons r0
  obtain ⟨v2, vs2, d2, ds2, p2, q2, rfl, rfl, rfl, h2, r2⟩ := trodAll_cons r1
  obtain ⟨rfl, rfl, rfl⟩ := trodAll_nil r2
  obtain rfl : args = #[v0, v1, v2] := by cases args; simp_all
  obtain ⟨rfl, rfl⟩ := trodVars_none hV
  have k0 := h0
  have lt0 : ∀ x ∈ p0, x.block < W.heap.size := by obtain ⟨m, hm⟩ := k0; exact DataW.trod_lt m _ _ _ hm
  have k1 := h1
  have lt1 : ∀ x ∈ p1, x.block < W.heap.size := by obtain ⟨m, hm⟩ := k1; exact DataW.trod_lt m _ _ _ hm
  have k2 := h2
  have lt2 : ∀ x ∈ p2, x.block < W.heap.size := by obtain ⟨m, hm⟩ := k2; exact DataW.trod_lt m _ _ _ hm
  obtain ⟨a0, rfl, rfl, rfl, w0⟩ := open_int Try.underlying22 (hval 0 22 v0 rfl rfl) h0
  obtain ⟨a1, rfl, rfl, rfl, w1⟩ := open_int Try.underlying22 (hval 1 22 v1 rfl rfl) h1
  obtain ⟨a2, rfl, rfl, rfl, w2⟩ := open_int Try.underlying3 (hval 2 3 v2 rfl rfl) h2
  clear hA0 hval0
  refine (numOrder_walk a0 a1 a2 w0 w1 w2 W).mono fun e W' ⟨he, bel⟩ => ?_
  subst he
  exact ⟨_, rfl, _, _, _, [], _, [], hW', trodAll_mk1 (shut_bool Try.underlying4 _), (trodAll_cons_mk (Below.trod numOrder_laidOut (by kernel_rfl) (of_decide_eq_true (by kernel_rfl)) k0 bel lt0) (trodAll_cons_mk (Below.trod numOrder_laidOut (by kernel_rfl) (of_decide_eq_true (by kernel_rfl)) k1 bel lt1) (trodAll_cons_mk (Below.trod numOrder_laidOut (by kernel_rfl) (of_decide_eq_true (by kernel_rfl)) k2 bel lt2) trodAll_mk0))), rfl, bel.frame _, fun h => by cases h⟩

theorem numOrder_holds : Rows.NumOrderSaid :=
  OpenClaim.holds_of_wide 7 Try.f7 rfl rfl rfl rfl rfl rfl rfl ⟨rfl, rfl, rfl, rfl, rfl⟩ rfl rfl rfl rfl rfl (by kernel_rfl) Try.func7 (by kernel_rfl)
    (of_decide_eq_true (by kernel_rfl)) (by unfold Func.isWrapper; first | (rw [if_pos (by decide +kernel)]; kernel_rfl) | (rw [if_neg (by decide +kernel)]; exact ⟨rfl, rfl⟩))
    (fun os started H enc _ => numOrder_lifted os started H enc)

#print axioms numOrder_holds

end Go.Proofs.Ytnpdleankjjeaaa
