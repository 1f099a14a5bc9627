/-
  SlotAddresses: what addresses are, and their parts; whatever numbers come in, as the document says. No condition of its own.
-/
import Derived.Test.YthohopbolalpcaaRows
import Derived.Test.YthohopbolalpcaaSt
import Derived.ProofKit
import Derived.OpenShut
import Derived.ShutString
import Derived.ChangeOld
import Derived.Below
import Derived.SizedLaws
import Derived.Lib.SmallJoins
namespace Go.Proofs.Ythohopbolalpcaa
open Go.ChangeShapes Go.WideShapes Go.ChangeAt Go.RowKit Go.Joins
open Go.ChangeMaps (open_string shut_string)
set_option linter.unusedVariables false
set_option linter.unusedSimpArgs false
set_option maxRecDepth 100000

theorem addr_walk_no (h : Nat) (s : Int) (a : Nat) (hh : h < 4294967296) (hs : ¬ (1 ≤ s ∧ s ≤ 65535)) (ha : a < 18446744073709551616) (w : World) :
    Calls Try.prog 4 #[.int .u32 (h : Nat), .int .i64 s, .int .u64 (a : Nat)] w fun e w' => e = .returned (.bool true) ∧ Below w.heap.size w w' := by
  have HWK : Hid (∀ w1, _) := fun w1 => wakes_any w1
  have HA1 : Hid (∀ w1, _) := fun w1 => addr_no h s w1 hs
  have HIA : Hid (∀ w1, _) := fun w1 => rIsAddr_any a w1 ha
  have hcase : s < 1 ∨ (¬ s < 1 ∧ 65535 < s) := by omega
  cases hA : isA a
  · rw [hA] at HIA
    have HPA : Hid (∀ w1, _) := fun w1 => parts_no a w1 ha hA
    clear hA hs
    rcases hcase with c1 | ⟨c1, c2⟩
    all_goals
      go_enter Try.func4, Try.ntmps4
      go_wp2_with (first
        | (go_at_call 9; refine (HWK.out _).mono ?_; clear HWK; rintro e w1 ⟨rfl, hb1⟩)
        | (go_at_call 13; refine (HA1.out _).mono ?_; clear HA1; rintro e w2 ⟨rfl, rfl⟩)
        | (go_at_call 14; refine (HPA.out _).mono ?_; clear HPA; rintro e w2 ⟨rfl, rfl⟩)
        | (go_at_call 15; refine (HIA.out _).mono ?_; clear HIA; rintro e w2 ⟨rfl, rfl⟩))
      go_ret
      exact ⟨rfl, hb1⟩
  · rw [hA] at HIA
    have HPA : Hid (∀ w1, _) := fun w1 => parts_yes a w1 hA
    have hal := isA_lt hA
    have han := (isA_ne hA).2
    have HA2 : Hid (∀ w1, Calls Try.prog 13 #[.int .u32 (a / 65536 : Nat), .int .i64 (a % 65536 : Nat)] w1 fun e w' => e = .returned (.tuple #[.int .u64 (a : Nat), .int .i64 0]) ∧ w1 = w') := fun w1 => by
      have := addr_yes (a / 65536) (a % 65536) w1 (by omega) (by omega) (by omega)
      rw [show a / 65536 * 65536 + a % 65536 = a by omega] at this
      exact this
    clear hA hs hal han
    generalize a / 65536 = Q at *
    generalize a % 65536 = R at *
    rcases hcase with c1 | ⟨c1, c2⟩
    all_goals
      go_enter Try.func4, Try.ntmps4
      go_wp2_with (first
        | (go_at_call 9; refine (HWK.out _).mono ?_; clear HWK; rintro e w1 ⟨rfl, hb1⟩)
        | (go_at_call 13; first | (refine (HA1.out _).mono ?_; clear HA1; rintro e w2 ⟨rfl, rfl⟩) | (refine (HA2.out _).mono ?_; clear HA2; rintro e w2 ⟨rfl, rfl⟩))
        | (go_at_call 14; refine (HPA.out _).mono ?_; clear HPA; rintro e w2 ⟨rfl, rfl⟩)
        | (go_at_call 15; refine (HIA.out _).mono ?_; clear HIA; rintro e w2 ⟨rfl, rfl⟩))
      go_ret
      exact ⟨rfl, hb1⟩
theorem addr_walk_yes (h s a : Nat) (hh : h < 4294967296) (h1 : 1 ≤ s) (h2 : s ≤ 65535) (ha : a < 18446744073709551616) (w : World) :
    Calls Try.prog 4 #[.int .u32 (h : Nat), .int .i64 (s : Nat), .int .u64 (a : Nat)] w fun e w' => e = .returned (.bool true) ∧ Below w.heap.size w w' := by
  have HWK : Hid (∀ w1, _) := fun w1 => wakes_any w1
  have HA1 : Hid (∀ w1, _) := fun w1 => addr_yes h s w1 hh h1 h2
  have HPX : Hid (∀ w1, Calls Try.prog 14 #[.int .u64 (h * 65536 + s : Nat)] w1 fun e w' => e = .returned (.tuple #[.int .u32 (h : Nat), .int .i64 (s : Nat), .bool true]) ∧ w1 = w') := fun w1 => by
    have := parts_yes (h * 65536 + s) w1 (isA_mk hh h1 h2)
    rw [show (h * 65536 + s) / 65536 = h by omega, show (h * 65536 + s) % 65536 = s by omega] at this
    exact this
  have HIA : Hid (∀ w1, _) := fun w1 => rIsAddr_any a w1 ha
  have c1 : ¬ (s : Int) < 1 := by omega
  have c2 : ¬ (65535 : Int) < (s : Int) := by omega
  have m1 : IntKind.u64.wrap ((h : Int) * 65536) = ((h * 65536 : Nat) : Int) := by rw [IntKind.wrap_u64]; omega
  have m2 : IntKind.u64.wrap (s : Int) = (s : Int) := by rw [IntKind.wrap_u64]; omega
  have m0 : IntKind.u64.wrap (h : Int) = (h : Int) := by rw [IntKind.wrap_u64]; omega
  obtain ⟨X, hX⟩ : ∃ X, h * 65536 + s = X := ⟨_, rfl⟩
  have m3 : IntKind.u64.wrap (((h * 65536 : Nat) : Int) + (s : Int)) = (X : Int) := by rw [IntKind.wrap_u64]; omega
  rw [hX] at HA1 HPX
  generalize h * 65536 = H6 at *
  clear h1 h2 hX
  cases hA : isA a
  · rw [hA] at HIA
    have HPA : Hid (∀ w1, _) := fun w1 => parts_no a w1 ha hA
    clear hA
    go_enter Try.func4, Try.ntmps4
    go_wp2_with (first
      | (go_at_call 9; refine (HWK.out _).mono ?_; clear HWK; rintro e w1 ⟨rfl, hb1⟩)
      | (go_at_call 13; refine (HA1.out _).mono ?_; clear HA1; rintro e w2 ⟨rfl, rfl⟩)
      | (go_at_call 14; first | (refine (HPX.out _).mono ?_; clear HPX; rintro e w2 ⟨rfl, rfl⟩) | (refine (HPA.out _).mono ?_; clear HPA; rintro e w2 ⟨rfl, rfl⟩))
      | (go_at_call 15; refine (HIA.out _).mono ?_; clear HIA; rintro e w2 ⟨rfl, rfl⟩))
    go_ret
    exact ⟨rfl, hb1⟩
  · rw [hA] at HIA
    have HPA : Hid (∀ w1, _) := fun w1 => parts_yes a w1 hA
    have hal := isA_lt hA
    have han := (isA_ne hA).2
    have HA2 : Hid (∀ w1, Calls Try.prog 13 #[.int .u32 (a / 65536 : Nat), .int .i64 (a % 65536 : Nat)] w1 fun e w' => e = .returned (.tuple #[.int .u64 (a : Nat), .int .i64 0]) ∧ w1 = w') := fun w1 => by
      have := addr_yes (a / 65536) (a % 65536) w1 (by omega) (by omega) (by omega)
      rw [show a / 65536 * 65536 + a % 65536 = a by omega] at this
      exact this
    clear hA hal han
    generalize a / 65536 = Q at *
    generalize a % 65536 = R at *
    go_enter Try.func4, Try.ntmps4
    go_wp2_with (first
      | (go_at_call 9; refine (HWK.out _).mono ?_; clear HWK; rintro e w1 ⟨rfl, hb1⟩)
      | (go_at_call 13; first | (refine (HA1.out _).mono ?_; clear HA1; rintro e w2 ⟨rfl, rfl⟩) | (refine (HA2.out _).mono ?_; clear HA2; rintro e w2 ⟨rfl, rfl⟩))
      | (go_at_call 14; first | (refine (HPX.out _).mono ?_; clear HPX; rintro e w2 ⟨rfl, rfl⟩) | (refine (HPA.out _).mono ?_; clear HPA; rintro e w2 ⟨rfl, rfl⟩))
      | (go_at_call 15; refine (HIA.out _).mono ?_; clear HIA; rintro e w2 ⟨rfl, rfl⟩))
    go_ret
    exact ⟨rfl, hb1⟩
theorem slotAddresses_walk (a0 a1 a2 : Int) (w0 : (Lit.int .u32 a0).wf = true) (w1 : (Lit.int .i64 a1).wf = true) (w2 : (Lit.int .u64 a2).wf = true) (w : World) :
    Calls Try.prog 4 #[.int .u32 a0, .int .i64 a1, .int .u64 a2] w fun e w' => e = .returned (.bool true) ∧ Below w.heap.size w w' := by
  obtain ⟨b1, b2⟩ := bounds_u32 w0
  obtain ⟨b3, b4⟩ := bounds_u64 w2
  obtain ⟨h, rfl⟩ : ∃ n : Nat, a0 = n := ⟨a0.toNat, by omega⟩
  obtain ⟨a, rfl⟩ : ∃ n : Nat, a2 = n := ⟨a2.toNat, by omega⟩
  by_cases hs : 1 ≤ a1 ∧ a1 ≤ 65535
  · obtain ⟨s, rfl⟩ : ∃ n : Nat, a1 = n := ⟨a1.toNat, by omega⟩
    exact addr_walk_yes h s a (by omega) (by omega) (by omega) (by omega) w
  · exact addr_walk_no h a1 a (by omega) hs (by omega) w

theorem slotAddresses_own : ownKnob Try.prog.godebug = none := by kernel_rfl
theorem slotAddresses_laidOut : laidOutB Try.prog = true := by kernel_rfl

set_option maxRecDepth 100000 in
theorem slotAddresses_lifted (os : Os) (started : os.Started) (H : Type) (enc : TypeId × Value → H) :
    ReturnsInHanded {} Try.checked os 4 .any (Rows.slotAddressesSpec.pre6 enc Try.prog Try.f4 Rows.slotAddressesRow.domain false) (Rows.slotAddressesSpec.post enc Try.prog Try.f4 false true false false) := by
  refine returnsInHanded_of_change_sized (C := Try.checked) slotAddresses_own started (by kernel_rfl) Try.func4
    (ChangeSpec.witness6 (enc := enc) (C := Try.checked) false ⟨#[], #[.int .u32 0, .int .i64 0, .int .u64 0], []⟩ 8 (by kernel_rfl) (by kernel_rfl) (by kernel_rfl) (by kernel_rfl)) ?_
  intro W base args ds gs before hval0 hW hcnd hsz0 _
  have hsz : (DataW.weightsEach Try.prog (Try.f4.params.toList ++ Rows.slotAddressesSpec.plain.varTypes Try.prog) (ds ++ gs)).all (· ≤ reachBytes) = true := hsz0
  have hval : ∀ (j : Nat) t v, Try.f4.params[j]? = some t → args[j]? = some v → Value.okWide Try.prog W .any base t v := hval0
  have hW' := hW
  obtain ⟨p, q, hA0, hV, rfl, hfz, hnd⟩ := hW
  have hA : DataW.TrodAll enc Try.prog W 0 (fun _ => true) true Try.f4.params.toList args.toList ds p := hA0
  rw [Try.params4] at hA hval hsz
  obtain ⟨v0, vs0, d0, ds0, p0, q0, hargs, rfl, rfl, h0, r0⟩ := trodAll_cons hA
  obtain ⟨v1, vs1, d1, ds1, p1, q1, rfl, rfl, rfl, h1, r1⟩ := trodAll_cons r0
  obtain ⟨v2, vs2, d2, ds2, p2, q2, rfl, rfl, rfl, h2, r2⟩ := trodAll_cons r1
  obtain ⟨rfl, rfl, rfl⟩ := trodAll_nil r2
  obtain rfl : args = #[v0, v1, v2] := by cases args; simp_all
  obtain ⟨rfl, rfl⟩ := trodVars_none hV
  have k0 := h0
  have lt0 : ∀ x ∈ p0, x.block < W.heap.size := by obtain ⟨m, hm⟩ := k0; exact DataW.trod_lt m _ _ _ hm
  have k1 := h1
  have lt1 : ∀ x ∈ p1, x.block < W.heap.size := by obtain ⟨m, hm⟩ := k1; exact DataW.trod_lt m _ _ _ hm
  have k2 := h2
  have lt2 : ∀ x ∈ p2, x.block < W.heap.size := by obtain ⟨m, hm⟩ := k2; exact DataW.trod_lt m _ _ _ hm
  obtain ⟨a0, rfl, rfl, rfl, w0⟩ := open_int Try.underlying24 (hval 0 24 v0 rfl rfl) h0
  obtain ⟨a1, rfl, rfl, rfl, w1⟩ := open_int Try.underlying3 (hval 1 3 v1 rfl rfl) h1
  obtain ⟨a2, rfl, rfl, rfl, w2⟩ := open_int Try.underlying33 (hval 2 33 v2 rfl rfl) h2
  clear hA0 hval0
  refine (slotAddresses_walk a0 a1 a2 w0 w1 w2 W).mono fun e W' ⟨he, bel⟩ => ?_
  subst he
  exact ⟨_, rfl, _, _, _, [], _, [], hW', trodAll_mk1 (shut_bool Try.underlying4 _), (trodAll_cons_mk (Below.trod slotAddresses_laidOut (by kernel_rfl) (of_decide_eq_true (by kernel_rfl)) k0 bel lt0) (trodAll_cons_mk (Below.trod slotAddresses_laidOut (by kernel_rfl) (of_decide_eq_true (by kernel_rfl)) k1 bel lt1) (trodAll_cons_mk (Below.trod slotAddresses_laidOut (by kernel_rfl) (of_decide_eq_true (by kernel_rfl)) k2 bel lt2) trodAll_mk0))), rfl, bel.frame _, fun h => by cases h⟩

theorem slotAddresses_holds : Rows.SlotAddressesSaid :=
  OpenClaim.holds_of_wide 4 Try.f4 rfl rfl rfl rfl rfl rfl rfl ⟨rfl, rfl, rfl, rfl, rfl⟩ rfl rfl rfl rfl rfl (by kernel_rfl) Try.func4 (by kernel_rfl)
    (of_decide_eq_true (by kernel_rfl)) (by unfold Func.isWrapper; first | (rw [if_pos (by decide +kernel)]; kernel_rfl) | (rw [if_neg (by decide +kernel)]; exact ⟨rfl, rfl⟩))
    (fun os started H enc _ => slotAddresses_lifted os started H enc)

#print axioms slotAddresses_holds

end Go.Proofs.Ythohopbolalpcaa
