/-
  SlotHashes: the hash of any content, or why there is none, as the document says. No condition of its own.
-/
import Derived.Test.YthohopbolalpcaaRows
import Derived.Test.YthohopbolalpcaaSv
import Derived.ProofKit
import Derived.OpenShut
import Derived.ShutString
import Derived.ChangeOld
import Derived.Below
import Derived.SizedLaws
import Derived.Lib.SmallJoins
namespace Go.Proofs.Ythohopbolalpcaa
open Go.ChangeShapes Go.WideShapes Go.ChangeAt Go.RowKit Go.Joins
open Go.ChangeMaps (open_string shut_string)
set_option linter.unusedVariables false
set_option linter.unusedSimpArgs false
set_option maxRecDepth 100000

theorem slotHashes_walk (a0 : ByteArray) (v1 : Value) (K : List Nat) (z0 : a0.size ≤ reachBytes) (w : World) (l1 : LiesK w v1 K) (z1 : K.length * 8 ≤ 140737488351232) :
    Calls Try.prog 3 #[.string a0, v1] w fun e w' => e = .returned (.bool true) ∧ Below w.heap.size w w' := by
  have hr : reachBytes = 140737488351232 := rfl
  have hms : a0.size ≤ maxLen := by unfold maxLen; omega
  obtain ⟨ka, kc, rfl⟩ := l1.form
  have hu := l1.u64
  have HWK : Hid (∀ w1, _) := fun w1 => wakes_any w1
  have HKD : Hid (∀ w1, Below w.heap.size w w1 → Calls Try.prog 11 #[.slice ka K.length kc] w1 fun e w' => KidP K w1 e w') := fun w1 hb => kids_any _ K w1 (l1.on hb) z1
  have HH : Hid (∀ w1 v, LiesK w1 v K → Calls Try.prog 10 #[.string a0, v] w1 fun e w' => e = .returned (.tuple #[.int .u32 (hs a0 K : Nat), .int .i64 (ctE a0.data.toList K : Nat)]) ∧ Below w1.heap.size w1 w') := fun w1 v hl => sHash_any a0 v K w1 hms hl
  have HR : Hid (∀ w1, Below w.heap.size w w1 → Calls Try.prog 12 #[.string a0, .slice ka K.length kc] w1 fun e w' => e = .returned (.tuple #[.int .u32 (hs a0 K : Nat), .int .i64 (ctE a0.data.toList K : Nat)]) ∧ Below w1.heap.size w1 w') := fun w1 hb => rHashN_any a0 _ K w1 hms (l1.on hb)
  have HU := hid hu
  generalize hs a0 K = A at *
  generalize ctE a0.data.toList K = E at *
  clear l1 hu hr
  go_enter Try.func3, Try.ntmps3
  go_wp2_with (first
    | (go_at_call 9; refine (HWK.out _).mono ?_; clear HWK; rintro e w1 ⟨rfl, hb1⟩; have HB1 := hid hb1; clear hb1)
    | (go_at_call 11; refine (HKD.out _ HB1.out).mono ?_; clear HKD; rintro e w2 ⟨na, nc, rfl, hk2, hb2⟩; have HL2 := hid (RowK.lies hk2 HU.out); have HB2 := hid (HB1.out.trans (hb2.mono HB1.out.size)); clear hk2 hb2)
    | (go_at_call 10; refine (HH.out _ _ HL2.out).mono ?_; clear HH; rintro e w3 ⟨rfl, hb3⟩; have HB3 := hid (HB2.out.trans (hb3.mono HB2.out.size)); clear hb3)
    | (go_at_call 12; refine (HR.out _ HB3.out).mono ?_; clear HR; rintro e w4 ⟨rfl, hb4⟩; have HB4 := hid (HB3.out.trans (hb4.mono HB3.out.size)); clear hb4))
  go_ret
  exact ⟨rfl, HB4.out⟩

theorem slotHashes_own : ownKnob Try.prog.godebug = none := by kernel_rfl
theorem slotHashes_laidOut : laidOutB Try.prog = true := by kernel_rfl

set_option maxRecDepth 100000 in
theorem slotHashes_lifted (os : Os) (started : os.Started) (H : Type) (enc : TypeId × Value → H) :
    ReturnsInHanded {} Try.checked os 3 .any (Rows.slotHashesSpec.pre6 enc Try.prog Try.f3 Rows.slotHashesRow.domain false) (Rows.slotHashesSpec.post enc Try.prog Try.f3 false true false false) := by
  refine returnsInHanded_of_change_sized (C := Try.checked) slotHashes_own started (by kernel_rfl) Try.func3
    (ChangeSpec.witness6 (enc := enc) (C := Try.checked) false ⟨#[], #[.string ByteArray.empty, .slice none 0 0], []⟩ 8 (by kernel_rfl) (by kernel_rfl) (by kernel_rfl) (by kernel_rfl)) ?_
  intro W base args ds gs before hval0 hW hcnd hsz0 _
  have hsz : (DataW.weightsEach Try.prog (Try.f3.params.toList ++ Rows.slotHashesSpec.plain.varTypes Try.prog) (ds ++ gs)).all (· ≤ reachBytes) = true := hsz0
  have hval : ∀ (j : Nat) t v, Try.f3.params[j]? = some t → args[j]? = some v → Value.okWide Try.prog W .any base t v := hval0
  have hW' := hW
  obtain ⟨p, q, hA0, hV, rfl, hfz, hnd⟩ := hW
  have hA : DataW.TrodAll enc Try.prog W 0 (fun _ => true) true Try.f3.params.toList args.toList ds p := hA0
  rw [Try.params3] at hA hval hsz
  obtain ⟨v0, vs0, d0, ds0, p0, q0, hargs, rfl, rfl, h0, r0⟩ := trodAll_cons hA
  obtain ⟨v1, vs1, d1, ds1, p1, q1, rfl, rfl, rfl, h1, r1⟩ := trodAll_cons r0
  obtain ⟨rfl, rfl, rfl⟩ := trodAll_nil r1
  obtain rfl : args = #[v0, v1] := by cases args; simp_all
  obtain ⟨rfl, rfl⟩ := trodVars_none hV
  have k0 := h0
  have lt0 : ∀ x ∈ p0, x.block < W.heap.size := by obtain ⟨m, hm⟩ := k0; exact DataW.trod_lt m _ _ _ hm
  have k1 := h1
  have lt1 : ∀ x ∈ p1, x.block < W.heap.size := by obtain ⟨m, hm⟩ := k1; exact DataW.trod_lt m _ _ _ hm
  obtain ⟨a0, rfl, rfl, rfl, w0⟩ := open_string Try.underlying9 (hval 0 9 v0 rfl rfl) h0
  have z0 : a0.size ≤ reachBytes := by have := sized_string hsz (j := 0) (t := 9) rfl rfl; simpa using this
  obtain ⟨L1, l1, z1⟩ := open_kids (hval 1 22 v1 rfl rfl) h1 (fun n hn => by simpa using List.all_eq_true.1 hsz n (DataW.weights_mem_each (j := 1) (t := 22) rfl rfl n hn))
  clear hA0 hval0
  refine (slotHashes_walk a0 v1 L1 z0 W l1 z1).mono fun e W' ⟨he, bel⟩ => ?_
  subst he
  exact ⟨_, rfl, _, _, _, [], _, [], hW', trodAll_mk1 (shut_bool Try.underlying4 _), (trodAll_cons_mk (Below.trod slotHashes_laidOut (by kernel_rfl) (of_decide_eq_true (by kernel_rfl)) k0 bel lt0) (trodAll_cons_mk (Below.trod slotHashes_laidOut (by kernel_rfl) (of_decide_eq_true (by kernel_rfl)) k1 bel lt1) trodAll_mk0)), rfl, bel.frame _, fun h => by cases h⟩

theorem slotHashes_holds : Rows.SlotHashesSaid :=
  OpenClaim.holds_of_wide 3 Try.f3 rfl rfl rfl rfl rfl rfl rfl ⟨rfl, rfl, rfl, rfl, rfl⟩ rfl rfl rfl rfl rfl (by kernel_rfl) Try.func3 (by kernel_rfl)
    (of_decide_eq_true (by kernel_rfl)) (by unfold Func.isWrapper; first | (rw [if_pos (by decide +kernel)]; kernel_rfl) | (rw [if_neg (by decide +kernel)]; exact ⟨rfl, rfl⟩))
    (fun os started H enc _ => slotHashes_lifted os started H enc)

#print axioms slotHashes_holds

end Go.Proofs.Ythohopbolalpcaa
