/-
  leafFinds_holds: of every list of entries and every key the place and whether it stands there, as the document says, where the list is right.
-/
import Derived.Test.YtjocbkhjbbpkjaaRows
import Derived.Test.YtjocbkhjbbpkjaaAh
import Derived.Test.YtjocbkhjbbpkjaaRs
import Derived.Test.YtjocbkhjbbpkjaaOe
import Derived.Test.YtjocbkhjbbpkjaaWk
import Derived.ProofKit
import Derived.OpenShut
import Derived.ShutString
import Derived.ChangeOld
import Derived.Below
import Derived.SizedLaws
import Derived.Lib.SmallJoins
namespace Go.Proofs.Ytjocbkhjbbpkjaa
open Go.ChangeShapes Go.WideShapes Go.ChangeAt Go.RowKit Go.Joins
open Go.ChangeMaps (open_string shut_string)
set_option linter.unusedVariables false
set_option linter.unusedSimpArgs false
set_option maxRecDepth 100000

set_option maxHeartbeats 4000000 in
theorem leafFinds_walk (v : Value) (L : List Ent) (key : ByteArray) (zs : key.size ≤ reachBytes) (w : World) (l1 : LiesE w v L) (z1 : L.length ≤ 4398046510976) :
    Calls Try.prog 6 #[v, .string key] w fun e w' => e = .returned (.bool true) ∧ Below w.heap.size w w' := by
  have HL := hid l1
  have hsm := l1.sml
  obtain ⟨n, hn⟩ : ∃ n, L.length = n := ⟨_, rfl⟩
  have HN := hid hn
  have HCP : Hid (∀ w1 : World, Below w.heap.size w w1 → Calls Try.prog 11 #[v] w1 fun e w' => ∃ a c, e = .returned (.slice a n c) ∧ RowE w' w1.heap.size (.slice a n c) L ∧ Below w1.heap.size w1 w') := fun w1 hb => by
    have := copy_any w1 v L (l1.on hb) z1
    rw [hn] at this
    exact this
  have HFD : Hid (∀ (w1 : World) (B : Nat) (x : Value), RowE w1 B x L → Calls Try.prog 18 #[x, .string key] w1 fun e w' => ∃ i : Nat, e = .returned (.tuple #[.int .i64 (i : Nat), .bool (fnd L key i)]) ∧ i ≤ L.length ∧ (Mono L key → IsAt L key i) ∧ Below w1.heap.size w1 w') := fun w1 B x h => find_any w1 x L key (h.lies hsm) (by omega)
  have HRT : Hid (∀ w1 : World, Below w.heap.size w w1 → Calls Try.prog 19 #[v] w1 fun e w' => e = .returned (.int .i64 (ckE none L : Nat)) ∧ Below w1.heap.size w1 w') := fun w1 hb => right_any w1 v L (l1.on hb)
  have HAT : Hid (∀ w1 : World, Below w.heap.size w w1 → Calls Try.prog 20 #[v, .string key] w1 fun e w' => ∃ n : Nat, e = .returned (.int .i64 (n : Nat)) ∧ lowA L key L.length n ∧ Below w1.heap.size w1 w') := fun w1 hb => at_any w1 v L key (l1.on hb)
  have HHA : Hid (∀ w1 : World, Below w.heap.size w w1 → Calls Try.prog 21 #[v, .string key] w1 fun e w' => e = .returned (.bool (hasL L key)) ∧ Below w1.heap.size w1 w') := fun w1 hb => has_any w1 v L key (l1.on hb)
  clear l1 z1 hn zs
  by_cases hc : ckE none L = 0
  · rw [hc] at HRT
    have HM := hid (mono_of hc key)
    have HC := hid hc
    clear hc
    obtain ⟨h, hh⟩ : ∃ h, hasL L key = h := ⟨_, rfl⟩
    have HH := hid hh
    rw [hh] at HHA
    clear hh
    have hbb : (h == h) = true := by simp
    go_enter Try.func6, Try.ntmps6
    go_wp2_with (first
      | (go_at_call 9; refine (wakes_any _).mono ?_; rintro e w1 ⟨rfl, hb1⟩; have HB1 := hid hb1; clear hb1)
      | (go_at_call 11; refine (HCP.out _ HB1.out).mono ?_; clear HCP; rintro e w2 ⟨a2, c2, rfl, hr2, hb2⟩; have HR2 := hid hr2; have HB2 := hid (HB1.out.trans (hb2.mono HB1.out.size)); clear hr2 hb2)
      | (go_at_call 18; refine (HFD.out _ _ _ HR2.out).mono ?_; clear HFD; rintro e w3 ⟨i, rfl, hi, hm, hb3⟩; have HB3 := hid (HB2.out.trans (hb3.mono HB2.out.size)); have HF := hid (fnd_has HC.out (hm HM.out)); rw [HF.out, HH.out]; have HI := hid (And.intro hi (hm HM.out)); clear hm hb3 hi HF)
      | (go_at_call 19; refine (HRT.out _ HB3.out).mono ?_; clear HRT; rintro e w4 ⟨rfl, hb4⟩; have HB4 := hid (HB3.out.trans (hb4.mono HB3.out.size)); clear hb4)
      | (go_at_call 20; refine (HAT.out _ HB4.out).mono ?_; clear HAT; rintro e w5 ⟨j, rfl, hj, hb5⟩; have HB5 := hid (HB4.out.trans (hb5.mono HB4.out.size)); obtain rfl : i = j := HI.out.2.uniq (lowA_is hj HM.out) HI.out.1 hj.1; clear hj hb5)
      | (go_at_call 21; refine (HHA.out _ HB5.out).mono ?_; clear HHA; rintro e w6 ⟨rfl, hb6⟩; have HB6 := hid (HB5.out.trans (hb6.mono HB5.out.size)); clear hb6))
    go_ret
    exact ⟨rfl, HB6.out⟩
  · have d5 : ((ckE none L : Int) == 0) = false := beq_eq_false_iff_ne.2 (by omega)
    have d7 : ¬ (ckE none L : Int) = 0 := by omega
    generalize ckE none L = q at *
    clear hc
    go_enter Try.func6, Try.ntmps6
    go_wp2_with (first
      | (go_at_call 9; refine (wakes_any _).mono ?_; rintro e w1 ⟨rfl, hb1⟩; have HB1 := hid hb1; clear hb1)
      | (go_at_call 11; refine (HCP.out _ HB1.out).mono ?_; clear HCP; rintro e w2 ⟨a2, c2, rfl, hr2, hb2⟩; have HR2 := hid hr2; have HB2 := hid (HB1.out.trans (hb2.mono HB1.out.size)); clear hr2 hb2)
      | (go_at_call 18; refine (HFD.out _ _ _ HR2.out).mono ?_; clear HFD; rintro e w3 ⟨i, rfl, hi, hm, hb3⟩; have HB3 := hid (HB2.out.trans (hb3.mono HB2.out.size)); generalize fnd L key i = fb; clear hm hb3 hi)
      | (go_at_call 19; refine (HRT.out _ HB3.out).mono ?_; clear HRT; rintro e w4 ⟨rfl, hb4⟩; have HB4 := hid (HB3.out.trans (hb4.mono HB3.out.size)); clear hb4))
    go_ret
    exact ⟨rfl, HB4.out⟩

theorem leafFinds_own : ownKnob Try.prog.godebug = none := by kernel_rfl
theorem leafFinds_laidOut : laidOutB Try.prog = true := by kernel_rfl

set_option maxRecDepth 100000 in
theorem leafFinds_lifted (os : Os) (started : os.Started) (H : Type) (enc : TypeId × Value → H) :
    ReturnsInHanded {} Try.checked os 6 .any (Rows.leafFindsSpec.pre6 enc Try.prog Try.f6 Rows.leafFindsRow.domain false) (Rows.leafFindsSpec.post enc Try.prog Try.f6 false true false false) := by
  refine returnsInHanded_of_change_sized (C := Try.checked) leafFinds_own started (by kernel_rfl) Try.func6
    (ChangeSpec.witness6 (enc := enc) (C := Try.checked) false ⟨#[], #[.slice none 0 0, .string ByteArray.empty], []⟩ 8 (by kernel_rfl) (by kernel_rfl) (by kernel_rfl) (by kernel_rfl)) ?_
  intro W base args ds gs before hval0 hW hcnd hsz0 _
  have hsz : (DataW.weightsEach Try.prog (Try.f6.params.toList ++ Rows.leafFindsSpec.plain.varTypes Try.prog) (ds ++ gs)).all (· ≤ reachBytes) = true := hsz0
  have hval : ∀ (j : Nat) t v, Try.f6.params[j]? = some t → args[j]? = some v → Value.okWide Try.prog W .any base t v := hval0
  have hW' := hW
  obtain ⟨p, q, hA0, hV, rfl, hfz, hnd⟩ := hW
  have hA : DataW.TrodAll enc Try.prog W 0 (fun _ => true) true Try.f6.params.toList args.toList ds p := hA0
  rw [Try.params6] at hA hval hsz
  obtain ⟨v0, vs0, d0, ds0, p0, q0, hargs, rfl, rfl, h0, r0⟩ := trodAll_cons hA
  obtain ⟨v1, vs1, d1, ds1, p1, q1, rfl, rfl, rfl, h1, r1⟩ := trodAll_cons r0
  obtain ⟨rfl, rfl, rfl⟩ := trodAll_nil r1
  obtain rfl : args = #[v0, v1] := by cases args; simp_all
  obtain ⟨rfl, rfl⟩ := trodVars_none hV
  have k0 := h0
  have lt0 : ∀ x ∈ p0, x.block < W.heap.size := by obtain ⟨m, hm⟩ := k0; exact DataW.trod_lt m _ _ _ hm
  have k1 := h1
  have lt1 : ∀ x ∈ p1, x.block < W.heap.size := by obtain ⟨m, hm⟩ := k1; exact DataW.trod_lt m _ _ _ hm
  obtain ⟨L0, l0, z0⟩ := open_entries (hval 0 22 v0 rfl rfl) h0 (fun n hn => by simpa using List.all_eq_true.1 hsz n (DataW.weights_mem_each (j := 0) (t := 22) rfl rfl n hn))
  obtain ⟨a1, rfl, rfl, rfl, w1⟩ := open_string Try.underlying9 (hval 1 9 v1 rfl rfl) h1
  have z1 : a1.size ≤ reachBytes := by have := sized_string hsz (j := 1) (t := 9) rfl rfl; simpa using this
  clear hA0 hval0
  refine (leafFinds_walk v0 L0 a1 z1 W l0 z0).mono fun e W' ⟨he, bel⟩ => ?_
  subst he
  exact ⟨_, rfl, _, _, _, [], _, [], hW', trodAll_mk1 (shut_bool Try.underlying4 _), (trodAll_cons_mk (Below.trod leafFinds_laidOut (by kernel_rfl) (of_decide_eq_true (by kernel_rfl)) k0 bel lt0) (trodAll_cons_mk (Below.trod leafFinds_laidOut (by kernel_rfl) (of_decide_eq_true (by kernel_rfl)) k1 bel lt1) trodAll_mk0)), rfl, bel.frame _, fun h => by cases h⟩

theorem leafFinds_holds : Rows.LeafFindsSaid :=
  OpenClaim.holds_of_wide 6 Try.f6 rfl rfl rfl rfl rfl rfl rfl ⟨rfl, rfl, rfl, rfl, rfl⟩ rfl rfl rfl rfl rfl (by kernel_rfl) Try.func6 (by kernel_rfl)
    (of_decide_eq_true (by kernel_rfl)) (by unfold Func.isWrapper; first | (rw [if_pos (by decide +kernel)]; kernel_rfl) | (rw [if_neg (by decide +kernel)]; exact ⟨rfl, rfl⟩))
    (fun os started H enc _ => leafFinds_lifted os started H enc)

#print axioms leafFinds_holds

end Go.Proofs.Ytjocbkhjbbpkjaa
