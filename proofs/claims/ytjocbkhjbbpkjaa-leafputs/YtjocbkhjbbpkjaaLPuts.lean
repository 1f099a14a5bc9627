/-
  of every list that is right, with every key and value: what Put and Take answer is what the document says, what was handed in stays, and an entry that was put in and is taken out is gone.
-/
import Derived.Test.YtjocbkhjbbpkjaaRows
import Derived.Test.YtjocbkhjbbpkjaaPw
import Derived.Test.YtjocbkhjbbpkjaaAh
import Derived.Test.YtjocbkhjbbpkjaaOe
import Derived.Test.YtjocbkhjbbpkjaaWk
import Derived.ProofKit
import Derived.OpenShut
import Derived.ShutString
import Derived.ChangeOld
import Derived.Below
import Derived.SizedLaws
import Derived.Lib.SmallJoins
namespace Go.Proofs.Ytjocbkhjbbpkjaa
open Go.ChangeShapes Go.WideShapes Go.ChangeAt Go.RowKit Go.Joins
open Go.ChangeMaps (open_string shut_string)
set_option linter.unusedVariables false
set_option linter.unusedSimpArgs false
set_option maxRecDepth 100000

set_option maxHeartbeats 8000000 in
theorem leafPuts_walk (v : Value) (L : List Ent) (key value : ByteArray) (zs1 : key.size ≤ reachBytes) (zs2 : value.size ≤ reachBytes) (w : World) (l1 : LiesE w v L) (z1 : L.length ≤ 4398046510976) :
    Calls Try.prog 7 #[v, .string key, .string value] w fun e w' => e = .returned (.bool true) ∧ Below w.heap.size w w' := by
  have hre : reachBytes = 140737488351232 := rfl
  have hk : Sml key := by unfold Sml; omega
  have hv : Sml value := by unfold Sml; omega
  have hsm := l1.sml
  have HL := hid l1
  obtain ⟨n, hn⟩ : ∃ n, L.length = n := ⟨_, rfl⟩
  have HCP : Hid (∀ w1 : World, Below w.heap.size w w1 → Calls Try.prog 11 #[v] w1 fun e w' => ∃ a c, e = .returned (.slice a n c) ∧ RowE w' w1.heap.size (.slice a n c) L ∧ Below w1.heap.size w1 w') := fun w1 hb => copy_big w1 v L n hn (l1.on hb) (by omega)
  have HRT : Hid (∀ w1 : World, Below w.heap.size w w1 → Calls Try.prog 19 #[v] w1 fun e w' => e = .returned (.int .i64 (ckE none L : Nat)) ∧ Below w1.heap.size w1 w') := fun w1 hb => right_any w1 v L (l1.on hb)
  have HSM := hid hsm
  by_cases hc : ckE none L = 0
  · rw [hc] at HRT
    obtain ⟨p, hp⟩ : ∃ p, (putL L key value).length = p := ⟨_, rfl⟩
    obtain ⟨q, hq⟩ : ∃ q, (others L key).length = q := ⟨_, rfl⟩
    have HPT : Hid (∀ (w1 : World) (x : Value), LiesE w1 x L → Calls Try.prog 22 #[x, .string key, .string value] w1 fun e w' => ∃ a c, e = .returned (.slice a p c) ∧ RowE w' w1.heap.size (.slice a p c) (putL L key value) ∧ Below w1.heap.size w1 w') := fun w1 x h => put_right w1 x L key value hc h z1 hk hv p hp
    have HTK : Hid (∀ (w1 : World) (x : Value), LiesE w1 x L → Calls Try.prog 23 #[x, .string key] w1 fun e w' => ∃ a c, e = .returned (.tuple #[.slice a q c, .bool (hasL L key)]) ∧ RowE w' w1.heap.size (.slice a q c) (others L key) ∧ Below w1.heap.size w1 w') := fun w1 x h => take_right w1 x L key hc h z1 q hq
    have HTP : Hid (∀ (w1 : World) (x : Value), LiesE w1 x (putL L key value) → Calls Try.prog 23 #[x, .string key] w1 fun e w' => ∃ a c, e = .returned (.tuple #[.slice a q c, .bool true]) ∧ RowE w' w1.heap.size (.slice a q c) (others L key) ∧ Below w1.heap.size w1 w') := fun w1 x h => take_put w1 x L key value hc h z1 q hq
    have HRP : Hid (∀ w1 : World, Below w.heap.size w w1 → Calls Try.prog 24 #[v, .string key, .string value] w1 fun e w' => ∃ a c, e = .returned (.slice a p c) ∧ RowE w' w1.heap.size (.slice a p c) (putL L key value) ∧ Below w1.heap.size w1 w') := fun w1 hb => by
      have := rPut_any w1 v L key value (l1.on hb) z1 hk hv
      rw [show (below L key ++ [(⟨key, value⟩ : Ent)] ++ above L key).length = p from hp] at this
      exact this
    have HRK : Hid (∀ w1 : World, Below w.heap.size w w1 → Calls Try.prog 25 #[v, .string key] w1 fun e w' => ∃ a c, e = .returned (.slice a q c) ∧ RowE w' w1.heap.size (.slice a q c) (others L key) ∧ Below w1.heap.size w1 w') := fun w1 hb => by
      have := rTake_any w1 v L key (l1.on hb) z1
      rw [hq] at this
      exact this
    have HHA : Hid (∀ w1 : World, Below w.heap.size w w1 → Calls Try.prog 21 #[v, .string key] w1 fun e w' => e = .returned (.bool (hasL L key)) ∧ Below w1.heap.size w1 w') := fun w1 hb => has_any w1 v L key (l1.on hb)
    have hpl := putL_len hc key value
    have HCB : Hid (∀ (w1 : World) (x : Value), LiesE w1 x (putL L key value) → Calls Try.prog 11 #[x] w1 fun e w' => ∃ a c, e = .returned (.slice a p c) ∧ RowE w' w1.heap.size (.slice a p c) (putL L key value) ∧ Below w1.heap.size w1 w') := fun w1 x h => copy_big w1 x _ p hp h (by omega)
    have HS1 := hid (putL_sml hsm hk hv)
    have HS2 : Hid (SmlL (others L key)) := hsm.filter _
    have HSS : Hid (∀ (w1 : World) (x y : Value) (D : List Ent), LiesE w1 x D → LiesE w1 y D → Calls Try.prog 17 #[x, y] w1 fun e w' => e = .returned (.bool true) ∧ Below w1.heap.size w1 w') := fun w1 x y D h1 h2 => same_self w1 x y D h1 h2
    generalize hasL L key = h at *
    clear hk hv hsm l1 z1 hn hp hq hc zs1 zs2 hre hpl
    generalize putL L key value = P at *
    generalize others L key = Q at *
    have hbb : (h != h) = false := by simp
    go_enter Try.func7, Try.ntmps7
    go_wp2_with (first
      | (go_at_call 9; refine (wakes_any _).mono ?_; rintro e w1 ⟨rfl, hb1⟩; have HB1 := hid hb1; clear hb1)
      | (go_at_call 11; refine (HCP.out _ HB1.out).mono ?_; clear HCP; rintro e w2 ⟨a2, c2, rfl, hr2, hb2⟩; have HI2 := hid (hr2.lies HSM.out); have HB2 := hid (HB1.out.trans (hb2.mono HB1.out.size)); clear hr2 hb2 HB1)
      | (go_at_call 22; refine (HPT.out _ _ HI2.out).mono ?_; clear HPT; rintro e w3 ⟨a3, c3, rfl, hr3, hb3⟩; have HM3 := hid (hr3.lies HS1.out); have HI3 := hid (HI2.out.on hb3); have HB3 := hid (HB2.out.trans (hb3.mono HB2.out.size)); clear hr3 hb3 HB2 HI2)
      | (go_at_call 23; refine (HTK.out _ _ HI3.out).mono ?_; clear HTK; rintro e w4 ⟨a4, c4, rfl, hr4, hb4⟩; have HN4 := hid (hr4.lies HS2.out); have HI4 := hid (HI3.out.on hb4); have HM4 := hid (HM3.out.on hb4); have HB4 := hid (HB3.out.trans (hb4.mono HB3.out.size)); clear hr4 hb4 HB3 HI3 HM3)
      | (go_at_call 19; refine (HRT.out _ HB4.out).mono ?_; clear HRT; rintro e w5 ⟨rfl, hb5⟩; have HI5 := hid (HI4.out.on hb5); have HM5 := hid (HM4.out.on hb5); have HN5 := hid (HN4.out.on hb5); have HB5 := hid (HB4.out.trans (hb5.mono HB4.out.size)); clear hb5 HB4 HI4 HM4 HN4)
      | (go_at_call 24; refine (HRP.out _ HB5.out).mono ?_; clear HRP; rintro e w6 ⟨a6, c6, rfl, hr6, hb6⟩; have HP6 := hid (hr6.lies HS1.out); have HI6 := hid (HI5.out.on hb6); have HM6 := hid (HM5.out.on hb6); have HN6 := hid (HN5.out.on hb6); have HB6 := hid (HB5.out.trans (hb6.mono HB5.out.size)); clear hr6 hb6 HB5 HI5 HM5 HN5)
      | (go_at_call 17; refine (HSS.out _ _ _ _ HM6.out HP6.out).mono ?_; clear HP6; rintro e w7 ⟨rfl, hb7⟩; have HI7 := hid (HI6.out.on hb7); have HM7 := hid (HM6.out.on hb7); have HN7 := hid (HN6.out.on hb7); have HB7 := hid (HB6.out.trans (hb7.mono HB6.out.size)); clear hb7 HB6 HI6 HM6 HN6)
      | (go_at_call 25; refine (HRK.out _ HB7.out).mono ?_; rintro e w8 ⟨a8, c8, rfl, hr8, hb8⟩; have HQ8 := hid (hr8.lies HS2.out); have HI8 := hid (HI7.out.on hb8); have HM8 := hid (HM7.out.on hb8); have HN8 := hid (HN7.out.on hb8); have HB8 := hid (HB7.out.trans (hb8.mono HB7.out.size)); clear hr8 hb8 HB7 HI7 HM7 HN7)
      | (go_at_call 17; refine (HSS.out _ _ _ _ HN8.out HQ8.out).mono ?_; clear HQ8; rintro e w9 ⟨rfl, hb9⟩; have HI9 := hid (HI8.out.on hb9); have HM9 := hid (HM8.out.on hb9); have HB9 := hid (HB8.out.trans (hb9.mono HB8.out.size)); clear hb9 HB8 HI8 HM8 HN8)
      | (go_at_call 21; refine (HHA.out _ HB9.out).mono ?_; clear HHA; rintro e w10 ⟨rfl, hb10⟩; have HI10 := hid (HI9.out.on hb10); have HM10 := hid (HM9.out.on hb10); have HB10 := hid (HB9.out.trans (hb10.mono HB9.out.size)); clear hb10 HB9 HI9 HM9)
      | (go_at_call 17; refine (HSS.out _ _ _ _ HI10.out (HL.out.on HB10.out)).mono ?_; clear HI10; rintro e w11 ⟨rfl, hb11⟩; have HM11 := hid (HM10.out.on hb11); have HB11 := hid (HB10.out.trans (hb11.mono HB10.out.size)); clear hb11 HB10 HM10)
      | (go_at_call 11; refine (HCB.out _ _ HM11.out).mono ?_; clear HCB; rintro e w12 ⟨a12, c12, rfl, hr12, hb12⟩; have HO12 := hid (hr12.lies HS1.out); have HB12 := hid (HB11.out.trans (hb12.mono HB11.out.size)); clear hr12 hb12 HB11 HM11)
      | (go_at_call 23; refine (HTP.out _ _ HO12.out).mono ?_; clear HTP; rintro e w13 ⟨a13, c13, rfl, hr13, hb13⟩; have HO13 := hid (hr13.lies HS2.out); have HB13 := hid (HB12.out.trans (hb13.mono HB12.out.size)); clear hr13 hb13 HB12 HO12)
      | (go_at_call 25; refine (HRK.out _ HB13.out).mono ?_; clear HRK; rintro e w14 ⟨a14, c14, rfl, hr14, hb14⟩; have HQ14 := hid (hr14.lies HS2.out); have HO14 := hid (HO13.out.on hb14); have HB14 := hid (HB13.out.trans (hb14.mono HB13.out.size)); clear hr14 hb14 HB13 HO13)
      | (go_at_call 17; refine (HSS.out _ _ _ _ HO14.out HQ14.out).mono ?_; clear HQ14; rintro e w15 ⟨rfl, hb15⟩; have HB15 := hid (HB14.out.trans (hb15.mono HB14.out.size)); clear hb15 HB14 HO14))
    go_ret
    exact ⟨rfl, HB15.out⟩
  · have d5 : ((ckE none L : Int) == 0) = false := beq_eq_false_iff_ne.2 (by omega)
    have d7 : ¬ (ckE none L : Int) = 0 := by omega
    have HPT : Hid (∀ (w1 : World) (x : Value), LiesE w1 x L → Calls Try.prog 22 #[x, .string key, .string value] w1 fun e w' => ∃ (a : Option Addr) (m c : Nat), e = .returned (.slice a m c) ∧ Below w1.heap.size w1 w') := fun w1 x h => (put_any w1 x L key value h z1 hk hv).mono (by
      rintro e w' ⟨i, a, c, _, _, rfl, _, hb⟩
      exact ⟨a, _, c, rfl, hb⟩)
    have HTK : Hid (∀ (w1 : World) (x : Value), LiesE w1 x L → Calls Try.prog 23 #[x, .string key] w1 fun e w' => ∃ (a : Option Addr) (m c : Nat) (b : Bool), e = .returned (.tuple #[.slice a m c, .bool b]) ∧ Below w1.heap.size w1 w') := fun w1 x h => (take_any w1 x L key h (by omega)).mono (by
      rintro e w' ⟨i, a, c, _, _, rfl, _, hb⟩
      exact ⟨a, _, c, _, rfl, hb⟩)
    generalize ckE none L = q at *
    clear hc hk hv hsm l1 z1 hn zs1 zs2 hre
    go_enter Try.func7, Try.ntmps7
    go_wp2_with (first
      | (go_at_call 9; refine (wakes_any _).mono ?_; rintro e w1 ⟨rfl, hb1⟩; have HB1 := hid hb1; clear hb1)
      | (go_at_call 11; refine (HCP.out _ HB1.out).mono ?_; clear HCP; rintro e w2 ⟨a2, c2, rfl, hr2, hb2⟩; have HI2 := hid (hr2.lies HSM.out); have HB2 := hid (HB1.out.trans (hb2.mono HB1.out.size)); clear hr2 hb2 HB1)
      | (go_at_call 22; refine (HPT.out _ _ HI2.out).mono ?_; clear HPT; rintro e w3 ⟨a3, m3, c3, rfl, hb3⟩; have HI3 := hid (HI2.out.on hb3); have HB3 := hid (HB2.out.trans (hb3.mono HB2.out.size)); clear hb3 HB2 HI2)
      | (go_at_call 23; refine (HTK.out _ _ HI3.out).mono ?_; clear HTK; rintro e w4 ⟨a4, m4, c4, b4, rfl, hb4⟩; have HB4 := hid (HB3.out.trans (hb4.mono HB3.out.size)); clear hb4 HB3 HI3)
      | (go_at_call 19; refine (HRT.out _ HB4.out).mono ?_; clear HRT; rintro e w5 ⟨rfl, hb5⟩; have HB5 := hid (HB4.out.trans (hb5.mono HB4.out.size)); clear hb5 HB4))
    go_ret
    exact ⟨rfl, HB5.out⟩

theorem leafPuts_own : ownKnob Try.prog.godebug = none := by kernel_rfl
theorem leafPuts_laidOut : laidOutB Try.prog = true := by kernel_rfl

set_option maxRecDepth 100000 in
theorem leafPuts_lifted (os : Os) (started : os.Started) (H : Type) (enc : TypeId × Value → H) :
    ReturnsInHanded {} Try.checked os 7 .any (Rows.leafPutsSpec.pre6 enc Try.prog Try.f7 Rows.leafPutsRow.domain false) (Rows.leafPutsSpec.post enc Try.prog Try.f7 false true false false) := by
  refine returnsInHanded_of_change_sized (C := Try.checked) leafPuts_own started (by kernel_rfl) Try.func7
    (ChangeSpec.witness6 (enc := enc) (C := Try.checked) false ⟨#[], #[.slice none 0 0, .string ByteArray.empty, .string ByteArray.empty], []⟩ 8 (by kernel_rfl) (by kernel_rfl) (by kernel_rfl) (by kernel_rfl)) ?_
  intro W base args ds gs before hval0 hW hcnd hsz0 _
  have hsz : (DataW.weightsEach Try.prog (Try.f7.params.toList ++ Rows.leafPutsSpec.plain.varTypes Try.prog) (ds ++ gs)).all (· ≤ reachBytes) = true := hsz0
  have hval : ∀ (j : Nat) t v, Try.f7.params[j]? = some t → args[j]? = some v → Value.okWide Try.prog W .any base t v := hval0
  have hW' := hW
  obtain ⟨p, q, hA0, hV, rfl, hfz, hnd⟩ := hW
  have hA : DataW.TrodAll enc Try.prog W 0 (fun _ => true) true Try.f7.params.toList args.toList ds p := hA0
  rw [Try.params7] at hA hval hsz
  obtain ⟨v0, vs0, d0, ds0, p0, q0, hargs, rfl, rfl, h0, r0⟩ := trodAll_cons hA
  obtain ⟨v1, vs1, d1, ds1, p1, q1, rfl, rfl, rfl, h1, r1⟩ := trodAll_cons r0
  obtain ⟨v2, vs2, d2, ds2, p2, q2, rfl, rfl, rfl, h2, r2⟩ := trodAll_cons r1
  obtain ⟨rfl, rfl, rfl⟩ := trodAll_nil r2
  obtain rfl : args = #[v0, v1, v2] := by cases args; simp_all
  obtain ⟨rfl, rfl⟩ := trodVars_none hV
  have k0 := h0
  have lt0 : ∀ x ∈ p0, x.block < W.heap.size := by obtain ⟨m, hm⟩ := k0; exact DataW.trod_lt m _ _ _ hm
  have k1 := h1
  have lt1 : ∀ x ∈ p1, x.block < W.heap.size := by obtain ⟨m, hm⟩ := k1; exact DataW.trod_lt m _ _ _ hm
  have k2 := h2
  have lt2 : ∀ x ∈ p2, x.block < W.heap.size := by obtain ⟨m, hm⟩ := k2; exact DataW.trod_lt m _ _ _ hm
  obtain ⟨L0, l0, z0⟩ := open_entries (hval 0 22 v0 rfl rfl) h0 (fun n hn => by simpa using List.all_eq_true.1 hsz n (DataW.weights_mem_each (j := 0) (t := 22) rfl rfl n hn))
  obtain ⟨a1, rfl, rfl, rfl, w1⟩ := open_string Try.underlying9 (hval 1 9 v1 rfl rfl) h1
  have z1 : a1.size ≤ reachBytes := by have := sized_string hsz (j := 1) (t := 9) rfl rfl; simpa using this
  obtain ⟨a2, rfl, rfl, rfl, w2⟩ := open_string Try.underlying9 (hval 2 9 v2 rfl rfl) h2
  have z2 : a2.size ≤ reachBytes := by have := sized_string hsz (j := 2) (t := 9) rfl rfl; simpa using this
  clear hA0 hval0
  refine (leafPuts_walk v0 L0 a1 a2 z1 z2 W l0 z0).mono fun e W' ⟨he, bel⟩ => ?_
  subst he
  exact ⟨_, rfl, _, _, _, [], _, [], hW', trodAll_mk1 (shut_bool Try.underlying4 _), (trodAll_cons_mk (Below.trod leafPuts_laidOut (by kernel_rfl) (of_decide_eq_true (by kernel_rfl)) k0 bel lt0) (trodAll_cons_mk (Below.trod leafPuts_laidOut (by kernel_rfl) (of_decide_eq_true (by kernel_rfl)) k1 bel lt1) (trodAll_cons_mk (Below.trod leafPuts_laidOut (by kernel_rfl) (of_decide_eq_true (by kernel_rfl)) k2 bel lt2) trodAll_mk0))), rfl, bel.frame _, fun h => by cases h⟩

theorem leafPuts_holds : Rows.LeafPutsSaid :=
  OpenClaim.holds_of_wide 7 Try.f7 rfl rfl rfl rfl rfl rfl rfl ⟨rfl, rfl, rfl, rfl, rfl⟩ rfl rfl rfl rfl rfl (by kernel_rfl) Try.func7 (by kernel_rfl)
    (of_decide_eq_true (by kernel_rfl)) (by unfold Func.isWrapper; first | (rw [if_pos (by decide +kernel)]; kernel_rfl) | (rw [if_neg (by decide +kernel)]; exact ⟨rfl, rfl⟩))
    (fun os started H enc _ => leafPuts_lifted os started H enc)

#print axioms leafPuts_holds

end Go.Proofs.Ytjocbkhjbbpkjaa
