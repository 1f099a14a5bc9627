/-
  What is packed is unpacked, and what is unpacked is packed as it was.
-/
import Derived.Test.YtjocbkhjbbpkjaaRows
import Derived.Test.YtjocbkhjbbpkjaaWk
import Derived.Test.YtjocbkhjbbpkjaaRs
import Derived.Test.YtjocbkhjbbpkjaaOe
import Derived.ProofKit
import Derived.OpenShut
import Derived.ShutString
import Derived.ChangeOld
import Derived.Below
import Derived.SizedLaws
import Derived.Lib.SmallJoins
namespace Go.Proofs.Ytjocbkhjbbpkjaa
open Go.ChangeShapes Go.WideShapes Go.ChangeAt Go.RowKit Go.Joins
open Go.ChangeMaps (open_string shut_string)
set_option linter.unusedVariables false
set_option linter.unusedSimpArgs false
set_option maxRecDepth 100000

set_option maxHeartbeats 4000000 in
theorem leafBack_walk (kind : Int) (v : Value) (L : List Ent) (s : ByteArray) (w0' : (Lit.int IntKind.i64 kind).wf = true) (zs : s.size ≤ reachBytes) (w : World) (l1 : LiesE w v L) (z1 : L.length ≤ 4398046510976) :
    Calls Try.prog 5 #[.int .i64 kind, v, .string s] w fun e w' => e = .returned (.bool true) ∧ Below w.heap.size w w' := by
  have hre : reachBytes = 140737488351232 := rfl
  rw [hre] at zs
  have HL := hid l1
  have hsm := l1.sml
  have hss : s = bt s.data.toList := (bt_self s).symm
  have hsl : s.data.toList.length ≤ 140737488351232 := by rw [data_len]; exact zs
  obtain ⟨n, hn⟩ : ∃ n, L.length = n := ⟨_, rfl⟩
  have HN := hid hn
  have HCP : Hid (∀ w1 : World, Below w.heap.size w w1 → Calls Try.prog 11 #[v] w1 fun e w' => ∃ a c, e = .returned (.slice a n c) ∧ RowE w' w1.heap.size (.slice a n c) L ∧ Below w1.heap.size w1 w') := fun w1 hb => by
    have := copy_any w1 v L (l1.on hb) z1
    rw [hn] at this
    exact this
  have HPK : Hid (∀ (w1 : World) (B : Nat) (x : Value), RowE w1 B x L → Calls Try.prog 10 #[.int .i64 kind, x] w1 fun e w' => e = .returned (.tuple #[.string (packS kind L), .int .i64 (packE kind L : Nat)]) ∧ Below w1.heap.size w1 w') := fun w1 B x h => pack_any w1 kind x L (h.lies hsm) (by omega)
  obtain ⟨va, vc, hv⟩ := l1.form
  rw [hn] at hv
  subst hv
  have HSM : Hid (∀ (w1 : World) (B : Nat) (x : Value), RowE w1 B x L → Below w.heap.size w w1 → Calls Try.prog 17 #[x, .slice va n vc] w1 fun e w' => e = .returned (.bool true) ∧ Below w1.heap.size w1 w') := fun w1 B x h hb => same_self w1 x _ L (h.lies hsm) (HL.out.on hb)
  clear l1 z1 hn
  by_cases hp : packE kind L = 0
  · have hup := unp_page hp
    obtain ⟨hk1, hk2, hk3⟩ := packE_zero hp
    have hkn : ((kind.toNat : Nat) : Int) = kind := by omega
    have hpz : (packS kind L).data.toList.length ≤ 140737488351232 := by
      rw [data_len]
      have e : packS kind L = pageB kind.toNat L := by unfold packS; rw [if_pos hp]
      rw [e, page_size hk3]
      decide
    have HU1 : Hid (∀ w1 : World, Calls Try.prog 15 #[.string (packS kind L)] w1 fun e w' => ∃ a c, e = .returned (.tuple #[.int .i64 kind, .slice a n c, .int .i64 0]) ∧ RowE w' w1.heap.size (.slice a n c) L ∧ Below w1.heap.size w1 w') := fun w1 => by
      have := unpack_yes w1 _ hpz hup HN.out
      rw [bt_self, hkn] at this
      exact this
    rw [hp] at HPK
    have hkk : (kind != kind) = false := by simp
    clear hup hpz hkn hp hk1 hk2 hk3
    generalize packS kind L = pg at *
    cases hu : unp s.data.toList with
    | none =>
      have HU2 : Hid (∀ w1 : World, Calls Try.prog 15 #[.string s] w1 fun e w' => ∃ a c, e = .returned (.tuple #[.int .i64 0, .slice a 0 c, .int .i64 3]) ∧ RowE w' w1.heap.size (.slice a 0 c) [] ∧ Below w1.heap.size w1 w') := fun w1 => by
        have := unpack_no w1 _ hsl hu
        rw [bt_self] at this
        exact this
      clear hu hsl hss
      go_enter Try.func5, Try.ntmps5
      go_wp2_with (first
        | (go_at_call 9; refine (wakes_any _).mono ?_; rintro e w1 ⟨rfl, hb1⟩; have HB1 := hid hb1; clear hb1)
        | (go_at_call 11; refine (HCP.out _ HB1.out).mono ?_; clear HCP; rintro e w2 ⟨a2, c2, rfl, hr2, hb2⟩; have HR2 := hid hr2; have HB2 := hid (HB1.out.trans (hb2.mono HB1.out.size)); clear hr2 hb2)
        | (go_at_call 10; refine (HPK.out _ _ _ HR2.out).mono ?_; clear HPK; rintro e w3 ⟨rfl, hb3⟩; have HB3 := hid (HB2.out.trans (hb3.mono HB2.out.size)); clear hb3)
        | (go_at_call 15; refine (HU1.out _).mono ?_; clear HU1; rintro e w4 ⟨a4, c4, rfl, hr4, hb4⟩; have HR4 := hid hr4; have HB4 := hid (HB3.out.trans (hb4.mono HB3.out.size)); clear hr4 hb4)
        | (go_at_call 17; refine (HSM.out _ _ _ HR4.out HB4.out).mono ?_; clear HSM; rintro e w5 ⟨rfl, hb5⟩; have HB5 := hid (HB4.out.trans (hb5.mono HB4.out.size)); clear hb5)
        | (go_at_call 15; refine (HU2.out _).mono ?_; clear HU2; rintro e w6 ⟨a6, c6, rfl, hr6, hb6⟩; have HR6 := hid hr6; have HB6 := hid (HB5.out.trans (hb6.mono HB5.out.size)); clear hr6 hb6))
      go_ret
      exact ⟨rfl, HB6.out⟩
    | some q =>
      obtain ⟨k2, M2⟩ := q
      obtain ⟨e1, e2⟩ := unp_some hu
      obtain ⟨e3, e4⟩ := unp_sml hu
      rw [bt_self] at e2
      obtain ⟨n2, hn2⟩ : ∃ n2, M2.length = n2 := ⟨_, rfl⟩
      have HU2 : Hid (∀ w1 : World, Calls Try.prog 15 #[.string s] w1 fun e w' => ∃ a c, e = .returned (.tuple #[.int .i64 (k2 : Nat), .slice a n2 c, .int .i64 0]) ∧ RowE w' w1.heap.size (.slice a n2 c) M2 ∧ Below w1.heap.size w1 w') := fun w1 => by
        have := unpack_yes w1 _ hsl hu hn2
        rw [bt_self] at this
        exact this
      have HP2 : Hid (∀ (w1 : World) (B : Nat) (x : Value), RowE w1 B x M2 → Calls Try.prog 10 #[.int .i64 (k2 : Nat), x] w1 fun e w' => e = .returned (.tuple #[.string s, .int .i64 0]) ∧ Below w1.heap.size w1 w') := fun w1 B x h => by
        have := pack_any w1 k2 x M2 (h.lies e3) (by omega)
        rw [e1, e2] at this
        exact this
      clear hu hsl hss e1 e2 e3 e4 hn2
      go_enter Try.func5, Try.ntmps5
      go_wp2_with (first
        | (go_at_call 9; refine (wakes_any _).mono ?_; rintro e w1 ⟨rfl, hb1⟩; have HB1 := hid hb1; clear hb1)
        | (go_at_call 11; refine (HCP.out _ HB1.out).mono ?_; clear HCP; rintro e w2 ⟨a2, c2, rfl, hr2, hb2⟩; have HR2 := hid hr2; have HB2 := hid (HB1.out.trans (hb2.mono HB1.out.size)); clear hr2 hb2)
        | (go_at_call 10; refine (HPK.out _ _ _ HR2.out).mono ?_; clear HPK; rintro e w3 ⟨rfl, hb3⟩; have HB3 := hid (HB2.out.trans (hb3.mono HB2.out.size)); clear hb3)
        | (go_at_call 15; refine (HU1.out _).mono ?_; clear HU1; rintro e w4 ⟨a4, c4, rfl, hr4, hb4⟩; have HR4 := hid hr4; have HB4 := hid (HB3.out.trans (hb4.mono HB3.out.size)); clear hr4 hb4)
        | (go_at_call 17; refine (HSM.out _ _ _ HR4.out HB4.out).mono ?_; clear HSM; rintro e w5 ⟨rfl, hb5⟩; have HB5 := hid (HB4.out.trans (hb5.mono HB4.out.size)); clear hb5)
        | (go_at_call 15; refine (HU2.out _).mono ?_; clear HU2; rintro e w6 ⟨a6, c6, rfl, hr6, hb6⟩; have HR6 := hid hr6; have HB6 := hid (HB5.out.trans (hb6.mono HB5.out.size)); clear hr6 hb6)
        | (go_at_call 10; refine (HP2.out _ _ _ HR6.out).mono ?_; clear HP2; rintro e w7 ⟨rfl, hb7⟩; have HB7 := hid (HB6.out.trans (hb7.mono HB6.out.size)); clear hb7))
      go_ret
      exact ⟨rfl, HB7.out⟩
  · have d5 : ((packE kind L : Int) == 0) = false := beq_eq_false_iff_ne.2 (by omega)
    have d7 : ¬ (packE kind L : Int) = 0 := by omega
    generalize packS kind L = pg at *
    generalize packE kind L = q at *
    clear hp
    cases hu : unp s.data.toList with
    | none =>
      have HU2 : Hid (∀ w1 : World, Calls Try.prog 15 #[.string s] w1 fun e w' => ∃ a c, e = .returned (.tuple #[.int .i64 0, .slice a 0 c, .int .i64 3]) ∧ RowE w' w1.heap.size (.slice a 0 c) [] ∧ Below w1.heap.size w1 w') := fun w1 => by
        have := unpack_no w1 _ hsl hu
        rw [bt_self] at this
        exact this
      clear hu hsl hss
      go_enter Try.func5, Try.ntmps5
      go_wp2_with (first
        | (go_at_call 9; refine (wakes_any _).mono ?_; rintro e w1 ⟨rfl, hb1⟩; have HB1 := hid hb1; clear hb1)
        | (go_at_call 11; refine (HCP.out _ HB1.out).mono ?_; clear HCP; rintro e w2 ⟨a2, c2, rfl, hr2, hb2⟩; have HR2 := hid hr2; have HB2 := hid (HB1.out.trans (hb2.mono HB1.out.size)); clear hr2 hb2)
        | (go_at_call 10; refine (HPK.out _ _ _ HR2.out).mono ?_; clear HPK; rintro e w3 ⟨rfl, hb3⟩; have HB3 := hid (HB2.out.trans (hb3.mono HB2.out.size)); clear hb3)
        | (go_at_call 15; refine (HU2.out _).mono ?_; clear HU2; rintro e w6 ⟨a6, c6, rfl, hr6, hb6⟩; have HR6 := hid hr6; have HB6 := hid (HB3.out.trans (hb6.mono HB3.out.size)); clear hr6 hb6))
      go_ret
      exact ⟨rfl, HB6.out⟩
    | some q =>
      obtain ⟨k2, M2⟩ := q
      obtain ⟨e1, e2⟩ := unp_some hu
      obtain ⟨e3, e4⟩ := unp_sml hu
      rw [bt_self] at e2
      obtain ⟨n2, hn2⟩ : ∃ n2, M2.length = n2 := ⟨_, rfl⟩
      have HU2 : Hid (∀ w1 : World, Calls Try.prog 15 #[.string s] w1 fun e w' => ∃ a c, e = .returned (.tuple #[.int .i64 (k2 : Nat), .slice a n2 c, .int .i64 0]) ∧ RowE w' w1.heap.size (.slice a n2 c) M2 ∧ Below w1.heap.size w1 w') := fun w1 => by
        have := unpack_yes w1 _ hsl hu hn2
        rw [bt_self] at this
        exact this
      have HP2 : Hid (∀ (w1 : World) (B : Nat) (x : Value), RowE w1 B x M2 → Calls Try.prog 10 #[.int .i64 (k2 : Nat), x] w1 fun e w' => e = .returned (.tuple #[.string s, .int .i64 0]) ∧ Below w1.heap.size w1 w') := fun w1 B x h => by
        have := pack_any w1 k2 x M2 (h.lies e3) (by omega)
        rw [e1, e2] at this
        exact this
      clear hu hsl hss e1 e2 e3 e4 hn2
      go_enter Try.func5, Try.ntmps5
      go_wp2_with (first
        | (go_at_call 9; refine (wakes_any _).mono ?_; rintro e w1 ⟨rfl, hb1⟩; have HB1 := hid hb1; clear hb1)
        | (go_at_call 11; refine (HCP.out _ HB1.out).mono ?_; clear HCP; rintro e w2 ⟨a2, c2, rfl, hr2, hb2⟩; have HR2 := hid hr2; have HB2 := hid (HB1.out.trans (hb2.mono HB1.out.size)); clear hr2 hb2)
        | (go_at_call 10; refine (HPK.out _ _ _ HR2.out).mono ?_; clear HPK; rintro e w3 ⟨rfl, hb3⟩; have HB3 := hid (HB2.out.trans (hb3.mono HB2.out.size)); clear hb3)
        | (go_at_call 15; refine (HU2.out _).mono ?_; clear HU2; rintro e w6 ⟨a6, c6, rfl, hr6, hb6⟩; have HR6 := hid hr6; have HB6 := hid (HB3.out.trans (hb6.mono HB3.out.size)); clear hr6 hb6)
        | (go_at_call 10; refine (HP2.out _ _ _ HR6.out).mono ?_; clear HP2; rintro e w7 ⟨rfl, hb7⟩; have HB7 := hid (HB6.out.trans (hb7.mono HB6.out.size)); clear hb7))
      go_ret
      exact ⟨rfl, HB7.out⟩

theorem leafBack_own : ownKnob Try.prog.godebug = none := by kernel_rfl
theorem leafBack_laidOut : laidOutB Try.prog = true := by kernel_rfl

set_option maxRecDepth 100000 in
theorem leafBack_lifted (os : Os) (started : os.Started) (H : Type) (enc : TypeId × Value → H) :
    ReturnsInHanded {} Try.checked os 5 .any (Rows.leafBackSpec.pre6 enc Try.prog Try.f5 Rows.leafBackRow.domain false) (Rows.leafBackSpec.post enc Try.prog Try.f5 false true false false) := by
  refine returnsInHanded_of_change_sized (C := Try.checked) leafBack_own started (by kernel_rfl) Try.func5
    (ChangeSpec.witness6 (enc := enc) (C := Try.checked) false ⟨#[], #[.int .i64 0, .slice none 0 0, .string ByteArray.empty], []⟩ 8 (by kernel_rfl) (by kernel_rfl) (by kernel_rfl) (by kernel_rfl)) ?_
  intro W base args ds gs before hval0 hW hcnd hsz0 _
  have hsz : (DataW.weightsEach Try.prog (Try.f5.params.toList ++ Rows.leafBackSpec.plain.varTypes Try.prog) (ds ++ gs)).all (· ≤ reachBytes) = true := hsz0
  have hval : ∀ (j : Nat) t v, Try.f5.params[j]? = some t → args[j]? = some v → Value.okWide Try.prog W .any base t v := hval0
  have hW' := hW
  obtain ⟨p, q, hA0, hV, rfl, hfz, hnd⟩ := hW
  have hA : DataW.TrodAll enc Try.prog W 0 (fun _ => true) true Try.f5.params.toList args.toList ds p := hA0
  rw [Try.params5] at hA hval hsz
  obtain ⟨v0, vs0, d0, ds0, p0, q0, hargs, rfl, rfl, h0, r0⟩ := trodAll_cons hA
  obtain ⟨v1, vs1, d1, ds1, p1, q1, rfl, rfl, rfl, h1, r1⟩ := trodAll_cons r0
  obtain ⟨v2, vs2, d2, ds2, p2, q2, rfl, rfl, rfl, h2, r2⟩ := trodAll_cons r1
  obtain ⟨rfl, rfl, rfl⟩ := trodAll_nil r2
  obtain rfl : args = #[v0, v1, v2] := by cases args; simp_all
  obtain ⟨rfl, rfl⟩ := trodVars_none hV
  have k0 := h0
  have lt0 : ∀ x ∈ p0, x.block < W.heap.size := by obtain ⟨m, hm⟩ := k0; exact DataW.trod_lt m _ _ _ hm
  have k1 := h1
  have lt1 : ∀ x ∈ p1, x.block < W.heap.size := by obtain ⟨m, hm⟩ := k1; exact DataW.trod_lt m _ _ _ hm
  have k2 := h2
  have lt2 : ∀ x ∈ p2, x.block < W.heap.size := by obtain ⟨m, hm⟩ := k2; exact DataW.trod_lt m _ _ _ hm
  obtain ⟨a0, rfl, rfl, rfl, w0⟩ := open_int Try.underlying3 (hval 0 3 v0 rfl rfl) h0
  obtain ⟨L1, l1, z1⟩ := open_entries (hval 1 22 v1 rfl rfl) h1 (fun n hn => by simpa using List.all_eq_true.1 hsz n (DataW.weights_mem_each (j := 1) (t := 22) rfl rfl n hn))
  obtain ⟨a2, rfl, rfl, rfl, w2⟩ := open_string Try.underlying9 (hval 2 9 v2 rfl rfl) h2
  have z2 : a2.size ≤ reachBytes := by have := sized_string hsz (j := 2) (t := 9) rfl rfl; simpa using this
  clear hA0 hval0
  refine (leafBack_walk a0 v1 L1 a2 w0 z2 W l1 z1).mono fun e W' ⟨he, bel⟩ => ?_
  subst he
  exact ⟨_, rfl, _, _, _, [], _, [], hW', trodAll_mk1 (shut_bool Try.underlying4 _), (trodAll_cons_mk (Below.trod leafBack_laidOut (by kernel_rfl) (of_decide_eq_true (by kernel_rfl)) k0 bel lt0) (trodAll_cons_mk (Below.trod leafBack_laidOut (by kernel_rfl) (of_decide_eq_true (by kernel_rfl)) k1 bel lt1) (trodAll_cons_mk (Below.trod leafBack_laidOut (by kernel_rfl) (of_decide_eq_true (by kernel_rfl)) k2 bel lt2) trodAll_mk0))), rfl, bel.frame _, fun h => by cases h⟩

theorem leafBack_holds : Rows.LeafBackSaid :=
  OpenClaim.holds_of_wide 5 Try.f5 rfl rfl rfl rfl rfl rfl rfl ⟨rfl, rfl, rfl, rfl, rfl⟩ rfl rfl rfl rfl rfl (by kernel_rfl) Try.func5 (by kernel_rfl)
    (of_decide_eq_true (by kernel_rfl)) (by unfold Func.isWrapper; first | (rw [if_pos (by decide +kernel)]; kernel_rfl) | (rw [if_neg (by decide +kernel)]; exact ⟨rfl, rfl⟩))
    (fun os started H enc _ => leafBack_lifted os started H enc)

#print axioms leafBack_holds

end Go.Proofs.Ytjocbkhjbbpkjaa
