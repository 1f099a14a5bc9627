/-
  leafPacks_holds: every list of entries is a page of every kind, or refused, as the document says; and its size.
-/
import Derived.Test.YtjocbkhjbbpkjaaRows
import Derived.Test.YtjocbkhjbbpkjaaRq
import Derived.Test.YtjocbkhjbbpkjaaOe
import Derived.Test.YtjocbkhjbbpkjaaWk
import Derived.ProofKit
import Derived.OpenShut
import Derived.ShutString
import Derived.ChangeOld
import Derived.Below
import Derived.SizedLaws
import Derived.Lib.SmallJoins
namespace Go.Proofs.Ytjocbkhjbbpkjaa
open Go.ChangeShapes Go.WideShapes Go.ChangeAt Go.RowKit Go.Joins
open Go.ChangeMaps (open_string shut_string)
set_option linter.unusedVariables false
set_option linter.unusedSimpArgs false
set_option maxRecDepth 100000

set_option maxHeartbeats 4000000 in
theorem leafPacks_walk (kind : Int) (v : Value) (L : List Ent) (w0' : (Lit.int IntKind.i64 kind).wf = true) (w : World) (l1 : LiesE w v L) (z1 : L.length ≤ 4398046510976) :
    Calls Try.prog 3 #[.int .i64 kind, v] w fun e w' => e = .returned (.bool true) ∧ Below w.heap.size w w' := by
  have HL := hid l1
  have hsm := l1.sml
  obtain ⟨n, hn⟩ : ∃ n, L.length = n := ⟨_, rfl⟩
  have HN := hid hn
  have HCP : Hid (∀ w1 : World, Below w.heap.size w w1 → Calls Try.prog 11 #[v] w1 fun e w' => ∃ a c, e = .returned (.slice a n c) ∧ RowE w' w1.heap.size (.slice a n c) L ∧ Below w1.heap.size w1 w') := fun w1 hb => by
    have := copy_any w1 v L (l1.on hb) z1
    rw [hn] at this
    exact this
  have HPK : Hid (∀ (w1 : World) (B : Nat) (x : Value), RowE w1 B x L → Calls Try.prog 10 #[.int .i64 kind, x] w1 fun e w' => e = .returned (.tuple #[.string (packS kind L), .int .i64 (packE kind L : Nat)]) ∧ Below w1.heap.size w1 w') := fun w1 B x h => pack_any w1 kind x L (h.lies hsm) (by omega)
  have HRP : Hid (∀ w1 : World, Below w.heap.size w w1 → Calls Try.prog 12 #[.int .i64 kind, v] w1 fun e w' => e = .returned (.tuple #[.string (packS kind L), .int .i64 (packE kind L : Nat)]) ∧ Below w1.heap.size w1 w') := fun w1 hb => rPack_any w1 kind v L (l1.on hb) (by omega)
  have HSZ : Hid (∀ (w1 : World) (B : Nat) (x : Value), RowE w1 B x L → Calls Try.prog 13 #[x] w1 fun e w' => e = .returned (.int .i64 (szL L)) ∧ Below w1.heap.size w1 w') := fun w1 B x h => size_any w1 x L (h.lies hsm)
  have HRS : Hid (∀ w1 : World, Below w.heap.size w w1 → Calls Try.prog 14 #[v] w1 fun e w' => e = .returned (.int .i64 (szL L)) ∧ Below w1.heap.size w1 w') := fun w1 hb => rSize_any w1 v L (l1.on hb)
  clear l1 z1 hn w0'
  generalize packS kind L = pg at *
  generalize packE kind L = q at *
  generalize szL L = z at *
  have hbz : (z == z) = true := by simp
  have hbq : ((q : Int) == (q : Int)) = true := by simp
  have hbp : (pg.toList == pg.toList) = true := by simp
  go_enter Try.func3, Try.ntmps3
  go_wp2_with (first
    | (go_at_call 9; refine (wakes_any _).mono ?_; rintro e w1 ⟨rfl, hb1⟩; have HB1 := hid hb1; clear hb1)
    | (go_at_call 11; refine (HCP.out _ HB4.out).mono ?_; clear HCP; rintro e w5 ⟨a5, c5, rfl, hr5, hb5⟩; have HR5 := hid hr5; have HB5 := hid (HB4.out.trans (hb5.mono HB4.out.size)); clear hr5 hb5)
    | (go_at_call 11; refine (HCP.out _ HB1.out).mono ?_; rintro e w2 ⟨a2, c2, rfl, hr2, hb2⟩; have HR2 := hid hr2; have HB2 := hid (HB1.out.trans (hb2.mono HB1.out.size)); clear hr2 hb2)
    | (go_at_call 10; refine (HPK.out _ _ _ HR2.out).mono ?_; clear HPK; rintro e w3 ⟨rfl, hb3⟩; have HB3 := hid (HB2.out.trans (hb3.mono HB2.out.size)); clear hb3)
    | (go_at_call 12; refine (HRP.out _ HB3.out).mono ?_; clear HRP; rintro e w4 ⟨rfl, hb4⟩; have HB4 := hid (HB3.out.trans (hb4.mono HB3.out.size)); clear hb4)
    | (go_at_call 13; refine (HSZ.out _ _ _ HR5.out).mono ?_; clear HSZ; rintro e w6 ⟨rfl, hb6⟩; have HB6 := hid (HB5.out.trans (hb6.mono HB5.out.size)); clear hb6)
    | (go_at_call 14; refine (HRS.out _ HB6.out).mono ?_; clear HRS; rintro e w7 ⟨rfl, hb7⟩; have HB7 := hid (HB6.out.trans (hb7.mono HB6.out.size)); clear hb7))
  go_ret
  exact ⟨rfl, HB7.out⟩

theorem leafPacks_own : ownKnob Try.prog.godebug = none := by kernel_rfl
theorem leafPacks_laidOut : laidOutB Try.prog = true := by kernel_rfl

set_option maxRecDepth 100000 in
theorem leafPacks_lifted (os : Os) (started : os.Started) (H : Type) (enc : TypeId × Value → H) :
    ReturnsInHanded {} Try.checked os 3 .any (Rows.leafPacksSpec.pre6 enc Try.prog Try.f3 Rows.leafPacksRow.domain false) (Rows.leafPacksSpec.post enc Try.prog Try.f3 false true false false) := by
  refine returnsInHanded_of_change_sized (C := Try.checked) leafPacks_own started (by kernel_rfl) Try.func3
    (ChangeSpec.witness6 (enc := enc) (C := Try.checked) false ⟨#[], #[.int .i64 0, .slice none 0 0], []⟩ 8 (by kernel_rfl) (by kernel_rfl) (by kernel_rfl) (by kernel_rfl)) ?_
  intro W base args ds gs before hval0 hW hcnd hsz0 _
  have hsz : (DataW.weightsEach Try.prog (Try.f3.params.toList ++ Rows.leafPacksSpec.plain.varTypes Try.prog) (ds ++ gs)).all (· ≤ reachBytes) = true := hsz0
  have hval : ∀ (j : Nat) t v, Try.f3.params[j]? = some t → args[j]? = some v → Value.okWide Try.prog W .any base t v := hval0
  have hW' := hW
  obtain ⟨p, q, hA0, hV, rfl, hfz, hnd⟩ := hW
  have hA : DataW.TrodAll enc Try.prog W 0 (fun _ => true) true Try.f3.params.toList args.toList ds p := hA0
  rw [Try.params3] at hA hval hsz
  obtain ⟨v0, vs0, d0, ds0, p0, q0, hargs, rfl, rfl, h0, r0⟩ := trodAll_cons hA
  obtain ⟨v1, vs1, d1, ds1, p1, q1, rfl, rfl, rfl, h1, r1⟩ := trodAll_cons r0
  obtain ⟨rfl, rfl, rfl⟩ := trodAll_nil r1
  obtain rfl : args = #[v0, v1] := by cases args; simp_all
  obtain ⟨rfl, rfl⟩ := trodVars_none hV
  have k0 := h0
  have lt0 : ∀ x ∈ p0, x.block < W.heap.size := by obtain ⟨m, hm⟩ := k0; exact DataW.trod_lt m _ _ _ hm
  have k1 := h1
  have lt1 : ∀ x ∈ p1, x.block < W.heap.size := by obtain ⟨m, hm⟩ := k1; exact DataW.trod_lt m _ _ _ hm
  obtain ⟨a0, rfl, rfl, rfl, w0⟩ := open_int Try.underlying3 (hval 0 3 v0 rfl rfl) h0
  obtain ⟨L1, l1, z1⟩ := open_entries (hval 1 22 v1 rfl rfl) h1 (fun n hn => by simpa using List.all_eq_true.1 hsz n (DataW.weights_mem_each (j := 1) (t := 22) rfl rfl n hn))
  clear hA0 hval0
  refine (leafPacks_walk a0 v1 L1 w0 W l1 z1).mono fun e W' ⟨he, bel⟩ => ?_
  subst he
  exact ⟨_, rfl, _, _, _, [], _, [], hW', trodAll_mk1 (shut_bool Try.underlying4 _), (trodAll_cons_mk (Below.trod leafPacks_laidOut (by kernel_rfl) (of_decide_eq_true (by kernel_rfl)) k0 bel lt0) (trodAll_cons_mk (Below.trod leafPacks_laidOut (by kernel_rfl) (of_decide_eq_true (by kernel_rfl)) k1 bel lt1) trodAll_mk0)), rfl, bel.frame _, fun h => by cases h⟩

theorem leafPacks_holds : Rows.LeafPacksSaid :=
  OpenClaim.holds_of_wide 3 Try.f3 rfl rfl rfl rfl rfl rfl rfl ⟨rfl, rfl, rfl, rfl, rfl⟩ rfl rfl rfl rfl rfl (by kernel_rfl) Try.func3 (by kernel_rfl)
    (of_decide_eq_true (by kernel_rfl)) (by unfold Func.isWrapper; first | (rw [if_pos (by decide +kernel)]; kernel_rfl) | (rw [if_neg (by decide +kernel)]; exact ⟨rfl, rfl⟩))
    (fun os started H enc _ => leafPacks_lifted os started H enc)

#print axioms leafPacks_holds

end Go.Proofs.Ytjocbkhjbbpkjaa
