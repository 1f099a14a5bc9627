/-
  TreeNil: a nil tree, and a nil space: whatever comes in, each call answers as the document says. No condition of its own; the listed variable (a handle of the type error) is tied.
-/
import Derived.Test.YtjcbaiohpdihoaaGreatDoorCards
import Derived.Test.YtjcbaiohpdihoaaGreatDoorTie
import Derived.Test.YtjcbaiohpdihoaaGreatDoorUd
import Derived.Test.YtjcbaiohpdihoaaGreatDoorEv
import Derived.ProofKit
import Derived.OpenShut
import Derived.ShutString
import Derived.ChangeOld
import Derived.Below
import Derived.SizedLaws
import Derived.Lib.SmallJoins
import Derived.SevenTiedAt
import Derived.Deep.DeepHandedRow
import Derived.LaidMore
import Derived.Lay
import Derived.LaidHandle
namespace Go.Proofs.YtjcbaiohpdihoaaGreatDoor
open Go.ChangeShapes Go.WideShapes Go.ChangeAt Go.RowKit Go.Joins
open Go.ChangeMaps (open_string shut_string)
set_option linter.unusedVariables false
set_option linter.unusedSimpArgs false
set_option maxRecDepth 100000

set_option maxHeartbeats 4000000 in
theorem treeNil_walk (a0 a1 : ByteArray) (a2 : Int) (z0 : a0.size ≤ reachBytes) (z1 : a1.size ≤ reachBytes) (w2' : (Lit.int IntKind.i64 a2).wf = true) (w : World) (hE : Env w) :
    Calls Tryz.prog 8 #[.string a0, .string a1, .int .i64 a2] w fun e w' => e = .returned (.bool true) ∧ Below w.heap.size w w' := by
  have hwk := wakes_any w hE
  have HAT : Hid (∀ w1, _) := fun w1 => at_nil a2 w1
  have HNE : Hid (∀ w1, _) := fun w1 => tnew_nil w1
  have HGE : Hid (∀ w1, _) := fun w1 => tget_nil a0 w1
  have HDE : Hid (∀ w1, _) := fun w1 => tdelete_nil a0 w1
  have HLI : Hid (∀ w1, _) := fun w1 => tlist_nil a0 a2 w1
  have HPA : Hid (∀ w1, _) := fun w1 => tpages_nil w1
  have HPU : Hid (∀ w1, _) := fun w1 => tput_nil a0 a1 w1
  clear hE
  go_enter Tryz.func8, Tryz.ntmps8
  go_wp2_with (first
    | (go_at_call 9; refine hwk.mono ?_; clear hwk; rintro e w1 ⟨rfl, hb1⟩; have H1 := hid hb1; clear hb1)
    | (go_at_call 12; refine (HAT.out _).mono ?_; clear HAT; rintro e w2 ⟨rfl, rfl⟩)
    | (go_at_call 11; refine (HNE.out _).mono ?_; clear HNE; rintro e w3 ⟨rfl, hb3⟩; have H3 := hid (H1.out.trans (hb3.mono H1.out.size)); clear hb3 H1)
    | (go_at_call 31; refine (HGE.out _).mono ?_; clear HGE; rintro e w4 ⟨rfl, hb4⟩; have H4 := hid (H3.out.trans (hb4.mono H3.out.size)); clear hb4 H3)
    | (go_at_call 27; refine (HDE.out _).mono ?_; clear HDE; rintro e w5 ⟨rfl, hb5⟩; have H5 := hid (H4.out.trans (hb5.mono H4.out.size)); clear hb5 H4)
    | (go_at_call 14; refine (HLI.out _).mono ?_; clear HLI; rintro e w6 ⟨rfl, hb6⟩; have H6 := hid (H5.out.trans (hb6.mono H5.out.size)); clear hb6 H5)
    | (go_at_call 17; refine (HPA.out _).mono ?_; clear HPA; rintro e w7 ⟨rfl, hb7⟩; have H7 := hid (H6.out.trans (hb7.mono H6.out.size)); clear hb7 H6)
    | (go_at_call 26; refine (HPU.out _).mono ?_; clear HPU; rintro e w8 ⟨rfl, hb8⟩; have H8 := hid (H7.out.trans (hb8.mono H7.out.size)); clear hb8 H7))
  go_ret
  exact ⟨rfl, H8.out⟩

theorem treeNil_own : ownKnob Tryz.prog.godebug = none := by kernel_rfl
theorem treeNil_laidOut : laidOutB Tryz.prog = true := by kernel_rfl
theorem treeNil_met (os : Os) : laidMetH Tryz.prog Rows.treeNilRow.laid ((laidW os).forCall (fun _ _ => 0) ⟨#[], #[.string ByteArray.empty, .string ByteArray.empty, .int .i64 0], []⟩).memory := by
  exact laidMetH_of_parts (laidMet_nil _ _) (by kernel_rfl)
theorem treeNil_reads (os : Os) {H : Type} (enc : TypeId × Value → H) : DataW.whole enc Tryz.prog ((laidW os).forCall (fun _ _ => 0) ⟨#[], #[.string ByteArray.empty, .string ByteArray.empty, .int .i64 0], []⟩).memory Tryz.f8.params.toList Rows.treeNilSpec.vars false #[(.string ByteArray.empty : Value), (.string ByteArray.empty : Value), (.int .i64 0 : Value)].toList 8 = some ([.lit (.string []), .lit (.string []), .lit (.int .i64 0)], [], []) := by kernel_rfl
theorem treeNil_okIn (os : Os) : Input.okWideB Tryz.prog ((laidW os).forCall (fun _ _ => 0) ⟨#[], #[.string ByteArray.empty, .string ByteArray.empty, .int .i64 0], []⟩) 8 ⟨#[], #[.string ByteArray.empty, .string ByteArray.empty, .int .i64 0], []⟩ = true := by kernel_rfl

set_option maxRecDepth 100000 in
theorem treeNil_lifted (os : Os) (started : os.Started) (H : Type) (enc : TypeId × Value → H) (F : Stop.Interp) :
    ReturnsInHanded {} Tryz.checked os 8 .any ((OpenSpec.ofChange Rows.treeNilSpec).preRow enc Tryz.prog Tryz.f8 Rows.treeNilRow.domain false Rows.treeNilRow.laid) (((OpenSpec.ofChange Rows.treeNilSpec).at F).post enc Tryz.prog Tryz.f8 false true false false) := by
  refine returnsInHanded_of_row (C := Tryz.checked) (s := (OpenSpec.ofChange Rows.treeNilSpec)) treeNil_own started (by kernel_rfl) Tryz.func8
    ⟨laidW os, fun _ _ => 0, ⟨#[], #[.string ByteArray.empty, .string ByteArray.empty, .int .i64 0], []⟩, rfl, World.shaped_of_ZipB (by kernel_rfl) (by kernel_rfl), (Input.okWide_of_okWideB (base := 0) (treeNil_okIn os)).1, (Input.okWide_of_okWideB (treeNil_okIn os)).2,
      OpenSpec.preRow_of_cond 8 (treeNil_reads os enc) (by kernel_rfl) (fun k hk => by cases hk) (by kernel_rfl) (treeNil_met os), by simp only [Assume.holds]; exact ⟨by simp, by simp, fun _ => Modest.zero, by simp, by simp⟩⟩ ?_
  intro W base args ds gs before hval0 hW hcnd hcond hsz0 hL hsh _
  have env : Env W := env_of hL
  have hsz : (DataW.weightsEach Tryz.prog (Tryz.f8.params.toList ++ Rows.treeNilSpec.plain.varTypes Tryz.prog) (ds ++ gs)).all (· ≤ reachBytes) = true := hsz0
  have hval : ∀ (j : Nat) t v, Tryz.f8.params[j]? = some t → args[j]? = some v → Value.okWide Tryz.prog W .any base t v := hval0
  have hW' := hW
  obtain ⟨p, q, hA0, hV, rfl, hfz, hnd⟩ := hW
  have hA : DataW.TrodAll enc Tryz.prog W 0 (fun _ => true) true Tryz.f8.params.toList args.toList ds p := hA0
  rw [Tryz.params8] at hA hval hsz
  obtain ⟨v0, vs0, d0, ds0, p0, q0, hargs, rfl, rfl, h0, r0⟩ := trodAll_cons hA
  obtain ⟨v1, vs1, d1, ds1, p1, q1, rfl, rfl, rfl, h1, r1⟩ := trodAll_cons r0
  obtain ⟨v2, vs2, d2, ds2, p2, q2, rfl, rfl, rfl, h2, r2⟩ := trodAll_cons r1
  obtain ⟨rfl, rfl, rfl⟩ := trodAll_nil r2
  obtain rfl : args = #[v0, v1, v2] := by cases args; simp_all
  obtain ⟨rfl, rfl⟩ := trodVars_none hV
  have k0 := h0
  have lt0 : ∀ x ∈ p0, x.block < W.heap.size := by obtain ⟨m, hm⟩ := k0; exact DataW.trod_lt m _ _ _ hm
  have k1 := h1
  have lt1 : ∀ x ∈ p1, x.block < W.heap.size := by obtain ⟨m, hm⟩ := k1; exact DataW.trod_lt m _ _ _ hm
  have k2 := h2
  have lt2 : ∀ x ∈ p2, x.block < W.heap.size := by obtain ⟨m, hm⟩ := k2; exact DataW.trod_lt m _ _ _ hm
  obtain ⟨a0, rfl, rfl, rfl, w0⟩ := open_string Tryz.underlying9 (hval 0 9 v0 rfl rfl) h0
  have z0 : a0.size ≤ reachBytes := by have := sized_string hsz (j := 0) (t := 9) rfl rfl; simpa using this
  obtain ⟨a1, rfl, rfl, rfl, w1⟩ := open_string Tryz.underlying9 (hval 1 9 v1 rfl rfl) h1
  have z1 : a1.size ≤ reachBytes := by have := sized_string hsz (j := 1) (t := 9) rfl rfl; simpa using this
  obtain ⟨a2, rfl, rfl, rfl, w2⟩ := open_int Tryz.underlying3 (hval 2 3 v2 rfl rfl) h2
  clear hA0 hval0
  refine (treeNil_walk a0 a1 a2 z0 z1 w2 W env).mono fun e W' ⟨he, bel⟩ => ?_
  subst he
  exact ⟨_, rfl, _, _, _, [], _, [], hW', trodAll_mk1 (shut_bool Tryz.underlying4 _), (trodAll_cons_mk (Below.trod treeNil_laidOut (by kernel_rfl) (of_decide_eq_true (by kernel_rfl)) k0 bel lt0) (trodAll_cons_mk (Below.trod treeNil_laidOut (by kernel_rfl) (of_decide_eq_true (by kernel_rfl)) k1 bel lt1) (trodAll_cons_mk (Below.trod treeNil_laidOut (by kernel_rfl) (of_decide_eq_true (by kernel_rfl)) k2 bel lt2) trodAll_mk0))), rfl, bel.frame _, fun h => by cases h⟩

theorem treeNil_said : Rows.TreeNilSaid :=
  OpenClaim.holds_of_cond 8 Tryz.f8 rfl rfl rfl rfl rfl rfl rfl ⟨rfl, rfl, rfl, rfl, rfl⟩ rfl rfl rfl rfl rfl (by kernel_rfl) Tryz.func8 (by kernel_rfl)
    (of_decide_eq_true (by kernel_rfl)) (by unfold Func.isWrapper; first | (rw [if_pos (by decide +kernel)]; kernel_rfl) | (rw [if_neg (by decide +kernel)]; exact ⟨rfl, rfl⟩))
    (fun os started H enc _ F => by rw [OpenClaim.pre_eq_preRow]; exact treeNil_lifted os started H enc F)

theorem treeNil_plain (f : FuncId) (fn : Func) (hf : Tryz.pinned.checked.prog.funcNamed Rows.treeNilRow.func = some f) (hfn : Tryz.pinned.checked.prog.funcs[f]? = some fn) :
    true = Tryz.pinned.checked.prog.looks [] ∧ ∀ (j : Nat) t, fn.params[j]? = some t → Tryz.pinned.checked.prog.wantsStandIn t = false := by
  obtain rfl : f = 8 := Option.some.inj ((show Tryz.prog.funcNamed Rows.treeNilRow.func = some 8 by kernel_rfl).symm.trans hf) |>.symm
  obtain rfl : fn = Tryz.f8 := (Option.some.inj (Tryz.func8.symm.trans hfn)).symm
  refine ⟨by kernel_rfl, fun j t ht => ?_⟩
  rw [Tryz.params8] at ht
  have hm : t ∈ [9, 9, 3] := by simpa using Array.mem_of_getElem? ht
  have hall : ([9, 9, 3].all fun u => !Tryz.prog.wantsStandIn u) = true := by kernel_rfl
  have := List.all_eq_true.1 hall t hm
  exact (show Tryz.prog.wantsStandIn t = false by simpa using this)

theorem treeNil_holds : Rows.TreeNilCardSaid :=
  Claim7.holds_tied_plain_at .later [] _ _ _ _ treeNil_said (fun _ h => by cases h) (by kernel_rfl) (fun _ h => by cases h) treeNil_row_tie rfl ⟨rfl, rfl⟩ (by kernel_rfl) rfl treeNil_plain (by kernel_rfl)

#print axioms treeNil_holds

end Go.Proofs.YtjcbaiohpdihoaaGreatDoor
