/-
  SpaceNil: a nil space, a nil disk, rooms that may not be; whatever comes in, each call answers as the document says. No condition of its own; the listed variable (a handle of the type error) is tied.
-/
import Derived.Test.YtglallhblcjffaaGreatDoorCards
import Derived.Test.YtglallhblcjffaaGreatDoorTie
import Derived.Test.YtglallhblcjffaaGreatDoorWk2
import Derived.Test.YtglallhblcjffaaGreatDoorEv
import Derived.ProofKit
import Derived.OpenShut
import Derived.ShutString
import Derived.ChangeOld
import Derived.Below
import Derived.SizedLaws
import Derived.Lib.SmallJoins
import Derived.SevenTiedAt
import Derived.Deep.DeepHandedRow
import Derived.LaidMore
import Derived.Lay
import Derived.LaidHandle
namespace Go.Proofs.YtglallhblcjffaaGreatDoor
open Go.ChangeShapes Go.WideShapes Go.ChangeAt Go.RowKit Go.Joins
open Go.ChangeMaps (open_string shut_string)
set_option linter.unusedVariables false
set_option linter.unusedSimpArgs false
set_option maxRecDepth 100000

set_option maxHeartbeats 4000000 in
theorem spaceNil_walk (a0 : Int) (a1 : ByteArray) (a2 : Int) (w0' : (Lit.int IntKind.i64 a0).wf = true) (z1 : a1.size ≤ reachBytes) (w2' : (Lit.int IntKind.i64 a2).wf = true) (w : World) (hE : Env w) :
    Calls Tryz.prog 7 #[.int .i64 a0, .string a1, .int .i64 a2] w fun e w' => e = .returned (.bool true) ∧ Below w.heap.size w w' := by
  have hwk := wakes_any w hE
  have HUN : Hid (∀ w1, _) := fun w1 => sundo_nil w1
  have HHE : Hid (∀ w1, _) := fun w1 => head_nil w1
  have HAL : Hid (∀ w1, _) := fun w1 => alloc_nil w1
  have HSH : Hid (∀ w1, _) := fun w1 => setHead_nil a1 w1
  have HCO : Hid (∀ w1, _) := fun w1 => scommit_nil w1
  have HFR : Hid (∀ w1, _) := fun w1 => free_nil w1
  have HTA : Hid (∀ w1, _) := fun w1 => taken_nil w1
  have HGE : Hid (∀ w1, Below w.heap.size w w1 → Calls Tryz.prog 28 #[.pointer none, .int .i64 a0] w1 fun e w' => e = .returned (.tuple #[.string ⟨#[]⟩, .int .i64 18]) ∧ Below w.heap.size w w') := fun w1 hb => (get_nil a0 w1 (hE.on hE.pos hb)).mono fun e w' hh => ⟨hh.1, hb.trans (hh.2.mono hb.size)⟩
  have HPU : Hid (∀ w1, Below w.heap.size w w1 → Calls Tryz.prog 30 #[.pointer none, .int .i64 a0, .string a1] w1 fun e w' => e = .returned (.int .i64 18) ∧ Below w.heap.size w w') := fun w1 hb => (put_nil a0 a1 w1 (hE.on hE.pos hb)).mono fun e w' hh => ⟨hh.1, hb.trans (hh.2.mono hb.size)⟩
  have HRE : Hid (∀ w1, Below w.heap.size w w1 → Calls Tryz.prog 25 #[.pointer none, .int .i64 a0] w1 fun e w' => e = .returned (.int .i64 18) ∧ Below w.heap.size w w') := fun w1 hb => (release_nil a0 w1 (hE.on hE.pos hb)).mono fun e w' hh => ⟨hh.1, hb.trans (hh.2.mono hb.size)⟩
  have HON : Hid (∀ w1, _) := fun w1 => open_nil a2 w1
  have HNW : Hid (∀ w1, Below w.heap.size w w1 → Calls Tryz.prog 18 #[.int .i64 64] w1 fun e w' => ∃ k, e = .returned (.tuple #[.pointer (some ⟨k, 0, none⟩), .int .i64 0]) ∧ Dq w w' k (nw 64)) := fun w1 hb => new_dq 64 (by decide) (by decide) hb
  have HDB : Hid (∀ w1 k, Dq w w1 k (nw 64) → Below w.heap.size w w1) := fun w1 k h => by obtain ⟨_, _, _, h⟩ := h; exact h
  by_cases hr : 1 ≤ a2 ∧ a2 ≤ 1024
  · obtain ⟨r, rfl⟩ : ∃ r : Nat, a2 = (r : Int) := ⟨a2.toNat, by omega⟩
    have hrr : 1 ≤ r ∧ r ≤ 1024 := by omega
    have HOP : Hid (∀ w1 k, Dq w w1 k (nw 64) → Calls Tryz.prog 12 #[.pointer (some ⟨k, 0, none⟩), .int .i64 (r : Nat)] w1 fun e w' => ∃ s, e = .returned (.tuple #[.pointer (some ⟨s, 0, none⟩), .int .i64 0]) ∧ Below w.heap.size w w') := fun w1 k h => (open_nw 64 (by decide) (by decide) r hrr h).mono fun e w' hh => by
      obtain ⟨q, s, e1, h2⟩ := hh
      exact ⟨s, e1, h2.below⟩
    have t1 : (1 : Int) ≤ (r : Int) := hr.1
    have t2 : (r : Int) ≤ 1024 := hr.2
    clear hE hr hrr
    go_enter Tryz.func7, Tryz.ntmps7
    go_wp2_with (first
      | (go_at_call 8; refine hwk.mono ?_; clear hwk; rintro e w1 ⟨rfl, hb1⟩; have H1 := hid hb1; clear hb1)
      | (go_at_call 26; refine (HUN.out _).mono ?_; clear HUN; rintro e w2 ⟨rfl, rfl⟩)
      | (go_at_call 27; refine (HHE.out _).mono ?_; clear HHE; rintro e w2 ⟨rfl, rfl⟩)
      | (go_at_call 28; refine (HGE.out _ H1.out).mono ?_; clear HGE; rintro e w2 ⟨rfl, hb2⟩; have H2 := hid hb2; clear hb2)
      | (go_at_call 23; refine (HAL.out _).mono ?_; clear HAL; rintro e w3 ⟨rfl, rfl⟩)
      | (go_at_call 29; refine (HSH.out _).mono ?_; clear HSH; rintro e w3 ⟨rfl, rfl⟩)
      | (go_at_call 30; refine (HPU.out _ H2.out).mono ?_; clear HPU; rintro e w3 ⟨rfl, hb3⟩; have H3 := hid hb3; clear hb3)
      | (go_at_call 25; refine (HRE.out _ H3.out).mono ?_; clear HRE; rintro e w4 ⟨rfl, hb4⟩; have H4 := hid hb4; clear hb4)
      | (go_at_call 15; refine (HCO.out _).mono ?_; clear HCO; rintro e w5 ⟨rfl, rfl⟩)
      | (go_at_call 24; refine (HFR.out _).mono ?_; clear HFR; rintro e w5 ⟨rfl, rfl⟩)
      | (go_at_call 31; refine (HTA.out _).mono ?_; clear HTA; rintro e w5 ⟨rfl, rfl⟩)
      | (go_at_call 12; refine (HON.out _).mono ?_; clear HON; rintro e w5 ⟨rfl, rfl⟩)
      | (go_at_call 18; refine (HNW.out _ H4.out).mono ?_; clear HNW; rintro e w6 ⟨k, rfl, h6⟩; have H6 := hid h6; clear h6)
      | (go_at_call 12; refine (HOP.out _ _ H6.out).mono ?_; clear HOP; rintro e w7 ⟨s, rfl, hb7⟩; have H7 := hid hb7; clear hb7))
    go_ret
    exact ⟨rfl, H7.out⟩
  · have HOP : Hid (∀ w1 k, Dq w w1 k (nw 64) → Calls Tryz.prog 12 #[.pointer (some ⟨k, 0, none⟩), .int .i64 a2] w1 fun e w' => e = .returned (.tuple #[.pointer none, .int .i64 1]) ∧ Below w.heap.size w w') := fun w1 k h => (open_no k a2 hr w1).mono fun e w' hh => by
      obtain ⟨e1, rfl⟩ := hh
      exact ⟨e1, HDB.out _ _ h⟩
    rcases (by omega : (¬ 1 ≤ a2) ∨ (1 ≤ a2 ∧ ¬ a2 ≤ 1024)) with t1 | ⟨t1, t2⟩
    · clear hE hr
      go_enter Tryz.func7, Tryz.ntmps7
      go_wp2_with (first
        | (go_at_call 8; refine hwk.mono ?_; clear hwk; rintro e w1 ⟨rfl, hb1⟩; have H1 := hid hb1; clear hb1)
        | (go_at_call 26; refine (HUN.out _).mono ?_; clear HUN; rintro e w2 ⟨rfl, rfl⟩)
        | (go_at_call 27; refine (HHE.out _).mono ?_; clear HHE; rintro e w2 ⟨rfl, rfl⟩)
        | (go_at_call 28; refine (HGE.out _ H1.out).mono ?_; clear HGE; rintro e w2 ⟨rfl, hb2⟩; have H2 := hid hb2; clear hb2)
        | (go_at_call 23; refine (HAL.out _).mono ?_; clear HAL; rintro e w3 ⟨rfl, rfl⟩)
        | (go_at_call 29; refine (HSH.out _).mono ?_; clear HSH; rintro e w3 ⟨rfl, rfl⟩)
        | (go_at_call 30; refine (HPU.out _ H2.out).mono ?_; clear HPU; rintro e w3 ⟨rfl, hb3⟩; have H3 := hid hb3; clear hb3)
        | (go_at_call 25; refine (HRE.out _ H3.out).mono ?_; clear HRE; rintro e w4 ⟨rfl, hb4⟩; have H4 := hid hb4; clear hb4)
        | (go_at_call 15; refine (HCO.out _).mono ?_; clear HCO; rintro e w5 ⟨rfl, rfl⟩)
        | (go_at_call 24; refine (HFR.out _).mono ?_; clear HFR; rintro e w5 ⟨rfl, rfl⟩)
        | (go_at_call 31; refine (HTA.out _).mono ?_; clear HTA; rintro e w5 ⟨rfl, rfl⟩)
        | (go_at_call 12; refine (HON.out _).mono ?_; clear HON; rintro e w5 ⟨rfl, rfl⟩)
        | (go_at_call 18; refine (HNW.out _ H4.out).mono ?_; clear HNW; rintro e w6 ⟨k, rfl, h6⟩; have H6 := hid h6; clear h6)
        | (go_at_call 12; refine (HOP.out _ _ H6.out).mono ?_; clear HOP; rintro e w7 ⟨rfl, hb7⟩; have H7 := hid hb7; clear hb7))
      go_ret
      exact ⟨rfl, H7.out⟩
    · clear hE hr
      go_enter Tryz.func7, Tryz.ntmps7
      go_wp2_with (first
        | (go_at_call 8; refine hwk.mono ?_; clear hwk; rintro e w1 ⟨rfl, hb1⟩; have H1 := hid hb1; clear hb1)
        | (go_at_call 26; refine (HUN.out _).mono ?_; clear HUN; rintro e w2 ⟨rfl, rfl⟩)
        | (go_at_call 27; refine (HHE.out _).mono ?_; clear HHE; rintro e w2 ⟨rfl, rfl⟩)
        | (go_at_call 28; refine (HGE.out _ H1.out).mono ?_; clear HGE; rintro e w2 ⟨rfl, hb2⟩; have H2 := hid hb2; clear hb2)
        | (go_at_call 23; refine (HAL.out _).mono ?_; clear HAL; rintro e w3 ⟨rfl, rfl⟩)
        | (go_at_call 29; refine (HSH.out _).mono ?_; clear HSH; rintro e w3 ⟨rfl, rfl⟩)
        | (go_at_call 30; refine (HPU.out _ H2.out).mono ?_; clear HPU; rintro e w3 ⟨rfl, hb3⟩; have H3 := hid hb3; clear hb3)
        | (go_at_call 25; refine (HRE.out _ H3.out).mono ?_; clear HRE; rintro e w4 ⟨rfl, hb4⟩; have H4 := hid hb4; clear hb4)
        | (go_at_call 15; refine (HCO.out _).mono ?_; clear HCO; rintro e w5 ⟨rfl, rfl⟩)
        | (go_at_call 24; refine (HFR.out _).mono ?_; clear HFR; rintro e w5 ⟨rfl, rfl⟩)
        | (go_at_call 31; refine (HTA.out _).mono ?_; clear HTA; rintro e w5 ⟨rfl, rfl⟩)
        | (go_at_call 12; refine (HON.out _).mono ?_; clear HON; rintro e w5 ⟨rfl, rfl⟩)
        | (go_at_call 18; refine (HNW.out _ H4.out).mono ?_; clear HNW; rintro e w6 ⟨k, rfl, h6⟩; have H6 := hid h6; clear h6)
        | (go_at_call 12; refine (HOP.out _ _ H6.out).mono ?_; clear HOP; rintro e w7 ⟨rfl, hb7⟩; have H7 := hid hb7; clear hb7))
      go_ret
      exact ⟨by show Ending.returned (.bool (!decide (a2 ≤ 1024))) = _; rw [decide_eq_false (by omega)]; rfl, H7.out⟩

theorem spaceNil_own : ownKnob Tryz.prog.godebug = none := by kernel_rfl
theorem spaceNil_laidOut : laidOutB Tryz.prog = true := by kernel_rfl
theorem spaceNil_met (os : Os) : laidMetH Tryz.prog Rows.spaceNilRow.laid ((laidW os).forCall (fun _ _ => 0) ⟨#[], #[.int .i64 0, .string ByteArray.empty, .int .i64 0], []⟩).memory := by
  exact laidMetH_of_parts (laidMet_nil _ _) (by kernel_rfl)
theorem spaceNil_reads (os : Os) {H : Type} (enc : TypeId × Value → H) : DataW.whole enc Tryz.prog ((laidW os).forCall (fun _ _ => 0) ⟨#[], #[.int .i64 0, .string ByteArray.empty, .int .i64 0], []⟩).memory Tryz.f7.params.toList Rows.spaceNilSpec.vars false #[(.int .i64 0 : Value), (.string ByteArray.empty : Value), (.int .i64 0 : Value)].toList 8 = some ([.lit (.int .i64 0), .lit (.string []), .lit (.int .i64 0)], [], []) := by kernel_rfl
theorem spaceNil_okIn (os : Os) : Input.okWideB Tryz.prog ((laidW os).forCall (fun _ _ => 0) ⟨#[], #[.int .i64 0, .string ByteArray.empty, .int .i64 0], []⟩) 7 ⟨#[], #[.int .i64 0, .string ByteArray.empty, .int .i64 0], []⟩ = true := by kernel_rfl

set_option maxRecDepth 100000 in
theorem spaceNil_lifted (os : Os) (started : os.Started) (H : Type) (enc : TypeId × Value → H) (F : Stop.Interp) :
    ReturnsInHanded {} Tryz.checked os 7 .any ((OpenSpec.ofChange Rows.spaceNilSpec).preRow enc Tryz.prog Tryz.f7 Rows.spaceNilRow.domain false Rows.spaceNilRow.laid) (((OpenSpec.ofChange Rows.spaceNilSpec).at F).post enc Tryz.prog Tryz.f7 false true false false) := by
  refine returnsInHanded_of_row (C := Tryz.checked) (s := (OpenSpec.ofChange Rows.spaceNilSpec)) spaceNil_own started (by kernel_rfl) Tryz.func7
    ⟨laidW os, fun _ _ => 0, ⟨#[], #[.int .i64 0, .string ByteArray.empty, .int .i64 0], []⟩, rfl, World.shaped_of_ZipB (by kernel_rfl) (by kernel_rfl), (Input.okWide_of_okWideB (base := 0) (spaceNil_okIn os)).1, (Input.okWide_of_okWideB (spaceNil_okIn os)).2,
      OpenSpec.preRow_of_cond 8 (spaceNil_reads os enc) (by kernel_rfl) (fun k hk => by cases hk) (by kernel_rfl) (spaceNil_met os), by simp only [Assume.holds]; exact ⟨by simp, by simp, fun _ => Modest.zero, by simp, by simp⟩⟩ ?_
  intro W base args ds gs before hval0 hW hcnd hcond hsz0 hL hsh _
  have env : Env W := env_of hL
  have hsz : (DataW.weightsEach Tryz.prog (Tryz.f7.params.toList ++ Rows.spaceNilSpec.plain.varTypes Tryz.prog) (ds ++ gs)).all (· ≤ reachBytes) = true := hsz0
  have hval : ∀ (j : Nat) t v, Tryz.f7.params[j]? = some t → args[j]? = some v → Value.okWide Tryz.prog W .any base t v := hval0
  have hW' := hW
  obtain ⟨p, q, hA0, hV, rfl, hfz, hnd⟩ := hW
  have hA : DataW.TrodAll enc Tryz.prog W 0 (fun _ => true) true Tryz.f7.params.toList args.toList ds p := hA0
  rw [Tryz.params7] at hA hval hsz
  obtain ⟨v0, vs0, d0, ds0, p0, q0, hargs, rfl, rfl, h0, r0⟩ := trodAll_cons hA
  obtain ⟨v1, vs1, d1, ds1, p1, q1, rfl, rfl, rfl, h1, r1⟩ := trodAll_cons r0
  obtain ⟨v2, vs2, d2, ds2, p2, q2, rfl, rfl, rfl, h2, r2⟩ := trodAll_cons r1
  obtain ⟨rfl, rfl, rfl⟩ := trodAll_nil r2
  obtain rfl : args = #[v0, v1, v2] := by cases args; simp_all
  obtain ⟨rfl, rfl⟩ := trodVars_none hV
  have k0 := h0
  have lt0 : ∀ x ∈ p0, x.block < W.heap.size := by obtain ⟨m, hm⟩ := k0; exact DataW.trod_lt m _ _ _ hm
  have k1 := h1
  have lt1 : ∀ x ∈ p1, x.block < W.heap.size := by obtain ⟨m, hm⟩ := k1; exact DataW.trod_lt m _ _ _ hm
  have k2 := h2
  have lt2 : ∀ x ∈ p2, x.block < W.heap.size := by obtain ⟨m, hm⟩ := k2; exact DataW.trod_lt m _ _ _ hm
  obtain ⟨a0, rfl, rfl, rfl, w0⟩ := open_int Tryz.underlying3 (hval 0 3 v0 rfl rfl) h0
  obtain ⟨a1, rfl, rfl, rfl, w1⟩ := open_string Tryz.underlying9 (hval 1 9 v1 rfl rfl) h1
  have z1 : a1.size ≤ reachBytes := by have := sized_string hsz (j := 1) (t := 9) rfl rfl; simpa using this
  obtain ⟨a2, rfl, rfl, rfl, w2⟩ := open_int Tryz.underlying3 (hval 2 3 v2 rfl rfl) h2
  clear hA0 hval0
  refine (spaceNil_walk a0 a1 a2 w0 z1 w2 W env).mono fun e W' ⟨he, bel⟩ => ?_
  subst he
  exact ⟨_, rfl, _, _, _, [], _, [], hW', trodAll_mk1 (shut_bool Tryz.underlying4 _), (trodAll_cons_mk (Below.trod spaceNil_laidOut (by kernel_rfl) (of_decide_eq_true (by kernel_rfl)) k0 bel lt0) (trodAll_cons_mk (Below.trod spaceNil_laidOut (by kernel_rfl) (of_decide_eq_true (by kernel_rfl)) k1 bel lt1) (trodAll_cons_mk (Below.trod spaceNil_laidOut (by kernel_rfl) (of_decide_eq_true (by kernel_rfl)) k2 bel lt2) trodAll_mk0))), rfl, bel.frame _, fun h => by cases h⟩

theorem spaceNil_said : Rows.SpaceNilSaid :=
  OpenClaim.holds_of_cond 7 Tryz.f7 rfl rfl rfl rfl rfl rfl rfl ⟨rfl, rfl, rfl, rfl, rfl⟩ rfl rfl rfl rfl rfl (by kernel_rfl) Tryz.func7 (by kernel_rfl)
    (of_decide_eq_true (by kernel_rfl)) (by unfold Func.isWrapper; first | (rw [if_pos (by decide +kernel)]; kernel_rfl) | (rw [if_neg (by decide +kernel)]; exact ⟨rfl, rfl⟩))
    (fun os started H enc _ F => by rw [OpenClaim.pre_eq_preRow]; exact spaceNil_lifted os started H enc F)

theorem spaceNil_plain (f : FuncId) (fn : Func) (hf : Tryz.pinned.checked.prog.funcNamed Rows.spaceNilRow.func = some f) (hfn : Tryz.pinned.checked.prog.funcs[f]? = some fn) :
    true = Tryz.pinned.checked.prog.looks [] ∧ ∀ (j : Nat) t, fn.params[j]? = some t → Tryz.pinned.checked.prog.wantsStandIn t = false := by
  obtain rfl : f = 7 := Option.some.inj ((show Tryz.prog.funcNamed Rows.spaceNilRow.func = some 7 by kernel_rfl).symm.trans hf) |>.symm
  obtain rfl : fn = Tryz.f7 := (Option.some.inj (Tryz.func7.symm.trans hfn)).symm
  refine ⟨by kernel_rfl, fun j t ht => ?_⟩
  rw [Tryz.params7] at ht
  have hm : t ∈ [3, 9, 3] := by simpa using Array.mem_of_getElem? ht
  have hall : ([3, 9, 3].all fun u => !Tryz.prog.wantsStandIn u) = true := by kernel_rfl
  have := List.all_eq_true.1 hall t hm
  exact (show Tryz.prog.wantsStandIn t = false by simpa using this)

theorem spaceNil_holds : Rows.SpaceNilCardSaid :=
  Claim7.holds_tied_plain_at .later [] _ _ _ _ spaceNil_said (fun _ h => by cases h) (by kernel_rfl) (fun _ h => by cases h) spaceNil_row_tie rfl ⟨rfl, rfl⟩ (by kernel_rfl) rfl spaceNil_plain (by kernel_rfl)

#print axioms spaceNil_holds

end Go.Proofs.YtglallhblcjffaaGreatDoor
