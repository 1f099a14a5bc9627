/-
  Proved: NameBack returns true for every number and every text, and its arguments read behind the call as before.
-/
import Derived.Test.YtgbhlbcdaankoaaDoorCards
import Derived.Test.YtgbhlbcdaankoaaDoorTie
import Derived.Test.YtgbhlbcdaankoaaDoorSame
import Derived.Test.YtgbhlbcdaankoaaDoorWrites
import Derived.ProofKit
import Derived.OpenShut
import Derived.ShutString
import Derived.ChangeOld
import Derived.Below
import Derived.SizedLaws
import Derived.Lib.SmallJoins
import Derived.SevenTiedAt
namespace Go.Proofs.YtgbhlbcdaankoaaDoor
open Go.ChangeShapes Go.WideShapes Go.ChangeAt Go.RowKit Go.Joins
open Go.ChangeMaps (open_string shut_string)
set_option linter.unusedVariables false

theorem num_text {n : Int} (h0 : -9223372036854775808 ≤ n) (h1 : n ≤ 9223372036854775807) : numV (text n).data.toList = n ∧ numE (text n).data.toList = 0 := by
  have e : num (text n).data.toList = some n := by rw [text_list]; exact num_itoa h0 h1
  exact ⟨by unfold numV; rw [e]; rfl, by unfold numE; rw [e]; rfl⟩

theorem nameBack_walk (n : Int) (s : ByteArray) (wn : (Lit.int .i64 n).wf = true) (z : s.size ≤ reachBytes) (w : World) (env : Env w) :
    Calls Tryd.prog 6 #[.int .i64 n, .string s] w fun e w' => e = .returned (.bool true) ∧ Below w.heap.size w w' := by
  obtain ⟨b0, b1⟩ := bounds_i64 wn
  obtain ⟨t1, t2⟩ := num_text b0 b1
  have hz := text_size b0 b1
  have htt : ((text n).toList == (text n).toList) = true := by simp
  have zt : (text n).size ≤ reachBytes := by unfold reachBytes; omega
  cases hn : num s.data.toList with
  | none =>
    have e1 : numV s.data.toList = 0 := by unfold numV; rw [hn]; rfl
    have e2 : numE s.data.toList = 13 := by unfold numE; rw [hn]; rfl
    clear hn
    go_enter Tryd.func6, Tryd.ntmps6
    go_wp2_with (first
      | (go_at_call 9; refine (wakes_any _ env).mono ?_; rintro e w1 ⟨rfl, hb⟩; have env1 := env.on hb)
      | (go_at_call 17; refine (write_any _ _ env1 (by assumption) (by assumption)).mono ?_; rintro e w2 ⟨rfl, hb2⟩; replace env1 := env1.on hb2; replace hb := hb.trans (hb2.mono hb.size); clear hb2)
      | (go_at_call 15; refine (number_any _ _ env1 (by assumption)).mono ?_; rintro e w2 ⟨rfl, hb2⟩; (first | rw [t1, t2] | rw [e1, e2]); replace env1 := env1.on hb2; replace hb := hb.trans (hb2.mono hb.size); clear hb2)
      | (go_at_call 18; refine (rWrite_any n _ b0 b1).mono ?_; rintro e w2 ⟨rfl, hb2⟩; replace env1 := env1.on hb2; replace hb := hb.trans (hb2.mono hb.size); clear hb2))
    go_ret
    exact ⟨rfl, hb⟩
  | some v =>
    have e1 : numV s.data.toList = v := by unfold numV; rw [hn]; rfl
    have e2 : numE s.data.toList = 0 := by unfold numE; rw [hn]; rfl
    obtain ⟨i1, v0, v1⟩ := itoa_num hn
    have hst : ((text v).toList == s.toList) = true := same_texts (by rw [text_list]; exact i1)
    clear hn i1
    go_enter Tryd.func6, Tryd.ntmps6
    go_wp2_with (first
      | (go_at_call 9; refine (wakes_any _ env).mono ?_; rintro e w1 ⟨rfl, hb⟩; have env1 := env.on hb)
      | (go_at_call 17; refine (write_any _ _ env1 (by assumption) (by assumption)).mono ?_; rintro e w2 ⟨rfl, hb2⟩; replace env1 := env1.on hb2; replace hb := hb.trans (hb2.mono hb.size); clear hb2)
      | (go_at_call 15; refine (number_any _ _ env1 (by assumption)).mono ?_; rintro e w2 ⟨rfl, hb2⟩; (first | rw [t1, t2] | rw [e1, e2]); replace env1 := env1.on hb2; replace hb := hb.trans (hb2.mono hb.size); clear hb2)
      | (go_at_call 18; refine (rWrite_any n _ b0 b1).mono ?_; rintro e w2 ⟨rfl, hb2⟩; replace env1 := env1.on hb2; replace hb := hb.trans (hb2.mono hb.size); clear hb2))
    go_ret
    exact ⟨rfl, hb⟩

theorem nameBack_own : ownKnob Tryd.prog.godebug = none := by kernel_rfl
theorem nameBack_laidOut : laidOutB Tryd.prog = true := by kernel_rfl
theorem nameBack_met (os : Os) : laidMetH Tryd.prog Rows.nameBackRow.laid ((World.laidAll Tryd.prog os Rows.nameBackRow.laid).forCall (fun _ _ => 0) ⟨#[], #[.int .i64 0, .string ByteArray.empty], []⟩).memory := by
  rw [MakeChecks.laidMetH_plain _ _ _ (by kernel_rfl)]; exact laidMet_laidAll _ (by kernel_rfl) (by kernel_rfl)
theorem nameBack_reads (os : Os) {H : Type} (enc : TypeId × Value → H) : DataW.whole enc Tryd.prog ((World.laidAll Tryd.prog os Rows.nameBackRow.laid).forCall (fun _ _ => 0) ⟨#[], #[.int .i64 0, .string ByteArray.empty], []⟩).memory Tryd.f6.params.toList Rows.nameBackSpec.vars false #[(.int .i64 0 : Value), (.string ByteArray.empty : Value)].toList 8 = some ([.lit (.int .i64 0), .lit (.string [])], [], []) := by kernel_rfl
theorem nameBack_ok (os : Os) : Input.okWideB Tryd.prog ((World.laidAll Tryd.prog os Rows.nameBackRow.laid).forCall (fun _ _ => 0) ⟨#[], #[.int .i64 0, .string ByteArray.empty], []⟩) 6 ⟨#[], #[.int .i64 0, .string ByteArray.empty], []⟩ = true := by kernel_rfl

set_option maxRecDepth 100000 in
theorem nameBack_lifted (os : Os) (started : os.Started) (H : Type) (enc : TypeId × Value → H) (F : Stop.Interp) :
    ReturnsInHanded {} Tryd.checked os 6 .any ((OpenSpec.ofChange Rows.nameBackSpec).preRow enc Tryd.prog Tryd.f6 Rows.nameBackRow.domain false Rows.nameBackRow.laid) (((OpenSpec.ofChange Rows.nameBackSpec).at F).post enc Tryd.prog Tryd.f6 false true false false) := by
  refine returnsInHanded_of_row (C := Tryd.checked) (s := (OpenSpec.ofChange Rows.nameBackSpec)) nameBack_own started (by kernel_rfl) Tryd.func6
    ⟨World.laidAll Tryd.prog os Rows.nameBackRow.laid, fun _ _ => 0, ⟨#[], #[.int .i64 0, .string ByteArray.empty], []⟩, World.laidAll_os _ _ _, World.shaped_of_ZipB (by kernel_rfl) (by kernel_rfl), (Input.okWide_of_okWideB (base := 0) (nameBack_ok os)).1, (Input.okWide_of_okWideB (nameBack_ok os)).2,
      OpenSpec.preRow_of_cond 8 (nameBack_reads os enc) (by kernel_rfl) (fun k hk => by cases hk) (by kernel_rfl) (nameBack_met os), by simp only [Assume.holds]; exact ⟨by simp, by simp, fun _ => Modest.zero, by simp, by simp⟩⟩ ?_
  intro W base args ds gs before hval0 hW hcnd hcond hsz0 hL hsh _
  have env : Env W := env_of hL hsh
  have hsz : (DataW.weightsEach Tryd.prog (Tryd.f6.params.toList ++ Rows.nameBackSpec.plain.varTypes Tryd.prog) (ds ++ gs)).all (· ≤ reachBytes) = true := hsz0
  have hval : ∀ (j : Nat) t v, Tryd.f6.params[j]? = some t → args[j]? = some v → Value.okWide Tryd.prog W .any base t v := hval0
  have hW' := hW
  obtain ⟨p, q, hA0, hV, rfl, hfz, hnd⟩ := hW
  have hA : DataW.TrodAll enc Tryd.prog W 0 (fun _ => true) true Tryd.f6.params.toList args.toList ds p := hA0
  rw [Tryd.params6] at hA hval hsz
  obtain ⟨v0, vs0, d0, ds0, p0, q0, hargs, rfl, rfl, h0, r0⟩ := trodAll_cons hA
  obtain ⟨v1, vs1, d1, ds1, p1, q1, rfl, rfl, rfl, h1, r1⟩ := trodAll_cons r0
  obtain ⟨rfl, rfl, rfl⟩ := trodAll_nil r1
  obtain rfl : args = #[v0, v1] := by cases args; simp_all
  obtain ⟨rfl, rfl⟩ := trodVars_none hV
  have k0 := h0
  have lt0 : ∀ x ∈ p0, x.block < W.heap.size := by obtain ⟨m, hm⟩ := k0; exact DataW.trod_lt m _ _ _ hm
  have k1 := h1
  have lt1 : ∀ x ∈ p1, x.block < W.heap.size := by obtain ⟨m, hm⟩ := k1; exact DataW.trod_lt m _ _ _ hm
  obtain ⟨a0, rfl, rfl, rfl, w0⟩ := open_int Tryd.underlying2 (hval 0 2 v0 rfl rfl) h0
  obtain ⟨a1, rfl, rfl, rfl, w1⟩ := open_string Tryd.underlying9 (hval 1 9 v1 rfl rfl) h1
  have z1 : a1.size ≤ reachBytes := by have := sized_string hsz (j := 1) (t := 9) rfl rfl; simpa using this
  clear hA0 hval0
  refine (nameBack_walk a0 a1 w0 z1 W env).mono fun e W' ⟨he, bel⟩ => ?_
  subst he
  exact ⟨_, rfl, _, _, _, [], _, [], hW', trodAll_mk1 (shut_bool Tryd.underlying4 _), (trodAll_cons_mk (Below.trod nameBack_laidOut (by kernel_rfl) (of_decide_eq_true (by kernel_rfl)) k0 bel lt0) (trodAll_cons_mk (Below.trod nameBack_laidOut (by kernel_rfl) (of_decide_eq_true (by kernel_rfl)) k1 bel lt1) trodAll_mk0)), rfl, bel.frame _, fun h => by cases h⟩

theorem nameBack_said : Rows.NameBackSaid :=
  OpenClaim.holds_of_cond 6 Tryd.f6 rfl rfl rfl rfl rfl rfl rfl ⟨rfl, rfl, rfl, rfl, rfl⟩ rfl rfl rfl rfl rfl (by kernel_rfl) Tryd.func6 (by kernel_rfl)
    (of_decide_eq_true (by kernel_rfl)) (by unfold Func.isWrapper; first | (rw [if_pos (by decide +kernel)]; kernel_rfl) | (rw [if_neg (by decide +kernel)]; exact ⟨rfl, rfl⟩))
    (fun os started H enc _ F => by rw [OpenClaim.pre_eq_preRow]; exact nameBack_lifted os started H enc F)

theorem nameBack_plain (f : FuncId) (fn : Func) (hf : Tryd.pinned.checked.prog.funcNamed Rows.nameBackRow.func = some f) (hfn : Tryd.pinned.checked.prog.funcs[f]? = some fn) :
    true = Tryd.pinned.checked.prog.looks [] ∧ ∀ (j : Nat) t, fn.params[j]? = some t → Tryd.pinned.checked.prog.wantsStandIn t = false := by
  obtain rfl : f = 6 := Option.some.inj ((show Tryd.prog.funcNamed Rows.nameBackRow.func = some 6 by kernel_rfl).symm.trans hf) |>.symm
  obtain rfl : fn = Tryd.f6 := (Option.some.inj (Tryd.func6.symm.trans hfn)).symm
  refine ⟨by kernel_rfl, fun j t ht => ?_⟩
  rw [Tryd.params6] at ht
  have hm : t ∈ [2, 9] := by simpa using Array.mem_of_getElem? ht
  have hall : ([2, 9].all fun u => !Tryd.prog.wantsStandIn u) = true := by kernel_rfl
  have := List.all_eq_true.1 hall t hm
  exact (show Tryd.prog.wantsStandIn t = false by simpa using this)

theorem nameBack_holds : Rows.NameBackCardSaid :=
  Claim7.holds_tied_plain_at .later [] _ _ _ _ nameBack_said (fun _ h => by cases h) (by kernel_rfl) (fun _ h => by cases h) nameBack_row_tie rfl ⟨rfl, rfl⟩ (by kernel_rfl) rfl nameBack_plain (by kernel_rfl)

#print axioms nameBack_holds

end Go.Proofs.YtgbhlbcdaankoaaDoor
