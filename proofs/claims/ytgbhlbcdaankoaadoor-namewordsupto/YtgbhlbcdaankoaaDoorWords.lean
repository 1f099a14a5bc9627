/-
  Proved: NameWords returns true for every text that, with all that is counted beside it, is of bulk 1048576 at the most, and its argument reads behind the call as before.
-/
import Derived.Test.YtgbhlbcdaankoaaDoorCards
import Derived.Test.YtgbhlbcdaankoaaDoorTie
import Derived.Test.YtgbhlbcdaankoaaDoorSame
import Derived.ProofKit
import Derived.OpenShut
import Derived.ShutString
import Derived.ChangeOld
import Derived.Below
import Derived.SizedLaws
import Derived.Lib.SmallJoins
import Derived.SevenTiedAt
namespace Go.Proofs.YtgbhlbcdaankoaaDoor
open Go.ChangeShapes Go.WideShapes Go.ChangeAt Go.RowKit Go.Joins
open Go.ChangeMaps (open_string shut_string)
set_option linter.unusedVariables false

theorem wordsB_len (s : ByteArray) : (wordsB s).length ≤ s.size + 1 := by
  unfold wordsB
  rw [List.length_map]
  have := words_length s.data.toList []
  rw [size_list] at this
  exact this

theorem nameWords_walk (s : ByteArray) (z : s.size ≤ 1048576) (w : World) (env : Env w) :
    Calls Tryd.prog 4 #[.string s] w fun e w' => e = .returned (.bool true) ∧ Below w.heap.size w w' := by
  have hl := wordsB_len s
  go_enter Tryd.func4, Tryd.ntmps4
  go_wp2_with (first
    | (go_at_call 9; refine (wakes_any _ env).mono ?_; rintro e w1 ⟨rfl, hb⟩; have env1 := env.on hb)
    | (go_at_call 13; refine (words_any s _ env1 (by omega)).mono ?_; rintro e w2 ⟨va, rfl, ho1, hb2⟩; replace hb := hb.trans (hb2.mono hb.size); clear hb2)
    | (go_at_call 14; refine (rWords_any s _ z).mono ?_; rintro e w3 ⟨vb, rfl, ho2, hb3⟩; have ho1 := own_below ho1 hb3; replace hb := hb.trans (hb3.mono hb.size); clear hb3)
    | (go_at_call 12; refine (same_any _ _ (wordsB s) _ _ _ (by omega) ho1 ho2).mono ?_; rintro e w4 ⟨rfl, hb4⟩; replace hb := hb.trans (hb4.mono hb.size); clear hb4))
  go_ret
  exact ⟨rfl, hb⟩

theorem nameWords_own : ownKnob Tryd.prog.godebug = none := by kernel_rfl
theorem nameWords_laidOut : laidOutB Tryd.prog = true := by kernel_rfl
theorem nameWords_met (os : Os) : laidMetH Tryd.prog Rows.nameWordsUptoRow.laid ((World.laidAll Tryd.prog os Rows.nameWordsUptoRow.laid).forCall (fun _ _ => 0) ⟨#[], #[.string ByteArray.empty], []⟩).memory := by
  rw [MakeChecks.laidMetH_plain _ _ _ (by kernel_rfl)]; exact laidMet_laidAll _ (by kernel_rfl) (by kernel_rfl)
theorem nameWords_reads (os : Os) {H : Type} (enc : TypeId × Value → H) : DataW.whole enc Tryd.prog ((World.laidAll Tryd.prog os Rows.nameWordsUptoRow.laid).forCall (fun _ _ => 0) ⟨#[], #[.string ByteArray.empty], []⟩).memory Tryd.f4.params.toList Rows.nameWordsSpec.vars false #[(.string ByteArray.empty : Value)].toList 8 = some ([.lit (.string [])], [], []) := by kernel_rfl
theorem nameWords_ok (os : Os) : Input.okWideB Tryd.prog ((World.laidAll Tryd.prog os Rows.nameWordsUptoRow.laid).forCall (fun _ _ => 0) ⟨#[], #[.string ByteArray.empty], []⟩) 4 ⟨#[], #[.string ByteArray.empty], []⟩ = true := by kernel_rfl

set_option maxRecDepth 100000 in
theorem nameWords_lifted (os : Os) (started : os.Started) (H : Type) (enc : TypeId × Value → H) (F : Stop.Interp) :
    ReturnsInHanded {} Tryd.checked os 4 .any ((Rows.OpenSpec.upto Rows.nameWordsSpec).preRow enc Tryd.prog Tryd.f4 Rows.nameWordsUptoRow.domain false Rows.nameWordsUptoRow.laid) (((Rows.OpenSpec.upto Rows.nameWordsSpec).at F).post enc Tryd.prog Tryd.f4 false true false false) := by
  refine returnsInHanded_of_row (C := Tryd.checked) (s := (Rows.OpenSpec.upto Rows.nameWordsSpec)) nameWords_own started (by kernel_rfl) Tryd.func4
    ⟨World.laidAll Tryd.prog os Rows.nameWordsUptoRow.laid, fun _ _ => 0, ⟨#[], #[.string ByteArray.empty], []⟩, World.laidAll_os _ _ _, World.shaped_of_ZipB (by kernel_rfl) (by kernel_rfl), (Input.okWide_of_okWideB (base := 0) (nameWords_ok os)).1, (Input.okWide_of_okWideB (nameWords_ok os)).2,
      OpenSpec.preRow_of_cond 8 (nameWords_reads os enc) (by kernel_rfl) (fun k hk => by cases hk; kernel_rfl) (by kernel_rfl) (nameWords_met os), by simp only [Assume.holds]; exact ⟨by simp, by simp, fun _ => Modest.zero, by simp, by simp⟩⟩ ?_
  intro W base args ds gs before hval0 hW hcnd hcond hsz0 hL hsh _
  have env : Env W := env_of hL hsh
  have hsz : (DataW.weightsEach Tryd.prog (Tryd.f4.params.toList ++ Rows.nameWordsSpec.plain.varTypes Tryd.prog) (ds ++ gs)).all (· ≤ reachBytes) = true := hsz0
  have hval : ∀ (j : Nat) t v, Tryd.f4.params[j]? = some t → args[j]? = some v → Value.okWide Tryd.prog W .any base t v := hval0
  have hW' := hW
  obtain ⟨p, q, hA0, hV, rfl, hfz, hnd⟩ := hW
  have hA : DataW.TrodAll enc Tryd.prog W 0 (fun _ => true) true Tryd.f4.params.toList args.toList ds p := hA0
  rw [Tryd.params4] at hA hval hsz
  obtain ⟨v0, vs0, d0, ds0, p0, q0, hargs, rfl, rfl, h0, r0⟩ := trodAll_cons hA
  obtain ⟨rfl, rfl, rfl⟩ := trodAll_nil r0
  obtain rfl : args = #[v0] := by cases args; simp_all
  obtain ⟨rfl, rfl⟩ := trodVars_none hV
  have k0 := h0
  have lt0 : ∀ x ∈ p0, x.block < W.heap.size := by obtain ⟨m, hm⟩ := k0; exact DataW.trod_lt m _ _ _ hm
  obtain ⟨a0, rfl, rfl, rfl, w0⟩ := open_string Tryd.underlying9 (hval 0 9 v0 rfl rfl) h0
  have z0 : a0.size ≤ 1048576 := by
    have hb := of_decide_eq_true (hcond _ rfl)
    simp only [Rows.uptoBulkAll, Rows.uptoBulk, List.append_nil] at hb
    have he : a0.size = a0.data.toList.length := Lib.size_eq a0
    omega
  clear hA0 hval0
  refine (nameWords_walk a0 z0 W env).mono fun e W' ⟨he, bel⟩ => ?_
  subst he
  exact ⟨_, rfl, _, _, _, [], _, [], hW', trodAll_mk1 (shut_bool Tryd.underlying4 _), (trodAll_cons_mk (Below.trod nameWords_laidOut (by kernel_rfl) (of_decide_eq_true (by kernel_rfl)) k0 bel lt0) trodAll_mk0), rfl, bel.frame _, fun h => by cases h⟩

theorem nameWords_said : Rows.NameWordsUptoSaid :=
  OpenClaim.holds_of_cond 4 Tryd.f4 rfl rfl rfl rfl rfl rfl rfl ⟨rfl, rfl, rfl, rfl, rfl⟩ rfl rfl rfl rfl rfl (by kernel_rfl) Tryd.func4 (by kernel_rfl)
    (of_decide_eq_true (by kernel_rfl)) (by unfold Func.isWrapper; first | (rw [if_pos (by decide +kernel)]; kernel_rfl) | (rw [if_neg (by decide +kernel)]; exact ⟨rfl, rfl⟩))
    (fun os started H enc _ F => by rw [OpenClaim.pre_eq_preRow]; exact nameWords_lifted os started H enc F)

theorem nameWords_plain (f : FuncId) (fn : Func) (hf : Tryd.pinned.checked.prog.funcNamed Rows.nameWordsUptoRow.func = some f) (hfn : Tryd.pinned.checked.prog.funcs[f]? = some fn) :
    true = Tryd.pinned.checked.prog.looks [] ∧ ∀ (j : Nat) t, fn.params[j]? = some t → Tryd.pinned.checked.prog.wantsStandIn t = false := by
  obtain rfl : f = 4 := Option.some.inj ((show Tryd.prog.funcNamed Rows.nameWordsUptoRow.func = some 4 by kernel_rfl).symm.trans hf) |>.symm
  obtain rfl : fn = Tryd.f4 := (Option.some.inj (Tryd.func4.symm.trans hfn)).symm
  refine ⟨by kernel_rfl, fun j t ht => ?_⟩
  rw [Tryd.params4] at ht
  have hm : t ∈ [9] := by simpa using Array.mem_of_getElem? ht
  have hall : ([9].all fun u => !Tryd.prog.wantsStandIn u) = true := by kernel_rfl
  have := List.all_eq_true.1 hall t hm
  exact (show Tryd.prog.wantsStandIn t = false by simpa using this)

theorem nameWords_holds : Rows.NameWordsUptoCardSaid :=
  Claim7.holds_tied_plain_at .later [] _ _ _ _ nameWords_said (fun _ h => by cases h) (by kernel_rfl) (fun _ h => by cases h) nameWordsUpto_row_tie rfl ⟨rfl, rfl⟩ (by kernel_rfl) rfl nameWords_plain (by kernel_rfl)

#print axioms nameWords_holds

end Go.Proofs.YtgbhlbcdaankoaaDoor
