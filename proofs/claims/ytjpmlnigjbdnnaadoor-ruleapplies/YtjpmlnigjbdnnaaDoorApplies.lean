/-
  Proved: RuleApplies returns true for every rule and every term, and its arguments read behind the call as before.
-/
import Derived.Test.YtjpmlnigjbdnnaaDoorCards
import Derived.Test.YtjpmlnigjbdnnaaDoorTie
import Derived.Test.YtjpmlnigjbdnnaaDoorWk
import Derived.Test.YtjpmlnigjbdnnaaDoorRa
import Derived.Test.YtjpmlnigjbdnnaaDoorOpenR
import Derived.ProofKit
import Derived.OpenShut
import Derived.ShutString
import Derived.ChangeOld
import Derived.Below
import Derived.SizedLaws
import Derived.Lib.SmallJoins
import Derived.SevenTiedAt
import Derived.Deep.DeepHandedRow
import Derived.LaidMore
import Derived.Lay
namespace Go.Proofs.YtjpmlnigjbdnnaaDoor
open Go.ChangeShapes Go.WideShapes Go.ChangeAt Go.RowKit Go.Joins
open Go.ChangeMaps (open_string shut_string)
set_option linter.unusedVariables false
set_option linter.unusedSimpArgs false
set_option maxRecDepth 100000

theorem fill_fine (R : List Cl) (l : List Bd) : Fine (fillM R l) := by
  by_cases h : fillE R l = 0
  · exact fine_check (filled h).1
  · unfold fillM; rw [if_neg h]; exact fun c hc => by cases hc
theorem ap_fine (id : Int) (L R T : List Cl) : Fine (apM id L R T) := by
  unfold apM
  by_cases h : chk id L R = 0
  · rw [if_pos h]
    cases mt L T with
    | none => exact fun c hc => by cases hc
    | some acc => exact fill_fine R acc
  · rw [if_neg h]; exact fun c hc => by cases hc

set_option maxHeartbeats 1000000 in
theorem ruleApplies_walk (id : Int) (lv rv : Value) (L R : List Cl) (tv : Value) (T : List Cl) (w : World) (hl : Lies w lv L) (hr : Lies w rv R) (zl : L.length * 24 ≤ 140737488355328) (zr : R.length * 24 ≤ 140737488355328) (ht : Lies w tv T) (zt : T.length * 24 ≤ 140737488355328) :
    Calls Tryd.prog 7 #[.agg #[.int .i64 id, lv, rv], tv] w fun e w' => e = .returned (.bool true) ∧ Below w.heap.size w w' := by
  have hcp : ∀ w1, Below w.heap.size w w1 → _ := fun w1 h => rCopy_any w1 id lv rv L R (hl.on h) (hr.on h) zl zr
  have hct : ∀ w1, Below w.heap.size w w1 → _ := fun w1 h => copy_any w1 tv T (ht.on h) zt
  have HFL : Hid (Fine L) := by obtain ⟨_, _, _, _, _, hf, _⟩ := hl; exact hf
  have HFR : Hid (Fine R) := by obtain ⟨_, _, _, _, _, hf, _⟩ := hr; exact hf
  have HFT : Hid (Fine T) := by obtain ⟨_, _, _, _, _, hf, _⟩ := ht; exact hf
  have hap : ∀ w1 a b t, Lies w1 a L → Lies w1 b R → Lies w1 t T → _ := fun w1 a b t h1 h2 h3 => apply_any w1 id a b t L R T h1 h2 h3
  have hra : ∀ w1, Below w.heap.size w w1 → _ := fun w1 h => rApply_any w1 id lv rv tv L R T (hl.on h) (hr.on h) (ht.on h)
  have HFM : Hid (Fine (apM id L R T)) := ap_fine id L R T
  have hb : Below w.heap.size w (w.alloc (.cells #[.int .i64 id, lv, rv] 25)) := (Below.refl _ w).alloc (Nat.le_refl _) _
  have hx := Blk.made w #[.int .i64 id, lv, rv] 25
  generalize apM id L R T = M at *
  generalize apE id L R T = E at *
  generalize apB id L R T = F at *
  have hsm : ∀ w1 a b, Lies w1 a M → Lies w1 b M → Calls Tryd.prog 24 #[a, b] w1 fun e w' => e = .returned (.bool true) ∧ Below w1.heap.size w1 w' := fun w1 a b h1 h2 => by
    have := same_any w1 a b M M h1 h2
    rwa [decide_eq_true rfl] at this
  obtain ⟨la, lc, rfl, _⟩ := hl
  obtain ⟨ra, rc, rfl, _⟩ := hr
  obtain ⟨ta, tc, rfl, _⟩ := ht
  have hwk := wakes_any (w.alloc (.cells #[.int .i64 id, .slice la L.length lc, .slice ra R.length rc] 25))
  have HB : Hid (Below w.heap.size w (w.alloc (.cells #[.int .i64 id, .slice la L.length lc, .slice ra R.length rc] 25))) := hb
  have HX : Hid (Blk (w.alloc (.cells #[.int .i64 id, .slice la L.length lc, .slice ra R.length rc] 25)) w.heap.size #[.int .i64 id, .slice la L.length lc, .slice ra R.length rc] 25) := hx
  clear hb hx
  go_enter Tryd.func7, Tryd.ntmps7
  go_wp2_with (first
    | (go_at_call 9; refine hwk.mono ?_; clear hwk; rintro e w1 ⟨rfl, b1⟩; have X1 := HX.out.on b1 HX.out.lt; have D1 := HB.out.trans (b1.mono HB.out.size); have c0 := X1.cell (i := 0) rfl; have c1 := X1.cell (i := 1) rfl; have c2 := X1.cell (i := 2) rfl)
    | (go_at_call 11; refine (hcp _ D1).mono ?_; clear hcp; rintro e w2 ⟨u2, v2, rfl, o2, p2, b2⟩; have l2 := Owns.lies o2 HFL.out; have m2 := Owns.lies p2 HFR.out; obtain ⟨a2, d2, h1, _⟩ := own_cells o2; obtain ⟨e2, f2, h2, _⟩ := own_cells p2; subst h1; subst h2; have X2 := X1.on b2 X1.lt; have D2 := D1.trans (b2.mono D1.size))
    | (go_at_call 22; refine (hct _ D2).mono ?_; clear hct; rintro e w3 ⟨u3, rfl, o3, b3⟩; have t3 := Owns.lies o3 HFT.out; obtain ⟨a3, d3, h3, _⟩ := own_cells o3; subst h3; have l3 := l2.on b3; have m3 := m2.on b3; have X3 := X2.on b3 X2.lt; have D3 := D2.trans (b3.mono D2.size))
    | (go_at_call 21; refine (hap _ _ _ _ l3 m3 t3).mono ?_; clear hap; rintro e w4 ⟨u4, rfl, o4, b4⟩; have l4 := Owns.lies o4 HFM.out; obtain ⟨a4, d4, h4, _⟩ := own_cells o4; subst h4; have X4 := X3.on b4 X3.lt; have D4 := D3.trans (b4.mono D3.size); have k0 := X4.cell (i := 0) rfl; have k1 := X4.cell (i := 1) rfl; have k2 := X4.cell (i := 2) rfl)
    | (go_at_call 23; refine (hra _ D4).mono ?_; clear hra; rintro e w5 ⟨u5, rfl, o5, b5⟩; have l5 := Owns.lies (own_base o5 (Nat.zero_le _)) HFM.out; obtain ⟨a5, d5, h5, _⟩ := own_cells o5; subst h5; have D5 := D4.trans (b5.mono D4.size); have l6 := l4.on b5)
    | (go_at_call 24; refine (hsm _ _ _ l6 l5).mono ?_; rintro e w6 ⟨rfl, b6⟩))
  go_ret
  exact ⟨by simp, D5.trans (b6.mono D5.size)⟩

theorem ruleApplies_own : ownKnob Tryd.prog.godebug = none := by kernel_rfl
theorem ruleApplies_laidOut : laidOutB Tryd.prog = true := by kernel_rfl
theorem ruleApplies_met (os : Os) : laidMetH Tryd.prog Rows.ruleAppliesRow.laid ((World.laidAll Tryd.prog os Rows.ruleAppliesRow.laid).forCall (fun _ _ => 0) ⟨#[], #[.agg #[.int .i64 0, .slice none 0 0, .slice none 0 0], .slice none 0 0], []⟩).memory := by
  rw [MakeChecks.laidMetH_plain _ _ _ (by kernel_rfl)]; exact laidMet_laidAll _ (by kernel_rfl) (by kernel_rfl)
theorem ruleApplies_reads (os : Os) {H : Type} (enc : TypeId × Value → H) : DataW.whole enc Tryd.prog ((World.laidAll Tryd.prog os Rows.ruleAppliesRow.laid).forCall (fun _ _ => 0) ⟨#[], #[.agg #[.int .i64 0, .slice none 0 0, .slice none 0 0], .slice none 0 0], []⟩).memory Tryd.f7.params.toList Rows.ruleAppliesSpec.vars false #[(.agg #[.int .i64 0, .slice none 0 0, .slice none 0 0] : Value), (.slice none 0 0 : Value)].toList 8 = some ([.agg [.lit (.int .i64 0), .nil, .nil], .nil], [], []) := by kernel_rfl
theorem ruleApplies_ok (os : Os) : Input.okWideB Tryd.prog ((World.laidAll Tryd.prog os Rows.ruleAppliesRow.laid).forCall (fun _ _ => 0) ⟨#[], #[.agg #[.int .i64 0, .slice none 0 0, .slice none 0 0], .slice none 0 0], []⟩) 7 ⟨#[], #[.agg #[.int .i64 0, .slice none 0 0, .slice none 0 0], .slice none 0 0], []⟩ = true := by kernel_rfl

set_option maxRecDepth 100000 in
theorem ruleApplies_lifted (os : Os) (started : os.Started) (H : Type) (enc : TypeId × Value → H) (F : Stop.Interp) :
    ReturnsInHanded {} Tryd.checked os 7 .any ((OpenSpec.ofChange Rows.ruleAppliesSpec).preRow enc Tryd.prog Tryd.f7 Rows.ruleAppliesRow.domain false Rows.ruleAppliesRow.laid) (((OpenSpec.ofChange Rows.ruleAppliesSpec).at F).post enc Tryd.prog Tryd.f7 false true false false) := by
  refine returnsInHanded_of_row (C := Tryd.checked) (s := (OpenSpec.ofChange Rows.ruleAppliesSpec)) ruleApplies_own started (by kernel_rfl) Tryd.func7
    ⟨World.laidAll Tryd.prog os Rows.ruleAppliesRow.laid, fun _ _ => 0, ⟨#[], #[.agg #[.int .i64 0, .slice none 0 0, .slice none 0 0], .slice none 0 0], []⟩, World.laidAll_os _ _ _, World.shaped_of_ZipB (by kernel_rfl) (by kernel_rfl), (Input.okWide_of_okWideB (base := 0) (ruleApplies_ok os)).1, (Input.okWide_of_okWideB (ruleApplies_ok os)).2,
      OpenSpec.preRow_of_cond 8 (ruleApplies_reads os enc) (by kernel_rfl) (fun k hk => by cases hk) (by kernel_rfl) (ruleApplies_met os), by simp only [Assume.holds]; exact ⟨by simp, by simp, fun _ => Modest.zero, by simp, by simp⟩⟩ ?_
  intro W base args ds gs before hval0 hW hcnd hcond hsz0 hL hsh _
  have hsz : (DataW.weightsEach Tryd.prog (Tryd.f7.params.toList ++ Rows.ruleAppliesSpec.plain.varTypes Tryd.prog) (ds ++ gs)).all (· ≤ reachBytes) = true := hsz0
  have hval : ∀ (j : Nat) t v, Tryd.f7.params[j]? = some t → args[j]? = some v → Value.okWide Tryd.prog W .any base t v := hval0
  have hW' := hW
  obtain ⟨p, q, hA0, hV, rfl, hfz, hnd⟩ := hW
  have hA : DataW.TrodAll enc Tryd.prog W 0 (fun _ => true) true Tryd.f7.params.toList args.toList ds p := hA0
  rw [Tryd.params7] at hA hval hsz
  obtain ⟨v0, vs0, d0, ds0, p0, q0, hargs, rfl, rfl, h0, r0⟩ := trodAll_cons hA
  obtain ⟨v1, vs1, d1, ds1, p1, q1, rfl, rfl, rfl, h1, r1⟩ := trodAll_cons r0
  obtain ⟨rfl, rfl, rfl⟩ := trodAll_nil r1
  obtain rfl : args = #[v0, v1] := by cases args; simp_all
  obtain ⟨rfl, rfl⟩ := trodVars_none hV
  have k0 := h0
  have lt0 : ∀ x ∈ p0, x.block < W.heap.size := by obtain ⟨m, hm⟩ := k0; exact DataW.trod_lt m _ _ _ hm
  have k1 := h1
  have lt1 : ∀ x ∈ p1, x.block < W.heap.size := by obtain ⟨m, hm⟩ := k1; exact DataW.trod_lt m _ _ _ hm
  obtain ⟨id0, lv0, rv0, L0, R0, rfl, hl0, hr0, zl0, zr0⟩ := open_rule (hval 0 25 v0 rfl rfl) h0 (fun n hn => by simpa using List.all_eq_true.1 hsz n (DataW.weights_mem_each (j := 0) (t := 25) rfl rfl n hn))
  obtain ⟨L1, l1, z1⟩ := open_cells (hval 1 23 v1 rfl rfl) h1 (fun n hn => by simpa using List.all_eq_true.1 hsz n (DataW.weights_mem_each (j := 1) (t := 23) rfl rfl n hn))
  clear hA0 hval0
  refine (ruleApplies_walk id0 lv0 rv0 L0 R0 v1 L1 W hl0 hr0 zl0 zr0 l1 z1).mono fun e W' ⟨he, bel⟩ => ?_
  subst he
  exact ⟨_, rfl, _, _, _, [], _, [], hW', trodAll_mk1 (shut_bool Tryd.underlying4 _), (trodAll_cons_mk (Below.trod ruleApplies_laidOut (by kernel_rfl) (of_decide_eq_true (by kernel_rfl)) k0 bel lt0) (trodAll_cons_mk (Below.trod ruleApplies_laidOut (by kernel_rfl) (of_decide_eq_true (by kernel_rfl)) k1 bel lt1) trodAll_mk0)), rfl, bel.frame _, fun h => by cases h⟩

theorem ruleApplies_said : Rows.RuleAppliesSaid :=
  OpenClaim.holds_of_cond 7 Tryd.f7 rfl rfl rfl rfl rfl rfl rfl ⟨rfl, rfl, rfl, rfl, rfl⟩ rfl rfl rfl rfl rfl (by kernel_rfl) Tryd.func7 (by kernel_rfl)
    (of_decide_eq_true (by kernel_rfl)) (by unfold Func.isWrapper; first | (rw [if_pos (by decide +kernel)]; kernel_rfl) | (rw [if_neg (by decide +kernel)]; exact ⟨rfl, rfl⟩))
    (fun os started H enc _ F => by rw [OpenClaim.pre_eq_preRow]; exact ruleApplies_lifted os started H enc F)

theorem ruleApplies_plain (f : FuncId) (fn : Func) (hf : Tryd.pinned.checked.prog.funcNamed Rows.ruleAppliesRow.func = some f) (hfn : Tryd.pinned.checked.prog.funcs[f]? = some fn) :
    true = Tryd.pinned.checked.prog.looks [] ∧ ∀ (j : Nat) t, fn.params[j]? = some t → Tryd.pinned.checked.prog.wantsStandIn t = false := by
  obtain rfl : f = 7 := Option.some.inj ((show Tryd.prog.funcNamed Rows.ruleAppliesRow.func = some 7 by kernel_rfl).symm.trans hf) |>.symm
  obtain rfl : fn = Tryd.f7 := (Option.some.inj (Tryd.func7.symm.trans hfn)).symm
  refine ⟨by kernel_rfl, fun j t ht => ?_⟩
  rw [Tryd.params7] at ht
  have hm : t ∈ [25, 23] := by simpa using Array.mem_of_getElem? ht
  have hall : ([25, 23].all fun u => !Tryd.prog.wantsStandIn u) = true := by kernel_rfl
  have := List.all_eq_true.1 hall t hm
  exact (show Tryd.prog.wantsStandIn t = false by simpa using this)

theorem ruleApplies_holds : Rows.RuleAppliesCardSaid :=
  Claim7.holds_tied_plain_at .later [] _ _ _ _ ruleApplies_said (fun _ h => by cases h) (by kernel_rfl) (fun _ h => by cases h) ruleApplies_row_tie rfl ⟨rfl, rfl⟩ (by kernel_rfl) rfl ruleApplies_plain (by kernel_rfl)

#print axioms ruleApplies_holds

end Go.Proofs.YtjpmlnigjbdnnaaDoor
