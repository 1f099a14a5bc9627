/-
  Proved: RuleReads returns true for every two texts, and its arguments read behind the call as before.
-/
import Derived.Test.YtjpmlnigjbdnnaaDoorCards
import Derived.Test.YtjpmlnigjbdnnaaDoorTie
import Derived.Test.YtjpmlnigjbdnnaaDoorWk
import Derived.Test.YtjpmlnigjbdnnaaDoorRr
import Derived.ProofKit
import Derived.OpenShut
import Derived.ShutString
import Derived.ChangeOld
import Derived.Below
import Derived.SizedLaws
import Derived.Lib.SmallJoins
import Derived.SevenTiedAt
import Derived.Deep.DeepHandedRow
import Derived.LaidMore
import Derived.Lay
namespace Go.Proofs.YtjpmlnigjbdnnaaDoor
open Go.ChangeShapes Go.WideShapes Go.ChangeAt Go.RowKit Go.Joins
open Go.ChangeMaps (open_string shut_string)
set_option linter.unusedVariables false
set_option linter.unusedSimpArgs false
set_option maxRecDepth 100000

theorem rd_fine (l r : ByteArray) : Fine (rdL l r) ∧ Fine (rdR l r) := by
  unfold rdL rdR
  by_cases h : rdE l r = 0
  · rw [if_pos h, if_pos h]; exact ⟨pr_fine l, pr_fine r⟩
  · rw [if_neg h, if_neg h]; exact ⟨fun c hc => (by cases hc), fun c hc => (by cases hc)⟩

set_option maxHeartbeats 1000000 in
theorem ruleReads_walk (l r : ByteArray) (zl : l.size ≤ reachBytes) (zr : r.size ≤ reachBytes) (w : World) :
    Calls Tryd.prog 4 #[.string l, .string r] w fun e w' => e = .returned (.bool true) ∧ Below w.heap.size w w' := by
  have hwk := wakes_any w
  have hp := fun w => ruleParse_any l r w
  have hq := fun w => rRuleParse_any l r w
  have hs : ∀ w1 a b c d, Lies w1 a (rdL l r) → Lies w1 b (rdR l r) → Lies w1 c (rdL l r) → Lies w1 d (rdR l r) → Calls Tryd.prog 16 #[.agg #[.int .i64 0, a, b], .agg #[.int .i64 0, c, d]] w1 fun e w' => e = .returned (.bool true) ∧ Below w1.heap.size w1 w' := fun w1 a b c d h1 h2 h3 h4 => by
    have := rSame_rule w1 0 0 a b c d _ _ _ _ h1 h2 h3 h4
    rwa [decide_eq_true ⟨rfl, rfl, rfl⟩] at this
  have FL : Hid (Fine (rdL l r)) := (rd_fine l r).1
  have FR : Hid (Fine (rdR l r)) := (rd_fine l r).2
  generalize rdL l r = L at *
  generalize rdR l r = R at *
  generalize rdE l r = E at *
  go_enter Tryd.func4, Tryd.ntmps4
  go_wp2_with (first
    | (go_at_call 9; refine hwk.mono ?_; clear hwk; rintro e w1 ⟨rfl, b1⟩)
    | (go_at_call 14; refine (hp _).mono ?_; clear hp; rintro e w2 ⟨lv, rv, rfl, o1, o2, b2⟩; have l1 := Owns.lies o1 FL.out; have l2 := Owns.lies o2 FR.out; obtain ⟨la, lc, h1, _⟩ := own_cells o1; obtain ⟨ra, rc, h2, _⟩ := own_cells o2; subst h1; subst h2; have D2 := b1.trans (b2.mono b1.size); have A2 : Below w2.heap.size w2 (w2.alloc (.cells #[.int .i64 0, .slice la L.length lc, .slice ra R.length rc] 25)) := (Below.refl _ w2).alloc (Nat.le_refl _) _; have D3 := D2.trans (A2.mono D2.size); have X3 := Blk.made w2 #[.int .i64 0, .slice la L.length lc, .slice ra R.length rc] 25; have l3 := l1.on A2; have l4 := l2.on A2; clear l1 l2)
    | (go_at_call 15; refine (hq _).mono ?_; clear hq; rintro e w4 ⟨lv, rv, rfl, m1, m2, b4⟩; have n1 := m1; have n2 := m2; obtain ⟨ma, mc, h1, _⟩ := m1; obtain ⟨na, nc, h2, _⟩ := m2; subst h1; subst h2; have D4 := D3.trans (b4.mono D3.size); have A4 : Below w4.heap.size w4 (w4.alloc (.cells #[.int .i64 0, .slice ma L.length mc, .slice na R.length nc] 25)) := (Below.refl _ w4).alloc (Nat.le_refl _) _; have D5 := D4.trans (A4.mono D4.size); have X5 := (X3.on b4 X3.lt).on A4 (X3.on b4 X3.lt).lt; have c0 := X5.cell (i := 0) rfl; have c1 := X5.cell (i := 1) rfl; have c2 := X5.cell (i := 2) rfl; have l5 := (l3.on b4).on A4; have l6 := (l4.on b4).on A4; have n3 := n1.on A4; have n4 := n2.on A4)
    | (go_at_call 16; refine (hs _ _ _ _ _ l5 l6 n3 n4).mono ?_; rintro e w6 ⟨rfl, b6⟩))
  go_ret
  exact ⟨by simp, D5.trans (b6.mono D5.size)⟩

theorem ruleReads_own : ownKnob Tryd.prog.godebug = none := by kernel_rfl
theorem ruleReads_laidOut : laidOutB Tryd.prog = true := by kernel_rfl
theorem ruleReads_met (os : Os) : laidMetH Tryd.prog Rows.ruleReadsRow.laid ((World.laidAll Tryd.prog os Rows.ruleReadsRow.laid).forCall (fun _ _ => 0) ⟨#[], #[.string ByteArray.empty, .string ByteArray.empty], []⟩).memory := by
  rw [MakeChecks.laidMetH_plain _ _ _ (by kernel_rfl)]; exact laidMet_laidAll _ (by kernel_rfl) (by kernel_rfl)
theorem ruleReads_reads (os : Os) {H : Type} (enc : TypeId × Value → H) : DataW.whole enc Tryd.prog ((World.laidAll Tryd.prog os Rows.ruleReadsRow.laid).forCall (fun _ _ => 0) ⟨#[], #[.string ByteArray.empty, .string ByteArray.empty], []⟩).memory Tryd.f4.params.toList Rows.ruleReadsSpec.vars false #[(.string ByteArray.empty : Value), (.string ByteArray.empty : Value)].toList 8 = some ([.lit (.string []), .lit (.string [])], [], []) := by kernel_rfl
theorem ruleReads_ok (os : Os) : Input.okWideB Tryd.prog ((World.laidAll Tryd.prog os Rows.ruleReadsRow.laid).forCall (fun _ _ => 0) ⟨#[], #[.string ByteArray.empty, .string ByteArray.empty], []⟩) 4 ⟨#[], #[.string ByteArray.empty, .string ByteArray.empty], []⟩ = true := by kernel_rfl

set_option maxRecDepth 100000 in
theorem ruleReads_lifted (os : Os) (started : os.Started) (H : Type) (enc : TypeId × Value → H) (F : Stop.Interp) :
    ReturnsInHanded {} Tryd.checked os 4 .any ((OpenSpec.ofChange Rows.ruleReadsSpec).preRow enc Tryd.prog Tryd.f4 Rows.ruleReadsRow.domain false Rows.ruleReadsRow.laid) (((OpenSpec.ofChange Rows.ruleReadsSpec).at F).post enc Tryd.prog Tryd.f4 false true false false) := by
  refine returnsInHanded_of_row (C := Tryd.checked) (s := (OpenSpec.ofChange Rows.ruleReadsSpec)) ruleReads_own started (by kernel_rfl) Tryd.func4
    ⟨World.laidAll Tryd.prog os Rows.ruleReadsRow.laid, fun _ _ => 0, ⟨#[], #[.string ByteArray.empty, .string ByteArray.empty], []⟩, World.laidAll_os _ _ _, World.shaped_of_ZipB (by kernel_rfl) (by kernel_rfl), (Input.okWide_of_okWideB (base := 0) (ruleReads_ok os)).1, (Input.okWide_of_okWideB (ruleReads_ok os)).2,
      OpenSpec.preRow_of_cond 8 (ruleReads_reads os enc) (by kernel_rfl) (fun k hk => by cases hk) (by kernel_rfl) (ruleReads_met os), by simp only [Assume.holds]; exact ⟨by simp, by simp, fun _ => Modest.zero, by simp, by simp⟩⟩ ?_
  intro W base args ds gs before hval0 hW hcnd hcond hsz0 hL hsh _
  have hsz : (DataW.weightsEach Tryd.prog (Tryd.f4.params.toList ++ Rows.ruleReadsSpec.plain.varTypes Tryd.prog) (ds ++ gs)).all (· ≤ reachBytes) = true := hsz0
  have hval : ∀ (j : Nat) t v, Tryd.f4.params[j]? = some t → args[j]? = some v → Value.okWide Tryd.prog W .any base t v := hval0
  have hW' := hW
  obtain ⟨p, q, hA0, hV, rfl, hfz, hnd⟩ := hW
  have hA : DataW.TrodAll enc Tryd.prog W 0 (fun _ => true) true Tryd.f4.params.toList args.toList ds p := hA0
  rw [Tryd.params4] at hA hval hsz
  obtain ⟨v0, vs0, d0, ds0, p0, q0, hargs, rfl, rfl, h0, r0⟩ := trodAll_cons hA
  obtain ⟨v1, vs1, d1, ds1, p1, q1, rfl, rfl, rfl, h1, r1⟩ := trodAll_cons r0
  obtain ⟨rfl, rfl, rfl⟩ := trodAll_nil r1
  obtain rfl : args = #[v0, v1] := by cases args; simp_all
  obtain ⟨rfl, rfl⟩ := trodVars_none hV
  have k0 := h0
  have lt0 : ∀ x ∈ p0, x.block < W.heap.size := by obtain ⟨m, hm⟩ := k0; exact DataW.trod_lt m _ _ _ hm
  have k1 := h1
  have lt1 : ∀ x ∈ p1, x.block < W.heap.size := by obtain ⟨m, hm⟩ := k1; exact DataW.trod_lt m _ _ _ hm
  obtain ⟨a0, rfl, rfl, rfl, w0⟩ := open_string Tryd.underlying9 (hval 0 9 v0 rfl rfl) h0
  have z0 : a0.size ≤ reachBytes := by have := sized_string hsz (j := 0) (t := 9) rfl rfl; simpa using this
  obtain ⟨a1, rfl, rfl, rfl, w1⟩ := open_string Tryd.underlying9 (hval 1 9 v1 rfl rfl) h1
  have z1 : a1.size ≤ reachBytes := by have := sized_string hsz (j := 1) (t := 9) rfl rfl; simpa using this
  clear hA0 hval0
  refine (ruleReads_walk a0 a1 z0 z1 W).mono fun e W' ⟨he, bel⟩ => ?_
  subst he
  exact ⟨_, rfl, _, _, _, [], _, [], hW', trodAll_mk1 (shut_bool Tryd.underlying4 _), (trodAll_cons_mk (Below.trod ruleReads_laidOut (by kernel_rfl) (of_decide_eq_true (by kernel_rfl)) k0 bel lt0) (trodAll_cons_mk (Below.trod ruleReads_laidOut (by kernel_rfl) (of_decide_eq_true (by kernel_rfl)) k1 bel lt1) trodAll_mk0)), rfl, bel.frame _, fun h => by cases h⟩

theorem ruleReads_said : Rows.RuleReadsSaid :=
  OpenClaim.holds_of_cond 4 Tryd.f4 rfl rfl rfl rfl rfl rfl rfl ⟨rfl, rfl, rfl, rfl, rfl⟩ rfl rfl rfl rfl rfl (by kernel_rfl) Tryd.func4 (by kernel_rfl)
    (of_decide_eq_true (by kernel_rfl)) (by unfold Func.isWrapper; first | (rw [if_pos (by decide +kernel)]; kernel_rfl) | (rw [if_neg (by decide +kernel)]; exact ⟨rfl, rfl⟩))
    (fun os started H enc _ F => by rw [OpenClaim.pre_eq_preRow]; exact ruleReads_lifted os started H enc F)

theorem ruleReads_plain (f : FuncId) (fn : Func) (hf : Tryd.pinned.checked.prog.funcNamed Rows.ruleReadsRow.func = some f) (hfn : Tryd.pinned.checked.prog.funcs[f]? = some fn) :
    true = Tryd.pinned.checked.prog.looks [] ∧ ∀ (j : Nat) t, fn.params[j]? = some t → Tryd.pinned.checked.prog.wantsStandIn t = false := by
  obtain rfl : f = 4 := Option.some.inj ((show Tryd.prog.funcNamed Rows.ruleReadsRow.func = some 4 by kernel_rfl).symm.trans hf) |>.symm
  obtain rfl : fn = Tryd.f4 := (Option.some.inj (Tryd.func4.symm.trans hfn)).symm
  refine ⟨by kernel_rfl, fun j t ht => ?_⟩
  rw [Tryd.params4] at ht
  have hm : t ∈ [9, 9] := by simpa using Array.mem_of_getElem? ht
  have hall : ([9, 9].all fun u => !Tryd.prog.wantsStandIn u) = true := by kernel_rfl
  have := List.all_eq_true.1 hall t hm
  exact (show Tryd.prog.wantsStandIn t = false by simpa using this)

theorem ruleReads_holds : Rows.RuleReadsCardSaid :=
  Claim7.holds_tied_plain_at .later [] _ _ _ _ ruleReads_said (fun _ h => by cases h) (by kernel_rfl) (fun _ h => by cases h) ruleReads_row_tie rfl ⟨rfl, rfl⟩ (by kernel_rfl) rfl ruleReads_plain (by kernel_rfl)

#print axioms ruleReads_holds

end Go.Proofs.YtjpmlnigjbdnnaaDoor
