/-
  Proved: RuleBack returns true for every two texts, and its arguments read behind the call as before.
-/
import Derived.Test.YtjpmlnigjbdnnaaDoorCards
import Derived.Test.YtjpmlnigjbdnnaaDoorTie
import Derived.Test.YtjpmlnigjbdnnaaDoorWk
import Derived.Test.YtjpmlnigjbdnnaaDoorRr
import Derived.ProofKit
import Derived.OpenShut
import Derived.ShutString
import Derived.ChangeOld
import Derived.Below
import Derived.SizedLaws
import Derived.Lib.SmallJoins
import Derived.SevenTiedAt
import Derived.Deep.DeepHandedRow
import Derived.LaidMore
import Derived.Lay
namespace Go.Proofs.YtjpmlnigjbdnnaaDoor
open Go.ChangeShapes Go.WideShapes Go.ChangeAt Go.RowKit Go.Joins
open Go.ChangeMaps (open_string shut_string)
set_option linter.unusedVariables false
set_option linter.unusedSimpArgs false
set_option maxRecDepth 100000

theorem rd_zero {l r : ByteArray} (h : rdE l r = 0) : prE l = 0 ∧ prE r = 0 ∧ chk 0 (prL l) (prL r) = 0 := by
  by_cases h1 : prE l = 0
  · by_cases h2 : prE r = 0
    · rw [rd_3 h1 h2] at h; exact ⟨h1, h2, h⟩
    · rw [rd_2 h1 h2] at h; exact absurd h h2
  · rw [rd_1 h1] at h; exact absurd h h1
theorem pr_text {s : ByteArray} (h : prE s = 0) : ∃ nm kd, prL s = (Fo.cons nm kd .nil).flat ∧ s = txt nm kd := by
  cases hp : parse s with
  | bad j e => have h1 := (parse_bad_le hp).2.1; rw [(prE_bad hp).1] at h; omega
  | ok M j =>
    obtain ⟨_, _, nm, kd, h1, h2⟩ := text_parse hp
    exact ⟨nm, kd, by rw [(prE_ok hp).2]; exact h1, h2⟩

set_option maxHeartbeats 1000000 in
theorem ruleBack_walk (l r : ByteArray) (zl : l.size ≤ reachBytes) (zr : r.size ≤ reachBytes) (w : World) :
    Calls Tryd.prog 6 #[.string l, .string r] w fun e w' => e = .returned (.bool true) ∧ Below w.heap.size w w' := by
  have hwk := wakes_any w
  have hp := fun w => ruleParse_any l r w
  by_cases hE : rdE l r = 0
  · obtain ⟨h1, h2, h3⟩ := rd_zero hE
    obtain ⟨n1, k1, e1, f1⟩ := pr_text h1
    obtain ⟨n2, k2, e2, f2⟩ := pr_text h2
    have gL : rdL l r = (Fo.cons n1 k1 .nil).flat := by unfold rdL; rw [if_pos hE]; exact e1
    have gR : rdR l r = (Fo.cons n2 k2 .nil).flat := by unfold rdR; rw [if_pos hE]; exact e2
    rw [e1, e2] at h3
    rw [hE, gL, gR] at hp
    have y1 := txt_len (chk_zero h3).2.1
    have y2 := txt_len (chk_zero h3).2.2.1
    have hpr : ∀ w1 a b, Lies w1 a _ → Lies w1 b _ → Calls Tryd.prog 17 #[.agg #[.int .i64 0, a, b]] w1 fun e w' => e = .returned (.tuple #[.string (l ++ (⟨#[32, 45, 62, 32]⟩ : ByteArray) ++ r), .int .i64 0]) ∧ Below w1.heap.size w1 w' := fun w1 a b g1 g2 => by
      have := rulePrint_ok w1 0 a b n1 n2 k1 k2 g1 g2 h3
      rw [← f1, ← f2] at this
      exact this
    have hck : ∀ w1 a b, Lies w1 a _ → Lies w1 b _ → Calls Tryd.prog 10 #[.agg #[.int .i64 0, a, b]] w1 fun e w' => e = .returned (.int .i64 0) ∧ Below w1.heap.size w1 w' := fun w1 a b g1 g2 => by
      have := chk_any w1 0 a b _ _ g1 g2
      rwa [h3] at this
    have FL : Hid (Fine (Fo.cons n1 k1 .nil).flat) := fine_check (chk_zero h3).2.1
    have FR : Hid (Fine (Fo.cons n2 k2 .nil).flat) := fine_check (chk_zero h3).2.2.1
    rw [← f1] at y1
    rw [← f2] at y2
    clear hE h1 h2 h3 e1 e2 f1 f2 gL gR
    generalize (Fo.cons n1 k1 .nil).flat = L at *
    generalize (Fo.cons n2 k2 .nil).flat = R at *
    go_enter Tryd.func6, Tryd.ntmps6
    go_wp2_with (first
      | (go_at_call 9; refine hwk.mono ?_; clear hwk; rintro e w1 ⟨rfl, b1⟩)
      | (go_at_call 14; refine (hp _).mono ?_; clear hp; rintro e w2 ⟨lv, rv, rfl, o1, o2, b2⟩; have l1 := Owns.lies o1 FL.out; have l2 := Owns.lies o2 FR.out; obtain ⟨la, lc, h1, _⟩ := own_cells o1; obtain ⟨ra, rc, h2, _⟩ := own_cells o2; subst h1; subst h2; have D2 := b1.trans (b2.mono b1.size); have A2 : Below w2.heap.size w2 (w2.alloc (.cells #[.int .i64 0, .slice la L.length lc, .slice ra R.length rc] 25)) := (Below.refl _ w2).alloc (Nat.le_refl _) _; have D3 := D2.trans (A2.mono D2.size); have X3 := Blk.made w2 #[.int .i64 0, .slice la L.length lc, .slice ra R.length rc] 25; have l3 := l1.on A2; have l4 := l2.on A2; clear l1 l2)
      | (go_at_call 17; refine (hpr _ _ _ l3 l4).mono ?_; clear hpr; rintro e w4 ⟨rfl, b4⟩; have X4 := X3.on b4 X3.lt; have c0 := X4.cell (i := 0) rfl; have c1 := X4.cell (i := 1) rfl; have c2 := X4.cell (i := 2) rfl; have D4 := D3.trans (b4.mono D3.size); have l5 := l3.on b4; have l6 := l4.on b4)
      | (go_at_call 10; refine (hck _ _ _ l5 l6).mono ?_; rintro e w6 ⟨rfl, b6⟩))
    go_ret
    exact ⟨by simp, D4.trans (b6.mono D4.size)⟩
  · have gL : rdL l r = [] := by unfold rdL; rw [if_neg hE]
    have gR : rdR l r = [] := by unfold rdR; rw [if_neg hE]
    rw [gL, gR] at hp
    have hs : ∀ w1 a b, Lies w1 a [] → Lies w1 b [] → Calls Tryd.prog 16 #[.agg #[.int .i64 0, a, b], .agg #[.int .i64 0, .slice none 0 0, .slice none 0 0]] w1 fun e w' => e = .returned (.bool true) ∧ Below w1.heap.size w1 w' := fun w1 a b h1 h2 => by
      have := rSame_rule w1 0 0 a b _ _ _ _ _ _ h1 h2 (nil_lies w1) (nil_lies w1)
      rwa [decide_eq_true ⟨rfl, rfl, rfl⟩] at this
    generalize rdE l r = E at hE hp
    have z1 : ((E : Int) == 0) = false := by simp only [beq_eq_false_iff_ne]; omega
    have z2 : ¬ (E : Int) = 0 := by omega
    clear gL gR hE
    go_enter Tryd.func6, Tryd.ntmps6
    go_wp2_with (first
      | (go_at_call 9; refine hwk.mono ?_; clear hwk; rintro e w1 ⟨rfl, b1⟩)
      | (go_at_call 14; refine (hp _).mono ?_; clear hp; rintro e w2 ⟨lv, rv, rfl, o1, o2, b2⟩; have l1 := Owns.lies o1 (fun c hc => by cases hc); have l2 := Owns.lies o2 (fun c hc => by cases hc); obtain ⟨la, lc, h1, _⟩ := own_cells o1; obtain ⟨ra, rc, h2, _⟩ := own_cells o2; subst h1; subst h2; have D2 := b1.trans (b2.mono b1.size); have A2 : Below w2.heap.size w2 (w2.alloc (.cells #[.int .i64 0, .slice la 0 lc, .slice ra 0 rc] 25)) := (Below.refl _ w2).alloc (Nat.le_refl _) _; have D3 := D2.trans (A2.mono D2.size); have l3 := l1.on A2; have l4 := l2.on A2; clear l1 l2)
      | (go_at_call 16; refine (hs _ _ _ l3 l4).mono ?_; rintro e w6 ⟨rfl, b6⟩))
    go_ret
    exact ⟨rfl, D3.trans (b6.mono D3.size)⟩

theorem ruleBack_own : ownKnob Tryd.prog.godebug = none := by kernel_rfl
theorem ruleBack_laidOut : laidOutB Tryd.prog = true := by kernel_rfl
theorem ruleBack_met (os : Os) : laidMetH Tryd.prog Rows.ruleBackRow.laid ((World.laidAll Tryd.prog os Rows.ruleBackRow.laid).forCall (fun _ _ => 0) ⟨#[], #[.string ByteArray.empty, .string ByteArray.empty], []⟩).memory := by
  rw [MakeChecks.laidMetH_plain _ _ _ (by kernel_rfl)]; exact laidMet_laidAll _ (by kernel_rfl) (by kernel_rfl)
theorem ruleBack_reads (os : Os) {H : Type} (enc : TypeId × Value → H) : DataW.whole enc Tryd.prog ((World.laidAll Tryd.prog os Rows.ruleBackRow.laid).forCall (fun _ _ => 0) ⟨#[], #[.string ByteArray.empty, .string ByteArray.empty], []⟩).memory Tryd.f6.params.toList Rows.ruleBackSpec.vars false #[(.string ByteArray.empty : Value), (.string ByteArray.empty : Value)].toList 8 = some ([.lit (.string []), .lit (.string [])], [], []) := by kernel_rfl
theorem ruleBack_ok (os : Os) : Input.okWideB Tryd.prog ((World.laidAll Tryd.prog os Rows.ruleBackRow.laid).forCall (fun _ _ => 0) ⟨#[], #[.string ByteArray.empty, .string ByteArray.empty], []⟩) 6 ⟨#[], #[.string ByteArray.empty, .string ByteArray.empty], []⟩ = true := by kernel_rfl

set_option maxRecDepth 100000 in
theorem ruleBack_lifted (os : Os) (started : os.Started) (H : Type) (enc : TypeId × Value → H) (F : Stop.Interp) :
    ReturnsInHanded {} Tryd.checked os 6 .any ((OpenSpec.ofChange Rows.ruleBackSpec).preRow enc Tryd.prog Tryd.f6 Rows.ruleBackRow.domain false Rows.ruleBackRow.laid) (((OpenSpec.ofChange Rows.ruleBackSpec).at F).post enc Tryd.prog Tryd.f6 false true false false) := by
  refine returnsInHanded_of_row (C := Tryd.checked) (s := (OpenSpec.ofChange Rows.ruleBackSpec)) ruleBack_own started (by kernel_rfl) Tryd.func6
    ⟨World.laidAll Tryd.prog os Rows.ruleBackRow.laid, fun _ _ => 0, ⟨#[], #[.string ByteArray.empty, .string ByteArray.empty], []⟩, World.laidAll_os _ _ _, World.shaped_of_ZipB (by kernel_rfl) (by kernel_rfl), (Input.okWide_of_okWideB (base := 0) (ruleBack_ok os)).1, (Input.okWide_of_okWideB (ruleBack_ok os)).2,
      OpenSpec.preRow_of_cond 8 (ruleBack_reads os enc) (by kernel_rfl) (fun k hk => by cases hk) (by kernel_rfl) (ruleBack_met os), by simp only [Assume.holds]; exact ⟨by simp, by simp, fun _ => Modest.zero, by simp, by simp⟩⟩ ?_
  intro W base args ds gs before hval0 hW hcnd hcond hsz0 hL hsh _
  have hsz : (DataW.weightsEach Tryd.prog (Tryd.f6.params.toList ++ Rows.ruleBackSpec.plain.varTypes Tryd.prog) (ds ++ gs)).all (· ≤ reachBytes) = true := hsz0
  have hval : ∀ (j : Nat) t v, Tryd.f6.params[j]? = some t → args[j]? = some v → Value.okWide Tryd.prog W .any base t v := hval0
  have hW' := hW
  obtain ⟨p, q, hA0, hV, rfl, hfz, hnd⟩ := hW
  have hA : DataW.TrodAll enc Tryd.prog W 0 (fun _ => true) true Tryd.f6.params.toList args.toList ds p := hA0
  rw [Tryd.params6] at hA hval hsz
  obtain ⟨v0, vs0, d0, ds0, p0, q0, hargs, rfl, rfl, h0, r0⟩ := trodAll_cons hA
  obtain ⟨v1, vs1, d1, ds1, p1, q1, rfl, rfl, rfl, h1, r1⟩ := trodAll_cons r0
  obtain ⟨rfl, rfl, rfl⟩ := trodAll_nil r1
  obtain rfl : args = #[v0, v1] := by cases args; simp_all
  obtain ⟨rfl, rfl⟩ := trodVars_none hV
  have k0 := h0
  have lt0 : ∀ x ∈ p0, x.block < W.heap.size := by obtain ⟨m, hm⟩ := k0; exact DataW.trod_lt m _ _ _ hm
  have k1 := h1
  have lt1 : ∀ x ∈ p1, x.block < W.heap.size := by obtain ⟨m, hm⟩ := k1; exact DataW.trod_lt m _ _ _ hm
  obtain ⟨a0, rfl, rfl, rfl, w0⟩ := open_string Tryd.underlying9 (hval 0 9 v0 rfl rfl) h0
  have z0 : a0.size ≤ reachBytes := by have := sized_string hsz (j := 0) (t := 9) rfl rfl; simpa using this
  obtain ⟨a1, rfl, rfl, rfl, w1⟩ := open_string Tryd.underlying9 (hval 1 9 v1 rfl rfl) h1
  have z1 : a1.size ≤ reachBytes := by have := sized_string hsz (j := 1) (t := 9) rfl rfl; simpa using this
  clear hA0 hval0
  refine (ruleBack_walk a0 a1 z0 z1 W).mono fun e W' ⟨he, bel⟩ => ?_
  subst he
  exact ⟨_, rfl, _, _, _, [], _, [], hW', trodAll_mk1 (shut_bool Tryd.underlying4 _), (trodAll_cons_mk (Below.trod ruleBack_laidOut (by kernel_rfl) (of_decide_eq_true (by kernel_rfl)) k0 bel lt0) (trodAll_cons_mk (Below.trod ruleBack_laidOut (by kernel_rfl) (of_decide_eq_true (by kernel_rfl)) k1 bel lt1) trodAll_mk0)), rfl, bel.frame _, fun h => by cases h⟩

theorem ruleBack_said : Rows.RuleBackSaid :=
  OpenClaim.holds_of_cond 6 Tryd.f6 rfl rfl rfl rfl rfl rfl rfl ⟨rfl, rfl, rfl, rfl, rfl⟩ rfl rfl rfl rfl rfl (by kernel_rfl) Tryd.func6 (by kernel_rfl)
    (of_decide_eq_true (by kernel_rfl)) (by unfold Func.isWrapper; first | (rw [if_pos (by decide +kernel)]; kernel_rfl) | (rw [if_neg (by decide +kernel)]; exact ⟨rfl, rfl⟩))
    (fun os started H enc _ F => by rw [OpenClaim.pre_eq_preRow]; exact ruleBack_lifted os started H enc F)

theorem ruleBack_plain (f : FuncId) (fn : Func) (hf : Tryd.pinned.checked.prog.funcNamed Rows.ruleBackRow.func = some f) (hfn : Tryd.pinned.checked.prog.funcs[f]? = some fn) :
    true = Tryd.pinned.checked.prog.looks [] ∧ ∀ (j : Nat) t, fn.params[j]? = some t → Tryd.pinned.checked.prog.wantsStandIn t = false := by
  obtain rfl : f = 6 := Option.some.inj ((show Tryd.prog.funcNamed Rows.ruleBackRow.func = some 6 by kernel_rfl).symm.trans hf) |>.symm
  obtain rfl : fn = Tryd.f6 := (Option.some.inj (Tryd.func6.symm.trans hfn)).symm
  refine ⟨by kernel_rfl, fun j t ht => ?_⟩
  rw [Tryd.params6] at ht
  have hm : t ∈ [9, 9] := by simpa using Array.mem_of_getElem? ht
  have hall : ([9, 9].all fun u => !Tryd.prog.wantsStandIn u) = true := by kernel_rfl
  have := List.all_eq_true.1 hall t hm
  exact (show Tryd.prog.wantsStandIn t = false by simpa using this)

theorem ruleBack_holds : Rows.RuleBackCardSaid :=
  Claim7.holds_tied_plain_at .later [] _ _ _ _ ruleBack_said (fun _ h => by cases h) (by kernel_rfl) (fun _ h => by cases h) ruleBack_row_tie rfl ⟨rfl, rfl⟩ (by kernel_rfl) rfl ruleBack_plain (by kernel_rfl)

#print axioms ruleBack_holds

end Go.Proofs.YtjpmlnigjbdnnaaDoor
