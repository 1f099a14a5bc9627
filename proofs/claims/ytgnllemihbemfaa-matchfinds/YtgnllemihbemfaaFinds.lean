/-
  Proved: MatchFinds returns true for every two lists of cells, and its arguments read behind the call as before.
-/
import Derived.Test.YtgnllemihbemfaaRows
import Derived.Test.YtgnllemihbemfaaRMatch
import Derived.Test.YtgnllemihbemfaaSameB
import Derived.Test.YtgnllemihbemfaaOpen
import Derived.ProofKit
import Derived.OpenShut
import Derived.ShutString
import Derived.ChangeOld
import Derived.Below
import Derived.SizedLaws
import Derived.Lib.SmallJoins
namespace Go.Proofs.Ytgnllemihbemfaa
open Go.ChangeShapes Go.WideShapes Go.ChangeAt Go.RowKit Go.Joins
open Go.ChangeMaps (open_string shut_string)
set_option linter.unusedVariables false
set_option maxRecDepth 100000
set_option linter.unusedSimpArgs false

theorem acc_fine (P T : List Cl) : ∀ b ∈ (mt P T).getD [], Fine b.val ∧ b.nm.size ≤ 9223372036854775807 := by
  cases h : mt P T with
  | none => intro b hb; cases hb
  | some acc => exact Good.fine (mt_facts h).2.1

set_option maxHeartbeats 4000000 in
theorem matchFinds_walk (vp : Value) (P : List Cl) (vt : Value) (T : List Cl) (w : World) (hp : Lies w vp P) (zp : P.length * 24 ≤ 140737488355328) (ht : Lies w vt T) (zt : T.length * 24 ≤ 140737488355328) :
    Calls Try.prog 3 #[vp, vt] w fun e w' => e = .returned (.bool true) ∧ Below w.heap.size w w' := by
  have hwk := wakes_any w
  have hop : ∀ w1, Below w.heap.size w w1 → _ := fun w1 hb => own_any w1 vp P (hp.on hb) zp
  have hot : ∀ w1, Below w.heap.size w w1 → _ := fun w1 hb => own_any w1 vt T (ht.on hb) zt
  have hm1 : ∀ w1 a b, Lies w1 a P → Lies w1 b T → _ := fun w1 a b x y => match_any w1 a b P T x y
  have hr1 : ∀ w1, Below w.heap.size w w1 → _ := fun w1 hb => rMatch_any w1 vp vt P T (hp.on hb) (ht.on hb)
  have HFA : Hid (∀ b ∈ (mt P T).getD [], Fine b.val ∧ b.nm.size ≤ 9223372036854775807) := acc_fine P T
  have hsb : ∀ w1 a b, LiesB w1 a ((mt P T).getD []) → LiesB w1 b ((mt P T).getD []) → _ := fun w1 a b x y => sameB_self w1 a b ((mt P T).getD []) x y
  obtain ⟨pa, pc, rfl, _⟩ := id hp
  obtain ⟨ta, tc, rfl, _⟩ := id ht
  clear hp ht
  generalize (mt P T).getD [] = A at hm1 hr1 HFA hsb
  generalize ce P T = E at hm1 hr1
  generalize (mt P T).isSome = bb at hm1 hr1
  cases bb with
  | false =>
    go_enter Try.func3, Try.ntmps3
    go_wp2_with (first
      | (go_at_call 9; refine hwk.mono ?_; rintro e w1 ⟨rfl, hb1⟩)
      | (go_at_call 11; refine (hop _ hb1).mono ?_; rintro e w2 ⟨u2, rfl, _, l2, hc⟩; have hb2 := hb1.trans (hc.mono hb1.size); clear hc hb1)
      | (go_at_call 11; refine (hot _ hb2).mono ?_; rintro e w3 ⟨u3, rfl, _, l3, hc⟩; have l2a := l2.on hc; have hb3 := hb2.trans (hc.mono hb2.size); clear hc hb2 l2)
      | (go_at_call 10; refine (hm1 _ _ _ l2a l3).mono ?_; rintro e w4 ⟨m4, rfl, o4, hc⟩; have b4 := o4.lies HFA.out; have hb4 := hb3.trans (hc.mono hb3.size); clear hc hb3 l2a l3 o4)
      | (go_at_call 12; refine (hr1 _ hb4).mono ?_; rintro e w5 ⟨m5, rfl, o5, hc⟩; have b5 := o5.lies HFA.out; have b4a := b4.on hc; have hb5 := hb4.trans (hc.mono hb4.size); clear hc hb4 b4 o5)
      | (go_at_call 13; refine (hsb _ _ _ b4a b5).mono ?_; rintro e w6 ⟨rfl, hc⟩; have hb6 := hb5.trans (hc.mono hb5.size)))
    go_ret
    exact ⟨rfl, hb6⟩
  | true =>
    go_enter Try.func3, Try.ntmps3
    go_wp2_with (first
      | (go_at_call 9; refine hwk.mono ?_; rintro e w1 ⟨rfl, hb1⟩)
      | (go_at_call 11; refine (hop _ hb1).mono ?_; rintro e w2 ⟨u2, rfl, _, l2, hc⟩; have hb2 := hb1.trans (hc.mono hb1.size); clear hc hb1)
      | (go_at_call 11; refine (hot _ hb2).mono ?_; rintro e w3 ⟨u3, rfl, _, l3, hc⟩; have l2a := l2.on hc; have hb3 := hb2.trans (hc.mono hb2.size); clear hc hb2 l2)
      | (go_at_call 10; refine (hm1 _ _ _ l2a l3).mono ?_; rintro e w4 ⟨m4, rfl, o4, hc⟩; have b4 := o4.lies HFA.out; have hb4 := hb3.trans (hc.mono hb3.size); clear hc hb3 l2a l3 o4)
      | (go_at_call 12; refine (hr1 _ hb4).mono ?_; rintro e w5 ⟨m5, rfl, o5, hc⟩; have b5 := o5.lies HFA.out; have b4a := b4.on hc; have hb5 := hb4.trans (hc.mono hb4.size); clear hc hb4 b4 o5)
      | (go_at_call 13; refine (hsb _ _ _ b4a b5).mono ?_; rintro e w6 ⟨rfl, hc⟩; have hb6 := hb5.trans (hc.mono hb5.size)))
    go_ret
    exact ⟨rfl, hb6⟩

theorem matchFinds_own : ownKnob Try.prog.godebug = none := by kernel_rfl
theorem matchFinds_laidOut : laidOutB Try.prog = true := by kernel_rfl

set_option maxRecDepth 100000 in
theorem matchFinds_lifted (os : Os) (started : os.Started) (H : Type) (enc : TypeId × Value → H) :
    ReturnsInHanded {} Try.checked os 3 .any (Rows.matchFindsSpec.pre6 enc Try.prog Try.f3 Rows.matchFindsRow.domain false) (Rows.matchFindsSpec.post enc Try.prog Try.f3 false true false false) := by
  refine returnsInHanded_of_change_sized (C := Try.checked) matchFinds_own started (by kernel_rfl) Try.func3
    (ChangeSpec.witness6 (enc := enc) (C := Try.checked) false ⟨#[], #[.slice none 0 0, .slice none 0 0], []⟩ 8 (by kernel_rfl) (by kernel_rfl) (by kernel_rfl) (by kernel_rfl)) ?_
  intro W base args ds gs before hval0 hW hcnd hsz0 _
  have hsz : (DataW.weightsEach Try.prog (Try.f3.params.toList ++ Rows.matchFindsSpec.plain.varTypes Try.prog) (ds ++ gs)).all (· ≤ reachBytes) = true := hsz0
  have hval : ∀ (j : Nat) t v, Try.f3.params[j]? = some t → args[j]? = some v → Value.okWide Try.prog W .any base t v := hval0
  have hW' := hW
  obtain ⟨p, q, hA0, hV, rfl, hfz, hnd⟩ := hW
  have hA : DataW.TrodAll enc Try.prog W 0 (fun _ => true) true Try.f3.params.toList args.toList ds p := hA0
  rw [Try.params3] at hA hval hsz
  obtain ⟨v0, vs0, d0, ds0, p0, q0, hargs, rfl, rfl, h0, r0⟩ := trodAll_cons hA
  obtain ⟨v1, vs1, d1, ds1, p1, q1, rfl, rfl, rfl, h1, r1⟩ := trodAll_cons r0
  obtain ⟨rfl, rfl, rfl⟩ := trodAll_nil r1
  obtain rfl : args = #[v0, v1] := by cases args; simp_all
  obtain ⟨rfl, rfl⟩ := trodVars_none hV
  have k0 := h0
  have lt0 : ∀ x ∈ p0, x.block < W.heap.size := by obtain ⟨m, hm⟩ := k0; exact DataW.trod_lt m _ _ _ hm
  have k1 := h1
  have lt1 : ∀ x ∈ p1, x.block < W.heap.size := by obtain ⟨m, hm⟩ := k1; exact DataW.trod_lt m _ _ _ hm
  obtain ⟨L0, l0, z0⟩ := open_cells (hval 0 23 v0 rfl rfl) h0 (fun n hn => by simpa using List.all_eq_true.1 hsz n (DataW.weights_mem_each (j := 0) (t := 23) rfl rfl n hn))
  obtain ⟨L1, l1, z1⟩ := open_cells (hval 1 23 v1 rfl rfl) h1 (fun n hn => by simpa using List.all_eq_true.1 hsz n (DataW.weights_mem_each (j := 1) (t := 23) rfl rfl n hn))
  clear hA0 hval0
  refine (matchFinds_walk v0 L0 v1 L1 W l0 z0 l1 z1).mono fun e W' ⟨he, bel⟩ => ?_
  subst he
  exact ⟨_, rfl, _, _, _, [], _, [], hW', trodAll_mk1 (shut_bool Try.underlying4 _), (trodAll_cons_mk (Below.trod matchFinds_laidOut (by kernel_rfl) (of_decide_eq_true (by kernel_rfl)) k0 bel lt0) (trodAll_cons_mk (Below.trod matchFinds_laidOut (by kernel_rfl) (of_decide_eq_true (by kernel_rfl)) k1 bel lt1) trodAll_mk0)), rfl, bel.frame _, fun h => by cases h⟩

theorem matchFinds_holds : Rows.MatchFindsSaid :=
  OpenClaim.holds_of_wide 3 Try.f3 rfl rfl rfl rfl rfl rfl rfl ⟨rfl, rfl, rfl, rfl, rfl⟩ rfl rfl rfl rfl rfl (by kernel_rfl) Try.func3 (by kernel_rfl)
    (of_decide_eq_true (by kernel_rfl)) (by unfold Func.isWrapper; first | (rw [if_pos (by decide +kernel)]; kernel_rfl) | (rw [if_neg (by decide +kernel)]; exact ⟨rfl, rfl⟩))
    (fun os started H enc _ => matchFinds_lifted os started H enc)

#print axioms matchFinds_holds

end Go.Proofs.Ytgnllemihbemfaa
