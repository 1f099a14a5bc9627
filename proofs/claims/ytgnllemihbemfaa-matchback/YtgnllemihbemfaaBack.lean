/-
  Proved: MatchBack returns true for every two lists of cells, and its arguments read behind the call as before.
-/
import Derived.Test.YtgnllemihbemfaaRows
import Derived.Test.YtgnllemihbemfaaWakes
import Derived.Test.YtgnllemihbemfaaOpen
import Derived.Test.YtgnllemihbemfaaRVars
import Derived.ProofKit
import Derived.OpenShut
import Derived.ShutString
import Derived.ChangeOld
import Derived.Below
import Derived.SizedLaws
import Derived.Lib.SmallJoins
namespace Go.Proofs.Ytgnllemihbemfaa
open Go.ChangeShapes Go.WideShapes Go.ChangeAt Go.RowKit Go.Joins
open Go.ChangeMaps (open_string shut_string)
set_option linter.unusedVariables false
set_option maxRecDepth 100000
set_option linter.unusedSimpArgs false

theorem same_self (w : World) (u v : Value) (L : List Cl) (hu : Lies w u L) (hv : Lies w v L) :
    Calls Try.prog 17 #[u, v] w fun e w' => e = .returned (.bool true) ∧ Below w.heap.size w w' := by
  have := same_any w u v L L hu hv
  rwa [decide_eq_true rfl] at this
theorem acc_fine {P T : List Cl} {acc : List Bd} (h : mt P T = some acc) : ∀ b ∈ acc, Fine b.val ∧ b.nm.size ≤ 9223372036854775807 := fun b hb => by
  obtain ⟨h1, h2⟩ := (mt_facts h).2.1 b hb
  exact ⟨fine_check h1, by have := nm_size h2; omega⟩

set_option maxHeartbeats 4000000 in
theorem matchBack_walk (vp : Value) (P : List Cl) (vt : Value) (T : List Cl) (w : World) (hp : Lies w vp P) (zp : P.length * 24 ≤ 140737488355328) (ht : Lies w vt T) (zt : T.length * 24 ≤ 140737488355328) :
    Calls Try.prog 5 #[vp, vt] w fun e w' => e = .returned (.bool true) ∧ Below w.heap.size w w' := by
  have hwk := wakes_any w
  have hop : ∀ w1, Below w.heap.size w w1 → _ := fun w1 hb => own_any w1 vp P (hp.on hb) zp
  have hot : ∀ w1, Below w.heap.size w w1 → _ := fun w1 hb => own_any w1 vt T (ht.on hb) zt
  have hm1 : ∀ w1 a b, Lies w1 a P → Lies w1 b T → _ := fun w1 a b x y => match_any w1 a b P T x y
  have HT : Hid (Lies w vt T) := ht
  have HPL : Hid (Lies w vp P) := hp
  have HFT : Hid (Fine T) := by obtain ⟨_, _, _, _, _, hf, _⟩ := ht; exact hf
  obtain ⟨pa, pc, rfl, _⟩ := id hp
  obtain ⟨ta, tc, rfl, _⟩ := id ht
  clear hp ht
  cases h3 : mt P T with
  | none =>
    rw [h3] at hm1
    simp only [Option.isSome_none, Option.getD_none] at hm1
    clear h3
    by_cases h1 : ce P T = 0
    · rw [h1] at hm1
      clear h1
      go_enter Try.func5, Try.ntmps5
      go_wp2_with (first
      | (go_at_call 9; refine hwk.mono ?_; rintro e w1 ⟨rfl, hb1⟩)
      | (go_at_call 11; refine (hop _ hb1).mono ?_; rintro e w2 ⟨u2, rfl, _, l2, hc⟩; have hb2 := hb1.trans (hc.mono hb1.size); clear hc hb1)
      | (go_at_call 11; refine (hot _ hb2).mono ?_; rintro e w3 ⟨u3, rfl, _, l3, hc⟩; have l2a := l2.on hc; have hb3 := hb2.trans (hc.mono hb2.size); clear hc hb2 l2)
      | (go_at_call 10; refine (hm1 _ _ _ l2a l3).mono ?_; rintro e w4 ⟨m4, rfl, o4, hc⟩; obtain ⟨fa4, fc4, hfm, _⟩ := o4.form; subst hfm; have hb4 := hb3.trans (hc.mono hb3.size)))
      go_ret
      exact ⟨rfl, hb4⟩
    · generalize ce P T = e0 at hm1 h1
      have e1 : ((e0 : Int) == 0) = false := by simp only [beq_eq_false_iff_ne]; omega
      have e2 : ¬ (e0 : Int) = 0 := by omega
      clear h1
      go_enter Try.func5, Try.ntmps5
      go_wp2_with (first
      | (go_at_call 9; refine hwk.mono ?_; rintro e w1 ⟨rfl, hb1⟩)
      | (go_at_call 11; refine (hop _ hb1).mono ?_; rintro e w2 ⟨u2, rfl, _, l2, hc⟩; have hb2 := hb1.trans (hc.mono hb1.size); clear hc hb1)
      | (go_at_call 11; refine (hot _ hb2).mono ?_; rintro e w3 ⟨u3, rfl, _, l3, hc⟩; have l2a := l2.on hc; have hb3 := hb2.trans (hc.mono hb2.size); clear hc hb2 l2)
      | (go_at_call 10; refine (hm1 _ _ _ l2a l3).mono ?_; rintro e w4 ⟨m4, rfl, o4, hc⟩; obtain ⟨fa4, fc4, hfm, _⟩ := o4.form; subst hfm; have hb4 := hb3.trans (hc.mono hb3.size)))
      go_ret
      exact ⟨rfl, hb4⟩
  | some acc =>
    obtain ⟨hP, hTc, _⟩ := mt_some h3
    have h1 : ce P T = 0 := by unfold ce; rw [if_pos hP]; exact hTc
    have f1 := (back h3).1
    have f2 := (back h3).2.1
    obtain ⟨acc2, h4⟩ := mt_self hTc
    have h5 : ce T T = 0 := by unfold ce; rw [if_pos hTc]; exact hTc
    have g1 := (back h4).1
    have g2 := (back h4).2.1
    have HFA : Hid (∀ b ∈ acc, Fine b.val ∧ b.nm.size ≤ 9223372036854775807) := acc_fine h3
    have HFB : Hid (∀ b ∈ acc2, Fine b.val ∧ b.nm.size ≤ 9223372036854775807) := acc_fine h4
    have hm2 : ∀ w1 a b, Lies w1 a T → Lies w1 b T → _ := fun w1 a b x y => match_any w1 a b T T x y
    have hf1 : ∀ w1 a b, Lies w1 a P → LiesB w1 b acc → _ := fun w1 a b x y => fill_any w1 a b P acc x y
    have hf2 : ∀ w1 a b, Lies w1 a T → LiesB w1 b acc2 → _ := fun w1 a b x y => fill_any w1 a b T acc2 x y
    have hsm : ∀ w1 a b, Lies w1 a T → Lies w1 b T → _ := fun w1 a b x y => same_self w1 a b T x y
    have hrv : ∀ w1, Below w.heap.size w w1 → _ := fun w1 hb => rVars_ok w1 _ P (HPL.out.on hb) hP
    rw [← (mt_facts h3).1] at hrv
    rw [h3, h1] at hm1
    rw [h4, h5] at hm2
    rw [f1, f2] at hf1
    rw [g1, g2] at hf2
    simp only [Option.isSome_some, Option.getD_some] at hm1 hm2
    clear h3 h1 f1 f2 h4 h5 g1 g2 hP hTc
    go_enter Try.func5, Try.ntmps5
    go_wp2_with (first
      | (go_at_call 9; refine hwk.mono ?_; rintro e w1 ⟨rfl, hb1⟩)
      | (go_at_call 11; refine (hop _ hb1).mono ?_; rintro e w2 ⟨u2, rfl, _, l2, hc⟩; have hb2 := hb1.trans (hc.mono hb1.size); clear hc hb1)
      | (go_at_call 11; refine (hot _ hb2).mono ?_; rintro e w3 ⟨u3, rfl, _, l3, hc⟩; have l2a := l2.on hc; have hb3 := hb2.trans (hc.mono hb2.size); clear hc hb2 l2)
      | (go_at_call 10; refine (hm1 _ _ _ l2a l3).mono ?_; rintro e w4 ⟨m4, rfl, o4, hc⟩; obtain ⟨fa4, fc4, hfm, fk4, fl4⟩ := o4.form; subst hfm; have b4 := o4.lies HFA.out; have hb4 := hb3.trans (hc.mono hb3.size); clear hc hb3 l2a l3 o4)
      | (go_at_call 11; refine (hop _ hb4).mono ?_; rintro e w5 ⟨u5, rfl, _, l5, hc⟩; have b5 := b4.on hc; have hb5 := hb4.trans (hc.mono hb4.size); clear hc hb4 b4)
      | (go_at_call 14; refine (hf1 _ _ _ l5 b5).mono ?_; rintro e w6 ⟨u6, rfl, o6, hc⟩; have l6 := Owns.lies o6 HFT.out; have hb6 := hb5.trans (hc.mono hb5.size); clear hc hb5 l5 b5 o6)
      | (go_at_call 17; refine (hsm _ _ _ l6 (HT.out.on hb6)).mono ?_; rintro e w7 ⟨rfl, hc⟩; have hb7 := hb6.trans (hc.mono hb6.size); clear hc hb6 l6)
      | (go_at_call 18; refine (hrv _ hb7).mono ?_; rintro e w8 ⟨u8, rfl, o8, hc⟩; obtain ⟨sa, sc, hsv, _⟩ := own_cells o8; subst hsv; have hb8 := hb7.trans (hc.mono hb7.size); clear hc hb7)
      | (go_at_call 11; refine (hot _ hb8).mono ?_; rintro e w9 ⟨u9, rfl, _, l9, hc⟩; have hb9 := hb8.trans (hc.mono hb8.size); clear hc hb8)
      | (go_at_call 11; refine (hot _ hb9).mono ?_; rintro e w10 ⟨u10, rfl, _, l10, hc⟩; have l9a := l9.on hc; have hb10 := hb9.trans (hc.mono hb9.size); clear hc hb9 l9)
      | (go_at_call 10; refine (hm2 _ _ _ l9a l10).mono ?_; rintro e w11 ⟨m11, rfl, o11, hc⟩; obtain ⟨fa11, fc11, hfm, fk11, fl11⟩ := o11.form; subst hfm; have b11 := o11.lies HFB.out; have hb11 := hb10.trans (hc.mono hb10.size); clear hc hb10 l9a l10 o11)
      | (go_at_call 11; refine (hot _ hb11).mono ?_; rintro e w12 ⟨u12, rfl, _, l12, hc⟩; have b12 := b11.on hc; have hb12 := hb11.trans (hc.mono hb11.size); clear hc hb11 b11)
      | (go_at_call 14; refine (hf2 _ _ _ l12 b12).mono ?_; rintro e w13 ⟨u13, rfl, o13, hc⟩; have l13 := Owns.lies o13 HFT.out; have hb13 := hb12.trans (hc.mono hb12.size); clear hc hb12 l12 b12 o13)
      | (go_at_call 17; refine (hsm _ _ _ l13 (HT.out.on hb13)).mono ?_; rintro e w14 ⟨rfl, hc⟩; have hb14 := hb13.trans (hc.mono hb13.size); clear hc hb13 l13))
    go_ret
    exact ⟨rfl, hb14⟩

theorem matchBack_own : ownKnob Try.prog.godebug = none := by kernel_rfl
theorem matchBack_laidOut : laidOutB Try.prog = true := by kernel_rfl

set_option maxRecDepth 100000 in
theorem matchBack_lifted (os : Os) (started : os.Started) (H : Type) (enc : TypeId × Value → H) :
    ReturnsInHanded {} Try.checked os 5 .any (Rows.matchBackSpec.pre6 enc Try.prog Try.f5 Rows.matchBackRow.domain false) (Rows.matchBackSpec.post enc Try.prog Try.f5 false true false false) := by
  refine returnsInHanded_of_change_sized (C := Try.checked) matchBack_own started (by kernel_rfl) Try.func5
    (ChangeSpec.witness6 (enc := enc) (C := Try.checked) false ⟨#[], #[.slice none 0 0, .slice none 0 0], []⟩ 8 (by kernel_rfl) (by kernel_rfl) (by kernel_rfl) (by kernel_rfl)) ?_
  intro W base args ds gs before hval0 hW hcnd hsz0 _
  have hsz : (DataW.weightsEach Try.prog (Try.f5.params.toList ++ Rows.matchBackSpec.plain.varTypes Try.prog) (ds ++ gs)).all (· ≤ reachBytes) = true := hsz0
  have hval : ∀ (j : Nat) t v, Try.f5.params[j]? = some t → args[j]? = some v → Value.okWide Try.prog W .any base t v := hval0
  have hW' := hW
  obtain ⟨p, q, hA0, hV, rfl, hfz, hnd⟩ := hW
  have hA : DataW.TrodAll enc Try.prog W 0 (fun _ => true) true Try.f5.params.toList args.toList ds p := hA0
  rw [Try.params5] at hA hval hsz
  obtain ⟨v0, vs0, d0, ds0, p0, q0, hargs, rfl, rfl, h0, r0⟩ := trodAll_cons hA
  obtain ⟨v1, vs1, d1, ds1, p1, q1, rfl, rfl, rfl, h1, r1⟩ := trodAll_cons r0
  obtain ⟨rfl, rfl, rfl⟩ := trodAll_nil r1
  obtain rfl : args = #[v0, v1] := by cases args; simp_all
  obtain ⟨rfl, rfl⟩ := trodVars_none hV
  have k0 := h0
  have lt0 : ∀ x ∈ p0, x.block < W.heap.size := by obtain ⟨m, hm⟩ := k0; exact DataW.trod_lt m _ _ _ hm
  have k1 := h1
  have lt1 : ∀ x ∈ p1, x.block < W.heap.size := by obtain ⟨m, hm⟩ := k1; exact DataW.trod_lt m _ _ _ hm
  obtain ⟨L0, l0, z0⟩ := open_cells (hval 0 23 v0 rfl rfl) h0 (fun n hn => by simpa using List.all_eq_true.1 hsz n (DataW.weights_mem_each (j := 0) (t := 23) rfl rfl n hn))
  obtain ⟨L1, l1, z1⟩ := open_cells (hval 1 23 v1 rfl rfl) h1 (fun n hn => by simpa using List.all_eq_true.1 hsz n (DataW.weights_mem_each (j := 1) (t := 23) rfl rfl n hn))
  clear hA0 hval0
  refine (matchBack_walk v0 L0 v1 L1 W l0 z0 l1 z1).mono fun e W' ⟨he, bel⟩ => ?_
  subst he
  exact ⟨_, rfl, _, _, _, [], _, [], hW', trodAll_mk1 (shut_bool Try.underlying4 _), (trodAll_cons_mk (Below.trod matchBack_laidOut (by kernel_rfl) (of_decide_eq_true (by kernel_rfl)) k0 bel lt0) (trodAll_cons_mk (Below.trod matchBack_laidOut (by kernel_rfl) (of_decide_eq_true (by kernel_rfl)) k1 bel lt1) trodAll_mk0)), rfl, bel.frame _, fun h => by cases h⟩

theorem matchBack_holds : Rows.MatchBackSaid :=
  OpenClaim.holds_of_wide 5 Try.f5 rfl rfl rfl rfl rfl rfl rfl ⟨rfl, rfl, rfl, rfl, rfl⟩ rfl rfl rfl rfl rfl (by kernel_rfl) Try.func5 (by kernel_rfl)
    (of_decide_eq_true (by kernel_rfl)) (by unfold Func.isWrapper; first | (rw [if_pos (by decide +kernel)]; kernel_rfl) | (rw [if_neg (by decide +kernel)]; exact ⟨rfl, rfl⟩))
    (fun os started H enc _ => matchBack_lifted os started H enc)

#print axioms matchBack_holds

end Go.Proofs.Ytgnllemihbemfaa
