/-
  Proved: MatchChain returns true for every three lists of cells, and its arguments read behind the call as before.
-/
import Derived.Test.YtgnllemihbemfaaRows
import Derived.Test.YtgnllemihbemfaaWakes
import Derived.Test.YtgnllemihbemfaaOpen
import Derived.ProofKit
import Derived.OpenShut
import Derived.ShutString
import Derived.ChangeOld
import Derived.Below
import Derived.SizedLaws
import Derived.Lib.SmallJoins
namespace Go.Proofs.Ytgnllemihbemfaa
open Go.ChangeShapes Go.WideShapes Go.ChangeAt Go.RowKit Go.Joins
open Go.ChangeMaps (open_string shut_string)
set_option linter.unusedVariables false
set_option maxRecDepth 100000
set_option linter.unusedSimpArgs false

set_option maxHeartbeats 4000000 in
theorem matchChain_walk (vp : Value) (P : List Cl) (vq : Value) (Q : List Cl) (vt : Value) (T : List Cl) (w : World) (hp : Lies w vp P) (zp : P.length * 24 ≤ 140737488355328) (hq : Lies w vq Q) (zq : Q.length * 24 ≤ 140737488355328) (ht : Lies w vt T) (zt : T.length * 24 ≤ 140737488355328) :
    Calls Try.prog 7 #[vp, vq, vt] w fun e w' => e = .returned (.bool true) ∧ Below w.heap.size w w' := by
  have hwk := wakes_any w
  have hop : ∀ w1, Below w.heap.size w w1 → _ := fun w1 hb => own_any w1 vp P (hp.on hb) zp
  have hoq : ∀ w1, Below w.heap.size w w1 → _ := fun w1 hb => own_any w1 vq Q (hq.on hb) zq
  have hot : ∀ w1, Below w.heap.size w w1 → _ := fun w1 hb => own_any w1 vt T (ht.on hb) zt
  have hm1 : ∀ w1 a b, Lies w1 a P → Lies w1 b Q → _ := fun w1 a b x y => match_any w1 a b P Q x y
  have hm2 : ∀ w1 a b, Lies w1 a Q → Lies w1 b T → _ := fun w1 a b x y => match_any w1 a b Q T x y
  have hm3 : ∀ w1 a b, Lies w1 a P → Lies w1 b T → _ := fun w1 a b x y => match_any w1 a b P T x y
  have hch := @chain P Q T
  obtain ⟨pa, pc, rfl, _⟩ := id hp
  obtain ⟨qa, qc, rfl, _⟩ := id hq
  obtain ⟨ta, tc, rfl, _⟩ := id ht
  clear hp hq ht
  by_cases h1 : ce P Q = 0
  · rw [h1] at hm1
    by_cases h2 : ce Q T = 0
    · rw [h2] at hm2
      cases h3 : mt P Q with
      | none =>
        rw [h3] at hm1
        simp only [Option.isSome_none] at hm1
        cases h4 : mt Q T with
        | none =>
          rw [h4] at hm2
          simp only [Option.isSome_none] at hm2
          clear hm3 hch h1 h2 h3 h4
          go_enter Try.func7, Try.ntmps7
          go_wp2_with (first
      | (go_at_call 9; refine hwk.mono ?_; rintro e w1 ⟨rfl, hb1⟩)
      | (go_at_call 11; refine (hop _ hb1).mono ?_; rintro e w2 ⟨u2, rfl, _, l2, hc⟩; have hb2 := hb1.trans (hc.mono hb1.size); clear hc hb1)
      | (go_at_call 11; refine (hoq _ hb2).mono ?_; rintro e w3 ⟨u3, rfl, _, l3, hc⟩; have l2a := l2.on hc; have hb3 := hb2.trans (hc.mono hb2.size); clear hc hb2 l2)
      | (go_at_call 10; refine (hm1 _ _ _ l2a l3).mono ?_; rintro e w4 ⟨m4, rfl, o4, hc⟩; have hb4 := hb3.trans (hc.mono hb3.size); clear hc hb3 l2a l3)
      | (go_at_call 11; refine (hoq _ hb4).mono ?_; rintro e w5 ⟨u5, rfl, _, l5, hc⟩; have hb5 := hb4.trans (hc.mono hb4.size); clear hc hb4)
      | (go_at_call 11; refine (hot _ hb5).mono ?_; rintro e w6 ⟨u6, rfl, _, l6, hc⟩; have l5a := l5.on hc; have hb6 := hb5.trans (hc.mono hb5.size); clear hc hb5 l5)
      | (go_at_call 10; refine (hm2 _ _ _ l5a l6).mono ?_; rintro e w7 ⟨m7, rfl, o7, hc⟩; have hb7 := hb6.trans (hc.mono hb6.size); clear hc hb6 l5a l6))
          go_ret
          exact ⟨rfl, hb7⟩
        | some b =>
          rw [h4] at hm2
          simp only [Option.isSome_some] at hm2
          clear hm3 hch h1 h2 h3 h4
          go_enter Try.func7, Try.ntmps7
          go_wp2_with (first
      | (go_at_call 9; refine hwk.mono ?_; rintro e w1 ⟨rfl, hb1⟩)
      | (go_at_call 11; refine (hop _ hb1).mono ?_; rintro e w2 ⟨u2, rfl, _, l2, hc⟩; have hb2 := hb1.trans (hc.mono hb1.size); clear hc hb1)
      | (go_at_call 11; refine (hoq _ hb2).mono ?_; rintro e w3 ⟨u3, rfl, _, l3, hc⟩; have l2a := l2.on hc; have hb3 := hb2.trans (hc.mono hb2.size); clear hc hb2 l2)
      | (go_at_call 10; refine (hm1 _ _ _ l2a l3).mono ?_; rintro e w4 ⟨m4, rfl, o4, hc⟩; have hb4 := hb3.trans (hc.mono hb3.size); clear hc hb3 l2a l3)
      | (go_at_call 11; refine (hoq _ hb4).mono ?_; rintro e w5 ⟨u5, rfl, _, l5, hc⟩; have hb5 := hb4.trans (hc.mono hb4.size); clear hc hb4)
      | (go_at_call 11; refine (hot _ hb5).mono ?_; rintro e w6 ⟨u6, rfl, _, l6, hc⟩; have l5a := l5.on hc; have hb6 := hb5.trans (hc.mono hb5.size); clear hc hb5 l5)
      | (go_at_call 10; refine (hm2 _ _ _ l5a l6).mono ?_; rintro e w7 ⟨m7, rfl, o7, hc⟩; have hb7 := hb6.trans (hc.mono hb6.size); clear hc hb6 l5a l6))
          go_ret
          exact ⟨rfl, hb7⟩
      | some a =>
        rw [h3] at hm1
        simp only [Option.isSome_some] at hm1
        cases h4 : mt Q T with
        | none =>
          rw [h4] at hm2
          simp only [Option.isSome_none] at hm2
          clear hm3 hch h1 h2 h3 h4
          go_enter Try.func7, Try.ntmps7
          go_wp2_with (first
      | (go_at_call 9; refine hwk.mono ?_; rintro e w1 ⟨rfl, hb1⟩)
      | (go_at_call 11; refine (hop _ hb1).mono ?_; rintro e w2 ⟨u2, rfl, _, l2, hc⟩; have hb2 := hb1.trans (hc.mono hb1.size); clear hc hb1)
      | (go_at_call 11; refine (hoq _ hb2).mono ?_; rintro e w3 ⟨u3, rfl, _, l3, hc⟩; have l2a := l2.on hc; have hb3 := hb2.trans (hc.mono hb2.size); clear hc hb2 l2)
      | (go_at_call 10; refine (hm1 _ _ _ l2a l3).mono ?_; rintro e w4 ⟨m4, rfl, o4, hc⟩; have hb4 := hb3.trans (hc.mono hb3.size); clear hc hb3 l2a l3)
      | (go_at_call 11; refine (hoq _ hb4).mono ?_; rintro e w5 ⟨u5, rfl, _, l5, hc⟩; have hb5 := hb4.trans (hc.mono hb4.size); clear hc hb4)
      | (go_at_call 11; refine (hot _ hb5).mono ?_; rintro e w6 ⟨u6, rfl, _, l6, hc⟩; have l5a := l5.on hc; have hb6 := hb5.trans (hc.mono hb5.size); clear hc hb5 l5)
      | (go_at_call 10; refine (hm2 _ _ _ l5a l6).mono ?_; rintro e w7 ⟨m7, rfl, o7, hc⟩; have hb7 := hb6.trans (hc.mono hb6.size); clear hc hb6 l5a l6))
          go_ret
          exact ⟨rfl, hb7⟩
        | some b =>
          rw [h4] at hm2
          simp only [Option.isSome_some] at hm2
          obtain ⟨c, h5⟩ := hch h3 h4
          have h6 : ce P T = 0 := by have := mt_some h5; unfold ce; rw [if_pos this.1]; exact this.2.1
          rw [h5, h6] at hm3
          simp only [Option.isSome_some] at hm3
          clear hch h1 h2 h3 h4 h5 h6
          go_enter Try.func7, Try.ntmps7
          go_wp2_with (first
      | (go_at_call 9; refine hwk.mono ?_; rintro e w1 ⟨rfl, hb1⟩)
      | (go_at_call 11; refine (hop _ hb1).mono ?_; rintro e w2 ⟨u2, rfl, _, l2, hc⟩; have hb2 := hb1.trans (hc.mono hb1.size); clear hc hb1)
      | (go_at_call 11; refine (hoq _ hb2).mono ?_; rintro e w3 ⟨u3, rfl, _, l3, hc⟩; have l2a := l2.on hc; have hb3 := hb2.trans (hc.mono hb2.size); clear hc hb2 l2)
      | (go_at_call 10; refine (hm1 _ _ _ l2a l3).mono ?_; rintro e w4 ⟨m4, rfl, o4, hc⟩; have hb4 := hb3.trans (hc.mono hb3.size); clear hc hb3 l2a l3)
      | (go_at_call 11; refine (hoq _ hb4).mono ?_; rintro e w5 ⟨u5, rfl, _, l5, hc⟩; have hb5 := hb4.trans (hc.mono hb4.size); clear hc hb4)
      | (go_at_call 11; refine (hot _ hb5).mono ?_; rintro e w6 ⟨u6, rfl, _, l6, hc⟩; have l5a := l5.on hc; have hb6 := hb5.trans (hc.mono hb5.size); clear hc hb5 l5)
      | (go_at_call 10; refine (hm2 _ _ _ l5a l6).mono ?_; rintro e w7 ⟨m7, rfl, o7, hc⟩; have hb7 := hb6.trans (hc.mono hb6.size); clear hc hb6 l5a l6)
      | (go_at_call 11; refine (hop _ hb7).mono ?_; rintro e w8 ⟨u8, rfl, _, l8, hc⟩; have hb8 := hb7.trans (hc.mono hb7.size); clear hc hb7)
      | (go_at_call 11; refine (hot _ hb8).mono ?_; rintro e w9 ⟨u9, rfl, _, l9, hc⟩; have l8a := l8.on hc; have hb9 := hb8.trans (hc.mono hb8.size); clear hc hb8 l8)
      | (go_at_call 10; refine (hm3 _ _ _ l8a l9).mono ?_; rintro e w10 ⟨m10, rfl, o10, hc⟩; have hb10 := hb9.trans (hc.mono hb9.size); clear hc hb9 l8a l9))
          go_ret
          exact ⟨rfl, hb10⟩
    · have h4 : mt Q T = none := by unfold mt; rw [if_neg h2]
      rw [h4] at hm2
      simp only [Option.isSome_none] at hm2
      generalize ce Q T = e0 at hm2 h2
      have e1 : ((e0 : Int) == 0) = false := by simp only [beq_eq_false_iff_ne]; omega
      have e2 : ¬ (e0 : Int) = 0 := by omega
      generalize (mt P Q).isSome = bb at hm1
      clear hm3 hch h1 h2 h4
      go_enter Try.func7, Try.ntmps7
      go_wp2_with (first
      | (go_at_call 9; refine hwk.mono ?_; rintro e w1 ⟨rfl, hb1⟩)
      | (go_at_call 11; refine (hop _ hb1).mono ?_; rintro e w2 ⟨u2, rfl, _, l2, hc⟩; have hb2 := hb1.trans (hc.mono hb1.size); clear hc hb1)
      | (go_at_call 11; refine (hoq _ hb2).mono ?_; rintro e w3 ⟨u3, rfl, _, l3, hc⟩; have l2a := l2.on hc; have hb3 := hb2.trans (hc.mono hb2.size); clear hc hb2 l2)
      | (go_at_call 10; refine (hm1 _ _ _ l2a l3).mono ?_; rintro e w4 ⟨m4, rfl, o4, hc⟩; have hb4 := hb3.trans (hc.mono hb3.size); clear hc hb3 l2a l3)
      | (go_at_call 11; refine (hoq _ hb4).mono ?_; rintro e w5 ⟨u5, rfl, _, l5, hc⟩; have hb5 := hb4.trans (hc.mono hb4.size); clear hc hb4)
      | (go_at_call 11; refine (hot _ hb5).mono ?_; rintro e w6 ⟨u6, rfl, _, l6, hc⟩; have l5a := l5.on hc; have hb6 := hb5.trans (hc.mono hb5.size); clear hc hb5 l5)
      | (go_at_call 10; refine (hm2 _ _ _ l5a l6).mono ?_; rintro e w7 ⟨m7, rfl, o7, hc⟩; have hb7 := hb6.trans (hc.mono hb6.size); clear hc hb6 l5a l6))
      go_ret
      exact ⟨rfl, hb7⟩
  · generalize ce P Q = e0 at hm1 h1
    have e1 : ((e0 : Int) == 0) = false := by simp only [beq_eq_false_iff_ne]; omega
    have e2 : ¬ (e0 : Int) = 0 := by omega
    generalize (mt P Q).isSome = bb at hm1
    generalize (mt Q T).isSome = bb2 at hm2
    generalize ce Q T = e9 at hm2
    clear hm3 hch h1
    go_enter Try.func7, Try.ntmps7
    go_wp2_with (first
      | (go_at_call 9; refine hwk.mono ?_; rintro e w1 ⟨rfl, hb1⟩)
      | (go_at_call 11; refine (hop _ hb1).mono ?_; rintro e w2 ⟨u2, rfl, _, l2, hc⟩; have hb2 := hb1.trans (hc.mono hb1.size); clear hc hb1)
      | (go_at_call 11; refine (hoq _ hb2).mono ?_; rintro e w3 ⟨u3, rfl, _, l3, hc⟩; have l2a := l2.on hc; have hb3 := hb2.trans (hc.mono hb2.size); clear hc hb2 l2)
      | (go_at_call 10; refine (hm1 _ _ _ l2a l3).mono ?_; rintro e w4 ⟨m4, rfl, o4, hc⟩; have hb4 := hb3.trans (hc.mono hb3.size); clear hc hb3 l2a l3)
      | (go_at_call 11; refine (hoq _ hb4).mono ?_; rintro e w5 ⟨u5, rfl, _, l5, hc⟩; have hb5 := hb4.trans (hc.mono hb4.size); clear hc hb4)
      | (go_at_call 11; refine (hot _ hb5).mono ?_; rintro e w6 ⟨u6, rfl, _, l6, hc⟩; have l5a := l5.on hc; have hb6 := hb5.trans (hc.mono hb5.size); clear hc hb5 l5)
      | (go_at_call 10; refine (hm2 _ _ _ l5a l6).mono ?_; rintro e w7 ⟨m7, rfl, o7, hc⟩; have hb7 := hb6.trans (hc.mono hb6.size); clear hc hb6 l5a l6))
    go_ret
    exact ⟨rfl, hb7⟩

theorem matchChain_own : ownKnob Try.prog.godebug = none := by kernel_rfl
theorem matchChain_laidOut : laidOutB Try.prog = true := by kernel_rfl

set_option maxRecDepth 100000 in
theorem matchChain_lifted (os : Os) (started : os.Started) (H : Type) (enc : TypeId × Value → H) :
    ReturnsInHanded {} Try.checked os 7 .any (Rows.matchChainSpec.pre6 enc Try.prog Try.f7 Rows.matchChainRow.domain false) (Rows.matchChainSpec.post enc Try.prog Try.f7 false true false false) := by
  refine returnsInHanded_of_change_sized (C := Try.checked) matchChain_own started (by kernel_rfl) Try.func7
    (ChangeSpec.witness6 (enc := enc) (C := Try.checked) false ⟨#[], #[.slice none 0 0, .slice none 0 0, .slice none 0 0], []⟩ 8 (by kernel_rfl) (by kernel_rfl) (by kernel_rfl) (by kernel_rfl)) ?_
  intro W base args ds gs before hval0 hW hcnd hsz0 _
  have hsz : (DataW.weightsEach Try.prog (Try.f7.params.toList ++ Rows.matchChainSpec.plain.varTypes Try.prog) (ds ++ gs)).all (· ≤ reachBytes) = true := hsz0
  have hval : ∀ (j : Nat) t v, Try.f7.params[j]? = some t → args[j]? = some v → Value.okWide Try.prog W .any base t v := hval0
  have hW' := hW
  obtain ⟨p, q, hA0, hV, rfl, hfz, hnd⟩ := hW
  have hA : DataW.TrodAll enc Try.prog W 0 (fun _ => true) true Try.f7.params.toList args.toList ds p := hA0
  rw [Try.params7] at hA hval hsz
  obtain ⟨v0, vs0, d0, ds0, p0, q0, hargs, rfl, rfl, h0, r0⟩ := trodAll_cons hA
  obtain ⟨v1, vs1, d1, ds1, p1, q1, rfl, rfl, rfl, h1, r1⟩ := trodAll_cons r0
  obtain ⟨v2, vs2, d2, ds2, p2, q2, rfl, rfl, rfl, h2, r2⟩ := trodAll_cons r1
  obtain ⟨rfl, rfl, rfl⟩ := trodAll_nil r2
  obtain rfl : args = #[v0, v1, v2] := by cases args; simp_all
  obtain ⟨rfl, rfl⟩ := trodVars_none hV
  have k0 := h0
  have lt0 : ∀ x ∈ p0, x.block < W.heap.size := by obtain ⟨m, hm⟩ := k0; exact DataW.trod_lt m _ _ _ hm
  have k1 := h1
  have lt1 : ∀ x ∈ p1, x.block < W.heap.size := by obtain ⟨m, hm⟩ := k1; exact DataW.trod_lt m _ _ _ hm
  have k2 := h2
  have lt2 : ∀ x ∈ p2, x.block < W.heap.size := by obtain ⟨m, hm⟩ := k2; exact DataW.trod_lt m _ _ _ hm
  obtain ⟨L0, l0, z0⟩ := open_cells (hval 0 23 v0 rfl rfl) h0 (fun n hn => by simpa using List.all_eq_true.1 hsz n (DataW.weights_mem_each (j := 0) (t := 23) rfl rfl n hn))
  obtain ⟨L1, l1, z1⟩ := open_cells (hval 1 23 v1 rfl rfl) h1 (fun n hn => by simpa using List.all_eq_true.1 hsz n (DataW.weights_mem_each (j := 1) (t := 23) rfl rfl n hn))
  obtain ⟨L2, l2, z2⟩ := open_cells (hval 2 23 v2 rfl rfl) h2 (fun n hn => by simpa using List.all_eq_true.1 hsz n (DataW.weights_mem_each (j := 2) (t := 23) rfl rfl n hn))
  clear hA0 hval0
  refine (matchChain_walk v0 L0 v1 L1 v2 L2 W l0 z0 l1 z1 l2 z2).mono fun e W' ⟨he, bel⟩ => ?_
  subst he
  exact ⟨_, rfl, _, _, _, [], _, [], hW', trodAll_mk1 (shut_bool Try.underlying4 _), (trodAll_cons_mk (Below.trod matchChain_laidOut (by kernel_rfl) (of_decide_eq_true (by kernel_rfl)) k0 bel lt0) (trodAll_cons_mk (Below.trod matchChain_laidOut (by kernel_rfl) (of_decide_eq_true (by kernel_rfl)) k1 bel lt1) (trodAll_cons_mk (Below.trod matchChain_laidOut (by kernel_rfl) (of_decide_eq_true (by kernel_rfl)) k2 bel lt2) trodAll_mk0))), rfl, bel.frame _, fun h => by cases h⟩

theorem matchChain_holds : Rows.MatchChainSaid :=
  OpenClaim.holds_of_wide 7 Try.f7 rfl rfl rfl rfl rfl rfl rfl ⟨rfl, rfl, rfl, rfl, rfl⟩ rfl rfl rfl rfl rfl (by kernel_rfl) Try.func7 (by kernel_rfl)
    (of_decide_eq_true (by kernel_rfl)) (by unfold Func.isWrapper; first | (rw [if_pos (by decide +kernel)]; kernel_rfl) | (rw [if_neg (by decide +kernel)]; exact ⟨rfl, rfl⟩))
    (fun os started H enc _ => matchChain_lifted os started H enc)

#print axioms matchChain_holds

end Go.Proofs.Ytgnllemihbemfaa
