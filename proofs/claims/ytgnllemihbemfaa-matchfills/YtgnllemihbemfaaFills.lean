/-
  Proved: MatchFills returns true for every list of cells and every list of binds, and its arguments read behind the call as before.
-/
import Derived.Test.YtgnllemihbemfaaRows
import Derived.Test.YtgnllemihbemfaaRFill
import Derived.Test.YtgnllemihbemfaaOpen
import Derived.Test.YtgnllemihbemfaaOpenB
import Derived.ProofKit
import Derived.OpenShut
import Derived.ShutString
import Derived.ChangeOld
import Derived.Below
import Derived.SizedLaws
import Derived.Lib.SmallJoins
namespace Go.Proofs.Ytgnllemihbemfaa
open Go.ChangeShapes Go.WideShapes Go.ChangeAt Go.RowKit Go.Joins
open Go.ChangeMaps (open_string shut_string)
set_option linter.unusedVariables false
set_option maxRecDepth 100000
set_option linter.unusedSimpArgs false

theorem same_self (w : World) (u v : Value) (L : List Cl) (hu : Lies w u L) (hv : Lies w v L) :
    Calls Try.prog 17 #[u, v] w fun e w' => e = .returned (.bool true) ∧ Below w.heap.size w w' := by
  have := same_any w u v L L hu hv
  rwa [decide_eq_true rfl] at this
theorem fillM_fine (P : List Cl) (l : List Bd) : Fine (fillM P l) := by
  by_cases h : fillE P l = 0
  · exact fine_check (filled h).1
  · unfold fillM
    rw [if_neg h]
    intro c hc
    cases hc

set_option maxHeartbeats 4000000 in
theorem matchFills_walk (vp : Value) (P : List Cl) (vl : Value) (l : List Bd) (w : World) (hp : Lies w vp P) (zp : P.length * 24 ≤ 140737488355328) (hl : LiesB w vl l) (zl : l.length * 40 ≤ 140737488351232 ∧ ∀ b ∈ l, b.val.length * 24 ≤ 140737488355328) :
    Calls Try.prog 4 #[vp, vl] w fun e w' => e = .returned (.bool true) ∧ Below w.heap.size w w' := by
  have hwk := wakes_any w
  have hop : ∀ w1, Below w.heap.size w w1 → _ := fun w1 hb => own_any w1 vp P (hp.on hb) zp
  have hcb : ∀ w1, Below w.heap.size w w1 → _ := fun w1 hb => copyB_any w1 vl l (hl.on hb) zl.1 zl.2
  have hf1 : ∀ w1 a b, Lies w1 a P → LiesB w1 b l → _ := fun w1 a b x y => fill_any w1 a b P l x y
  have hrf : ∀ w1, Below w.heap.size w w1 → _ := fun w1 hb => rFill_any w1 vp vl P l (hp.on hb) (hl.on hb)
  have HFM : Hid (Fine (fillM P l)) := fillM_fine P l
  have hsm : ∀ w1 a b, Lies w1 a (fillM P l) → Lies w1 b (fillM P l) → _ := fun w1 a b x y => same_self w1 a b (fillM P l) x y
  obtain ⟨pa, pc, rfl, _⟩ := id hp
  obtain ⟨la, lc, rfl, hl1, hl2, _⟩ := id hl
  generalize fillM P l = M at hf1 hrf HFM hsm
  generalize fillE P l = E at hf1 hrf
  clear hp hl zl
  go_enter Try.func4, Try.ntmps4
  go_wp2_with (first
      | (go_at_call 9; refine hwk.mono ?_; rintro e w1 ⟨rfl, hb1⟩)
      | (go_at_call 11; refine (hop _ hb1).mono ?_; rintro e w2 ⟨u2, rfl, _, l2, hc⟩; have hb2 := hb1.trans (hc.mono hb1.size); clear hc hb1)
      | (go_at_call 15; refine (hcb _ hb2).mono ?_; rintro e w3 ⟨u3, rfl, _, b3, hc⟩; have l2a := l2.on hc; have hb3 := hb2.trans (hc.mono hb2.size); clear hc hb2 l2)
      | (go_at_call 14; refine (hf1 _ _ _ l2a b3).mono ?_; rintro e w4 ⟨u4, rfl, o4, hc⟩; have l4 := Owns.lies o4 HFM.out; have hb4 := hb3.trans (hc.mono hb3.size); clear hc hb3 l2a b3 o4)
      | (go_at_call 16; refine (hrf _ hb4).mono ?_; rintro e w5 ⟨u5, rfl, o5, hc⟩; have l5 := Owns.lies o5 HFM.out; have l4a := l4.on hc; have hb5 := hb4.trans (hc.mono hb4.size); clear hc hb4 l4 o5)
      | (go_at_call 17; refine (hsm _ _ _ l4a l5).mono ?_; rintro e w6 ⟨rfl, hc⟩; have hb6 := hb5.trans (hc.mono hb5.size)))
  go_ret
  exact ⟨rfl, hb6⟩

theorem matchFills_own : ownKnob Try.prog.godebug = none := by kernel_rfl
theorem matchFills_laidOut : laidOutB Try.prog = true := by kernel_rfl

set_option maxRecDepth 100000 in
theorem matchFills_lifted (os : Os) (started : os.Started) (H : Type) (enc : TypeId × Value → H) :
    ReturnsInHanded {} Try.checked os 4 .any (Rows.matchFillsSpec.pre6 enc Try.prog Try.f4 Rows.matchFillsRow.domain false) (Rows.matchFillsSpec.post enc Try.prog Try.f4 false true false false) := by
  refine returnsInHanded_of_change_sized (C := Try.checked) matchFills_own started (by kernel_rfl) Try.func4
    (ChangeSpec.witness6 (enc := enc) (C := Try.checked) false ⟨#[], #[.slice none 0 0, .slice none 0 0], []⟩ 8 (by kernel_rfl) (by kernel_rfl) (by kernel_rfl) (by kernel_rfl)) ?_
  intro W base args ds gs before hval0 hW hcnd hsz0 _
  have hsz : (DataW.weightsEach Try.prog (Try.f4.params.toList ++ Rows.matchFillsSpec.plain.varTypes Try.prog) (ds ++ gs)).all (· ≤ reachBytes) = true := hsz0
  have hval : ∀ (j : Nat) t v, Try.f4.params[j]? = some t → args[j]? = some v → Value.okWide Try.prog W .any base t v := hval0
  have hW' := hW
  obtain ⟨p, q, hA0, hV, rfl, hfz, hnd⟩ := hW
  have hA : DataW.TrodAll enc Try.prog W 0 (fun _ => true) true Try.f4.params.toList args.toList ds p := hA0
  rw [Try.params4] at hA hval hsz
  obtain ⟨v0, vs0, d0, ds0, p0, q0, hargs, rfl, rfl, h0, r0⟩ := trodAll_cons hA
  obtain ⟨v1, vs1, d1, ds1, p1, q1, rfl, rfl, rfl, h1, r1⟩ := trodAll_cons r0
  obtain ⟨rfl, rfl, rfl⟩ := trodAll_nil r1
  obtain rfl : args = #[v0, v1] := by cases args; simp_all
  obtain ⟨rfl, rfl⟩ := trodVars_none hV
  have k0 := h0
  have lt0 : ∀ x ∈ p0, x.block < W.heap.size := by obtain ⟨m, hm⟩ := k0; exact DataW.trod_lt m _ _ _ hm
  have k1 := h1
  have lt1 : ∀ x ∈ p1, x.block < W.heap.size := by obtain ⟨m, hm⟩ := k1; exact DataW.trod_lt m _ _ _ hm
  obtain ⟨L0, l0, z0⟩ := open_cells (hval 0 23 v0 rfl rfl) h0 (fun n hn => by simpa using List.all_eq_true.1 hsz n (DataW.weights_mem_each (j := 0) (t := 23) rfl rfl n hn))
  obtain ⟨L1, l1, z1⟩ := open_binds (hval 1 25 v1 rfl rfl) h1 (fun n hn => by simpa using List.all_eq_true.1 hsz n (DataW.weights_mem_each (j := 1) (t := 25) rfl rfl n hn))
  clear hA0 hval0
  refine (matchFills_walk v0 L0 v1 L1 W l0 z0 l1 z1).mono fun e W' ⟨he, bel⟩ => ?_
  subst he
  exact ⟨_, rfl, _, _, _, [], _, [], hW', trodAll_mk1 (shut_bool Try.underlying4 _), (trodAll_cons_mk (Below.trod matchFills_laidOut (by kernel_rfl) (of_decide_eq_true (by kernel_rfl)) k0 bel lt0) (trodAll_cons_mk (Below.trod matchFills_laidOut (by kernel_rfl) (of_decide_eq_true (by kernel_rfl)) k1 bel lt1) trodAll_mk0)), rfl, bel.frame _, fun h => by cases h⟩

theorem matchFills_holds : Rows.MatchFillsSaid :=
  OpenClaim.holds_of_wide 4 Try.f4 rfl rfl rfl rfl rfl rfl rfl ⟨rfl, rfl, rfl, rfl, rfl⟩ rfl rfl rfl rfl rfl (by kernel_rfl) Try.func4 (by kernel_rfl)
    (of_decide_eq_true (by kernel_rfl)) (by unfold Func.isWrapper; first | (rw [if_pos (by decide +kernel)]; kernel_rfl) | (rw [if_neg (by decide +kernel)]; exact ⟨rfl, rfl⟩))
    (fun os started H enc _ => matchFills_lifted os started H enc)

#print axioms matchFills_holds

end Go.Proofs.Ytgnllemihbemfaa
