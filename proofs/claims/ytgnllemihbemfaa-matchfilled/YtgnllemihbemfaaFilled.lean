/-
  Proved: MatchFilled returns true for every list of cells and every list of binds, and its arguments read behind the call as before.
-/
import Derived.Test.YtgnllemihbemfaaRows
import Derived.Test.YtgnllemihbemfaaRefB
import Derived.Test.YtgnllemihbemfaaOpen
import Derived.Test.YtgnllemihbemfaaOpenB
import Derived.Deep.RegionHeld3
import Derived.ProofKit
import Derived.OpenShut
import Derived.ShutString
import Derived.ChangeOld
import Derived.Below
import Derived.SizedLaws
import Derived.Lib.SmallJoins
namespace Go.Proofs.Ytgnllemihbemfaa
open Go.ChangeShapes Go.WideShapes Go.ChangeAt Go.RowKit Go.Joins
open Go.ChangeMaps (open_string shut_string)
set_option linter.unusedVariables false
set_option maxRecDepth 100000
set_option linter.unusedSimpArgs false

theorem same_self (w : World) (u v : Value) (L : List Cl) (hu : Lies w u L) (hv : Lies w v L) :
    Calls Try.prog 17 #[u, v] w fun e w' => e = .returned (.bool true) ∧ Below w.heap.size w w' := by
  have := same_any w u v L L hu hv
  rwa [decide_eq_true rfl] at this
theorem acc_fine {P T : List Cl} {acc : List Bd} (h : mt P T = some acc) : ∀ b ∈ acc, Fine b.val ∧ b.nm.size ≤ 9223372036854775807 := fun b hb => by
  obtain ⟨h1, h2⟩ := (mt_facts h).2.1 b hb
  exact ⟨fine_check h1, by have := nm_size h2; omega⟩
theorem LiesB.at {w : World} {a : Option Addr} {n c : Nat} {l : List Bd} (h : LiesB w (.slice a n c) l) {i : Nat} {nm : ByteArray} {val : List Cl} (hi : l[i]? = some ⟨nm, val⟩) :
    ∃ g off x, a = some ⟨g, off, none⟩ ∧ g < w.heap.size ∧ w.cell? ⟨g, off + i * 2, none⟩ = some (.string nm) ∧ w.cell? ⟨g, off + i * 2 + 1, none⟩ = some x ∧ Lies w x val := by
  obtain ⟨a', c', hv', _, _, HC'⟩ := h
  injection hv' with e1 _ _
  subst e1
  obtain ⟨g, off, x, h1, h2, h3, h4, h5, _⟩ := HC' i _ hi
  exact ⟨g, off, x, h1, h2, h3, h4, h5⟩

set_option maxHeartbeats 4000000 in
theorem matchFilled_walk (vp : Value) (P : List Cl) (vl : Value) (l : List Bd) (w : World) (hp : Lies w vp P) (zp : P.length * 24 ≤ 140737488355328) (hl : LiesB w vl l) (zl : l.length * 40 ≤ 140737488351232 ∧ ∀ b ∈ l, b.val.length * 24 ≤ 140737488355328) :
    Calls Try.prog 6 #[vp, vl] w fun e w' => e = .returned (.bool true) ∧ Below w.heap.size w w' := by
  have hwk := wakes_any w
  have hop : ∀ w1, Below w.heap.size w w1 → _ := fun w1 hb => own_any w1 vp P (hp.on hb) zp
  have hcb : ∀ w1, Below w.heap.size w w1 → _ := fun w1 hb => copyB_any w1 vl l (hl.on hb) zl.1 zl.2
  have hf1 : ∀ w1 a b, Lies w1 a P → LiesB w1 b l → _ := fun w1 a b x y => fill_any w1 a b P l x y
  have HLB : Hid (LiesB w vl l) := hl
  obtain ⟨pa, pc, rfl, _⟩ := id hp
  obtain ⟨la, lc, rfl, hl1, hl2, _⟩ := id hl
  clear hp hl zl
  by_cases h0 : fillE P l = 0
  · have hfil := filled h0
    rw [h0] at hf1
    generalize fillM P l = T at hf1 hfil
    obtain ⟨hTc, acc, ha, hacc⟩ := hfil
    have hPc := (mt_some ha).1
    have hce : ce P T = 0 := by unfold ce; rw [if_pos hPc]; exact hTc
    have HFT : Hid (Fine T) := fine_check hTc
    have HFA : Hid (∀ b ∈ acc, Fine b.val ∧ b.nm.size ≤ 9223372036854775807) := acc_fine ha
    have HACC : Hid (∀ b ∈ acc, look l b.nm = some b.val) := hacc
    have hm1 : ∀ w1 a b, Lies w1 a P → Lies w1 b T → _ := fun w1 a b x y => match_any w1 a b P T x y
    rw [ha, hce] at hm1
    simp only [Option.isSome_some, Option.getD_some] at hm1
    clear h0 hTc hPc hce ha hacc
    go_enter Try.func6, Try.ntmps6
    go_wp2_with (first
      | (go_at_call 9; refine hwk.mono ?_; rintro e w1 ⟨rfl, hb1⟩)
      | (go_at_call 11; refine (hop _ hb1).mono ?_; rintro e w2 ⟨u2, rfl, _, l2, hc⟩; have hb2 := hb1.trans (hc.mono hb1.size); clear hc hb1)
      | (go_at_call 15; refine (hcb _ hb2).mono ?_; rintro e w3 ⟨u3, rfl, _, b3, hc⟩; have l2a := l2.on hc; have hb3 := hb2.trans (hc.mono hb2.size); clear hc hb2 l2)
      | (go_at_call 14; refine (hf1 _ _ _ l2a b3).mono ?_; rintro e w4 ⟨u4, rfl, o4, hc⟩; obtain ⟨fa4, fc4, hfm, _⟩ := own_cells o4; subst hfm; have l4 := Owns.lies o4 HFT.out; have hb4 := hb3.trans (hc.mono hb3.size); clear hc hb3 l2a b3)
      | (go_at_call 11; refine (hop _ hb4).mono ?_; rintro e w5 ⟨u5, rfl, _, l5, hc⟩; have l4a := l4.on hc; have hb5 := hb4.trans (hc.mono hb4.size); clear hc hb4 l4)
      | (go_at_call 10; refine (hm1 _ _ _ l5 l4a).mono ?_; rintro e w6 ⟨m6, rfl, o6, hc⟩; obtain ⟨fa6, fc6, hfm, fk6, fl6⟩ := o6.form; subst hfm; have b6 := o6.lies HFA.out; have hb6 := hb5.trans (hc.mono hb5.size); clear hc hb5 l5 l4a))
    have HB6 : Hid (LiesB w6 (.slice fa6 acc.length fc6) acc) := b6
    have HBW : Hid (Below w.heap.size w w6) := hb6
    have hs6 := hb6.size
    have ham : acc.length ≤ 9223372036854775807 := by unfold maxLen at fl6; omega
    have hlm : l.length ≤ 9223372036854775807 := by unfold maxLen at hl2; omega
    clear b6 hb6 hop hcb hf1 hm1 o4 o6 hwk
    go_loopw [43] (fun i wr => ∃ k : Nat, k ≤ acc.length ∧ i = .int .i64 (k : Nat) ∧ Below w6.heap.size w6 wr) (fun i _ => acc.length - (intOf i).toNat)
    case atStart => exact ⟨0, Nat.zero_le _, rfl, Below.refl _ _⟩
    case round =>
      obtain ⟨k, hk, rfl, hbr⟩ := hrel
      have hbs := hbr.size
      have hbw : Below w.heap.size w wr := HBW.out.trans (hbr.mono hs6)
      by_cases hlt : k < acc.length
      · obtain ⟨bd, hbd⟩ : ∃ b, acc[k]? = some b := ⟨acc[k], List.getElem?_eq_getElem hlt⟩
        have hlk := HACC.out bd (List.mem_of_getElem? hbd)
        obtain ⟨nm, val⟩ := bd
        simp only at hlk
        obtain ⟨j, hj⟩ : ∃ j, idx l nm = some j := by
          cases h : idx l nm with
          | none => rw [idx_none.1 h] at hlk; cases hlk
          | some j => exact ⟨j, rfl⟩
        obtain ⟨v2, hlj, hlk2⟩ := idx_some hj
        have e2 : v2 = val := by rw [hlk] at hlk2; cases hlk2; rfl
        subst e2
        have hjl : j < l.length := (List.getElem?_eq_some_iff.1 hlj).1
        have hat := at_any wr _ l nm (HLB.out.on hbw)
        have hai : atI l nm = (j : Int) := by unfold atI; rw [hj]
        rw [hai] at hat
        obtain ⟨g1, o1, x1, hfa, g1l, c1, c2, m1⟩ := (HB6.out.on hbr).at hbd
        obtain ⟨g2, o2, x2, hla, g2l, c3, c4, m2⟩ := (HLB.out.on hbw).at hlj
        subst hfa hla
        have HB00 : Below wr.heap.size wr wr.drew := (Below.refl _ wr).drew
        have d2 : wr.drew.cell? ⟨g1, o1 + k * 2 + 1, none⟩ = some x1 := c2
        have d4 : wr.drew.cell? ⟨g2, o2 + j * 2 + 1, none⟩ = some x2 := c4
        have HBD : Hid (Below w6.heap.size w6 wr.drew) := hbr.drew
        have hki : (k : Int) < (acc.length : Int) := by omega
        have hji : (j : Int) < (l.length : Int) := by omega
        have hjn : decide ((j : Int) < 0) = false := decide_eq_false (by omega)
        have hjp : ¬ (j : Int) < 0 := by omega
        obtain ⟨ya, yc, hx1, _⟩ := id m1
        obtain ⟨za, zc, hx2, _⟩ := id m2
        subst hx1 hx2
        have HM1 : Hid (Lies wr (.slice ya v2.length yc) v2) := m1
        have HM2 : Hid (Lies wr (.slice za v2.length zc) v2) := m2
        clear m1 m2
        clear hbd hlk hj hlj hlk2 hai hbr
        go_wp2_with (first | (go_at_call 19; refine hat.mono ?_; rintro e w7 ⟨rfl, rfl⟩))
        go_region_held3 (fun w' => w'.cell? ⟨g1, o1 + k * 2 + 1, none⟩ = some (.slice ya v2.length yc) ∧ w'.cell? ⟨g2, o2 + j * 2 + 1, none⟩ = some (.slice za v2.length zc) ∧ Below wr.heap.size wr w') (first | exact ⟨d2, d4, HB00⟩ | exact HS9 | go_keep)
          (first | (go_at_call 17; refine (same_self _ _ _ v2 (HM2.out.on (by assumption)) (HM1.out.on (by assumption))).mono ?_; rintro e w8 ⟨rfl, hb8⟩; have HS9 : w8.cell? ⟨g1, o1 + k * 2 + 1, none⟩ = some (.slice ya v2.length yc) ∧ w8.cell? ⟨g2, o2 + j * 2 + 1, none⟩ = some (.slice za v2.length zc) ∧ Below wr.heap.size wr w8 := ⟨(hb8.cell (p := ⟨g1, o1 + k * 2 + 1, none⟩) g1l).trans d2, (hb8.cell (p := ⟨g2, o2 + j * 2 + 1, none⟩) g2l).trans d4, HB00.trans hb8⟩; have hb9 : Below w6.heap.size w6 w8 := HBD.out.trans (hb8.mono hbs)))
        all_goals
          (go_wp2_with fail
           go_roundw
           case rel => exact ⟨k + 1, by omega, by go_num, hb9⟩
           case measure => simp [intOf]; omega)
      · have hki : ¬ (k : Int) < (acc.length : Int) := by omega
        go_wp2_with fail
        go_ret
        exact ⟨rfl, hbw⟩
  · have hM : fillM P l = [] := by unfold fillM; rw [if_neg h0]
    rw [hM] at hf1
    generalize fillE P l = e0 at hf1 h0
    have e1 : ((e0 : Int) == 0) = false := by simp only [beq_eq_false_iff_ne]; omega
    have e2 : ¬ (e0 : Int) = 0 := by omega
    clear h0 hM
    go_enter Try.func6, Try.ntmps6
    go_wp2_with (first
      | (go_at_call 9; refine hwk.mono ?_; rintro e w1 ⟨rfl, hb1⟩)
      | (go_at_call 11; refine (hop _ hb1).mono ?_; rintro e w2 ⟨u2, rfl, _, l2, hc⟩; have hb2 := hb1.trans (hc.mono hb1.size); clear hc hb1)
      | (go_at_call 15; refine (hcb _ hb2).mono ?_; rintro e w3 ⟨u3, rfl, _, b3, hc⟩; have l2a := l2.on hc; have hb3 := hb2.trans (hc.mono hb2.size); clear hc hb2 l2)
      | (go_at_call 14; refine (hf1 _ _ _ l2a b3).mono ?_; rintro e w4 ⟨u4, rfl, o4, hc⟩; obtain ⟨fa4, fc4, hfm, _⟩ := own_cells o4; subst hfm; have hb4 := hb3.trans (hc.mono hb3.size); clear hc hb3 l2a b3))
    go_ret
    exact ⟨rfl, hb4⟩

theorem matchFilled_own : ownKnob Try.prog.godebug = none := by kernel_rfl
theorem matchFilled_laidOut : laidOutB Try.prog = true := by kernel_rfl

set_option maxRecDepth 100000 in
theorem matchFilled_lifted (os : Os) (started : os.Started) (H : Type) (enc : TypeId × Value → H) :
    ReturnsInHanded {} Try.checked os 6 .any (Rows.matchFilledSpec.pre6 enc Try.prog Try.f6 Rows.matchFilledRow.domain false) (Rows.matchFilledSpec.post enc Try.prog Try.f6 false true false false) := by
  refine returnsInHanded_of_change_sized (C := Try.checked) matchFilled_own started (by kernel_rfl) Try.func6
    (ChangeSpec.witness6 (enc := enc) (C := Try.checked) false ⟨#[], #[.slice none 0 0, .slice none 0 0], []⟩ 8 (by kernel_rfl) (by kernel_rfl) (by kernel_rfl) (by kernel_rfl)) ?_
  intro W base args ds gs before hval0 hW hcnd hsz0 _
  have hsz : (DataW.weightsEach Try.prog (Try.f6.params.toList ++ Rows.matchFilledSpec.plain.varTypes Try.prog) (ds ++ gs)).all (· ≤ reachBytes) = true := hsz0
  have hval : ∀ (j : Nat) t v, Try.f6.params[j]? = some t → args[j]? = some v → Value.okWide Try.prog W .any base t v := hval0
  have hW' := hW
  obtain ⟨p, q, hA0, hV, rfl, hfz, hnd⟩ := hW
  have hA : DataW.TrodAll enc Try.prog W 0 (fun _ => true) true Try.f6.params.toList args.toList ds p := hA0
  rw [Try.params6] at hA hval hsz
  obtain ⟨v0, vs0, d0, ds0, p0, q0, hargs, rfl, rfl, h0, r0⟩ := trodAll_cons hA
  obtain ⟨v1, vs1, d1, ds1, p1, q1, rfl, rfl, rfl, h1, r1⟩ := trodAll_cons r0
  obtain ⟨rfl, rfl, rfl⟩ := trodAll_nil r1
  obtain rfl : args = #[v0, v1] := by cases args; simp_all
  obtain ⟨rfl, rfl⟩ := trodVars_none hV
  have k0 := h0
  have lt0 : ∀ x ∈ p0, x.block < W.heap.size := by obtain ⟨m, hm⟩ := k0; exact DataW.trod_lt m _ _ _ hm
  have k1 := h1
  have lt1 : ∀ x ∈ p1, x.block < W.heap.size := by obtain ⟨m, hm⟩ := k1; exact DataW.trod_lt m _ _ _ hm
  obtain ⟨L0, l0, z0⟩ := open_cells (hval 0 23 v0 rfl rfl) h0 (fun n hn => by simpa using List.all_eq_true.1 hsz n (DataW.weights_mem_each (j := 0) (t := 23) rfl rfl n hn))
  obtain ⟨L1, l1, z1⟩ := open_binds (hval 1 25 v1 rfl rfl) h1 (fun n hn => by simpa using List.all_eq_true.1 hsz n (DataW.weights_mem_each (j := 1) (t := 25) rfl rfl n hn))
  clear hA0 hval0
  refine (matchFilled_walk v0 L0 v1 L1 W l0 z0 l1 z1).mono fun e W' ⟨he, bel⟩ => ?_
  subst he
  exact ⟨_, rfl, _, _, _, [], _, [], hW', trodAll_mk1 (shut_bool Try.underlying4 _), (trodAll_cons_mk (Below.trod matchFilled_laidOut (by kernel_rfl) (of_decide_eq_true (by kernel_rfl)) k0 bel lt0) (trodAll_cons_mk (Below.trod matchFilled_laidOut (by kernel_rfl) (of_decide_eq_true (by kernel_rfl)) k1 bel lt1) trodAll_mk0)), rfl, bel.frame _, fun h => by cases h⟩

theorem matchFilled_holds : Rows.MatchFilledSaid :=
  OpenClaim.holds_of_wide 6 Try.f6 rfl rfl rfl rfl rfl rfl rfl ⟨rfl, rfl, rfl, rfl, rfl⟩ rfl rfl rfl rfl rfl (by kernel_rfl) Try.func6 (by kernel_rfl)
    (of_decide_eq_true (by kernel_rfl)) (by unfold Func.isWrapper; first | (rw [if_pos (by decide +kernel)]; kernel_rfl) | (rw [if_neg (by decide +kernel)]; exact ⟨rfl, rfl⟩))
    (fun os started H enc _ => matchFilled_lifted os started H enc)

#print axioms matchFilled_holds

end Go.Proofs.Ytgnllemihbemfaa
