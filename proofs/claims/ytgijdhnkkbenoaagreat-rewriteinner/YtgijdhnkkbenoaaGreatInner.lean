/-
  Proved: whatever rules, term and fuel are handed in, the law RewriteInner answers true and leaves them as they were; no conditions beyond those of the given row.
-/
import Derived.Test.YtgijdhnkkbenoaaGreatRows
import Derived.Test.YtgijdhnkkbenoaaGreatBT
import Derived.Test.YtgijdhnkkbenoaaGreatBO
import Derived.ProofKit
import Derived.OpenShut
import Derived.ShutString
import Derived.ChangeOld
import Derived.Below
import Derived.SizedLaws
import Derived.Lib.SmallJoins
namespace Go.Proofs.YtgijdhnkkbenoaaGreat
open Go.ChangeShapes Go.WideShapes Go.ChangeAt Go.RowKit Go.Joins
open Go.ChangeMaps (open_string shut_string)
set_option linter.unusedVariables false
set_option linter.unusedSimpArgs false
set_option maxRecDepth 100000


set_option maxHeartbeats 16000000 in
theorem rewriteInner_walk (v0 : Value) (rs : List Rl) (v1 : Value) (T : List Cl) (fu : Int) (hwf0 : (Lit.int .i64 fu).wf = true) (w : World) (hr : LiesR w v0 rs) (hz : rs.length * 56 ≤ 140737488351232 ∧ ∀ r ∈ rs, r.l.length * 24 ≤ 140737488355328 ∧ r.r.length * 24 ≤ 140737488355328) (hT : Lies w v1 T) (z1 : T.length * 24 ≤ 140737488355328) :
    Calls Tryz.prog 6 #[v0, v1, .int .i64 fu] w fun e w' => e = .returned (.bool true) ∧ Below w.heap.size w w' := by
  have hfu : -9223372036854775808 ≤ fu ∧ fu ≤ 9223372036854775807 := by have := bounds_i64 hwf0; omega
  clear hwf0
  have HR := hid hr
  have HT := hid hT
  have hwk := wakes_any w
  have hfw : ∀ w1, Below w.heap.size w w1 → _ := fun w1 hb => few_any w1 v0 rs (HR.out.on hb) fu
  obtain ⟨ra, rc, hrv, _⟩ := id hr
  subst hrv
  obtain ⟨ta, tc, htv, _, _, hfT, _⟩ := id hT
  subst htv
  by_cases hfew : rs.length ≤ 64 ∧ fu ≤ 300
  · rw [decide_eq_true hfew.1, decide_eq_true hfew.2] at hfw
    have hlim : 8 * fu.toNat ≤ 2513169400000 := by omega
    have hru : ∀ w1, Below w.heap.size w w1 → _ := fun w1 hb => rules_any w1 _ rs (HR.out.on hb) (by omega) hz.2
    have hcp : ∀ w1, Below w.heap.size w w1 → _ := fun w1 hb => copy_any w1 _ T (HT.out.on hb) z1
    have hto : ∀ w1, Below w.heap.size w w1 → _ := fun w1 hb => together_any w1 _ rs (HR.out.on hb)
    have hgr : ∀ w1, Below w.heap.size w w1 → _ := fun w1 hb => rground_any w1 _ T (HT.out.on hb)
    have hrs : ∀ w1, Below w.heap.size w w1 → _ := fun w1 hb => rstart_any w1 _ T (HT.out.on hb)
    have hno : ∀ w1 u1 u2, LiesR w1 u1 rs → Lies w1 u2 T → _ := fun w1 u1 u2 h1 h2 => normal_any w1 u1 rs h1 u2 T h2 fu hfu hlim
    have HRF := hid hr.fine
    have HFT := hid hfT
    have HSK := hid (startP_ok T)
    obtain ⟨⟨X, N, E⟩, hNP⟩ : ∃ NP, normP rs T fu = NP := ⟨_, rfl⟩
    have HNP : Hid (normP rs T fu = (X, N, E)) := hNP
    rw [hNP] at hno
    have hfu3 : fu ≤ 300 := hfew.2
    clear hr hT hNP hz z1 hfT hfew
    by_cases hc : chkRs rs = 0
    · rw [hc] at hto
      cases hg : grd T with
      | false =>
        rw [hg] at hgr
        have hsn : (startP T).2 ≠ 0 := by
          unfold startP
          by_cases h1 : check T = 0
          · rw [if_pos h1, if_neg (by rw [hg]; decide)]; decide
          · rw [if_neg h1]; exact h1
        have hnp := HNP.out
        unfold normP at hnp
        rw [if_pos hc, if_neg hsn] at hnp
        simp only [Prod.mk.injEq] at hnp
        obtain ⟨e1, e2, e3⟩ := hnp
        subst e1 e2
        have HE : Hid ((startP T).2 = E) := e3
        rw [e3] at hrs
        generalize startP T = SP at hrs HSK HE hsn e3
        clear HNP hsn hg hc e3
        go_enter Tryz.func6, Tryz.ntmps6
        go_wp2_with (first
          | (go_at_call 9; refine hwk.mono ?_; clear hwk; rintro e w1 ⟨rfl, hb1⟩; have HB1 := hid hb1; clear hb1)
          | (go_at_call 17; refine (hfw _ HB1.out).mono ?_; clear hfw; rintro e w2 ⟨rfl, rfl⟩)
          | (go_at_call 19; refine (hru _ HB1.out).mono ?_; clear hru; rintro e w2 ⟨rv2, rfl, ho2, hb2⟩; have HL2 := hid (ho2.lies HRF.out); obtain ⟨ra2, rc2, hrv2⟩ := ho2.form; subst hrv2; have HB2 := hid (HB1.out.trans (hb2.mono HB1.out.size)); clear hb2 ho2)
          | (go_at_call 11; refine (hcp _ HB2.out).mono ?_; clear hcp; rintro e w3 ⟨x3, rfl, ho3, hb3⟩; have hl3 := Owns.lies ho3 HFT.out; obtain ⟨xa, xc, hxv, _⟩ := own_cells ho3; subst hxv; have HB3 := hid (HB2.out.trans (hb3.mono HB2.out.size)); have hq3 := hno w3 _ _ (HL2.out.on hb3) hl3; clear hb3 ho3 hl3 hno)
          | (go_at_call 22; refine hq3.mono ?_; clear hq3; rintro e w4 ⟨⟨v4, rfl, ho4⟩, hb4⟩; have HO4 := hid ho4; obtain ⟨va4, vc4, hv4, _⟩ := own_cells ho4; have hv42 : v4 = .slice va4 0 vc4 := hv4; subst hv42; have HB4 := hid (HB3.out.trans (hb4.mono HB3.out.size)); clear hb4 ho4 hv4)
          | (go_at_call 23; refine (hto _ HB4.out).mono ?_; clear hto; rintro e w5 ⟨rfl, hb5⟩; have HB5 := hid (HB4.out.trans (hb5.mono HB4.out.size)); have HO5 := hid (own_below HO4.out hb5); clear hb5)
          | (go_at_call 21; refine (hgr _ HB5.out).mono ?_; clear hgr; rintro e w6 ⟨rfl, hb6⟩; have HB6 := hid (HB5.out.trans (hb6.mono HB5.out.size)); have HO6 := hid (own_below HO5.out hb6); clear hb6)
          | (go_at_call 12; refine (hrs _ HB6.out).mono ?_; clear hrs; rintro e w7 ⟨sv7, rfl, ho7, hb7⟩; obtain ⟨p1, p2, p3, p4, p5, p6, hsv, _⟩ := ho7.trio HSK.out; subst hsv; have HB7 := hid ((HB6.out.trans (hb7.mono HB6.out.size)).trans ((bel_al w7 (.cells #[.slice p1 SP.1.ops.length p2, .slice p3 SP.1.vals.length p4, .int .i64 SP.1.steps, .slice p5 SP.1.heads.length p6] 28)).mono (HB6.out.trans (hb7.mono HB6.out.size)).size)); clear hb7 ho7))
        go_ret
        exact ⟨rfl, HB7.out⟩
      | true =>
        rw [hg] at hgr
        obtain ⟨nm, kd, eT⟩ := check_term (grd_iff.1 hg).1
        have hin : ∀ w1 (F : Int), Below w.heap.size w w1 → 0 ≤ F → F ≤ 300 → _ := fun w1 F hb h0 h1 => inner_any w1 _ rs (HR.out.on hb) (RsOk.of hc) (.slice ta T.length tc) nm kd (by rw [← eT]; exact HT.out.on hb) (by rw [← eT]; exact hg) F h0 (by omega)
        have HOKN : Hid (∀ V g, InnOk rs (.cons nm kd .nil) (max fu 0) [V] g → X = V ∧ N = max fu 0 - g ∧ E = 0) := fun V g h => by
          have h1 := h [] _ (rep_self rs _)
          rw [← todo_flat, ← eT] at h1
          have := (norm_ok hc hg hlim rfl h1).1
          rw [HNP.out] at this
          simp only [Prod.mk.injEq] at this
          exact this
        have HERN : Hid (∀ k, InnErr rs (.cons nm kd .nil) (max fu 0) k → X = [] ∧ N = 0 ∧ E = k) := fun k h => by
          have h1 := h [] _ (rep_self rs _)
          rw [← todo_flat, ← eT] at h1
          have := norm_err hc hg hlim rfl h1
          rw [HNP.out] at this
          simp only [Prod.mk.injEq] at this
          exact this
        clear HNP hg eT hrs HSK hc
        have hin2 := fun w1 hb => hin w1 (max fu 0) hb (by omega) (by omega)
        clear hin
        go_enter Tryz.func6, Tryz.ntmps6
        go_upto_region 12 with (first
        | (go_at_call 9; refine hwk.mono ?_; clear hwk; rintro e w1 ⟨rfl, hb1⟩; have HB1 := hid hb1; clear hb1)
          | (go_at_call 17; refine (hfw _ HB1.out).mono ?_; clear hfw; rintro e w2 ⟨rfl, rfl⟩)
          | (go_at_call 19; refine (hru _ HB1.out).mono ?_; clear hru; rintro e w2 ⟨rv2, rfl, ho2, hb2⟩; have HL2 := hid (ho2.lies HRF.out); obtain ⟨ra2, rc2, hrv2⟩ := ho2.form; subst hrv2; have HB2 := hid (HB1.out.trans (hb2.mono HB1.out.size)); clear hb2 ho2)
          | (go_at_call 11; refine (hcp _ HB2.out).mono ?_; clear hcp; rintro e w3 ⟨x3, rfl, ho3, hb3⟩; have hl3 := Owns.lies ho3 HFT.out; obtain ⟨xa, xc, hxv, _⟩ := own_cells ho3; subst hxv; have HB3 := hid (HB2.out.trans (hb3.mono HB2.out.size)); have hq3 := hno w3 _ _ (HL2.out.on hb3) hl3; clear hb3 ho3 hl3 hno)
          | (go_at_call 22; refine hq3.mono ?_; clear hq3; rintro e w4 ⟨⟨v4, rfl, ho4⟩, hb4⟩; have HO4 := hid ho4; obtain ⟨va4, vc4, hv4, _⟩ := own_cells ho4; have hv42 : v4 = .slice va4 X.length vc4 := hv4; subst hv42; have HB4 := hid (HB3.out.trans (hb4.mono HB3.out.size)); clear hb4 ho4 hv4)
          | (go_at_call 23; refine (hto _ HB4.out).mono ?_; clear hto; rintro e w5 ⟨rfl, hb5⟩; have HB5 := hid (HB4.out.trans (hb5.mono HB4.out.size)); have HO5 := hid (own_below HO4.out hb5); clear hb5)
          | (go_at_call 21; refine (hgr _ HB5.out).mono ?_; clear hgr; rintro e w6 ⟨rfl, hb6⟩; have HB6 := hid (HB5.out.trans (hb6.mono HB5.out.size)); have HO6 := hid (own_below HO5.out hb6); clear hb6))
        go_wp2_with fail
        refine (hin2 _ HB6.out).mono ?_
        clear hin2
        rintro e w7 ⟨hpost, hb7⟩
        have HB7 := hid (HB6.out.trans (hb7.mono HB6.out.size))
        have hO7 := own_below HO6.out hb7
        rcases hpost with ⟨V, g, v, rfl, hov, hnf, hg1, hg2, hio⟩ | ⟨k, rfl, hk0, hie⟩
        · obtain ⟨e1, e2, e3⟩ := HOKN.out V g hio
          subst e1 e2 e3
          have hfX := fine_check (grd_iff.1 hnf.1).1
          have hsm := same_any w7 _ _ X X (Owns.lies hO7 hfX) (Owns.lies hov hfX)
          rw [decide_eq_true (rfl : X = X)] at hsm
          obtain ⟨ua, uc, huv, _⟩ := own_cells hov
          have huv2 : v = .slice ua X.length uc := huv
          subst huv2
          clear HOKN HERN hio hnf hov hO7 hfX huv
          go_wp2_with (go_at_call 25; refine hsm.mono ?_; clear hsm; rintro e w8 ⟨rfl, hb8⟩; have HB8 := hid (HB7.out.trans (hb8.mono HB7.out.size)); clear hb8)
          go_ret
          exact ⟨rfl, HB8.out⟩
        · obtain ⟨e1, e2, e3⟩ := HERN.out k hie
          subst e1 e2 e3
          have hk1 : ¬ (E : Int) = 0 := by omega
          have hk2 : ((E : Int) == 0) = false := by simp only [beq_eq_false_iff_ne]; omega
          clear HOKN HERN hie hO7
          go_wp2_with fail
          go_ret
          exact ⟨rfl, HB7.out⟩
    · have hnp := HNP.out
      unfold normP at hnp
      rw [if_neg hc] at hnp
      simp only [Prod.mk.injEq] at hnp
      obtain ⟨e1, e2, e3⟩ := hnp
      subst e1 e2
      rw [e3] at hto hc
      have hE1 : ¬ (E : Int) = 0 := by omega
      have hE2 : ((E : Int) == 0) = false := by simp only [beq_eq_false_iff_ne]; omega
      clear HNP e3 hc hgr hrs HSK
      go_enter Tryz.func6, Tryz.ntmps6
      go_wp2_with (first
        | (go_at_call 9; refine hwk.mono ?_; clear hwk; rintro e w1 ⟨rfl, hb1⟩; have HB1 := hid hb1; clear hb1)
          | (go_at_call 17; refine (hfw _ HB1.out).mono ?_; clear hfw; rintro e w2 ⟨rfl, rfl⟩)
          | (go_at_call 19; refine (hru _ HB1.out).mono ?_; clear hru; rintro e w2 ⟨rv2, rfl, ho2, hb2⟩; have HL2 := hid (ho2.lies HRF.out); obtain ⟨ra2, rc2, hrv2⟩ := ho2.form; subst hrv2; have HB2 := hid (HB1.out.trans (hb2.mono HB1.out.size)); clear hb2 ho2)
          | (go_at_call 11; refine (hcp _ HB2.out).mono ?_; clear hcp; rintro e w3 ⟨x3, rfl, ho3, hb3⟩; have hl3 := Owns.lies ho3 HFT.out; obtain ⟨xa, xc, hxv, _⟩ := own_cells ho3; subst hxv; have HB3 := hid (HB2.out.trans (hb3.mono HB2.out.size)); have hq3 := hno w3 _ _ (HL2.out.on hb3) hl3; clear hb3 ho3 hl3 hno)
          | (go_at_call 22; refine hq3.mono ?_; clear hq3; rintro e w4 ⟨⟨v4, rfl, ho4⟩, hb4⟩; have HO4 := hid ho4; obtain ⟨va4, vc4, hv4, _⟩ := own_cells ho4; have hv42 : v4 = .slice va4 0 vc4 := hv4; subst hv42; have HB4 := hid (HB3.out.trans (hb4.mono HB3.out.size)); clear hb4 ho4 hv4)
          | (go_at_call 23; refine (hto _ HB4.out).mono ?_; clear hto; rintro e w5 ⟨rfl, hb5⟩; have HB5 := hid (HB4.out.trans (hb5.mono HB4.out.size)); have HO5 := hid (own_below HO4.out hb5); clear hb5))
      go_ret
      exact ⟨rfl, HB5.out⟩
  · have hd : (decide (rs.length ≤ 64) && decide (fu ≤ 300)) = false := by
      cases h1 : decide (rs.length ≤ 64) with
      | false => rfl
      | true =>
        cases h2 : decide (fu ≤ 300) with
        | false => rfl
        | true => exact absurd ⟨of_decide_eq_true h1, of_decide_eq_true h2⟩ hfew
    rw [hd] at hfw
    clear hd hfew
    go_enter Tryz.func6, Tryz.ntmps6
    go_wp2_with (first
      | (go_at_call 9; refine hwk.mono ?_; clear hwk; rintro e w1 ⟨rfl, hb1⟩; have HB1 := hid hb1; clear hb1)
      | (go_at_call 17; refine (hfw _ HB1.out).mono ?_; clear hfw; rintro e w2 ⟨rfl, rfl⟩))
    go_ret
    exact ⟨rfl, HB1.out⟩

theorem rewriteInner_own : ownKnob Tryz.prog.godebug = none := by kernel_rfl
theorem rewriteInner_laidOut : laidOutB Tryz.prog = true := by kernel_rfl

set_option maxRecDepth 100000 in
theorem rewriteInner_lifted (os : Os) (started : os.Started) (H : Type) (enc : TypeId × Value → H) :
    ReturnsInHanded {} Tryz.checked os 6 .any (Rows.rewriteInnerSpec.pre6 enc Tryz.prog Tryz.f6 Rows.rewriteInnerRow.domain false) (Rows.rewriteInnerSpec.post enc Tryz.prog Tryz.f6 false true false false) := by
  refine returnsInHanded_of_change_sized (C := Tryz.checked) rewriteInner_own started (by kernel_rfl) Tryz.func6
    (ChangeSpec.witness6 (enc := enc) (C := Tryz.checked) false ⟨#[], #[.slice none 0 0, .slice none 0 0, .int .i64 0], []⟩ 8 (by kernel_rfl) (by kernel_rfl) (by kernel_rfl) (by kernel_rfl)) ?_
  intro W base args ds gs before hval0 hW hcnd hsz0 _
  have hsz : (DataW.weightsEach Tryz.prog (Tryz.f6.params.toList ++ Rows.rewriteInnerSpec.plain.varTypes Tryz.prog) (ds ++ gs)).all (· ≤ reachBytes) = true := hsz0
  have hval : ∀ (j : Nat) t v, Tryz.f6.params[j]? = some t → args[j]? = some v → Value.okWide Tryz.prog W .any base t v := hval0
  have hW' := hW
  obtain ⟨p, q, hA0, hV, rfl, hfz, hnd⟩ := hW
  have hA : DataW.TrodAll enc Tryz.prog W 0 (fun _ => true) true Tryz.f6.params.toList args.toList ds p := hA0
  rw [Tryz.params6] at hA hval hsz
  obtain ⟨v0, vs0, d0, ds0, p0, q0, hargs, rfl, rfl, h0, r0⟩ := trodAll_cons hA
  obtain ⟨v1, vs1, d1, ds1, p1, q1, rfl, rfl, rfl, h1, r1⟩ := trodAll_cons r0
  obtain ⟨v2, vs2, d2, ds2, p2, q2, rfl, rfl, rfl, h2, r2⟩ := trodAll_cons r1
  obtain ⟨rfl, rfl, rfl⟩ := trodAll_nil r2
  obtain rfl : args = #[v0, v1, v2] := by cases args; simp_all
  obtain ⟨rfl, rfl⟩ := trodVars_none hV
  have k0 := h0
  have lt0 : ∀ x ∈ p0, x.block < W.heap.size := by obtain ⟨m, hm⟩ := k0; exact DataW.trod_lt m _ _ _ hm
  have k1 := h1
  have lt1 : ∀ x ∈ p1, x.block < W.heap.size := by obtain ⟨m, hm⟩ := k1; exact DataW.trod_lt m _ _ _ hm
  have k2 := h2
  have lt2 : ∀ x ∈ p2, x.block < W.heap.size := by obtain ⟨m, hm⟩ := k2; exact DataW.trod_lt m _ _ _ hm
  obtain ⟨L0, l0, z0⟩ := open_rules (hval 0 41 v0 rfl rfl) h0 (fun n hn => by simpa using List.all_eq_true.1 hsz n (DataW.weights_mem_each (j := 0) (t := 41) rfl rfl n hn))
  obtain ⟨L1, l1, z1⟩ := open_cells (hval 1 23 v1 rfl rfl) h1 (fun n hn => by simpa using List.all_eq_true.1 hsz n (DataW.weights_mem_each (j := 1) (t := 23) rfl rfl n hn))
  obtain ⟨a2, rfl, rfl, rfl, w2⟩ := open_int Tryz.underlying3 (hval 2 3 v2 rfl rfl) h2
  clear hA0 hval0
  refine (rewriteInner_walk v0 L0 v1 L1 a2 w2 W l0 z0 l1 z1).mono fun e W' ⟨he, bel⟩ => ?_
  subst he
  exact ⟨_, rfl, _, _, _, [], _, [], hW', trodAll_mk1 (shut_bool Tryz.underlying4 _), (trodAll_cons_mk (Below.trod rewriteInner_laidOut (by kernel_rfl) (of_decide_eq_true (by kernel_rfl)) k0 bel lt0) (trodAll_cons_mk (Below.trod rewriteInner_laidOut (by kernel_rfl) (of_decide_eq_true (by kernel_rfl)) k1 bel lt1) (trodAll_cons_mk (Below.trod rewriteInner_laidOut (by kernel_rfl) (of_decide_eq_true (by kernel_rfl)) k2 bel lt2) trodAll_mk0))), rfl, bel.frame _, fun h => by cases h⟩

theorem rewriteInner_holds : Rows.RewriteInnerSaid :=
  OpenClaim.holds_of_wide 6 Tryz.f6 rfl rfl rfl rfl rfl rfl rfl ⟨rfl, rfl, rfl, rfl, rfl⟩ rfl rfl rfl rfl rfl (by kernel_rfl) Tryz.func6 (by kernel_rfl)
    (of_decide_eq_true (by kernel_rfl)) (by unfold Func.isWrapper; first | (rw [if_pos (by decide +kernel)]; kernel_rfl) | (rw [if_neg (by decide +kernel)]; exact ⟨rfl, rfl⟩))
    (fun os started H enc _ => rewriteInner_lifted os started H enc)

#print axioms rewriteInner_holds

end Go.Proofs.YtgijdhnkkbenoaaGreat
