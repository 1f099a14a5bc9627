/-
  Of any rules the first one that fits any term, and how, is what the net finds: the same as by trying them one by one.
-/
import Derived.Test.YtpflbdkbbkobbaaRows
import Derived.Test.YtpflbdkbbkobbaaWake8
import Derived.Test.YtpflbdkbbkobbaaOpenQ
import Derived.ProofKit
import Derived.OpenShut
import Derived.ShutString
import Derived.ChangeOld
import Derived.Below
import Derived.SizedLaws
import Derived.Lib.SmallJoins
namespace Go.Proofs.Ytpflbdkbbkobbaa
open Go.ChangeShapes Go.WideShapes Go.ChangeAt Go.RowKit Go.Joins
open Go.ChangeMaps (open_string shut_string)
set_option linter.unusedVariables false
set_option linter.unusedSimpArgs false
set_option maxRecDepth 100000

theorem mt_fine {P T : List Cl} {acc : List Bd} (h : mt P T = some acc) : ∀ b ∈ acc, Fine b.val ∧ b.nm.size ≤ 9223372036854775807 := fun b hb => by
  obtain ⟨_, h2, _⟩ := mt_facts h
  obtain ⟨h3, h4⟩ := h2 b hb
  refine ⟨fine_ck h3, ?_⟩
  rcases Nat.lt_or_ge 8 b.nm.data.toList.length with h5 | h5
  · rw [kind_out (.inr h5)] at h4; cases h4
  · rw [size_list] at h5; omega

set_option maxHeartbeats 8000000 in
theorem netFirst_walk (v0 : Value) (rs : List Rl) (v1 : Value) (T : List Cl) (w : World) (hr : LiesR w v0 rs) (hz : rs.length * 56 ≤ 140737488351232 ∧ ∀ r ∈ rs, r.l.length * 24 ≤ 140737488355328 ∧ r.r.length * 24 ≤ 140737488355328) (hT : Lies w v1 T) (hzT : T.length * 24 ≤ 140737488355328) :
    Calls Try.prog 3 #[v0, v1] w fun e w' => e = .returned (.bool true) ∧ Below w.heap.size w w' := by
  have HR := hid hr
  have HT := hid hT
  have HRF := hid hr.fine
  have hwk := wakes_any w
  have hru : ∀ w1, Below w.heap.size w w1 → _ := fun w1 hb => nrules_any w1 v0 rs (HR.out.on hb) hz.1 hz.2
  have hbu : ∀ w1 v, LiesR w1 v rs → _ := fun w1 v h => build_any w1 v rs h
  have hrb : ∀ w1, Below w.heap.size w w1 → _ := fun w1 hb => rbuild_any w1 v0 rs (HR.out.on hb)
  have hcp : ∀ w1, Below w.heap.size w w1 → _ := fun w1 hb => copy_any w1 v1 T (HT.out.on hb) hzT
  have hck : ∀ w1, Below w.heap.size w w1 → _ := fun w1 hb => rCheck_any w1 v1 T (HT.out.on hb)
  obtain ⟨ra, rc, hrv, _⟩ := id hr
  subst hrv
  obtain ⟨ta, tc, htv, _, _, hfT, _⟩ := id hT
  subst htv
  have HFT := hid hfT
  have hns := net_some
  have hnn := net_none
  clear hr hT hfT hz hzT
  obtain ⟨q, hq⟩ : ∃ q, bE rs = q := ⟨_, rfl⟩
  have HQ := hid hq
  rw [hq] at hrb
  by_cases hb0 : q = 0
  · subst hb0
    have HOK : Hid (RsOk rs ∧ rs.length ≤ 64) := by
      unfold bE at hq
      split at hq
      · cases hq
      · exact ⟨RsOk.of hq, by omega⟩
    have hfi : ∀ w1 B nb v, NetAt w1 B nb rs → Lies w1 v T → Calls Try.prog 11 #[.pointer (some ⟨nb, 0, none⟩), v] w1 fun e w' => Fstd w1 (fstL T rs) e w' := fun w1 B nb v h1 h2 => nfirst_any w1 B nb rs HOK.out.2 HOK.out.1 h1 v T h2
    clear hq
    by_cases hc : check T = 0
    · rw [hc] at hck
      have hrf : ∀ w1, Below w.heap.size w w1 → _ := fun w1 hb => rfirst_any w1 _ rs (HR.out.on hb) HOK.out.1 _ T (HT.out.on hb) hc
      have hfl := fstL_I T rs
      cases hfI : firstI rs T with
      | none =>
        rw [hfI] at hfl hrf
        simp only [Option.bind_none] at hfl
        rw [hfl] at hfi
        clear hfl hfI hc
        go_enter Try.func3, Try.ntmps3
        go_wp2_with (first
          | (go_at_call 7; refine hwk.mono ?_; clear hwk; rintro e w1 ⟨rfl, hb1⟩; have HB1 := hid hb1; clear hb1)
          | (go_at_call 9; refine (hru _ HB1.out).mono ?_; clear hru; rintro e w2 ⟨v2, rfl, ho2, hb2⟩; have HB2 := hid (HB1.out.trans (hb2.mono HB1.out.size)); have HL2 := hid (ho2.lies HRF.out); obtain ⟨oa, oc, hov⟩ := ho2.form; subst hov; clear ho2 hb2)
          | (go_at_call 8; refine (hbu _ _ HL2.out).mono ?_; clear hbu; rintro e w3 ⟨hb3, h3⟩; obtain ⟨_, nb, h4, hN⟩ := h3.resolve_left (fun h => h.1 HQ.out); subst h4; have HB3 := hid (HB2.out.trans (hb3.mono HB2.out.size)); have HN3 := hid hN; clear hb3 h3 hN)
          | (go_at_call 10; refine (hrb _ HB3.out).mono ?_; clear hrb; rintro e w4 ⟨rfl, hb4⟩; have HB4 := hid (HB3.out.trans (hb4.mono HB3.out.size)); (try have HN4 := hid (HN3.out.on hb4)); clear hb4)
          | (go_at_call 12; refine (hcp _ HB4.out).mono ?_; clear hcp; rintro e w9 ⟨x9, rfl, ho9, hb9⟩; have HB9 := hid (HB4.out.trans (hb9.mono HB4.out.size)); have HN9 := hid (HN4.out.on hb9); have HL9 := hid (Owns.lies ho9 HFT.out); obtain ⟨xa, xc, hxv, _⟩ := own_cells ho9; subst hxv; clear ho9 hb9)
          | (go_at_call 11; refine (hfi _ _ _ _ HN9.out HL9.out).mono ?_; clear hfi; rintro e w5 ⟨hb5, h5⟩; have h6 := (h5.resolve_right (fun h => by { obtain ⟨_, _, _, h, _⟩ := h; cases h })).2; subst h6; have HB5 := hid (HB9.out.trans (hb5.mono HB9.out.size)); clear hb5 h5)
          | (go_at_call 13; refine (hck _ HB5.out).mono ?_; clear hck; rintro e w6 ⟨rfl, rfl⟩)
          | (go_at_call 14; refine (hrf _ HB5.out).mono ?_; rintro e w6 ⟨h6, hb6⟩; have h7 : e = .returned (.tuple #[.int .i64 (-1), .slice none 0 0]) := (h6.resolve_right (fun h => by { obtain ⟨k, bs, bv, h, _⟩ := h; cases h })).2; subst h7; have HB6 := hid (HB5.out.trans (hb6.mono HB5.out.size)); clear h6 hb6))
        go_ret
        exact ⟨rfl, HB6.out⟩
      | some p =>
        obtain ⟨k, bs⟩ := p
        obtain ⟨r, hrk, hm⟩ := firstI_some hfI
        rw [hfI] at hfl hrf
        simp only [Option.bind_some, hrk, Option.map_some] at hfl
        rw [hfl] at hfi
        have HFB := hid (mt_fine hm)
        have hkl : (k : Int) < (rs.length : Int) := by have := (List.getElem?_eq_some_iff.1 hrk).1; omega
        have HRK := hid hrk
        obtain ⟨g, off, x, y, hra, hgl, c0, _⟩ := HR.out.at hrk
        subst hra
        have hk0 : ¬ (k : Int) < 0 := by omega
        have hii : (r.id == r.id) = true := by simp
        clear hfl hfI hc hm hrk
        go_enter Try.func3, Try.ntmps3
        go_wp2_with (first
          | (go_at_call 7; refine hwk.mono ?_; clear hwk; rintro e w1 ⟨rfl, hb1⟩; have HB1 := hid hb1; clear hb1)
          | (go_at_call 9; refine (hru _ HB1.out).mono ?_; clear hru; rintro e w2 ⟨v2, rfl, ho2, hb2⟩; have HB2 := hid (HB1.out.trans (hb2.mono HB1.out.size)); have HL2 := hid (ho2.lies HRF.out); obtain ⟨oa, oc, hov⟩ := ho2.form; subst hov; clear ho2 hb2)
          | (go_at_call 8; refine (hbu _ _ HL2.out).mono ?_; clear hbu; rintro e w3 ⟨hb3, h3⟩; obtain ⟨_, nb, h4, hN⟩ := h3.resolve_left (fun h => h.1 HQ.out); subst h4; have HB3 := hid (HB2.out.trans (hb3.mono HB2.out.size)); have HN3 := hid hN; clear hb3 h3 hN)
          | (go_at_call 10; refine (hrb _ HB3.out).mono ?_; clear hrb; rintro e w4 ⟨rfl, hb4⟩; have HB4 := hid (HB3.out.trans (hb4.mono HB3.out.size)); (try have HN4 := hid (HN3.out.on hb4)); clear hb4)
          | (go_at_call 12; refine (hcp _ HB4.out).mono ?_; clear hcp; rintro e w9 ⟨x9, rfl, ho9, hb9⟩; have HB9 := hid (HB4.out.trans (hb9.mono HB4.out.size)); have HN9 := hid (HN4.out.on hb9); have HL9 := hid (Owns.lies ho9 HFT.out); obtain ⟨xa, xc, hxv, _⟩ := own_cells ho9; subst hxv; clear ho9 hb9)
          | (go_at_call 11; refine (hfi _ _ _ _ HN9.out HL9.out).mono ?_; clear hfi; rintro e w5 ⟨hb5, h5⟩; obtain ⟨id5, bs5, bv5, h6, h7, h8⟩ := h5.resolve_left (fun h => by cases h.1); cases h6; subst h7; have HB5 := hid (HB9.out.trans (hb5.mono HB9.out.size)); have HO5 := hid h8; obtain ⟨ba5, bc5, hv5, _⟩ := h8.form; subst hv5; clear hb5 h5 h8)
          | (go_at_call 13; refine (hck _ HB5.out).mono ?_; clear hck; rintro e w6 ⟨rfl, rfl⟩)
          | (go_at_call 14; refine (hrf _ HB5.out).mono ?_; rintro e w6 ⟨h6, hb6⟩; obtain ⟨k', bs', bv', h7, h8, h9⟩ := h6.resolve_left (fun h => by cases h.1); cases h7; subst h8; have HB6 := hid (HB5.out.trans (hb6.mono HB5.out.size)); have HO6 := hid h9; have HO7 := hid (HO5.out.on hb6); obtain ⟨ma, mc, hmv, _⟩ := h9.form; subst hmv; have d0 : w6.cell? ⟨g, off + k * 3, none⟩ = some (.int .i64 r.id) := (HB6.out.cell (p := ⟨g, off + k * 3, none⟩) hgl).trans c0; clear h6 hb6 h9)
          | (go_at_call 15; refine (sameB_self _ _ _ bs (HO7.out.lies HFB.out) (HO6.out.lies HFB.out)).mono ?_; rintro e w7 ⟨rfl, hb7⟩; have HB7 := hid (HB6.out.trans (hb7.mono HB6.out.size)); clear hb7))
        go_ret
        exact ⟨rfl, HB7.out⟩
    · have hfl : fstL T rs = none := by
        rw [← fst_plcs]; unfold plcsC; rw [if_neg hc]; rfl
      rw [hfl] at hfi
      obtain ⟨cq, hcq⟩ : ∃ cq, cq = check T := ⟨_, rfl⟩
      rw [← hcq] at hck hc
      have hcn : ((cq : Int) == 0) = false := by simp only [beq_eq_false_iff_ne]; omega
      have hcn2 : ¬ (cq : Int) = 0 := by omega
      clear hfl hcq
      go_enter Try.func3, Try.ntmps3
      go_wp2_with (first
        | (go_at_call 7; refine hwk.mono ?_; clear hwk; rintro e w1 ⟨rfl, hb1⟩; have HB1 := hid hb1; clear hb1)
        | (go_at_call 9; refine (hru _ HB1.out).mono ?_; clear hru; rintro e w2 ⟨v2, rfl, ho2, hb2⟩; have HB2 := hid (HB1.out.trans (hb2.mono HB1.out.size)); have HL2 := hid (ho2.lies HRF.out); obtain ⟨oa, oc, hov⟩ := ho2.form; subst hov; clear ho2 hb2)
        | (go_at_call 8; refine (hbu _ _ HL2.out).mono ?_; clear hbu; rintro e w3 ⟨hb3, h3⟩; obtain ⟨_, nb, h4, hN⟩ := h3.resolve_left (fun h => h.1 HQ.out); subst h4; have HB3 := hid (HB2.out.trans (hb3.mono HB2.out.size)); have HN3 := hid hN; clear hb3 h3 hN)
        | (go_at_call 10; refine (hrb _ HB3.out).mono ?_; clear hrb; rintro e w4 ⟨rfl, hb4⟩; have HB4 := hid (HB3.out.trans (hb4.mono HB3.out.size)); (try have HN4 := hid (HN3.out.on hb4)); clear hb4)
        | (go_at_call 12; refine (hcp _ HB4.out).mono ?_; clear hcp; rintro e w9 ⟨x9, rfl, ho9, hb9⟩; have HB9 := hid (HB4.out.trans (hb9.mono HB4.out.size)); have HN9 := hid (HN4.out.on hb9); have HL9 := hid (Owns.lies ho9 HFT.out); obtain ⟨xa, xc, hxv, _⟩ := own_cells ho9; subst hxv; clear ho9 hb9)
        | (go_at_call 11; refine (hfi _ _ _ _ HN9.out HL9.out).mono ?_; clear hfi; rintro e w5 ⟨hb5, h5⟩; have h6 := (h5.resolve_right (fun h => by { obtain ⟨_, _, _, h, _⟩ := h; cases h })).2; subst h6; have HB5 := hid (HB9.out.trans (hb5.mono HB9.out.size)); clear hb5 h5)
        | (go_at_call 13; refine (hck _ HB5.out).mono ?_; clear hck; rintro e w6 ⟨rfl, rfl⟩))
      go_ret
      exact ⟨rfl, HB5.out⟩
  · have hqn : ((q : Int) == 0) = false := by simp only [beq_eq_false_iff_ne]; omega
    have hqn2 : ¬ (q : Int) = 0 := by omega
    have hqq : ((q : Int) != (q : Int)) = false := by simp
    have hqb : ((q : Int) != 0) = true := by simp; omega
    clear hq
    go_enter Try.func3, Try.ntmps3
    go_wp2_with (first
      | (go_at_call 7; refine hwk.mono ?_; clear hwk; rintro e w1 ⟨rfl, hb1⟩; have HB1 := hid hb1; clear hb1)
      | (go_at_call 9; refine (hru _ HB1.out).mono ?_; clear hru; rintro e w2 ⟨v2, rfl, ho2, hb2⟩; have HB2 := hid (HB1.out.trans (hb2.mono HB1.out.size)); have HL2 := hid (ho2.lies HRF.out); obtain ⟨oa, oc, hov⟩ := ho2.form; subst hov; clear ho2 hb2)
      | (go_at_call 8; refine (hbu _ _ HL2.out).mono ?_; rintro e w3 ⟨hb3, h3⟩; have h4 := h3.resolve_right (fun h => hb0 (HQ.out.symm.trans h.1)); obtain ⟨_, h5⟩ := h4; rw [HQ.out] at h5; subst h5; have HB3 := hid (HB2.out.trans (hb3.mono HB2.out.size)); clear hb3 h3)
      | (go_at_call 10; refine (hrb _ HB3.out).mono ?_; clear hrb; rintro e w4 ⟨rfl, hb4⟩; have HB4 := hid (HB3.out.trans (hb4.mono HB3.out.size)); (try have HN4 := hid (HN3.out.on hb4)); clear hb4))
    go_ret
    exact ⟨rfl, HB4.out⟩

theorem netFirst_own : ownKnob Try.prog.godebug = none := by kernel_rfl
theorem netFirst_laidOut : laidOutB Try.prog = true := by kernel_rfl

set_option maxRecDepth 100000 in
theorem netFirst_lifted (os : Os) (started : os.Started) (H : Type) (enc : TypeId × Value → H) :
    ReturnsInHanded {} Try.checked os 3 .any (Rows.netFirstSpec.pre6 enc Try.prog Try.f3 Rows.netFirstRow.domain false) (Rows.netFirstSpec.post enc Try.prog Try.f3 false true false false) := by
  refine returnsInHanded_of_change_sized (C := Try.checked) netFirst_own started (by kernel_rfl) Try.func3
    (ChangeSpec.witness6 (enc := enc) (C := Try.checked) false ⟨#[], #[.slice none 0 0, .slice none 0 0], []⟩ 8 (by kernel_rfl) (by kernel_rfl) (by kernel_rfl) (by kernel_rfl)) ?_
  intro W base args ds gs before hval0 hW hcnd hsz0 _
  have hsz : (DataW.weightsEach Try.prog (Try.f3.params.toList ++ Rows.netFirstSpec.plain.varTypes Try.prog) (ds ++ gs)).all (· ≤ reachBytes) = true := hsz0
  have hval : ∀ (j : Nat) t v, Try.f3.params[j]? = some t → args[j]? = some v → Value.okWide Try.prog W .any base t v := hval0
  have hW' := hW
  obtain ⟨p, q, hA0, hV, rfl, hfz, hnd⟩ := hW
  have hA : DataW.TrodAll enc Try.prog W 0 (fun _ => true) true Try.f3.params.toList args.toList ds p := hA0
  rw [Try.params3] at hA hval hsz
  obtain ⟨v0, vs0, d0, ds0, p0, q0, hargs, rfl, rfl, h0, r0⟩ := trodAll_cons hA
  obtain ⟨v1, vs1, d1, ds1, p1, q1, rfl, rfl, rfl, h1, r1⟩ := trodAll_cons r0
  obtain ⟨rfl, rfl, rfl⟩ := trodAll_nil r1
  obtain rfl : args = #[v0, v1] := by cases args; simp_all
  obtain ⟨rfl, rfl⟩ := trodVars_none hV
  have k0 := h0
  have lt0 : ∀ x ∈ p0, x.block < W.heap.size := by obtain ⟨m, hm⟩ := k0; exact DataW.trod_lt m _ _ _ hm
  have k1 := h1
  have lt1 : ∀ x ∈ p1, x.block < W.heap.size := by obtain ⟨m, hm⟩ := k1; exact DataW.trod_lt m _ _ _ hm
  obtain ⟨L0, l0, z0⟩ := open_rules (hval 0 22 v0 rfl rfl) h0 (fun n hn => by simpa using List.all_eq_true.1 hsz n (DataW.weights_mem_each (j := 0) (t := 22) rfl rfl n hn))
  obtain ⟨L1, l1, z1⟩ := open_cells (hval 1 24 v1 rfl rfl) h1 (fun n hn => by simpa using List.all_eq_true.1 hsz n (DataW.weights_mem_each (j := 1) (t := 24) rfl rfl n hn))
  clear hA0 hval0
  refine (netFirst_walk v0 L0 v1 L1 W l0 z0 l1 z1).mono fun e W' ⟨he, bel⟩ => ?_
  subst he
  exact ⟨_, rfl, _, _, _, [], _, [], hW', trodAll_mk1 (shut_bool Try.underlying4 _), (trodAll_cons_mk (Below.trod netFirst_laidOut (by kernel_rfl) (of_decide_eq_true (by kernel_rfl)) k0 bel lt0) (trodAll_cons_mk (Below.trod netFirst_laidOut (by kernel_rfl) (of_decide_eq_true (by kernel_rfl)) k1 bel lt1) trodAll_mk0)), rfl, bel.frame _, fun h => by cases h⟩

theorem netFirst_holds : Rows.NetFirstSaid :=
  OpenClaim.holds_of_wide 3 Try.f3 rfl rfl rfl rfl rfl rfl rfl ⟨rfl, rfl, rfl, rfl, rfl⟩ rfl rfl rfl rfl rfl (by kernel_rfl) Try.func3 (by kernel_rfl)
    (of_decide_eq_true (by kernel_rfl)) (by unfold Func.isWrapper; first | (rw [if_pos (by decide +kernel)]; kernel_rfl) | (rw [if_neg (by decide +kernel)]; exact ⟨rfl, rfl⟩))
    (fun os started H enc _ => netFirst_lifted os started H enc)

#print axioms netFirst_holds

end Go.Proofs.Ytpflbdkbbkobbaa
