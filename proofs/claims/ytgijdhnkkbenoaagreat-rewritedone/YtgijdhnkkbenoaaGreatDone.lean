/-
  Proved: whatever rules, term and fuel are handed in, the law RewriteDone answers true and leaves them as they were; no conditions beyond those of the given row.
-/
import Derived.Test.YtgijdhnkkbenoaaGreatRows
import Derived.Test.YtgijdhnkkbenoaaGreatBT
import Derived.Test.YtgijdhnkkbenoaaGreatBO
import Derived.ProofKit
import Derived.OpenShut
import Derived.ShutString
import Derived.ChangeOld
import Derived.Below
import Derived.SizedLaws
import Derived.Lib.SmallJoins
namespace Go.Proofs.YtgijdhnkkbenoaaGreat
open Go.ChangeShapes Go.WideShapes Go.ChangeAt Go.RowKit Go.Joins
open Go.ChangeMaps (open_string shut_string)
set_option linter.unusedVariables false
set_option linter.unusedSimpArgs false
set_option maxRecDepth 100000


theorem norm_cases (rs : List Rl) (T X : List Cl) (fu N : Int) (E : Nat) (hl : 8 * fu.toNat ≤ 2513169400000) (h : normP rs T fu = (X, N, E)) : (E ≠ 0 ∧ X = [] ∧ N = 0) ∨ (E = 0 ∧ chkRs rs = 0 ∧ NFt rs X ∧ 0 ≤ N ∧ N ≤ max fu 0 ∧ normP rs X 0 = (X, 0, 0)) := by
  by_cases hc : chkRs rs = 0
  · cases hg : grd T with
    | false =>
      have hsn : (startP T).2 ≠ 0 := by
        unfold startP
        by_cases h1 : check T = 0
        · rw [if_pos h1, if_neg (by rw [hg]; decide)]; decide
        · rw [if_neg h1]; exact h1
      unfold normP at h
      rw [if_pos hc, if_neg hsn] at h
      simp only [Prod.mk.injEq] at h
      obtain ⟨e1, e2, e3⟩ := h
      exact .inl ⟨by rw [← e3]; exact hsn, e1.symm, e2.symm⟩
    | true =>
      rcases norm_total hc hg hl with ⟨V, g, hn, g0, g1, e, _⟩ | ⟨k, k0, e⟩
      · rw [e] at h
        simp only [Prod.mk.injEq] at h
        obtain ⟨e1, e2, e3⟩ := h
        subst e1 e2 e3
        refine .inr ⟨rfl, hc, hn, by omega, by omega, ?_⟩
        have := (norm_ok (fu := 0) (F := 0) hc hn.1 (by decide) (by decide) (hn.ev 0)).1
        simpa using this
      · rw [e] at h
        simp only [Prod.mk.injEq] at h
        obtain ⟨e1, e2, e3⟩ := h
        exact .inl ⟨by rw [← e3]; exact k0, e1.symm, e2.symm⟩
  · unfold normP at h
    rw [if_neg hc] at h
    simp only [Prod.mk.injEq] at h
    obtain ⟨e1, e2, e3⟩ := h
    exact .inl ⟨by rw [← e3]; exact hc, e1.symm, e2.symm⟩

set_option maxHeartbeats 16000000 in
theorem rewriteDone_walk (v0 : Value) (rs : List Rl) (v1 : Value) (T : List Cl) (fu : Int) (hwf0 : (Lit.int .i64 fu).wf = true) (w : World) (hr : LiesR w v0 rs) (hz : rs.length * 56 ≤ 140737488351232 ∧ ∀ r ∈ rs, r.l.length * 24 ≤ 140737488355328 ∧ r.r.length * 24 ≤ 140737488355328) (hT : Lies w v1 T) (z1 : T.length * 24 ≤ 140737488355328) :
    Calls Tryz.prog 7 #[v0, v1, .int .i64 fu] w fun e w' => e = .returned (.bool true) ∧ Below w.heap.size w w' := by
  have hfu : -9223372036854775808 ≤ fu ∧ fu ≤ 9223372036854775807 := by have := bounds_i64 hwf0; omega
  clear hwf0
  have HR := hid hr
  have HT := hid hT
  have hwk := wakes_any w
  have hfw : ∀ w1, Below w.heap.size w w1 → _ := fun w1 hb => few_any w1 v0 rs (HR.out.on hb) fu
  obtain ⟨ra, rc, hrv, _⟩ := id hr
  subst hrv
  obtain ⟨ta, tc, htv, _, _, hfT, _⟩ := id hT
  subst htv
  by_cases hfew : rs.length ≤ 64 ∧ fu ≤ 300
  · rw [decide_eq_true hfew.1, decide_eq_true hfew.2] at hfw
    have hlim : 8 * fu.toNat ≤ 2513169400000 := by omega
    have hru : ∀ w1, Below w.heap.size w w1 → _ := fun w1 hb => rules_any w1 _ rs (HR.out.on hb) (by omega) hz.2
    have hcp : ∀ w1, Below w.heap.size w w1 → _ := fun w1 hb => copy_any w1 _ T (HT.out.on hb) z1
    have hno : ∀ w1 u1 u2, LiesR w1 u1 rs → Lies w1 u2 T → _ := fun w1 u1 u2 h1 h2 => normal_any w1 u1 rs h1 u2 T h2 fu hfu hlim
    have HRF := hid hr.fine
    have HFT := hid hfT
    obtain ⟨⟨X, N, E⟩, hNP⟩ : ∃ NP, normP rs T fu = NP := ⟨_, rfl⟩
    rw [hNP] at hno
    have hcs := norm_cases rs T X fu N E hlim hNP
    rcases hcs with ⟨h1, e1, e2⟩ | ⟨e1, hc, hn, n0, n1, h2⟩
    · subst e1 e2
      have hE1 : ¬ (E : Int) = 0 := by omega
      have hE2 : ((E : Int) == 0) = false := by simp only [beq_eq_false_iff_ne]; omega
      clear hr hT hNP hz z1 hfT hfew h1 hlim
      go_enter Tryz.func7, Tryz.ntmps7
      go_wp2_with (first
        | (go_at_call 9; refine hwk.mono ?_; clear hwk; rintro e w1 ⟨rfl, hb1⟩; have HB1 := hid hb1; clear hb1)
          | (go_at_call 17; refine (hfw _ HB1.out).mono ?_; clear hfw; rintro e w2 ⟨rfl, rfl⟩)
          | (go_at_call 19; refine (hru _ HB1.out).mono ?_; clear hru; rintro e w2 ⟨rv2, rfl, ho2, hb2⟩; have HL2 := hid (ho2.lies HRF.out); obtain ⟨ra2, rc2, hrv2⟩ := ho2.form; subst hrv2; have HB2 := hid (HB1.out.trans (hb2.mono HB1.out.size)); clear hb2 ho2)
          | (go_at_call 11; refine (hcp _ HB2.out).mono ?_; clear hcp; rintro e w3 ⟨x3, rfl, ho3, hb3⟩; have hl3 := Owns.lies ho3 HFT.out; obtain ⟨xa, xc, hxv, _⟩ := own_cells ho3; subst hxv; have HB3 := hid (HB2.out.trans (hb3.mono HB2.out.size)); have hq3 := hno w3 _ _ (HL2.out.on hb3) hl3; clear hb3 ho3 hl3 hno)
          | (go_at_call 22; refine hq3.mono ?_; clear hq3; rintro e w4 ⟨⟨v4, rfl, ho4⟩, hb4⟩; have HO4 := hid ho4; obtain ⟨va4, vc4, hv4, _⟩ := own_cells ho4; have hv42 : v4 = .slice va4 0 vc4 := hv4; subst hv42; have HB4 := hid (HB3.out.trans (hb4.mono HB3.out.size)); clear hb4 ho4 hv4))
      go_ret
      exact ⟨rfl, HB4.out⟩
    · subst e1
      have hru2 := hru
      have hfX := fine_check (grd_iff.1 hn.1).1
      have HFX := hid hfX
      have h64 := hn.size
      have hft : ∀ w1 u, Below w.heap.size w w1 → Lies w1 u X → _ := fun w1 u hb hu => fits_any w1 _ rs (HR.out.on hb) (RsOk.of hc) u X hu hn
      have hgr : ∀ w1 u, Lies w1 u X → _ := fun w1 u hu => rground_any w1 u X hu
      rw [hn.1] at hgr
      have hcp2 : ∀ w1 u, Lies w1 u X → _ := fun w1 u hu => copy_any w1 u X hu (by omega)
      have hno2 : ∀ w1 u1 u2, LiesR w1 u1 rs → Lies w1 u2 X → _ := fun w1 u1 u2 h1 h2 => normal_any w1 u1 rs h1 u2 X h2 0 (by decide) (by decide)
      rw [h2] at hno2
      have hsm : ∀ w1 u1 u2, Lies w1 u1 X → Lies w1 u2 X → _ := fun w1 u1 u2 h1 h2 => same_any w1 u1 u2 X X h1 h2
      rw [decide_eq_true (rfl : X = X)] at hsm
      have hN1 : ¬ max fu 0 < N := by omega
      have hN2 : decide (max fu 0 < N) = false := decide_eq_false hN1
      clear hr hT hNP hz z1 hfT hfew h2 hlim hfX hn hc
      go_enter Tryz.func7, Tryz.ntmps7
      go_wp2_with (first
        | (go_at_call 9; refine hwk.mono ?_; clear hwk; rintro e w1 ⟨rfl, hb1⟩; have HB1 := hid hb1; clear hb1)
          | (go_at_call 17; refine (hfw _ HB1.out).mono ?_; clear hfw; rintro e w2 ⟨rfl, rfl⟩)
          | (go_at_call 19; refine (hru _ HB1.out).mono ?_; clear hru; rintro e w2 ⟨rv2, rfl, ho2, hb2⟩; have HL2 := hid (ho2.lies HRF.out); obtain ⟨ra2, rc2, hrv2⟩ := ho2.form; subst hrv2; have HB2 := hid (HB1.out.trans (hb2.mono HB1.out.size)); clear hb2 ho2)
          | (go_at_call 11; refine (hcp _ HB2.out).mono ?_; clear hcp; rintro e w3 ⟨x3, rfl, ho3, hb3⟩; have hl3 := Owns.lies ho3 HFT.out; obtain ⟨xa, xc, hxv, _⟩ := own_cells ho3; subst hxv; have HB3 := hid (HB2.out.trans (hb3.mono HB2.out.size)); have hq3 := hno w3 _ _ (HL2.out.on hb3) hl3; clear hb3 ho3 hl3 hno)
          | (go_at_call 22; refine hq3.mono ?_; clear hq3; rintro e w4 ⟨⟨v4, rfl, ho4⟩, hb4⟩; have HO4 := hid ho4; obtain ⟨va4, vc4, hv4, _⟩ := own_cells ho4; have hv42 : v4 = .slice va4 X.length vc4 := hv4; subst hv42; have HB4 := hid (HB3.out.trans (hb4.mono HB3.out.size)); clear hb4 ho4 hv4)
          | (go_at_call 21; refine (hgr w4 _ (Owns.lies HO4.out HFX.out)).mono ?_; clear hgr; rintro e w5 ⟨rfl, hb5⟩; have HB5 := hid (HB4.out.trans (hb5.mono HB4.out.size)); have HO5 := hid (own_below HO4.out hb5); clear hb5)
          | (go_at_call 26; refine (hft _ _ HB5.out (Owns.lies HO5.out HFX.out)).mono ?_; clear hft; rintro e w6 ⟨rfl, hb6⟩; have HB6 := hid (HB5.out.trans (hb6.mono HB5.out.size)); have HO6 := hid (own_below HO5.out hb6); clear hb6)
          | (go_at_call 19; refine (hru2 _ HB6.out).mono ?_; clear hru2; rintro e w7 ⟨rv7, rfl, ho7, hb7⟩; have HL7 := hid (ho7.lies HRF.out); obtain ⟨ra7, rc7, hrv7⟩ := ho7.form; subst hrv7; have HB7 := hid (HB6.out.trans (hb7.mono HB6.out.size)); have HO7 := hid (own_below HO6.out hb7); clear hb7 ho7)
          | (go_at_call 11; refine (hcp2 w7 _ (Owns.lies HO7.out HFX.out)).mono ?_; clear hcp2; rintro e w8 ⟨x8, rfl, ho8, hb8⟩; have hl8 := Owns.lies ho8 HFX.out; obtain ⟨xa8, xc8, hxv8, _⟩ := own_cells ho8; subst hxv8; have HB8 := hid (HB7.out.trans (hb8.mono HB7.out.size)); have HO8 := hid (own_below HO7.out hb8); have hq8 := hno2 w8 _ _ (HL7.out.on hb8) hl8; clear hb8 ho8 hl8 hno2)
          | (go_at_call 22; refine hq8.mono ?_; clear hq8; rintro e w9 ⟨⟨v9, rfl, ho9⟩, hb9⟩; have HP9 := hid ho9; obtain ⟨va9, vc9, hv9, _⟩ := own_cells ho9; have hv92 : v9 = .slice va9 X.length vc9 := hv9; subst hv92; have HB9 := hid (HB8.out.trans (hb9.mono HB8.out.size)); have HO9 := hid (own_below HO8.out hb9); clear hb9 ho9 hv9)
          | (go_at_call 25; refine (hsm w9 _ _ (Owns.lies HO9.out HFX.out) (Owns.lies HP9.out HFX.out)).mono ?_; clear hsm; rintro e w10 ⟨rfl, hb10⟩; have HB10 := hid (HB9.out.trans (hb10.mono HB9.out.size)); clear hb10))
      go_ret
      exact ⟨rfl, HB10.out⟩
  · have hd : (decide (rs.length ≤ 64) && decide (fu ≤ 300)) = false := by
      cases h1 : decide (rs.length ≤ 64) with
      | false => rfl
      | true =>
        cases h2 : decide (fu ≤ 300) with
        | false => rfl
        | true => exact absurd ⟨of_decide_eq_true h1, of_decide_eq_true h2⟩ hfew
    rw [hd] at hfw
    clear hd hfew
    go_enter Tryz.func7, Tryz.ntmps7
    go_wp2_with (first
      | (go_at_call 9; refine hwk.mono ?_; clear hwk; rintro e w1 ⟨rfl, hb1⟩; have HB1 := hid hb1; clear hb1)
      | (go_at_call 17; refine (hfw _ HB1.out).mono ?_; clear hfw; rintro e w2 ⟨rfl, rfl⟩))
    go_ret
    exact ⟨rfl, HB1.out⟩

theorem rewriteDone_own : ownKnob Tryz.prog.godebug = none := by kernel_rfl
theorem rewriteDone_laidOut : laidOutB Tryz.prog = true := by kernel_rfl

set_option maxRecDepth 100000 in
theorem rewriteDone_lifted (os : Os) (started : os.Started) (H : Type) (enc : TypeId × Value → H) :
    ReturnsInHanded {} Tryz.checked os 7 .any (Rows.rewriteDoneSpec.pre6 enc Tryz.prog Tryz.f7 Rows.rewriteDoneRow.domain false) (Rows.rewriteDoneSpec.post enc Tryz.prog Tryz.f7 false true false false) := by
  refine returnsInHanded_of_change_sized (C := Tryz.checked) rewriteDone_own started (by kernel_rfl) Tryz.func7
    (ChangeSpec.witness6 (enc := enc) (C := Tryz.checked) false ⟨#[], #[.slice none 0 0, .slice none 0 0, .int .i64 0], []⟩ 8 (by kernel_rfl) (by kernel_rfl) (by kernel_rfl) (by kernel_rfl)) ?_
  intro W base args ds gs before hval0 hW hcnd hsz0 _
  have hsz : (DataW.weightsEach Tryz.prog (Tryz.f7.params.toList ++ Rows.rewriteDoneSpec.plain.varTypes Tryz.prog) (ds ++ gs)).all (· ≤ reachBytes) = true := hsz0
  have hval : ∀ (j : Nat) t v, Tryz.f7.params[j]? = some t → args[j]? = some v → Value.okWide Tryz.prog W .any base t v := hval0
  have hW' := hW
  obtain ⟨p, q, hA0, hV, rfl, hfz, hnd⟩ := hW
  have hA : DataW.TrodAll enc Tryz.prog W 0 (fun _ => true) true Tryz.f7.params.toList args.toList ds p := hA0
  rw [Tryz.params7] at hA hval hsz
  obtain ⟨v0, vs0, d0, ds0, p0, q0, hargs, rfl, rfl, h0, r0⟩ := trodAll_cons hA
  obtain ⟨v1, vs1, d1, ds1, p1, q1, rfl, rfl, rfl, h1, r1⟩ := trodAll_cons r0
  obtain ⟨v2, vs2, d2, ds2, p2, q2, rfl, rfl, rfl, h2, r2⟩ := trodAll_cons r1
  obtain ⟨rfl, rfl, rfl⟩ := trodAll_nil r2
  obtain rfl : args = #[v0, v1, v2] := by cases args; simp_all
  obtain ⟨rfl, rfl⟩ := trodVars_none hV
  have k0 := h0
  have lt0 : ∀ x ∈ p0, x.block < W.heap.size := by obtain ⟨m, hm⟩ := k0; exact DataW.trod_lt m _ _ _ hm
  have k1 := h1
  have lt1 : ∀ x ∈ p1, x.block < W.heap.size := by obtain ⟨m, hm⟩ := k1; exact DataW.trod_lt m _ _ _ hm
  have k2 := h2
  have lt2 : ∀ x ∈ p2, x.block < W.heap.size := by obtain ⟨m, hm⟩ := k2; exact DataW.trod_lt m _ _ _ hm
  obtain ⟨L0, l0, z0⟩ := open_rules (hval 0 41 v0 rfl rfl) h0 (fun n hn => by simpa using List.all_eq_true.1 hsz n (DataW.weights_mem_each (j := 0) (t := 41) rfl rfl n hn))
  obtain ⟨L1, l1, z1⟩ := open_cells (hval 1 23 v1 rfl rfl) h1 (fun n hn => by simpa using List.all_eq_true.1 hsz n (DataW.weights_mem_each (j := 1) (t := 23) rfl rfl n hn))
  obtain ⟨a2, rfl, rfl, rfl, w2⟩ := open_int Tryz.underlying3 (hval 2 3 v2 rfl rfl) h2
  clear hA0 hval0
  refine (rewriteDone_walk v0 L0 v1 L1 a2 w2 W l0 z0 l1 z1).mono fun e W' ⟨he, bel⟩ => ?_
  subst he
  exact ⟨_, rfl, _, _, _, [], _, [], hW', trodAll_mk1 (shut_bool Tryz.underlying4 _), (trodAll_cons_mk (Below.trod rewriteDone_laidOut (by kernel_rfl) (of_decide_eq_true (by kernel_rfl)) k0 bel lt0) (trodAll_cons_mk (Below.trod rewriteDone_laidOut (by kernel_rfl) (of_decide_eq_true (by kernel_rfl)) k1 bel lt1) (trodAll_cons_mk (Below.trod rewriteDone_laidOut (by kernel_rfl) (of_decide_eq_true (by kernel_rfl)) k2 bel lt2) trodAll_mk0))), rfl, bel.frame _, fun h => by cases h⟩

theorem rewriteDone_holds : Rows.RewriteDoneSaid :=
  OpenClaim.holds_of_wide 7 Tryz.f7 rfl rfl rfl rfl rfl rfl rfl ⟨rfl, rfl, rfl, rfl, rfl⟩ rfl rfl rfl rfl rfl (by kernel_rfl) Tryz.func7 (by kernel_rfl)
    (of_decide_eq_true (by kernel_rfl)) (by unfold Func.isWrapper; first | (rw [if_pos (by decide +kernel)]; kernel_rfl) | (rw [if_neg (by decide +kernel)]; exact ⟨rfl, rfl⟩))
    (fun os started H enc _ => rewriteDone_lifted os started H enc)

#print axioms rewriteDone_holds

end Go.Proofs.YtgijdhnkkbenoaaGreat
