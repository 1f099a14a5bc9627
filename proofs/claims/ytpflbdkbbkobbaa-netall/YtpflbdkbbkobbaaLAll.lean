/-
  All that fit, rising, are what the net finds; the first of them is First; it has as many rules as were handed in.
-/
import Derived.Test.YtpflbdkbbkobbaaRows
import Derived.Test.YtpflbdkbbkobbaaWake8
import Derived.Test.YtpflbdkbbkobbaaOpenQ
import Derived.ProofKit
import Derived.OpenShut
import Derived.ShutString
import Derived.ChangeOld
import Derived.Below
import Derived.SizedLaws
import Derived.Lib.SmallJoins
namespace Go.Proofs.Ytpflbdkbbkobbaa
open Go.ChangeShapes Go.WideShapes Go.ChangeAt Go.RowKit Go.Joins
open Go.ChangeMaps (open_string shut_string)
set_option linter.unusedVariables false
set_option linter.unusedSimpArgs false
set_option maxRecDepth 100000

set_option maxHeartbeats 8000000 in
theorem netAll_walk (v0 : Value) (rs : List Rl) (v1 : Value) (T : List Cl) (w : World) (hr : LiesR w v0 rs) (hz : rs.length * 56 ≤ 140737488351232 ∧ ∀ r ∈ rs, r.l.length * 24 ≤ 140737488355328 ∧ r.r.length * 24 ≤ 140737488355328) (hT : Lies w v1 T) (hzT : T.length * 24 ≤ 140737488355328) :
    Calls Try.prog 4 #[v0, v1] w fun e w' => e = .returned (.bool true) ∧ Below w.heap.size w w' := by
  have HR := hid hr
  have HT := hid hT
  have HRF := hid hr.fine
  have hwk := wakes_any w
  have hru : ∀ w1, Below w.heap.size w w1 → _ := fun w1 hb => nrules_any w1 v0 rs (HR.out.on hb) hz.1 hz.2
  have hbu : ∀ w1 v, LiesR w1 v rs → _ := fun w1 v h => build_any w1 v rs h
  have hcp : ∀ w1, Below w.heap.size w w1 → _ := fun w1 hb => copy_any w1 v1 T (HT.out.on hb) hzT
  obtain ⟨ra, rc, hrv, _⟩ := id hr
  subst hrv
  obtain ⟨ta, tc, htv, _, _, hfT, _⟩ := id hT
  subst htv
  have HFT := hid hfT
  have hns := net_some
  have hnn := net_none
  clear hr hT hfT hz hzT
  obtain ⟨q, hq⟩ : ∃ q, bE rs = q := ⟨_, rfl⟩
  have HQ := hid hq
  by_cases hb0 : q = 0
  · subst hb0
    have HOK : Hid (RsOk rs ∧ rs.length ≤ 64) := by
      unfold bE at hq
      split at hq
      · cases hq
      · exact ⟨RsOk.of hq, by omega⟩
    have hfi : ∀ w1 B nb v, NetAt w1 B nb rs → Lies w1 v T → Calls Try.prog 11 #[.pointer (some ⟨nb, 0, none⟩), v] w1 fun e w' => Fstd w1 (fstL T rs) e w' := fun w1 B nb v h1 h2 => nfirst_any w1 B nb rs HOK.out.2 HOK.out.1 h1 v T h2
    have hla : ∀ w1 B nb v, NetAt w1 B nb rs → Lies w1 v T → _ := fun w1 B nb v h1 h2 => nall_any w1 B nb rs HOK.out.2 HOK.out.1 h1 v T h2
    have hra : ∀ w1, Below w.heap.size w w1 → _ := fun w1 hb => rall_any w1 _ rs (HR.out.on hb) HOK.out.1 HOK.out.2 _ T (HT.out.on hb)
    have hln : ∀ w1 B nb, NetAt w1 B nb rs → _ := fun w1 B nb h => len_any w1 B nb rs h
    have hhd := fstL_all T rs
    clear hq
    obtain ⟨L, hL⟩ : ∃ L, allL T rs = L := ⟨_, rfl⟩
    rw [hL] at hla hra hhd
    clear hL
    cases hfl : fstL T rs with
    | none =>
      rw [hfl] at hfi hhd
      obtain rfl : L = [] := by
        cases L with
        | nil => rfl
        | cons a l => cases hhd
      clear hfl hhd
      go_enter Try.func4, Try.ntmps4
      go_wp2_with (first
        | (go_at_call 7; refine hwk.mono ?_; clear hwk; rintro e w1 ⟨rfl, hb1⟩; have HB1 := hid hb1; clear hb1)
        | (go_at_call 9; refine (hru _ HB1.out).mono ?_; clear hru; rintro e w2 ⟨v2, rfl, ho2, hb2⟩; have HB2 := hid (HB1.out.trans (hb2.mono HB1.out.size)); have HL2 := hid (ho2.lies HRF.out); obtain ⟨oa, oc, hov⟩ := ho2.form; subst hov; clear ho2 hb2)
        | (go_at_call 8; refine (hbu _ _ HL2.out).mono ?_; clear hbu; rintro e w3 ⟨hb3, h3⟩; obtain ⟨_, nb, h4, hN⟩ := h3.resolve_left (fun h => h.1 HQ.out); subst h4; have HB3 := hid (HB2.out.trans (hb3.mono HB2.out.size)); have HN3 := hid hN; clear hb3 h3 hN)
        | (go_at_call 12; refine (hcp _ HB3.out).mono ?_; rintro e w4 ⟨x4, rfl, ho4, hb4⟩; have HB4 := hid (HB3.out.trans (hb4.mono HB3.out.size)); have HN4 := hid (HN3.out.on hb4); have HL4 := hid (Owns.lies ho4 HFT.out); obtain ⟨xa4, xc4, hxv4, _⟩ := own_cells ho4; subst hxv4; clear ho4 hb4 HB3 HN3)
        | (go_at_call 16; refine (hla _ _ _ _ HN4.out HL4.out).mono ?_; rintro e w5 ⟨v5, rfl, ho5, hb5⟩; have HB5 := hid (HB4.out.trans (hb5.mono HB4.out.size)); have HN5 := hid (HN4.out.on hb5); have HO5 := hid ho5; obtain ⟨ia, ic, hiv, _⟩ := own_cells ho5; subst hiv; clear ho5 hb5 HB4 HN4 HL4)
        | (go_at_call 12; refine (hcp _ HB5.out).mono ?_; clear hcp; rintro e w9 ⟨x9, rfl, ho9, hb9⟩; have HB9 := hid (HB5.out.trans (hb9.mono HB5.out.size)); have HN9 := hid (HN5.out.on hb9); have HO9 := hid (own_below HO5.out hb9); have HL9 := hid (Owns.lies ho9 HFT.out); obtain ⟨xa, xc, hxv, _⟩ := own_cells ho9; subst hxv; clear ho9 hb9 HB5 HN5 HO5)
        | (go_at_call 11; refine (hfi _ _ _ _ HN9.out HL9.out).mono ?_; clear hfi; rintro e w5 ⟨hb5, h5⟩; have h6 := (h5.resolve_right (fun h => by { obtain ⟨_, _, _, h, _⟩ := h; cases h })).2; subst h6; have HB5 := hid (HB9.out.trans (hb5.mono HB9.out.size)); (try have HN7 := hid (HN9.out.on hb5)); (try have HO7 := hid (own_below HO9.out hb5)); clear hb5 h5)
        | (go_at_call 18; refine (hra _ HB5.out).mono ?_; clear hra; rintro e w6 ⟨v6, rfl, ho6, hb6⟩; have HB6 := hid (HB5.out.trans (hb6.mono HB5.out.size)); have HN6 := hid (HN7.out.on hb6); have HO6 := hid (own_below HO7.out hb6); have HP6 := hid ho6; obtain ⟨ja, jc, hjv, _⟩ := own_cells ho6; subst hjv; clear ho6 hb6)
        | (go_at_call 17; refine (sameInts_self _ _ _ _ _ _ HO6.out HP6.out).mono ?_; rintro e wa ⟨rfl, hba⟩; have HBB := hid (HB6.out.trans (hba.mono HB6.out.size)); have HNN := hid (HN6.out.on hba); clear hba)
        | (go_at_call 19; refine (hln _ _ _ HNN.out).mono ?_; rintro e wb ⟨rfl, rfl⟩))
      go_ret
      exact ⟨rfl, HBB.out⟩
    | some p =>
      obtain ⟨id, bs⟩ := p
      rw [hfl] at hfi hhd
      obtain ⟨l, rfl⟩ : ∃ l, L = id :: l := by
        cases L with
        | nil => cases hhd
        | cons a l => simp at hhd; subst hhd; exact ⟨l, rfl⟩
      have hll : (((id :: l).length : Nat) : Int) > 0 := by simp only [List.length_cons]; omega
      have hl0 : (0 : Int) < (((id :: l).length : Nat) : Int) := by simp only [List.length_cons]; omega
      have hii : (id == id) = true := by simp
      obtain ⟨n, hn⟩ : ∃ n, (id :: l).length = n := ⟨_, rfl⟩
      rw [hn] at hla hra hll hl0
      have HNL := hid hn
      have hd1 : decide ((n : Int) > 0) = true := decide_eq_true hll
      clear hfl hhd hn
      go_enter Try.func4, Try.ntmps4
      go_wp2_with (first
        | (go_at_call 7; refine hwk.mono ?_; clear hwk; rintro e w1 ⟨rfl, hb1⟩; have HB1 := hid hb1; clear hb1)
        | (go_at_call 9; refine (hru _ HB1.out).mono ?_; clear hru; rintro e w2 ⟨v2, rfl, ho2, hb2⟩; have HB2 := hid (HB1.out.trans (hb2.mono HB1.out.size)); have HL2 := hid (ho2.lies HRF.out); obtain ⟨oa, oc, hov⟩ := ho2.form; subst hov; clear ho2 hb2)
        | (go_at_call 8; refine (hbu _ _ HL2.out).mono ?_; clear hbu; rintro e w3 ⟨hb3, h3⟩; obtain ⟨_, nb, h4, hN⟩ := h3.resolve_left (fun h => h.1 HQ.out); subst h4; have HB3 := hid (HB2.out.trans (hb3.mono HB2.out.size)); have HN3 := hid hN; clear hb3 h3 hN)
        | (go_at_call 12; refine (hcp _ HB3.out).mono ?_; rintro e w4 ⟨x4, rfl, ho4, hb4⟩; have HB4 := hid (HB3.out.trans (hb4.mono HB3.out.size)); have HN4 := hid (HN3.out.on hb4); have HL4 := hid (Owns.lies ho4 HFT.out); obtain ⟨xa4, xc4, hxv4, _⟩ := own_cells ho4; subst hxv4; clear ho4 hb4 HB3 HN3)
        | (go_at_call 16; refine (hla _ _ _ _ HN4.out HL4.out).mono ?_; rintro e w5 ⟨v5, rfl, ho5, hb5⟩; have HB5 := hid (HB4.out.trans (hb5.mono HB4.out.size)); have HN5 := hid (HN4.out.on hb5); have HO5 := hid ho5; obtain ⟨ia, ic, hiv, _⟩ := own_cells ho5; subst hiv; clear ho5 hb5 HB4 HN4 HL4)
        | (go_at_call 12; refine (hcp _ HB5.out).mono ?_; clear hcp; rintro e w9 ⟨x9, rfl, ho9, hb9⟩; have HB9 := hid (HB5.out.trans (hb9.mono HB5.out.size)); have HN9 := hid (HN5.out.on hb9); have HO9 := hid (own_below HO5.out hb9); have HL9 := hid (Owns.lies ho9 HFT.out); obtain ⟨xa, xc, hxv, _⟩ := own_cells ho9; subst hxv; clear ho9 hb9 HB5 HN5 HO5)
        | (go_at_call 11; refine (hfi _ _ _ _ HN9.out HL9.out).mono ?_; clear hfi; rintro e w5 ⟨hb5, h5⟩; obtain ⟨id5, bs5, bv5, h6, h7, h8⟩ := h5.resolve_left (fun h => by cases h.1); cases h6; subst h7; have HB5 := hid (HB9.out.trans (hb5.mono HB9.out.size)); have HO5 := hid h8; obtain ⟨ba5, bc5, hv5, _⟩ := h8.form; subst hv5; (try have HN7 := hid (HN9.out.on hb5)); (try have HO7 := hid (own_below HO9.out hb5)); clear hb5 h5 h8)
        | (go_at_call 18; refine (hra _ HB5.out).mono ?_; clear hra; rintro e w6 ⟨v6, rfl, ho6, hb6⟩; have HB6 := hid (HB5.out.trans (hb6.mono HB5.out.size)); have HN6 := hid (HN7.out.on hb6); have HO6 := hid (own_below HO7.out hb6); have HP6 := hid ho6; obtain ⟨ja, jc, hjv, _⟩ := own_cells ho6; subst hjv; clear ho6 hb6)
        | (go_at_call 17; refine (sameInts_self _ _ _ _ _ (id :: l) (by rw [HNL.out]; exact HO6.out) (by rw [HNL.out]; exact HP6.out)).mono ?_; rintro e wa ⟨rfl, hba⟩; have HBB := hid (HB6.out.trans (hba.mono HB6.out.size)); have HNN := hid (HN6.out.on hba); have HOa := own_below HO6.out hba; obtain ⟨ia2, ic2, hi2, _, _, hcc⟩ := own_cells HOa; cases hi2; obtain ⟨gi, hgi, _, _, ci0⟩ := hcc 0 (.int .i64 id) rfl; subst hgi; clear hba HOa hcc)
        | (go_at_call 19; refine (hln _ _ _ HNN.out).mono ?_; rintro e wb ⟨rfl, rfl⟩))
      go_ret
      exact ⟨rfl, HBB.out⟩
  · have hqn : ((q : Int) == 0) = false := by simp only [beq_eq_false_iff_ne]; omega
    have hqn2 : ¬ (q : Int) = 0 := by omega
    have hqb : ((q : Int) != 0) = true := by simp; omega
    clear hq
    go_enter Try.func4, Try.ntmps4
    go_wp2_with (first
      | (go_at_call 7; refine hwk.mono ?_; clear hwk; rintro e w1 ⟨rfl, hb1⟩; have HB1 := hid hb1; clear hb1)
      | (go_at_call 9; refine (hru _ HB1.out).mono ?_; clear hru; rintro e w2 ⟨v2, rfl, ho2, hb2⟩; have HB2 := hid (HB1.out.trans (hb2.mono HB1.out.size)); have HL2 := hid (ho2.lies HRF.out); obtain ⟨oa, oc, hov⟩ := ho2.form; subst hov; clear ho2 hb2)
      | (go_at_call 8; refine (hbu _ _ HL2.out).mono ?_; rintro e w3 ⟨hb3, h3⟩; have h4 := h3.resolve_right (fun h => hb0 (HQ.out.symm.trans h.1)); obtain ⟨_, h5⟩ := h4; rw [HQ.out] at h5; subst h5; have HB3 := hid (HB2.out.trans (hb3.mono HB2.out.size)); clear hb3 h3))
    go_ret
    exact ⟨rfl, HB3.out⟩

theorem netAll_own : ownKnob Try.prog.godebug = none := by kernel_rfl
theorem netAll_laidOut : laidOutB Try.prog = true := by kernel_rfl

set_option maxRecDepth 100000 in
theorem netAll_lifted (os : Os) (started : os.Started) (H : Type) (enc : TypeId × Value → H) :
    ReturnsInHanded {} Try.checked os 4 .any (Rows.netAllSpec.pre6 enc Try.prog Try.f4 Rows.netAllRow.domain false) (Rows.netAllSpec.post enc Try.prog Try.f4 false true false false) := by
  refine returnsInHanded_of_change_sized (C := Try.checked) netAll_own started (by kernel_rfl) Try.func4
    (ChangeSpec.witness6 (enc := enc) (C := Try.checked) false ⟨#[], #[.slice none 0 0, .slice none 0 0], []⟩ 8 (by kernel_rfl) (by kernel_rfl) (by kernel_rfl) (by kernel_rfl)) ?_
  intro W base args ds gs before hval0 hW hcnd hsz0 _
  have hsz : (DataW.weightsEach Try.prog (Try.f4.params.toList ++ Rows.netAllSpec.plain.varTypes Try.prog) (ds ++ gs)).all (· ≤ reachBytes) = true := hsz0
  have hval : ∀ (j : Nat) t v, Try.f4.params[j]? = some t → args[j]? = some v → Value.okWide Try.prog W .any base t v := hval0
  have hW' := hW
  obtain ⟨p, q, hA0, hV, rfl, hfz, hnd⟩ := hW
  have hA : DataW.TrodAll enc Try.prog W 0 (fun _ => true) true Try.f4.params.toList args.toList ds p := hA0
  rw [Try.params4] at hA hval hsz
  obtain ⟨v0, vs0, d0, ds0, p0, q0, hargs, rfl, rfl, h0, r0⟩ := trodAll_cons hA
  obtain ⟨v1, vs1, d1, ds1, p1, q1, rfl, rfl, rfl, h1, r1⟩ := trodAll_cons r0
  obtain ⟨rfl, rfl, rfl⟩ := trodAll_nil r1
  obtain rfl : args = #[v0, v1] := by cases args; simp_all
  obtain ⟨rfl, rfl⟩ := trodVars_none hV
  have k0 := h0
  have lt0 : ∀ x ∈ p0, x.block < W.heap.size := by obtain ⟨m, hm⟩ := k0; exact DataW.trod_lt m _ _ _ hm
  have k1 := h1
  have lt1 : ∀ x ∈ p1, x.block < W.heap.size := by obtain ⟨m, hm⟩ := k1; exact DataW.trod_lt m _ _ _ hm
  obtain ⟨L0, l0, z0⟩ := open_rules (hval 0 22 v0 rfl rfl) h0 (fun n hn => by simpa using List.all_eq_true.1 hsz n (DataW.weights_mem_each (j := 0) (t := 22) rfl rfl n hn))
  obtain ⟨L1, l1, z1⟩ := open_cells (hval 1 24 v1 rfl rfl) h1 (fun n hn => by simpa using List.all_eq_true.1 hsz n (DataW.weights_mem_each (j := 1) (t := 24) rfl rfl n hn))
  clear hA0 hval0
  refine (netAll_walk v0 L0 v1 L1 W l0 z0 l1 z1).mono fun e W' ⟨he, bel⟩ => ?_
  subst he
  exact ⟨_, rfl, _, _, _, [], _, [], hW', trodAll_mk1 (shut_bool Try.underlying4 _), (trodAll_cons_mk (Below.trod netAll_laidOut (by kernel_rfl) (of_decide_eq_true (by kernel_rfl)) k0 bel lt0) (trodAll_cons_mk (Below.trod netAll_laidOut (by kernel_rfl) (of_decide_eq_true (by kernel_rfl)) k1 bel lt1) trodAll_mk0)), rfl, bel.frame _, fun h => by cases h⟩

theorem netAll_holds : Rows.NetAllSaid :=
  OpenClaim.holds_of_wide 4 Try.f4 rfl rfl rfl rfl rfl rfl rfl ⟨rfl, rfl, rfl, rfl, rfl⟩ rfl rfl rfl rfl rfl (by kernel_rfl) Try.func4 (by kernel_rfl)
    (of_decide_eq_true (by kernel_rfl)) (by unfold Func.isWrapper; first | (rw [if_pos (by decide +kernel)]; kernel_rfl) | (rw [if_neg (by decide +kernel)]; exact ⟨rfl, rfl⟩))
    (fun os started H enc _ => netAll_lifted os started H enc)

#print axioms netAll_holds

end Go.Proofs.Ytpflbdkbbkobbaa
