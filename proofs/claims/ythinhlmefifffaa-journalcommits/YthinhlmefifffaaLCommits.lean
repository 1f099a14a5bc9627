/-
  JournalCommits holds: any pages are written in the order that the document says, with any cut, or refused; no condition.
-/
import Derived.Test.YthinhlmefifffaaRows
import Derived.Test.YthinhlmefifffaaTc
import Derived.ProofKit
import Derived.OpenShut
import Derived.ShutString
import Derived.ChangeOld
import Derived.Below
import Derived.SizedLaws
import Derived.Lib.SmallJoins
namespace Go.Proofs.Ythinhlmefifffaa
open Go.ChangeShapes Go.WideShapes Go.ChangeAt Go.RowKit Go.Joins
open Go.ChangeMaps (open_string shut_string)
set_option linter.unusedVariables false
set_option linter.unusedSimpArgs false
set_option maxRecDepth 100000

set_option maxHeartbeats 8000000 in
theorem journalCommits_walk (n : Int) (v : Value) (L : List Pg) (c : Int) (wf : (Lit.int .i64 n).wf = true) (wc : (Lit.int .i64 c).wf = true) (w : World) (hl : LiesO w (fun _ => False) v L) (hz : L.length * 24 ≤ 140737488351232) :
    Calls Try.prog 4 #[.int .i64 n, v, .int .i64 c] w fun e w' => e = .returned (.bool true) ∧ Below w.heap.size w w' := by
  have hc : -9223372036854775808 ≤ c ∧ c ≤ 9223372036854775807 := by have := bounds_i64 wc; omega
  have hwk := wakes_any w
  have HCP : Hid (∀ w1, Below w.heap.size w w1 → Calls Try.prog 17 #[v] w1 fun e w' => ∃ v', e = .returned v' ∧ RowP w' w1.heap.size v' L ∧ Below w1.heap.size w1 w') := fun w1 hb => copyPages_any w1 _ v L (hl.on hb) hz
  have HLA : Hid (∀ w1 : World, _) := fun w1 => laid_any n (.slice none 0 0) [] w1 ⟨none, 0, rfl, Nat.le_refl _, Nat.zero_le _, (fun k c hc => by simp at hc)⟩
  have HF := hid hl.fit
  have HL := hid hl
  have hlz : L.length ≤ 5864062014635 := by omega
  obtain ⟨d0, hd0⟩ : ∃ d0 : Ds, (⟨layK (szN n) [], [], -1, false⟩ : Ds) = d0 := ⟨_, rfl⟩
  rw [hd0] at HLA
  have hg0 : d0.lg.length = 0 := by rw [← hd0]; rfl
  obtain ⟨d1, hd1⟩ : ∃ d1, d0.cut c = d1 := ⟨_, rfl⟩
  have hg1 : d1.lg.length = 0 := by rw [← hd1]; exact hg0
  have hF1 : Fit (d1.lg.length + 5000) := by rw [hg1]; unfold Fit; decide
  have HC1 : Hid (∀ w1 k k' e v' M, Tx w w1 k k' d0 e v' M → Calls Try.prog 15 #[.pointer (some ⟨k, 0, none⟩), .int .i64 c] w1 fun x w' => x = .returned (.tuple #[]) ∧ Tx w w' k k' d1 e v' M) := fun w1 k k' e v' M h => by rw [← hd1]; exact cut_tx w w1 k k' d0 e v' M c hc h
  have HC2 : Hid (∀ w1 k k' e v' M, Tx w w1 k k' e d0 v' M → Calls Try.prog 16 #[.pointer (some ⟨k', 0, none⟩), .int .i64 c] w1 fun x w' => x = .returned (.tuple #[]) ∧ Tx w w' k k' e d1 v' M) := fun w1 k k' e v' M h => by rw [← hd1]; exact rCut_tx w w1 k k' e d0 v' M c hc h
  obtain ⟨x, d2, hx⟩ : ∃ x d2, cmt d1 L = (x, d2) := ⟨_, _, rfl⟩
  have HCM : Hid (∀ w1 k k' e v', Tx w w1 k k' d1 e v' L → Calls Try.prog 18 #[.pointer (some ⟨k, 0, none⟩), v'] w1 fun z w' => z = .returned (.int .i64 (x : Nat)) ∧ Tx w w' k k' d2 e v' L) := fun w1 k k' e v' h => by
    have := commit_tx w w1 k k' d1 e v' L HF.out h hF1
    rw [hx] at this
    exact this
  have HRM : Hid (∀ w1 k k' e v', Tx w w1 k k' e d1 v' L → Calls Try.prog 19 #[.pointer (some ⟨k', 0, none⟩), v] w1 fun z w' => z = .returned (.int .i64 (x : Nat)) ∧ Tx w w' k k' e d2 v' L) := fun w1 k k' e v' h => by
    have := rCommit_tx w w1 k k' e d1 v' L v L HL.out h hF1
    rw [hx] at this
    exact this
  have HG2 : Hid (Fit d2.lg.length) := by
    have h1 := cmt_lg d1 L
    rw [hx] at h1
    simp only at h1
    have h2 : lb L.length ≤ L.length + 1 := by unfold lb; omega
    by_cases hk : ck d1.bs.length L = 0
    · have h3 : L.length ≤ pgs d1.bs.length := by
        unfold ck at hk
        split at hk
        · cases hk
        · omega
      have h4 : d1.bs.length = szN n := by rw [← hd1, ← hd0]; exact layK_len _ _
      have h5 : pgs d1.bs.length ≤ 1019 := pgs_hi (by rw [h4]; have := szN_hi n; omega)
      show Fit _
      unfold Fit
      omega
    · have h3 : cmt d1 L = (ck d1.bs.length L, d1) := by unfold cmt; rw [if_neg hk]
      rw [hx] at h3
      cases h3
      show Fit _
      rw [hg1]
      unfold Fit
      decide
  obtain ⟨a, cc, e1⟩ := hl.form
  subst e1
  clear hl hz hd0 hd1 hx hg0 hg1 hF1 HF wf wc hc
  obtain ⟨N, hN⟩ : ∃ N, L.length = N := ⟨_, rfl⟩
  rw [hN] at HCP HRM HL hlz ⊢
  have HN := hid hN
  clear hN
  have hLT : Hid (∀ w1 k k' v', Tx w w1 k k' d2 d2 v' L → _) := fun w1 k k' v' h => log_tx w w1 k k' d2 d2 v' L h HG2.out
  have hIT : Hid (∀ w1 k k' v', Tx w w1 k k' d2 d2 v' L → _) := fun w1 k k' v' h => image_tx w w1 k k' d2 d2 v' L h
  have hDT : Hid (∀ w1 k k' v', Tx w w1 k k' d2 d2 v' L → _) := fun w1 k k' v' h => down_tx w w1 k k' d2 d2 v' L h
  go_enter Try.func4, Try.ntmps4
  go_upto_region 11 with (first
    | (go_at_call 9; refine hwk.mono ?_; clear hwk; rintro e w1 ⟨rfl, hb1⟩; have HB1 := hid hb1; clear hb1)
    | (go_at_call 14; refine (HLA.out _).mono ?_; clear HLA; rintro e w2 ⟨k, k', rfl, h2⟩; have HT2 : Hid (Tw w w2 k k' d0 d0) := h2.base HB1.out; clear h2 HB1)
    | (go_at_call 15; refine (HC1.out _ _ _ _ _ _ HT2.out.tx0).mono ?_; clear HC1; rintro e w3 ⟨rfl, h3⟩; have HT3 := hid h3; clear h3 HT2)
    | (go_at_call 16; refine (HC2.out _ _ _ _ _ _ HT3.out).mono ?_; clear HC2; rintro e w4 ⟨rfl, h4⟩; have HT4 : Hid (Tw w w4 k k' d1 d1) := h4.tw; clear h4 HT3)
    | (go_at_call 17; refine (HCP.out _ HT4.out.below).mono ?_; clear HCP; rintro e w5 ⟨v5, rfl, hr5, hb5⟩; have HT5 : Hid (Tx w w5 k k' d1 d1 v5 L) := HT4.out.tx hb5 hr5; obtain ⟨ia, ic, hiv⟩ := hr5.form; rw [HN.out] at hiv; subst hiv; clear hr5 hb5 HT4)
    | (go_at_call 18; refine (HCM.out _ _ _ _ _ HT5.out).mono ?_; clear HCM; rintro e w6 ⟨rfl, h6⟩; have HT6 := hid h6; clear h6 HT5)
    | (go_at_call 19; refine (HRM.out _ _ _ _ _ HT6.out).mono ?_; clear HRM; rintro e w7 ⟨rfl, h7⟩; have HT7 := hid h7; clear h7 HT6))
  obtain ⟨ba, bc, la, lc, e0, e1, e4, r0, r1, hkl, hbl⟩ := HT7.out.rows
  have HT0 : Hid (Tx w w7.drew k k' d2 d2 (.slice ia N ic) L) := HT7.out.on (Below.drew (Below.refl _ w7))
  have HR0 : Hid (RowS w7.drew 0 (.slice ba d2.bs.length bc) d2.bs) := r0
  have HR1 : Hid (RowP w7.drew 0 (.slice la d2.lg.length lc) d2.lg) := r1
  have HBL := hid hbl
  have HS0 : w7.drew.cell? ⟨k', 0, none⟩ = some (.slice ba d2.bs.length bc) ∧ w7.drew.cell? ⟨k', 1, none⟩ = some (.slice la d2.lg.length lc) ∧ w7.drew.cell? ⟨k', 4, none⟩ = some (.bool d2.dn) := ⟨e0, e1, e4⟩
  have HKL : Hid (k' < w7.drew.heap.size) := hkl
  clear e0 e1 e4 r0 r1 HT7 hkl hbl
  obtain ⟨lb, hlb⟩ : ∃ lb, d2.bs.length = lb := ⟨_, rfl⟩
  obtain ⟨lk, hlk⟩ : ∃ lk, d2.lg.length = lk := ⟨_, rfl⟩
  obtain ⟨dn, hdn⟩ : ∃ dn, d2.dn = dn := ⟨_, rfl⟩
  rw [hlb] at HR0 HS0 HBL
  rw [hlk] at HR1 HS0 HG2
  rw [hdn] at HS0
  have HLB := hid hlb
  have HLK := hid hlk
  have HDN := hid hdn
  clear hlb hlk hdn
  have K1 : ∀ w5, Below w7.drew.heap.size w7.drew w5 → w5.cell? ⟨k', 0, none⟩ = some (.slice ba lb bc) ∧ w5.cell? ⟨k', 1, none⟩ = some (.slice la lk lc) ∧ w5.cell? ⟨k', 4, none⟩ = some (.bool dn) := fun w5 hb => ⟨(hb.cell (p := ⟨k', 0, none⟩) HKL.out).trans HS0.1, (hb.cell (p := ⟨k', 1, none⟩) HKL.out).trans HS0.2.1, (hb.cell (p := ⟨k', 4, none⟩) HKL.out).trans HS0.2.2⟩
  have HK1 := hid K1
  have HLI : Hid (∀ w5, Below w.heap.size w w5 → LiesO w5 (fun _ => False) (.slice a N cc) L) := fun w5 hb => HL.out.on hb
  have HLO : Hid (∀ w5, RowP w5 0 (.slice ia N ic) L → LiesO w5 (fun _ => False) (.slice ia N ic) L) := fun w5 h => h.lies (fun _ _ h => h) HL.out.fit
  clear K1 HL
  go_region_held3 (fun w' => w'.cell? ⟨k', 0, none⟩ = some (.slice ba lb bc) ∧ w'.cell? ⟨k', 1, none⟩ = some (.slice la lk lc) ∧ w'.cell? ⟨k', 4, none⟩ = some (.bool dn)) (first | exact HS0 | exact HS1 | exact HS2 | exact HS3 | exact HS4 | exact HS5)
    (first
      | (go_at_call 21; refine (hLT.out _ _ _ _ HT0.out).mono ?_; clear hLT; rintro e w8 ⟨v8, rfl, hr8, hb8⟩; have HP8 := hid hr8; have HB8 := hid hb8; obtain ⟨pa, pc, hpv⟩ := hr8.form; subst hpv; rw [HLK.out]; rw [HLK.out] at HP8; have HS1 := HK1.out w8 hb8; clear hr8 hb8)
      | (go_at_call 20; refine (samePages_self w8 w7.drew.heap.size 0 _ _ d2.lg HP8.out (HR1.out.on HB8.out) (by rw [HLK.out]; exact HG2.out)).mono ?_; rintro e w9 ⟨rfl, hb9⟩; have HB9 := hid (HB8.out.trans (hb9.mono HB8.out.size)); have HS2 := HK1.out w9 HB9.out; clear hb9 HP8 HB8)
      | (go_at_call 20; refine (samePages_lies w9 _ _ _ _ L (HLO.out _ ((HT0.out.on HB9.out).row)) (HLI.out _ (HT0.out.on HB9.out).below) (by rw [HN.out]; exact hlz)).mono ?_; rintro e w10 ⟨rfl, hb10⟩; have HB10 := hid (HB9.out.trans (hb10.mono HB9.out.size)); have HS3 := HK1.out w10 HB10.out; clear hb10 HB9 HLO HLI)
      | (go_at_call 23; refine (hIT.out _ _ _ _ (HT0.out.on HB10.out)).mono ?_; clear hIT; rintro e w11 ⟨v11, rfl, hr11, hb11⟩; have HP11 := hid hr11; have HB11 := hid (HB10.out.trans (hb11.mono HB10.out.size)); obtain ⟨ja, jc, hjv⟩ := hr11.form; subst hjv; rw [HLB.out]; rw [HLB.out] at HP11; have HS4 := HK1.out w11 HB11.out; clear hr11 hb11)
      | (go_at_call 22; refine (same_self w11 w10.heap.size 0 _ _ d2.bs HP11.out (HR0.out.on HB11.out) (by rw [HLB.out]; have := HBL.out; omega)).mono ?_; rintro e w12 ⟨rfl, hb12⟩; have HB12 := hid (HB11.out.trans (hb12.mono HB11.out.size)); have HS5 := HK1.out w12 HB12.out; clear hb12 HP11 HB11 HB10)
      | (go_at_call 24; refine (hDT.out _ _ _ _ (HT0.out.on HB12.out)).mono ?_; clear hDT; rintro e w13 ⟨rfl, rfl⟩; rw [HDN.out]))
  go_wp2_with fail
  go_ret
  exact ⟨rfl, HT0.out.below.trans (HB12.out.mono HT0.out.below.size)⟩

theorem journalCommits_own : ownKnob Try.prog.godebug = none := by kernel_rfl
theorem journalCommits_laidOut : laidOutB Try.prog = true := by kernel_rfl

set_option maxRecDepth 100000 in
theorem journalCommits_lifted (os : Os) (started : os.Started) (H : Type) (enc : TypeId × Value → H) :
    ReturnsInHanded {} Try.checked os 4 .any (Rows.journalCommitsSpec.pre6 enc Try.prog Try.f4 Rows.journalCommitsRow.domain false) (Rows.journalCommitsSpec.post enc Try.prog Try.f4 false true false false) := by
  refine returnsInHanded_of_change_sized (C := Try.checked) journalCommits_own started (by kernel_rfl) Try.func4
    (ChangeSpec.witness6 (enc := enc) (C := Try.checked) false ⟨#[], #[.int .i64 0, .slice none 0 0, .int .i64 0], []⟩ 8 (by kernel_rfl) (by kernel_rfl) (by kernel_rfl) (by kernel_rfl)) ?_
  intro W base args ds gs before hval0 hW hcnd hsz0 _
  have hsz : (DataW.weightsEach Try.prog (Try.f4.params.toList ++ Rows.journalCommitsSpec.plain.varTypes Try.prog) (ds ++ gs)).all (· ≤ reachBytes) = true := hsz0
  have hval : ∀ (j : Nat) t v, Try.f4.params[j]? = some t → args[j]? = some v → Value.okWide Try.prog W .any base t v := hval0
  have hW' := hW
  obtain ⟨p, q, hA0, hV, rfl, hfz, hnd⟩ := hW
  have hA : DataW.TrodAll enc Try.prog W 0 (fun _ => true) true Try.f4.params.toList args.toList ds p := hA0
  rw [Try.params4] at hA hval hsz
  obtain ⟨v0, vs0, d0, ds0, p0, q0, hargs, rfl, rfl, h0, r0⟩ := trodAll_cons hA
  obtain ⟨v1, vs1, d1, ds1, p1, q1, rfl, rfl, rfl, h1, r1⟩ := trodAll_cons r0
  obtain ⟨v2, vs2, d2, ds2, p2, q2, rfl, rfl, rfl, h2, r2⟩ := trodAll_cons r1
  obtain ⟨rfl, rfl, rfl⟩ := trodAll_nil r2
  obtain rfl : args = #[v0, v1, v2] := by cases args; simp_all
  obtain ⟨rfl, rfl⟩ := trodVars_none hV
  have k0 := h0
  have lt0 : ∀ x ∈ p0, x.block < W.heap.size := by obtain ⟨m, hm⟩ := k0; exact DataW.trod_lt m _ _ _ hm
  have k1 := h1
  have lt1 : ∀ x ∈ p1, x.block < W.heap.size := by obtain ⟨m, hm⟩ := k1; exact DataW.trod_lt m _ _ _ hm
  have k2 := h2
  have lt2 : ∀ x ∈ p2, x.block < W.heap.size := by obtain ⟨m, hm⟩ := k2; exact DataW.trod_lt m _ _ _ hm
  obtain ⟨a0, rfl, rfl, rfl, w0⟩ := open_int Try.underlying3 (hval 0 3 v0 rfl rfl) h0
  obtain ⟨L1, l1, z1⟩ := open_pages (hval 1 25 v1 rfl rfl) h1 (fun n hn => by simpa using List.all_eq_true.1 hsz n (DataW.weights_mem_each (j := 1) (t := 25) rfl rfl n hn))
  obtain ⟨a2, rfl, rfl, rfl, w2⟩ := open_int Try.underlying3 (hval 2 3 v2 rfl rfl) h2
  clear hA0 hval0
  refine (journalCommits_walk a0 v1 L1 a2 w0 w2 W l1 z1).mono fun e W' ⟨he, bel⟩ => ?_
  subst he
  exact ⟨_, rfl, _, _, _, [], _, [], hW', trodAll_mk1 (shut_bool Try.underlying4 _), (trodAll_cons_mk (Below.trod journalCommits_laidOut (by kernel_rfl) (of_decide_eq_true (by kernel_rfl)) k0 bel lt0) (trodAll_cons_mk (Below.trod journalCommits_laidOut (by kernel_rfl) (of_decide_eq_true (by kernel_rfl)) k1 bel lt1) (trodAll_cons_mk (Below.trod journalCommits_laidOut (by kernel_rfl) (of_decide_eq_true (by kernel_rfl)) k2 bel lt2) trodAll_mk0))), rfl, bel.frame _, fun h => by cases h⟩

theorem journalCommits_holds : Rows.JournalCommitsSaid :=
  OpenClaim.holds_of_wide 4 Try.f4 rfl rfl rfl rfl rfl rfl rfl ⟨rfl, rfl, rfl, rfl, rfl⟩ rfl rfl rfl rfl rfl (by kernel_rfl) Try.func4 (by kernel_rfl)
    (of_decide_eq_true (by kernel_rfl)) (by unfold Func.isWrapper; first | (rw [if_pos (by decide +kernel)]; kernel_rfl) | (rw [if_neg (by decide +kernel)]; exact ⟨rfl, rfl⟩))
    (fun os started H enc _ => journalCommits_lifted os started H enc)

#print axioms journalCommits_holds

end Go.Proofs.Ythinhlmefifffaa
