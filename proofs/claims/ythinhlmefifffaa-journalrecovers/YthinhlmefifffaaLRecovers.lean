/-
  JournalRecovers holds: whatever lies on a disk, with any cut, what is told there is written, or nothing is; no condition.
-/
import Derived.Test.YthinhlmefifffaaRows
import Derived.Test.YthinhlmefifffaaRe
import Derived.Test.YthinhlmefifffaaTc
import Derived.ProofKit
import Derived.OpenShut
import Derived.ShutString
import Derived.ChangeOld
import Derived.Below
import Derived.SizedLaws
import Derived.Lib.SmallJoins
namespace Go.Proofs.Ythinhlmefifffaa
open Go.ChangeShapes Go.WideShapes Go.ChangeAt Go.RowKit Go.Joins
open Go.ChangeMaps (open_string shut_string)
set_option linter.unusedVariables false
set_option linter.unusedSimpArgs false
set_option maxRecDepth 100000

set_option maxHeartbeats 8000000 in
theorem rRecover_tx (w0 w : World) (k k' : Nat) (d e : Ds) (v : Value) (L : List Pg) (h : Tx w0 w k k' d e v L) (hz : Fit (e.lg.length + 1500)) : Calls Try.prog 26 #[.pointer (some ⟨k', 0, none⟩)] w fun x w' => x = .returned (.tuple #[.int .i64 ((recv e).1 : Nat), .int .i64 ((recv e).2.1 : Nat)]) ∧ Tx w0 w' k k' d (recv e).2.2 v L := by
  obtain ⟨S, R, h1, h2, h3, h4, h5, h6, h7, h8⟩ := h
  exact (rRecover_any w R k' e h2 hz).mono fun x w' hh => ⟨hh.1, Tx.right (e := e) h1 h3 h4 h5 h6 h7 h8 hh.2⟩
theorem recv_lg {d : Ds} (hhi : d.bs.length ≤ 2048) : (recv d).2.2.lg.length ≤ d.lg.length + 1020 := by
  have hpl := pend_len d.bs
  have hpq := pgs_hi hhi
  have h1 := Ds.wrs_lg (settledL (pend d.bs)) d
  rw [settledL_len] at h1
  unfold recv
  split
  · show d.lg.length ≤ _; omega
  split
  · show d.lg.length ≤ _; omega
  split
  · show (d.wrs (settledL (pend d.bs))).2.lg.length ≤ _; omega
  · show (d.wrs (settledL (pend d.bs))).2.lg.length ≤ _; omega

set_option maxHeartbeats 8000000 in
theorem journalRecovers_walk (n : Int) (v : Value) (Y : List Pg) (c : Int) (wf : (Lit.int .i64 n).wf = true) (wc : (Lit.int .i64 c).wf = true) (w : World) (hl : LiesO w (fun _ => False) v Y) (hz : Y.length * 24 ≤ 140737488351232) :
    Calls Try.prog 5 #[.int .i64 n, v, .int .i64 c] w fun e w' => e = .returned (.bool true) ∧ Below w.heap.size w w' := by
  have hc : -9223372036854775808 ≤ c ∧ c ≤ 9223372036854775807 := by have := bounds_i64 wc; omega
  have hwk := wakes_any w
  have HLA : Hid (∀ w1 : World, Below w.heap.size w w1 → _) := fun w1 hb => laid_any n v Y w1 (hl.on hb)
  obtain ⟨d0, hd0⟩ : ∃ d0 : Ds, (⟨layK (szN n) Y, [], -1, false⟩ : Ds) = d0 := ⟨_, rfl⟩
  rw [hd0] at HLA
  have hg0 : d0.lg.length = 0 := by rw [← hd0]; rfl
  obtain ⟨d1, hd1⟩ : ∃ d1, d0.cut c = d1 := ⟨_, rfl⟩
  have hg1 : d1.lg.length = 0 := by rw [← hd1]; exact hg0
  have hF1 : Fit (d1.lg.length + 1500) := by rw [hg1]; unfold Fit; decide
  have HC1 : Hid (∀ w1 k k' e v' M, Tx w w1 k k' d0 e v' M → Calls Try.prog 15 #[.pointer (some ⟨k, 0, none⟩), .int .i64 c] w1 fun x w' => x = .returned (.tuple #[]) ∧ Tx w w' k k' d1 e v' M) := fun w1 k k' e v' M h => by rw [← hd1]; exact cut_tx w w1 k k' d0 e v' M c hc h
  have HC2 : Hid (∀ w1 k k' e v' M, Tx w w1 k k' e d0 v' M → Calls Try.prog 16 #[.pointer (some ⟨k', 0, none⟩), .int .i64 c] w1 fun x w' => x = .returned (.tuple #[]) ∧ Tx w w' k k' e d1 v' M) := fun w1 k k' e v' M h => by rw [← hd1]; exact rCut_tx w w1 k k' e d0 v' M c hc h
  obtain ⟨x, y, d2, hx⟩ : ∃ x y d2, recv d1 = (x, y, d2) := ⟨_, _, _, rfl⟩
  have HCM : Hid (∀ w1 k k' e v' M, Tx w w1 k k' d1 e v' M → Calls Try.prog 25 #[.pointer (some ⟨k, 0, none⟩)] w1 fun z w' => z = .returned (.tuple #[.int .i64 (x : Nat), .int .i64 (y : Nat)]) ∧ Tx w w' k k' d2 e v' M) := fun w1 k k' e v' M h => by
    have := recover_tx w w1 k k' d1 e v' M h hF1
    rw [hx] at this
    exact this
  have HRM : Hid (∀ w1 k k' e v' M, Tx w w1 k k' e d1 v' M → Calls Try.prog 26 #[.pointer (some ⟨k', 0, none⟩)] w1 fun z w' => z = .returned (.tuple #[.int .i64 (x : Nat), .int .i64 (y : Nat)]) ∧ Tx w w' k k' e d2 v' M) := fun w1 k k' e v' M h => by
    have := rRecover_tx w w1 k k' e d1 v' M h hF1
    rw [hx] at this
    exact this
  have HG2 : Hid (Fit d2.lg.length) := by
    have h4 : d1.bs.length = szN n := by rw [← hd1, ← hd0]; exact layK_len _ _
    have h1 := recv_lg (d := d1) (by rw [h4]; have := szN_hi n; omega)
    rw [hx] at h1
    simp only at h1
    show Fit _
    unfold Fit
    omega
  obtain ⟨a, cc, e1⟩ := hl.form
  subst e1
  clear hl hz hd0 hd1 hx hg0 hg1 hF1 wf wc hc
  generalize Y.length = N at *
  have hLT : Hid (∀ w1 k k' v' M, Tx w w1 k k' d2 d2 v' M → _) := fun w1 k k' v' M h => log_tx w w1 k k' d2 d2 v' M h HG2.out
  go_enter Try.func5, Try.ntmps5
  go_upto_region 10 with (first
    | (go_at_call 9; refine hwk.mono ?_; clear hwk; rintro e w1 ⟨rfl, hb1⟩; have HB1 := hid hb1; clear hb1)
    | (go_at_call 14; refine (HLA.out _ HB1.out).mono ?_; clear HLA; rintro e w2 ⟨k, k', rfl, h2⟩; have HT2 : Hid (Tw w w2 k k' d0 d0) := h2.base HB1.out; clear h2 HB1)
    | (go_at_call 15; refine (HC1.out _ _ _ _ _ _ HT2.out.tx0).mono ?_; clear HC1; rintro e w3 ⟨rfl, h3⟩; have HT3 := hid h3; clear h3 HT2)
    | (go_at_call 16; refine (HC2.out _ _ _ _ _ _ HT3.out).mono ?_; clear HC2; rintro e w4 ⟨rfl, h4⟩; have HT4 := hid h4; clear h4 HT3)
    | (go_at_call 25; refine (HCM.out _ _ _ _ _ _ HT4.out).mono ?_; clear HCM; rintro e w6 ⟨rfl, h6⟩; have HT6 := hid h6; clear h6 HT4)
    | (go_at_call 26; refine (HRM.out _ _ _ _ _ _ HT6.out).mono ?_; clear HRM; rintro e w7 ⟨rfl, h7⟩; have HT7 := hid h7; clear h7 HT6))
  obtain ⟨ba, bc, la, lc, e0, e1, e4, r0, r1, hkl, hbl⟩ := HT7.out.rows
  have HT0 : Hid (Tx w w7.drew k k' d2 d2 (.slice none 0 0) []) := HT7.out.on (Below.drew (Below.refl _ w7))
  have HR1 : Hid (RowP w7.drew 0 (.slice la d2.lg.length lc) d2.lg) := r1
  have HS0 : w7.drew.cell? ⟨k', 1, none⟩ = some (.slice la d2.lg.length lc) := e1
  have HKL : Hid (k' < w7.drew.heap.size) := hkl
  clear e0 e1 e4 r0 r1 HT7 hkl hbl
  obtain ⟨lk, hlk⟩ : ∃ lk, d2.lg.length = lk := ⟨_, rfl⟩
  rw [hlk] at HR1 HS0 HG2
  have HLK := hid hlk
  clear hlk
  have K1 : ∀ w5, Below w7.drew.heap.size w7.drew w5 → w5.cell? ⟨k', 1, none⟩ = some (.slice la lk lc) := fun w5 hb => (hb.cell (p := ⟨k', 1, none⟩) HKL.out).trans HS0
  have HK1 := hid K1
  clear K1
  go_region_held3 (fun w' => w'.cell? ⟨k', 1, none⟩ = some (.slice la lk lc)) (first | exact HS0 | exact HS1 | exact HS2)
    (first
      | (go_at_call 21; refine (hLT.out _ _ _ _ _ HT0.out).mono ?_; clear hLT; rintro e w8 ⟨v8, rfl, hr8, hb8⟩; have HP8 := hid hr8; have HB8 := hid hb8; obtain ⟨pa, pc, hpv⟩ := hr8.form; subst hpv; rw [HLK.out]; rw [HLK.out] at HP8; have HS1 := HK1.out w8 hb8; clear hr8 hb8)
      | (go_at_call 20; refine (samePages_self w8 w7.drew.heap.size 0 _ _ d2.lg HP8.out (HR1.out.on HB8.out) (by rw [HLK.out]; exact HG2.out)).mono ?_; rintro e w9 ⟨rfl, hb9⟩; have HB9 := hid (HB8.out.trans (hb9.mono HB8.out.size)); have HS2 := HK1.out w9 HB9.out; clear hb9 HP8 HB8))
  go_wp2_with fail
  go_ret
  exact ⟨rfl, HT0.out.below.trans (HB9.out.mono HT0.out.below.size)⟩

theorem journalRecovers_own : ownKnob Try.prog.godebug = none := by kernel_rfl
theorem journalRecovers_laidOut : laidOutB Try.prog = true := by kernel_rfl

set_option maxRecDepth 100000 in
theorem journalRecovers_lifted (os : Os) (started : os.Started) (H : Type) (enc : TypeId × Value → H) :
    ReturnsInHanded {} Try.checked os 5 .any (Rows.journalRecoversSpec.pre6 enc Try.prog Try.f5 Rows.journalRecoversRow.domain false) (Rows.journalRecoversSpec.post enc Try.prog Try.f5 false true false false) := by
  refine returnsInHanded_of_change_sized (C := Try.checked) journalRecovers_own started (by kernel_rfl) Try.func5
    (ChangeSpec.witness6 (enc := enc) (C := Try.checked) false ⟨#[], #[.int .i64 0, .slice none 0 0, .int .i64 0], []⟩ 8 (by kernel_rfl) (by kernel_rfl) (by kernel_rfl) (by kernel_rfl)) ?_
  intro W base args ds gs before hval0 hW hcnd hsz0 _
  have hsz : (DataW.weightsEach Try.prog (Try.f5.params.toList ++ Rows.journalRecoversSpec.plain.varTypes Try.prog) (ds ++ gs)).all (· ≤ reachBytes) = true := hsz0
  have hval : ∀ (j : Nat) t v, Try.f5.params[j]? = some t → args[j]? = some v → Value.okWide Try.prog W .any base t v := hval0
  have hW' := hW
  obtain ⟨p, q, hA0, hV, rfl, hfz, hnd⟩ := hW
  have hA : DataW.TrodAll enc Try.prog W 0 (fun _ => true) true Try.f5.params.toList args.toList ds p := hA0
  rw [Try.params5] at hA hval hsz
  obtain ⟨v0, vs0, d0, ds0, p0, q0, hargs, rfl, rfl, h0, r0⟩ := trodAll_cons hA
  obtain ⟨v1, vs1, d1, ds1, p1, q1, rfl, rfl, rfl, h1, r1⟩ := trodAll_cons r0
  obtain ⟨v2, vs2, d2, ds2, p2, q2, rfl, rfl, rfl, h2, r2⟩ := trodAll_cons r1
  obtain ⟨rfl, rfl, rfl⟩ := trodAll_nil r2
  obtain rfl : args = #[v0, v1, v2] := by cases args; simp_all
  obtain ⟨rfl, rfl⟩ := trodVars_none hV
  have k0 := h0
  have lt0 : ∀ x ∈ p0, x.block < W.heap.size := by obtain ⟨m, hm⟩ := k0; exact DataW.trod_lt m _ _ _ hm
  have k1 := h1
  have lt1 : ∀ x ∈ p1, x.block < W.heap.size := by obtain ⟨m, hm⟩ := k1; exact DataW.trod_lt m _ _ _ hm
  have k2 := h2
  have lt2 : ∀ x ∈ p2, x.block < W.heap.size := by obtain ⟨m, hm⟩ := k2; exact DataW.trod_lt m _ _ _ hm
  obtain ⟨a0, rfl, rfl, rfl, w0⟩ := open_int Try.underlying3 (hval 0 3 v0 rfl rfl) h0
  obtain ⟨L1, l1, z1⟩ := open_lays (hval 1 43 v1 rfl rfl) h1 (fun n hn => by simpa using List.all_eq_true.1 hsz n (DataW.weights_mem_each (j := 1) (t := 43) rfl rfl n hn))
  obtain ⟨a2, rfl, rfl, rfl, w2⟩ := open_int Try.underlying3 (hval 2 3 v2 rfl rfl) h2
  clear hA0 hval0
  refine (journalRecovers_walk a0 v1 L1 a2 w0 w2 W l1 z1).mono fun e W' ⟨he, bel⟩ => ?_
  subst he
  exact ⟨_, rfl, _, _, _, [], _, [], hW', trodAll_mk1 (shut_bool Try.underlying4 _), (trodAll_cons_mk (Below.trod journalRecovers_laidOut (by kernel_rfl) (of_decide_eq_true (by kernel_rfl)) k0 bel lt0) (trodAll_cons_mk (Below.trod journalRecovers_laidOut (by kernel_rfl) (of_decide_eq_true (by kernel_rfl)) k1 bel lt1) (trodAll_cons_mk (Below.trod journalRecovers_laidOut (by kernel_rfl) (of_decide_eq_true (by kernel_rfl)) k2 bel lt2) trodAll_mk0))), rfl, bel.frame _, fun h => by cases h⟩

theorem journalRecovers_holds : Rows.JournalRecoversSaid :=
  OpenClaim.holds_of_wide 5 Try.f5 rfl rfl rfl rfl rfl rfl rfl ⟨rfl, rfl, rfl, rfl, rfl⟩ rfl rfl rfl rfl rfl (by kernel_rfl) Try.func5 (by kernel_rfl)
    (of_decide_eq_true (by kernel_rfl)) (by unfold Func.isWrapper; first | (rw [if_pos (by decide +kernel)]; kernel_rfl) | (rw [if_neg (by decide +kernel)]; exact ⟨rfl, rfl⟩))
    (fun os started H enc _ => journalRecovers_lifted os started H enc)

#print axioms journalRecovers_holds

end Go.Proofs.Ythinhlmefifffaa
