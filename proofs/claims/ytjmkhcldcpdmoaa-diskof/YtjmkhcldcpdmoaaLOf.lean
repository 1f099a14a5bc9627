/-
  Of any number of blocks, one of them of any length, Of makes a disk, or refuses, as the document says.
-/
import Derived.Test.YtjmkhcldcpdmoaaRows
import Derived.Test.YtjmkhcldcpdmoaaRo
import Derived.ProofKit
import Derived.OpenShut
import Derived.ShutString
import Derived.ChangeOld
import Derived.Below
import Derived.SizedLaws
import Derived.Lib.SmallJoins
namespace Go.Proofs.Ytjmkhcldcpdmoaa
open Go.ChangeShapes Go.WideShapes Go.ChangeAt Go.RowKit Go.Joins
open Go.ChangeMaps (open_string shut_string)
set_option linter.unusedVariables false
set_option linter.unusedSimpArgs false
set_option maxRecDepth 100000

/-- the blocks that the statement lays -/
def laid (odd : Int) (len n : Nat) : List ByteArray := (List.range n).map fun (j : Nat) => if (j : Int) = odd then ⟨(zs len).toArray⟩ else Z
theorem laid_len (odd : Int) (len n : Nat) : (laid odd len n).length = n := by simp [laid]
theorem laid_succ (odd : Int) (len n : Nat) : laid odd len (n + 1) = laid odd len n ++ [if (n : Int) = odd then ⟨(zs len).toArray⟩ else Z] := by
  unfold laid
  rw [List.range_succ, List.map_append]
  rfl
theorem laid_size (odd : Int) (len n : Nat) (h : len ≤ 1000) : ∀ s ∈ laid odd len n, s.size ≤ 100000 := by
  intro s hs
  obtain ⟨j, _, rfl⟩ := List.mem_map.1 hs
  split
  · rw [zs_size]; omega
  · rw [Z_size]; omega

set_option maxHeartbeats 8000000 in
theorem diskOf_walk (n odd len : Int) (wn : (Lit.int .i64 n).wf = true) (wo : (Lit.int .i64 odd).wf = true) (wl : (Lit.int .i64 len).wf = true) (w : World) :
    Calls Try.prog 6 #[.int .i64 n, .int .i64 odd, .int .i64 len] w fun e w' => e = .returned (.bool true) ∧ Below w.heap.size w w' := by
  have hwk := wakes_any w
  clear wn wo wl
  by_cases h1 : n < 0
  · have e1 : decide (n < 0) = true := decide_eq_true h1
    go_enter Try.func6, Try.ntmps6
    go_wp2_with (go_at_call 8; refine hwk.mono ?_; clear hwk; rintro e w1 ⟨rfl, hb1⟩; have HB1 := hid hb1; clear hb1)
    go_ret
    exact ⟨rfl, HB1.out⟩
  have e1 : decide (n < 0) = false := decide_eq_false h1
  by_cases h2 : 3000 < n
  · have e2 : decide (3000 < n) = true := decide_eq_true h2
    go_enter Try.func6, Try.ntmps6
    go_wp2_with (go_at_call 8; refine hwk.mono ?_; clear hwk; rintro e w1 ⟨rfl, hb1⟩; have HB1 := hid hb1; clear hb1)
    go_ret
    exact ⟨rfl, HB1.out⟩
  have e2 : decide (3000 < n) = false := decide_eq_false h2
  by_cases h3 : len < 0
  · have e3 : decide (len < 0) = true := decide_eq_true h3
    go_enter Try.func6, Try.ntmps6
    go_wp2_with (go_at_call 8; refine hwk.mono ?_; clear hwk; rintro e w1 ⟨rfl, hb1⟩; have HB1 := hid hb1; clear hb1)
    go_ret
    exact ⟨rfl, HB1.out⟩
  have e3 : decide (len < 0) = false := decide_eq_false h3
  by_cases h4 : 1000 < len
  · have e4 : decide (1000 < len) = true := decide_eq_true h4
    go_enter Try.func6, Try.ntmps6
    go_wp2_with (go_at_call 8; refine hwk.mono ?_; clear hwk; rintro e w1 ⟨rfl, hb1⟩; have HB1 := hid hb1; clear hb1)
    go_ret
    exact ⟨rfl, HB1.out⟩
  have e4 : decide (1000 < len) = false := decide_eq_false h4
  obtain ⟨m, rfl⟩ : ∃ m : Nat, n = (m : Int) := ⟨n.toNat, by omega⟩
  obtain ⟨l, rfl⟩ : ∃ l : Nat, len = (l : Int) := ⟨len.toNat, by omega⟩
  have hm : m ≤ 3000 := by omega
  have hl : l ≤ 1000 := by omega
  obtain ⟨i0, hi, hz0, hz1, hz2⟩ := info_parts info9
  have hzl : ∀ w1, _ := fun w1 => zeros_any l w1 (by omega)
  have hz6 : ∀ w1, Calls Try.prog 23 #[.int .i64 256] w1 fun e w' => e = .returned (.string Z) ∧ Below w1.heap.size w1 w' := fun w1 => zeros_any 256 w1 (by omega)
  have HZl := hid hzl
  have HZ6 := hid hz6
  have hof : ∀ w1 v, RowS w1 w.heap.size v (laid odd l m) → _ := fun w1 v h => of_any w1 w.heap.size v (laid odd l m) h (by rw [laid_len]; exact hm) (laid_size odd l m hl)
  have hrf : ∀ w1 v, RowS w1 w.heap.size v (laid odd l m) → _ := fun w1 v h => rOf_any w1 w.heap.size v (laid odd l m) h (by rw [laid_len]; exact hm) (laid_size odd l m hl)
  have HOF := hid hof
  have HRF := hid hrf
  clear hof hrf hzl hz6
  go_enter Try.func6, Try.ntmps6
  go_wp2_with (go_at_call 8; refine hwk.mono ?_; clear hwk; rintro e w1 ⟨rfl, hb1⟩; have HB1 := hid hb1; clear hb1)
  clear e1 e2 e3 e4
  go_loopw [7, 8] (fun bv i wr => ∃ (k : Nat) (ba : Option Addr) (bc : Nat), k ≤ m ∧ bv = .slice ba k bc ∧ i = .int .i64 (k : Nat) ∧ Hid (wr.ownsRow w.heap.size 9 1 (.slice ba k bc) k (flatS (laid odd l k))) ∧ Hid (Below w.heap.size w wr)) (fun _ i _ => m - (intOf i).toNat)
  case atStart => exact ⟨0, none, 0, Nat.zero_le _, rfl, rfl, hid (show World.ownsRow _ _ 9 1 _ 0 [] from World.ownsRow_nil _ _ _ _), HB1⟩
  case round =>
    obtain ⟨k, ba, bc, hk, rfl, rfl, HR, HB⟩ := hrel
    clear HB1
    by_cases hlt : k < m
    · have hki : (k : Int) < (m : Int) := by omega
      by_cases hod : (k : Int) = odd
      · have ho1 : ((k : Int) == odd) = true := by simpa using hod
        have HSU : Hid (flatS (laid odd l (k + 1)) = flatS (laid odd l k) ++ [.string ⟨(zs l).toArray⟩]) := by
          show _ = _
          rw [laid_succ, if_pos hod, flatS_append]
          rfl
        generalize (⟨(zs l).toArray⟩ : ByteArray) = zl at HSU HZl
        clear hod
        go_wp2_with (first
          | (go_at_call 23; refine (HZl.out _).mono ?_; rintro e w2 ⟨rfl, hb2⟩; have HO2 := hid (own_below HR.out hb2); have HB2 := hid (HB.out.trans (hb2.mono HB.out.size)); clear hb2)
          | (at_builtin; refine wpList_append_own _ rfl (.tmp 37) (.tmp 40) 36 rfl w.heap.size 9 i0 (.string ⟨#[]⟩) 1 16 Try.underlying36 hi hz0 hz1 hz2 rfl (by decide) _ k (flatS (laid odd l k)) rfl (HO2.out.alloc _) ⟨w2.heap.size, 0, none⟩ 1 1 [.string zl] rfl rfl (cells_one w2 _ 9) ?c2 ?c3 ?c4 ?c5 ?_))
        case c2 => intro u hu; simp at hu; subst hu; rfl
        case c3 => unfold maxLen; omega
        case c4 => omega
        case c5 => have := HB2.out.size; simp; omega
        intro v' w3 hown' hgrow _
        have HB3 := hid ((HB2.out.alloc HB2.out.size (.cells #[.string zl] 9)).grown hgrow (by have := HB2.out.size; simp; omega) (fun g hg => (HO2.out.lt g hg).1))
        obtain ⟨ra, rc, hrv⟩ := own_form hown'
        subst hrv
        have HO3 : Hid (w3.ownsRow w.heap.size 9 1 (.slice ra (k + 1) rc) (k + 1) (flatS (laid odd l (k + 1)))) := by
          rw [HSU.out]
          exact hown'
        clear hown' hgrow HR HB HO2 HB2
        go_wp2_with fail
        go_roundw
        case rel => exact ⟨k + 1, ra, rc, by omega, rfl, by go_num, HO3, HB3⟩
        case measure => simp [intOf]; omega
      · have ho1 : ((k : Int) == odd) = false := by simpa using hod
        have HSU : Hid (flatS (laid odd l (k + 1)) = flatS (laid odd l k) ++ [.string Z]) := by
          show _ = _
          rw [laid_succ, if_neg hod, flatS_append]
          rfl
        generalize Z = zl at HSU HZ6
        go_wp2_with (first
          | (go_at_call 23; refine (HZ6.out _).mono ?_; rintro e w2 ⟨rfl, hb2⟩; have HO2 := hid (own_below HR.out hb2); have HB2 := hid (HB.out.trans (hb2.mono HB.out.size)); clear hb2)
          | (at_builtin; refine wpList_append_own _ rfl (.tmp 42) (.tmp 44) 36 rfl w.heap.size 9 i0 (.string ⟨#[]⟩) 1 16 Try.underlying36 hi hz0 hz1 hz2 rfl (by decide) _ k (flatS (laid odd l k)) rfl (HO2.out.alloc _) ⟨w2.heap.size, 0, none⟩ 1 1 [.string zl] rfl rfl (cells_one w2 _ 9) ?c2 ?c3 ?c4 ?c5 ?_))
        case c2 => intro u hu; simp at hu; subst hu; rfl
        case c3 => unfold maxLen; omega
        case c4 => omega
        case c5 => have := HB2.out.size; simp; omega
        intro v' w3 hown' hgrow _
        have HB3 := hid ((HB2.out.alloc HB2.out.size (.cells #[.string zl] 9)).grown hgrow (by have := HB2.out.size; simp; omega) (fun g hg => (HO2.out.lt g hg).1))
        obtain ⟨ra, rc, hrv⟩ := own_form hown'
        subst hrv
        have HO3 : Hid (w3.ownsRow w.heap.size 9 1 (.slice ra (k + 1) rc) (k + 1) (flatS (laid odd l (k + 1)))) := by
          rw [HSU.out]
          exact hown'
        clear hown' hgrow HR HB HO2 HB2
        go_wp2_with fail
        go_roundw
        case rel => exact ⟨k + 1, ra, rc, by omega, rfl, by go_num, HO3, HB3⟩
        case measure => simp [intOf]; omega
    · have hki : ¬ (k : Int) < (m : Int) := by omega
      obtain rfl : k = m := by omega
      have HRS : Hid (RowS wr w.heap.size (.slice ba k bc) (laid odd l k)) := by
        unfold Hid RowS
        rw [laid_len]
        exact HR.out
      have HLL : Hid ((laid odd l k).length ≤ 100000) := by unfold Hid; rw [laid_len]; omega
      generalize laid odd l k = bs at HRS HOF HRF HLL
      clear HR HZl HZ6
      by_cases h0 : ofE bs = 0
      · have hlg : ∀ w5 k5, Dw w w5 k5 ⟨bs, [], -1, false⟩ → Calls Try.prog 13 #[.pointer (some ⟨k5, 0, none⟩)] w5 fun e w' => ∃ pa pc, e = .returned (.slice pa 0 pc) ∧ Dw w w' k5 ⟨bs, [], -1, false⟩ := fun w5 k5 h => (log_dw w w5 k5 ⟨bs, [], -1, false⟩ h (by simp)).mono fun e w' ⟨v', he, hr, hd, hb⟩ => by
          obtain ⟨pa, pc, rfl⟩ := hr.form
          exact ⟨pa, pc, he, hd⟩
        have him : ∀ w5 k5, Dw w w5 k5 ⟨bs, [], -1, false⟩ → _ := fun w5 k5 h => image_dw w w5 k5 ⟨bs, [], -1, false⟩ h
        go_wp2_with (first
          | (go_at_call 21; refine (HOF.out _ _ HRS.out).mono ?_; clear HOF; rintro e w2 ⟨hb2, h2⟩; obtain ⟨_, k2, he2, hd2⟩ := h2.resolve_left (fun h => h.1 h0); subst he2; have H2 : Hid (Dw w w2 k2 ⟨bs, [], -1, false⟩) := ⟨_, hd2, fun j hj => Nat.le_trans HB.out.size hj.1, HB.out.trans (hb2.mono HB.out.size)⟩; have HR2 := hid (HRS.out.on hb2); clear hb2 h2 hd2 HRS HB)
          | (go_at_call 24; refine (HRF.out _ _ HR2.out).mono ?_; clear HRF; rintro e w3 ⟨hb3, h3⟩; obtain ⟨_, k3, he3⟩ := h3.resolve_left (fun h => h.1 h0); subst he3; have H3 := hid (H2.out.on hb3); have HR3 := hid (HR2.out.on hb3); clear hb3 h3 H2 HR2)
          | (go_at_call 15; refine (him _ _ H3.out).mono ?_; clear him; rintro e w4 ⟨v4, rfl, hr4, hd4, hb4⟩; have HI4 := hid hr4; obtain ⟨ja, jc, hjv⟩ := hr4.form; subst hjv; have H4 := hid hd4; have HR4 := hid (HR3.out.on hb4); clear hr4 hd4 hb4 H3 HR3)
          | (go_at_call 14; refine (same_self w4 _ _ _ _ bs HI4.out HR4.out HLL.out).mono ?_; rintro e w5 ⟨rfl, hb5⟩; have H5 := hid (H4.out.on hb5); clear hb5 H4 HI4 HR4)
          | (go_at_call 13; refine (hlg _ _ H5.out).mono ?_; clear hlg; rintro e w6 ⟨pa, pc, rfl, h6⟩; have H6 := hid h6; clear h6 H5))
        go_ret
        exact ⟨rfl, H6.out.below⟩
      · obtain ⟨q, hq⟩ : ∃ q, ofE bs = q := ⟨_, rfl⟩
        have HQ := hid hq
        rw [hq] at h0
        clear hq
        go_wp2_with (first
          | (go_at_call 21; refine (HOF.out _ _ HRS.out).mono ?_; clear HOF; rintro e w2 ⟨hb2, h2⟩; have he2 := (h2.resolve_right (fun h => h0 (HQ.out.symm.trans h.1))).2; rw [HQ.out] at he2; subst he2; have HB2 := hid (HB.out.trans (hb2.mono HB.out.size)); have HR2 := hid (HRS.out.on hb2); clear hb2 h2 HRS HB)
          | (go_at_call 24; refine (HRF.out _ _ HR2.out).mono ?_; clear HRF; rintro e w3 ⟨hb3, h3⟩; have he3 := (h3.resolve_right (fun h => h0 (HQ.out.symm.trans h.1))).2; rw [HQ.out] at he3; subst he3; have HB3 := hid (HB2.out.trans (hb3.mono HB2.out.size)); clear hb3 h3 HR2 HB2))
        go_ret
        exact ⟨rfl, HB3.out⟩

theorem diskOf_own : ownKnob Try.prog.godebug = none := by kernel_rfl
theorem diskOf_laidOut : laidOutB Try.prog = true := by kernel_rfl

set_option maxRecDepth 100000 in
theorem diskOf_lifted (os : Os) (started : os.Started) (H : Type) (enc : TypeId × Value → H) :
    ReturnsInHanded {} Try.checked os 6 .any (Rows.diskOfSpec.pre6 enc Try.prog Try.f6 Rows.diskOfRow.domain false) (Rows.diskOfSpec.post enc Try.prog Try.f6 false true false false) := by
  refine returnsInHanded_of_change_sized (C := Try.checked) diskOf_own started (by kernel_rfl) Try.func6
    (ChangeSpec.witness6 (enc := enc) (C := Try.checked) false ⟨#[], #[.int .i64 0, .int .i64 0, .int .i64 0], []⟩ 8 (by kernel_rfl) (by kernel_rfl) (by kernel_rfl) (by kernel_rfl)) ?_
  intro W base args ds gs before hval0 hW hcnd hsz0 _
  have hsz : (DataW.weightsEach Try.prog (Try.f6.params.toList ++ Rows.diskOfSpec.plain.varTypes Try.prog) (ds ++ gs)).all (· ≤ reachBytes) = true := hsz0
  have hval : ∀ (j : Nat) t v, Try.f6.params[j]? = some t → args[j]? = some v → Value.okWide Try.prog W .any base t v := hval0
  have hW' := hW
  obtain ⟨p, q, hA0, hV, rfl, hfz, hnd⟩ := hW
  have hA : DataW.TrodAll enc Try.prog W 0 (fun _ => true) true Try.f6.params.toList args.toList ds p := hA0
  rw [Try.params6] at hA hval hsz
  obtain ⟨v0, vs0, d0, ds0, p0, q0, hargs, rfl, rfl, h0, r0⟩ := trodAll_cons hA
  obtain ⟨v1, vs1, d1, ds1, p1, q1, rfl, rfl, rfl, h1, r1⟩ := trodAll_cons r0
  obtain ⟨v2, vs2, d2, ds2, p2, q2, rfl, rfl, rfl, h2, r2⟩ := trodAll_cons r1
  obtain ⟨rfl, rfl, rfl⟩ := trodAll_nil r2
  obtain rfl : args = #[v0, v1, v2] := by cases args; simp_all
  obtain ⟨rfl, rfl⟩ := trodVars_none hV
  have k0 := h0
  have lt0 : ∀ x ∈ p0, x.block < W.heap.size := by obtain ⟨m, hm⟩ := k0; exact DataW.trod_lt m _ _ _ hm
  have k1 := h1
  have lt1 : ∀ x ∈ p1, x.block < W.heap.size := by obtain ⟨m, hm⟩ := k1; exact DataW.trod_lt m _ _ _ hm
  have k2 := h2
  have lt2 : ∀ x ∈ p2, x.block < W.heap.size := by obtain ⟨m, hm⟩ := k2; exact DataW.trod_lt m _ _ _ hm
  obtain ⟨a0, rfl, rfl, rfl, w0⟩ := open_int Try.underlying3 (hval 0 3 v0 rfl rfl) h0
  obtain ⟨a1, rfl, rfl, rfl, w1⟩ := open_int Try.underlying3 (hval 1 3 v1 rfl rfl) h1
  obtain ⟨a2, rfl, rfl, rfl, w2⟩ := open_int Try.underlying3 (hval 2 3 v2 rfl rfl) h2
  clear hA0 hval0
  refine (diskOf_walk a0 a1 a2 w0 w1 w2 W).mono fun e W' ⟨he, bel⟩ => ?_
  subst he
  exact ⟨_, rfl, _, _, _, [], _, [], hW', trodAll_mk1 (shut_bool Try.underlying4 _), (trodAll_cons_mk (Below.trod diskOf_laidOut (by kernel_rfl) (of_decide_eq_true (by kernel_rfl)) k0 bel lt0) (trodAll_cons_mk (Below.trod diskOf_laidOut (by kernel_rfl) (of_decide_eq_true (by kernel_rfl)) k1 bel lt1) (trodAll_cons_mk (Below.trod diskOf_laidOut (by kernel_rfl) (of_decide_eq_true (by kernel_rfl)) k2 bel lt2) trodAll_mk0))), rfl, bel.frame _, fun h => by cases h⟩

theorem diskOf_holds : Rows.DiskOfSaid :=
  OpenClaim.holds_of_wide 6 Try.f6 rfl rfl rfl rfl rfl rfl rfl ⟨rfl, rfl, rfl, rfl, rfl⟩ rfl rfl rfl rfl rfl (by kernel_rfl) Try.func6 (by kernel_rfl)
    (of_decide_eq_true (by kernel_rfl)) (by unfold Func.isWrapper; first | (rw [if_pos (by decide +kernel)]; kernel_rfl) | (rw [if_neg (by decide +kernel)]; exact ⟨rfl, rfl⟩))
    (fun os started H enc _ => diskOf_lifted os started H enc)

#print axioms diskOf_holds

end Go.Proofs.Ytjmkhcldcpdmoaa
