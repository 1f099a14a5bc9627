/-
  A net of some first rules, and one of the others, find together what one of all finds.
-/
import Derived.Test.YtpflbdkbbkobbaaRows
import Derived.Test.YtpflbdkbbkobbaaWake8
import Derived.Test.YtpflbdkbbkobbaaOpenQ
import Derived.ProofKit
import Derived.OpenShut
import Derived.ShutString
import Derived.ChangeOld
import Derived.Below
import Derived.SizedLaws
import Derived.Lib.SmallJoins
namespace Go.Proofs.Ytpflbdkbbkobbaa
open Go.ChangeShapes Go.WideShapes Go.ChangeAt Go.RowKit Go.Joins
open Go.ChangeMaps (open_string shut_string)
set_option linter.unusedVariables false
set_option linter.unusedSimpArgs false
set_option maxRecDepth 100000

/-- the first rules of a list -/
theorem LiesR.front {w : World} {a : Option Addr} {c : Nat} {rs : List Rl} (h : LiesR w (.slice a rs.length c) rs) (k : Nat) (hk : k ≤ rs.length) : LiesR w (.slice a k c) (rs.take k) := by
  obtain ⟨a', c', hv, h1, h2, h3⟩ := h
  injection hv with e1 _ e3
  subst e1 e3
  have hl : (rs.take k).length = k := by rw [List.length_take]; omega
  refine ⟨a, c, by rw [hl], by rw [hl]; omega, h2, fun i r hi => ?_⟩
  have hi2 : rs[i]? = some r := by
    rw [List.getElem?_take] at hi
    split at hi
    · exact hi
    · cases hi
  exact h3 i r hi2
/-- the others -/
theorem LiesR.back {w : World} {g off c : Nat} {rs : List Rl} (h : LiesR w (.slice (some ⟨g, off, none⟩) rs.length c) rs) (k : Nat) (hk : k ≤ rs.length) : LiesR w (.slice (some ⟨g, off + k * 3, none⟩) (rs.length - k) (c - k)) (rs.drop k) := by
  obtain ⟨a', c', hv, h1, h2, h3⟩ := h
  injection hv with e1 _ e3
  subst e1 e3
  refine ⟨_, c - k, by rw [List.length_drop], by rw [List.length_drop]; omega, by omega, fun i r hi => ?_⟩
  rw [List.getElem?_drop] at hi
  obtain ⟨g', off', x, y, e, q1, q2, q3, q4, q5⟩ := h3 _ _ hi
  cases e
  refine ⟨g, off + k * 3, x, y, rfl, q1, ?_, ?_, ?_, q5⟩
  · rw [show off + k * 3 + i * 3 = off + (k + i) * 3 by omega]; exact q2
  · rw [show off + k * 3 + i * 3 + 1 = off + (k + i) * 3 + 1 by omega]; exact q3
  · rw [show off + k * 3 + i * 3 + 2 = off + (k + i) * 3 + 2 by omega]; exact q4
theorem bE_part {rs p : List Rl} (h : bE rs = 0) (hs : p.length ≤ rs.length) (hm : ∀ r ∈ p, r ∈ rs) (hn : ∀ (i : Nat) x y, p[i]? = some x → p[i + 1]? = some y → x.id < y.id) : bE p = 0 := by
  unfold bE at h ⊢
  split at h
  · cases h
  · rw [if_neg (by omega)]
    unfold chkRs
    have hok := RsOk.of h
    rw [if_pos (chkAll_zero.2 fun r hr => hok r (hm r hr)), if_pos ((risI_iff p).2 hn)]
theorem bE_rises {rs : List Rl} (h : bE rs = 0) : ∀ (i : Nat) x y, rs[i]? = some x → rs[i + 1]? = some y → x.id < y.id := by
  unfold bE at h
  split at h
  · cases h
  · unfold chkRs at h
    split at h
    · split at h
      · rename_i h2; exact (risI_iff rs).1 h2
      · cases h
    · rename_i h2; exact absurd h h2
theorem bE_take {rs : List Rl} (h : bE rs = 0) (k : Nat) : bE (rs.take k) = 0 :=
  bE_part h (by rw [List.length_take]; omega) (fun r hr => List.mem_of_mem_take hr) fun i x y hx hy => by
    rw [List.getElem?_take] at hx hy
    split at hx
    · split at hy
      · exact bE_rises h i x y hx hy
      · cases hy
    · cases hx
theorem bE_drop {rs : List Rl} (h : bE rs = 0) (k : Nat) : bE (rs.drop k) = 0 :=
  bE_part h (by rw [List.length_drop]; omega) (fun r hr => List.mem_of_mem_drop hr) fun i x y hx hy => by
    rw [List.getElem?_drop] at hx hy
    exact bE_rises h _ x y hx (by rw [show k + i + 1 = k + (i + 1) by omega]; exact hy)
theorem bE_ok {rs : List Rl} (h : bE rs = 0) : RsOk rs ∧ rs.length ≤ 64 := by
  unfold bE at h
  split at h
  · cases h
  · exact ⟨RsOk.of h, by omega⟩

/-- IDs put behind IDs -/
theorem wpList_ids (w : World) {ops : Array Oper} {rest : List Oper} {o : Oper} {a : Act} {Q : Exit → Act → World → Prop} (hgd : o.guard = none) (s x : Operand)
    (ho : o.op = .call { callee := .builtin .append, args := #[s, x], argTypes := #[43, 43] }) (B : Nat) (v : Value) (l : List Int) (hs : a.eval s = v) (hown : w.ownsRow B 3 1 v l.length (idsV l)) (b : Nat) (u : Value) (m : List Int) (hx : a.eval x = u) (hu : w.ownsRow b 3 1 u m.length (idsV m)) (hn : l.length + m.length ≤ 1000) (hB : B ≤ w.heap.size)
    (h : ∀ v' w', w'.ownsRow B 3 1 v' (l ++ m).length (idsV (l ++ m)) → w.grownBy w' v.ownBlock → wpList Try.prog ops Q rest (a.put o.dst v') w') : wpList Try.prog ops Q (o :: rest) a w := by
  obtain ⟨i0, hi, hz0, hz1, hz2⟩ := info_parts info3
  rcases hu.2 with ⟨rfl, hm⟩ | ⟨g, cap, cur, rfl, _, hg, q1, q2, q3, q4⟩
  · obtain rfl : m = [] := List.eq_nil_of_length_eq_zero hm
    refine wpList_append_own_none hgd s x 43 ho B 3 i0 1 Try.underlying43 hi v l.length (idsV l) hs hown hx (h v w ?_ ⟨rfl, rfl, rfl, Nat.le_refl _, fun _ _ _ => rfl⟩)
    rw [List.append_nil]; exact hown
  · refine wpList_append_own w hgd s x 43 ho B 3 i0 (.int .i64 0) 1 8 Try.underlying43 hi hz0 hz1 hz2 rfl (by decide) v l.length (idsV l) hs hown ⟨g, 0, none⟩ m.length cap (idsV m) hx (by unfold idsV; rw [List.length_map, Nat.mul_one]) (hu.cells (g := g) rfl) ?_ (by unfold maxLen; omega) (by omega) hB (fun v' w' h1 h2 _ => h v' w' ?_ h2)
    · intro y hy
      unfold idsV at hy
      obtain ⟨z, _, rfl⟩ := List.mem_map.1 hy
      rfl
    · rw [idsV_append, List.length_append]; exact h1

set_option maxHeartbeats 16000000 in
theorem netParts_walk (v0 : Value) (rs : List Rl) (cut : Int) (v1 : Value) (T : List Cl) (wcut : (Lit.int .i64 cut).wf = true) (w : World) (hr : LiesR w v0 rs) (hz : rs.length * 56 ≤ 140737488351232 ∧ ∀ r ∈ rs, r.l.length * 24 ≤ 140737488355328 ∧ r.r.length * 24 ≤ 140737488355328) (hT : Lies w v1 T) (hzT : T.length * 24 ≤ 140737488355328) :
    Calls Try.prog 5 #[v0, .int .i64 cut, v1] w fun e w' => e = .returned (.bool true) ∧ Below w.heap.size w w' := by
  have HR := hid hr
  have HT := hid hT
  have HRF := hid hr.fine
  have hwk := wakes_any w
  have hru : ∀ w1 v p, LiesR w1 v p → p.length ≤ rs.length → (∀ r ∈ p, r ∈ rs) → _ := fun w1 v p h h1 h2 => nrules_any w1 v p h (by omega) (fun r hr => hz.2 r (h2 r hr))
  have hbu : ∀ w1 v p, LiesR w1 v p → _ := fun w1 v p h => build_any w1 v p h
  have hcp : ∀ w1, Below w.heap.size w w1 → _ := fun w1 hb => copy_any w1 v1 T (HT.out.on hb) hzT
  obtain ⟨ra, rc, hrv, hrc1, hrc2, _⟩ := id hr
  subst hrv
  obtain ⟨ta, tc, htv, _, _, hfT, _⟩ := id hT
  subst htv
  have HFT := hid hfT
  have hns := net_some
  have hnn := net_none
  clear hr hT hfT hz hzT
  by_cases hcut : cut < 0 ∨ (rs.length : Int) < cut
  · have hcu : (decide (cut < 0) || decide (cut > (rs.length : Int))) = true := by
      rcases hcut with h | h
      · simp [h]
      · simp [h]
    rcases Int.lt_or_le cut 0 with h0 | h0
    · clear hcut hcu
      go_enter Try.func5, Try.ntmps5
      go_wp2_with (first
        | (go_at_call 7; refine hwk.mono ?_; clear hwk; rintro e w1 ⟨rfl, hb1⟩; have HB1 := hid hb1; clear hb1))
      go_ret
      exact ⟨rfl, HB1.out⟩
    · have h1 : cut > (rs.length : Int) := by omega
      have h2 : ¬ cut < 0 := by omega
      clear hcut hcu
      go_enter Try.func5, Try.ntmps5
      go_wp2_with (first
        | (go_at_call 7; refine hwk.mono ?_; clear hwk; rintro e w1 ⟨rfl, hb1⟩; have HB1 := hid hb1; clear hb1))
      go_ret
      exact ⟨rfl, HB1.out⟩
  · obtain ⟨k, rfl⟩ : ∃ k : Nat, cut = (k : Int) := ⟨cut.toNat, by omega⟩
    have hk : k ≤ rs.length := by omega
    have h1 : ¬ (k : Int) > (rs.length : Int) := by omega
    have h2 : ¬ (k : Int) < 0 := by omega
    have h3 : (k : Int) ≤ (rs.length : Int) := by omega
    obtain ⟨q, hq⟩ : ∃ q, bE rs = q := ⟨_, rfl⟩
    have HQ := hid hq
    by_cases hb0 : q = 0
    · subst hb0
      obtain ⟨hok, h64⟩ := bE_ok hq
      have hq1 := bE_take hq k
      have hq2 := bE_drop hq k
      obtain ⟨hok1, h641⟩ := bE_ok hq1
      obtain ⟨hok2, h642⟩ := bE_ok hq2
      have happ : allL T (rs.take k) ++ allL T (rs.drop k) = allL T rs := by rw [← allL_app, List.take_append_drop]
      have hl1 : (rs.take k).length ≤ rs.length := by rw [List.length_take]; omega
      have hl2 : (rs.drop k).length ≤ rs.length := by rw [List.length_drop]; omega
      have hla1 : ∀ w1 B nb v, NetAt w1 B nb (rs.take k) → Lies w1 v T → _ := fun w1 B nb v h1 h2 => nall_any w1 B nb (rs.take k) h641 hok1 h1 v T h2
      have hla2 : ∀ w1 B nb v, NetAt w1 B nb (rs.drop k) → Lies w1 v T → _ := fun w1 B nb v h1 h2 => nall_any w1 B nb (rs.drop k) h642 hok2 h1 v T h2
      have hla3 : ∀ w1 B nb v, NetAt w1 B nb rs → Lies w1 v T → _ := fun w1 B nb v h1 h2 => nall_any w1 B nb rs h64 hok h1 v T h2
      have HQ1 := hid hq1
      have HQ2 := hid hq2
      have hn1 : (allL T (rs.take k)).length ≤ 64 := by unfold allL; rw [List.length_map]; exact Nat.le_trans (List.length_filter_le _ _) h641
      have hn2 : (allL T (rs.drop k)).length ≤ 64 := by unfold allL; rw [List.length_map]; exact Nat.le_trans (List.length_filter_le _ _) h642
      obtain ⟨L1, hL1⟩ : ∃ L1, allL T (rs.take k) = L1 := ⟨_, rfl⟩
      obtain ⟨L2, hL2⟩ : ∃ L2, allL T (rs.drop k) = L2 := ⟨_, rfl⟩
      rw [hL1] at hla1 happ hn1
      rw [hL2] at hla2 happ hn2
      rw [← happ] at hla3
      obtain ⟨m, hm⟩ : ∃ m, (L1 ++ L2).length = m := ⟨_, rfl⟩
      rw [hm] at hla3
      have HM := hid hm
      have htl : (rs.take k).length = k := by rw [List.length_take]; omega
      have hdl : (rs.drop k).length = rs.length - k := by rw [List.length_drop]
      have HTL := hid htl
      have HDL := hid hdl
      clear htl hdl
      clear hq hq1 hq2 hok hok1 hok2 happ hL1 hL2 hm hcut
      have HLT : ∀ w1, Below w.heap.size w w1 → LiesR w1 (.slice ra k rc) (rs.take k) := fun w1 hb => (HR.out.on hb).front k hk
      by_cases hrs : rs.length = 0
      · have HL0 : ∀ w1 a n c, n = 0 → c ≤ maxLen → LiesR w1 (.slice a n c) (rs.drop k) := fun w1 a n c hn hc => by
          obtain rfl : rs = [] := List.eq_nil_of_length_eq_zero hrs
          subst hn
          rw [List.drop_nil]
          exact ⟨a, c, rfl, Nat.zero_le _, hc, fun i r hi => by simp at hi⟩
        have HRS := hid hrs
        clear hrs
        have hkc : (k : Int) ≤ (rc : Int) := by omega
        cases ra with
        | none =>
          go_enter Try.func5, Try.ntmps5
          go_wp2_with (first
            | (go_at_call 7; refine hwk.mono ?_; clear hwk; rintro e w1 ⟨rfl, hb1⟩; have HB1 := hid hb1; clear hb1)
            | (go_at_call 9; refine (hru _ _ rs (HR.out.on HB1.out) (Nat.le_refl _) (fun _ h => h)).mono ?_; rintro e w2 ⟨v2, rfl, ho2, hb2⟩; have HB2 := hid (HB1.out.trans (hb2.mono HB1.out.size)); have HL2 := hid (ho2.lies HRF.out); obtain ⟨oa, oc, hov⟩ := ho2.form; subst hov; clear ho2 hb2 HB1)
            | (go_at_call 8; refine (hbu _ _ _ HL2.out).mono ?_; rintro e w3 ⟨hb3, h3⟩; obtain ⟨_, nb, h4, hN⟩ := h3.resolve_left (fun h => h.1 HQ.out); subst h4; have HB3 := hid (HB2.out.trans (hb3.mono HB2.out.size)); have HN3 := hid hN; clear hb3 h3 hN HB2 HL2)
            | (go_at_call 9; refine (hru _ _ (rs.take k) (HLT _ HB3.out) hl1 (fun _ h => List.mem_of_mem_take h)).mono ?_; rintro e w4 ⟨v4, rfl, ho4, hb4⟩; have HB4 := hid (HB3.out.trans (hb4.mono HB3.out.size)); have HN4 := hid (HN3.out.on hb4); have HL4 := hid (ho4.lies (fun r h => HRF.out r (List.mem_of_mem_take h))); obtain ⟨oa4, oc4, hov4⟩ := ho4.form; rw [HTL.out] at hov4; subst hov4; clear ho4 hb4 HB3 HN3)
            | (go_at_call 8; refine (hbu _ _ _ HL4.out).mono ?_; rintro e w5 ⟨hb5, h5⟩; obtain ⟨_, na, h6, hN⟩ := h5.resolve_left (fun h => h.1 HQ1.out); subst h6; have HB5 := hid (HB4.out.trans (hb5.mono HB4.out.size)); have HN5 := hid (HN4.out.on hb5); have HA5 := hid hN; clear hb5 h5 hN HB4 HN4 HL4)
            | (go_at_call 9; refine (hru _ _ (rs.drop k) (HL0 _ _ _ _ (by have := HRS.out; omega) (by omega)) hl2 (fun _ h => List.mem_of_mem_drop h)).mono ?_; rintro e w6 ⟨v6, rfl, ho6, hb6⟩; have HB6 := hid (HB5.out.trans (hb6.mono HB5.out.size)); have HN6 := hid (HN5.out.on hb6); have HA6 := hid (HA5.out.on hb6); have HL6 := hid (ho6.lies (fun r h => HRF.out r (List.mem_of_mem_drop h))); obtain ⟨oa6, oc6, hov6⟩ := ho6.form; rw [HDL.out] at hov6; subst hov6; clear ho6 hb6 HB5 HN5 HA5)
            | (go_at_call 8; refine (hbu _ _ _ HL6.out).mono ?_; rintro e w7 ⟨hb7, h7⟩; obtain ⟨_, nc, h8, hN⟩ := h7.resolve_left (fun h => h.1 HQ2.out); subst h8; have HB7 := hid (HB6.out.trans (hb7.mono HB6.out.size)); have HN7 := hid (HN6.out.on hb7); have HA7 := hid (HA6.out.on hb7); have HC7 := hid hN; clear hb7 h7 hN HB6 HN6 HA6 HL6)
            | (go_at_call 12; refine (hcp _ HB7.out).mono ?_; rintro e w8 ⟨x8, rfl, ho8, hb8⟩; have HB8 := hid (HB7.out.trans (hb8.mono HB7.out.size)); have HN8 := hid (HN7.out.on hb8); have HA8 := hid (HA7.out.on hb8); have HC8 := hid (HC7.out.on hb8); have HL8 := hid (Owns.lies ho8 HFT.out); obtain ⟨xa8, xc8, hxv8, _⟩ := own_cells ho8; subst hxv8; clear ho8 hb8 HB7 HN7 HA7 HC7)
            | (go_at_call 16; refine (hla1 _ _ _ _ HA8.out HL8.out).mono ?_; rintro e w9 ⟨v9, rfl, ho9, hb9⟩; have HB9 := hid (HB8.out.trans (hb9.mono HB8.out.size)); have HC9 := hid (HC8.out.on hb9); have HO9 := hid ho9; have HE9 := hid hb9; have HS8 := hid HB8.out.size; obtain ⟨ia, ic, hiv, _⟩ := own_cells ho9; subst hiv; clear ho9 hb9 HB8 HA8 HC8 HL8)
            | (go_at_call 12; refine (hcp _ HB9.out).mono ?_; rintro e wd ⟨xd, rfl, hod, hbd⟩; have HBd := hid (HB9.out.trans (hbd.mono HB9.out.size)); have HEd := hid (HE9.out.trans (hbd.mono HE9.out.size)); have HCd := hid (HC9.out.on hbd); have HOd := hid (own_below HO9.out hbd); have HLd := hid (Owns.lies hod HFT.out); obtain ⟨xad, xcd, hxvd, _⟩ := own_cells hod; subst hxvd; clear hod hbd HB9 HC9 HO9 HE9)
            | (go_at_call 16; refine (hla2 _ _ _ _ HCd.out HLd.out).mono ?_; rintro e we ⟨ve, rfl, hoe, hbe⟩; have HBe := hid (HBd.out.trans (hbe.mono HBd.out.size)); have HEe := hid (HEd.out.trans (hbe.mono HEd.out.size)); have HOe := hid (own_below HOd.out hbe); have HPe := hid hoe; obtain ⟨ja, jc, hjv, _⟩ := own_cells hoe; subst hjv; clear hoe hbe HBd HEd HCd HOd HLd)
            | (at_builtin; refine wpList_ids _ rfl _ _ rfl w8.heap.size (.slice ia L1.length ic) L1 rfl HOe.out _ (.slice ja L2.length jc) L2 rfl HPe.out (by omega) HEe.out.size ?_; intro vf wf hof hgf; obtain ⟨na2, nc2, hfv, _⟩ := own_cells hof; rw [HM.out] at hfv hof; have HOf := hid hof; have HEf := HEe.out.grown hgf HEe.out.size (fun k hk => (row_at HOe.out hk).1); have HNf := hid (HN8.out.on HEf); have HBf := hid (HBe.out.grown hgf HBe.out.size (fun k hk => Nat.le_trans HS8.out (row_at HOe.out hk).1)); clear hof hgf HEf HN8 HBe HOe HPe HEe; subst hfv)
            | (go_at_call 12; refine (hcp _ HBf.out).mono ?_; rintro e wg ⟨xg, rfl, hog, hbg⟩; have HBg := hid (HBf.out.trans (hbg.mono HBf.out.size)); have HNg := hid (HNf.out.on hbg); have HOg := hid (own_below HOf.out hbg); have HLg := hid (Owns.lies hog HFT.out); obtain ⟨xag, xcg, hxvg, _⟩ := own_cells hog; subst hxvg; clear hog hbg HBf HNf HOf)
            | (go_at_call 16; refine (hla3 _ _ _ _ HNg.out HLg.out).mono ?_; rintro e wh ⟨vh, rfl, hoh, hbh⟩; have HBh := hid (HBg.out.trans (hbh.mono HBg.out.size)); have HOh := hid (own_below HOg.out hbh); have HPh := hid hoh; obtain ⟨pa, pc, hpv, _⟩ := own_cells hoh; subst hpv; clear hoh hbh HBg HNg HOg HLg)
            | (go_at_call 17; refine (sameInts_self _ _ _ _ _ (L1 ++ L2) (by rw [HM.out]; exact HOh.out) (by rw [HM.out]; exact HPh.out)).mono ?_; rintro e wi ⟨rfl, hbi⟩; have HBi := hid (HBh.out.trans (hbi.mono HBh.out.size)); clear hbi))
          go_ret
          exact ⟨rfl, HBi.out⟩
        | some ad =>
          obtain ⟨g, off, spot⟩ := ad
          by_cases hkr : rc - k = 0
          · have hkr2 : ((rc : Int) - (k : Int)) = 0 := by omega
            go_enter Try.func5, Try.ntmps5
            go_wp2_with (first
              | (go_at_call 7; refine hwk.mono ?_; clear hwk; rintro e w1 ⟨rfl, hb1⟩; have HB1 := hid hb1; clear hb1)
              | (go_at_call 9; refine (hru _ _ rs (HR.out.on HB1.out) (Nat.le_refl _) (fun _ h => h)).mono ?_; rintro e w2 ⟨v2, rfl, ho2, hb2⟩; have HB2 := hid (HB1.out.trans (hb2.mono HB1.out.size)); have HL2 := hid (ho2.lies HRF.out); obtain ⟨oa, oc, hov⟩ := ho2.form; subst hov; clear ho2 hb2 HB1)
              | (go_at_call 8; refine (hbu _ _ _ HL2.out).mono ?_; rintro e w3 ⟨hb3, h3⟩; obtain ⟨_, nb, h4, hN⟩ := h3.resolve_left (fun h => h.1 HQ.out); subst h4; have HB3 := hid (HB2.out.trans (hb3.mono HB2.out.size)); have HN3 := hid hN; clear hb3 h3 hN HB2 HL2)
              | (go_at_call 9; refine (hru _ _ (rs.take k) (HLT _ HB3.out) hl1 (fun _ h => List.mem_of_mem_take h)).mono ?_; rintro e w4 ⟨v4, rfl, ho4, hb4⟩; have HB4 := hid (HB3.out.trans (hb4.mono HB3.out.size)); have HN4 := hid (HN3.out.on hb4); have HL4 := hid (ho4.lies (fun r h => HRF.out r (List.mem_of_mem_take h))); obtain ⟨oa4, oc4, hov4⟩ := ho4.form; rw [HTL.out] at hov4; subst hov4; clear ho4 hb4 HB3 HN3)
              | (go_at_call 8; refine (hbu _ _ _ HL4.out).mono ?_; rintro e w5 ⟨hb5, h5⟩; obtain ⟨_, na, h6, hN⟩ := h5.resolve_left (fun h => h.1 HQ1.out); subst h6; have HB5 := hid (HB4.out.trans (hb5.mono HB4.out.size)); have HN5 := hid (HN4.out.on hb5); have HA5 := hid hN; clear hb5 h5 hN HB4 HN4 HL4)
              | (go_at_call 9; refine (hru _ _ (rs.drop k) (HL0 _ _ _ _ (by have := HRS.out; omega) (by omega)) hl2 (fun _ h => List.mem_of_mem_drop h)).mono ?_; rintro e w6 ⟨v6, rfl, ho6, hb6⟩; have HB6 := hid (HB5.out.trans (hb6.mono HB5.out.size)); have HN6 := hid (HN5.out.on hb6); have HA6 := hid (HA5.out.on hb6); have HL6 := hid (ho6.lies (fun r h => HRF.out r (List.mem_of_mem_drop h))); obtain ⟨oa6, oc6, hov6⟩ := ho6.form; rw [HDL.out] at hov6; subst hov6; clear ho6 hb6 HB5 HN5 HA5)
              | (go_at_call 8; refine (hbu _ _ _ HL6.out).mono ?_; rintro e w7 ⟨hb7, h7⟩; obtain ⟨_, nc, h8, hN⟩ := h7.resolve_left (fun h => h.1 HQ2.out); subst h8; have HB7 := hid (HB6.out.trans (hb7.mono HB6.out.size)); have HN7 := hid (HN6.out.on hb7); have HA7 := hid (HA6.out.on hb7); have HC7 := hid hN; clear hb7 h7 hN HB6 HN6 HA6 HL6)
              | (go_at_call 12; refine (hcp _ HB7.out).mono ?_; rintro e w8 ⟨x8, rfl, ho8, hb8⟩; have HB8 := hid (HB7.out.trans (hb8.mono HB7.out.size)); have HN8 := hid (HN7.out.on hb8); have HA8 := hid (HA7.out.on hb8); have HC8 := hid (HC7.out.on hb8); have HL8 := hid (Owns.lies ho8 HFT.out); obtain ⟨xa8, xc8, hxv8, _⟩ := own_cells ho8; subst hxv8; clear ho8 hb8 HB7 HN7 HA7 HC7)
              | (go_at_call 16; refine (hla1 _ _ _ _ HA8.out HL8.out).mono ?_; rintro e w9 ⟨v9, rfl, ho9, hb9⟩; have HB9 := hid (HB8.out.trans (hb9.mono HB8.out.size)); have HC9 := hid (HC8.out.on hb9); have HO9 := hid ho9; have HE9 := hid hb9; have HS8 := hid HB8.out.size; obtain ⟨ia, ic, hiv, _⟩ := own_cells ho9; subst hiv; clear ho9 hb9 HB8 HA8 HC8 HL8)
              | (go_at_call 12; refine (hcp _ HB9.out).mono ?_; rintro e wd ⟨xd, rfl, hod, hbd⟩; have HBd := hid (HB9.out.trans (hbd.mono HB9.out.size)); have HEd := hid (HE9.out.trans (hbd.mono HE9.out.size)); have HCd := hid (HC9.out.on hbd); have HOd := hid (own_below HO9.out hbd); have HLd := hid (Owns.lies hod HFT.out); obtain ⟨xad, xcd, hxvd, _⟩ := own_cells hod; subst hxvd; clear hod hbd HB9 HC9 HO9 HE9)
              | (go_at_call 16; refine (hla2 _ _ _ _ HCd.out HLd.out).mono ?_; rintro e we ⟨ve, rfl, hoe, hbe⟩; have HBe := hid (HBd.out.trans (hbe.mono HBd.out.size)); have HEe := hid (HEd.out.trans (hbe.mono HEd.out.size)); have HOe := hid (own_below HOd.out hbe); have HPe := hid hoe; obtain ⟨ja, jc, hjv, _⟩ := own_cells hoe; subst hjv; clear hoe hbe HBd HEd HCd HOd HLd)
              | (at_builtin; refine wpList_ids _ rfl _ _ rfl w8.heap.size (.slice ia L1.length ic) L1 rfl HOe.out _ (.slice ja L2.length jc) L2 rfl HPe.out (by omega) HEe.out.size ?_; intro vf wf hof hgf; obtain ⟨na2, nc2, hfv, _⟩ := own_cells hof; rw [HM.out] at hfv hof; have HOf := hid hof; have HEf := HEe.out.grown hgf HEe.out.size (fun k hk => (row_at HOe.out hk).1); have HNf := hid (HN8.out.on HEf); have HBf := hid (HBe.out.grown hgf HBe.out.size (fun k hk => Nat.le_trans HS8.out (row_at HOe.out hk).1)); clear hof hgf HEf HN8 HBe HOe HPe HEe; subst hfv)
              | (go_at_call 12; refine (hcp _ HBf.out).mono ?_; rintro e wg ⟨xg, rfl, hog, hbg⟩; have HBg := hid (HBf.out.trans (hbg.mono HBf.out.size)); have HNg := hid (HNf.out.on hbg); have HOg := hid (own_below HOf.out hbg); have HLg := hid (Owns.lies hog HFT.out); obtain ⟨xag, xcg, hxvg, _⟩ := own_cells hog; subst hxvg; clear hog hbg HBf HNf HOf)
              | (go_at_call 16; refine (hla3 _ _ _ _ HNg.out HLg.out).mono ?_; rintro e wh ⟨vh, rfl, hoh, hbh⟩; have HBh := hid (HBg.out.trans (hbh.mono HBg.out.size)); have HOh := hid (own_below HOg.out hbh); have HPh := hid hoh; obtain ⟨pa, pc, hpv, _⟩ := own_cells hoh; subst hpv; clear hoh hbh HBg HNg HOg HLg)
              | (go_at_call 17; refine (sameInts_self _ _ _ _ _ (L1 ++ L2) (by rw [HM.out]; exact HOh.out) (by rw [HM.out]; exact HPh.out)).mono ?_; rintro e wi ⟨rfl, hbi⟩; have HBi := hid (HBh.out.trans (hbi.mono HBh.out.size)); clear hbi))
            go_ret
            exact ⟨rfl, HBi.out⟩
          · have hkr2 : ¬ ((rc : Int) - (k : Int)) = 0 := by omega
            go_enter Try.func5, Try.ntmps5
            go_wp2_with (first
              | (go_at_call 7; refine hwk.mono ?_; clear hwk; rintro e w1 ⟨rfl, hb1⟩; have HB1 := hid hb1; clear hb1)
              | (go_at_call 9; refine (hru _ _ rs (HR.out.on HB1.out) (Nat.le_refl _) (fun _ h => h)).mono ?_; rintro e w2 ⟨v2, rfl, ho2, hb2⟩; have HB2 := hid (HB1.out.trans (hb2.mono HB1.out.size)); have HL2 := hid (ho2.lies HRF.out); obtain ⟨oa, oc, hov⟩ := ho2.form; subst hov; clear ho2 hb2 HB1)
              | (go_at_call 8; refine (hbu _ _ _ HL2.out).mono ?_; rintro e w3 ⟨hb3, h3⟩; obtain ⟨_, nb, h4, hN⟩ := h3.resolve_left (fun h => h.1 HQ.out); subst h4; have HB3 := hid (HB2.out.trans (hb3.mono HB2.out.size)); have HN3 := hid hN; clear hb3 h3 hN HB2 HL2)
              | (go_at_call 9; refine (hru _ _ (rs.take k) (HLT _ HB3.out) hl1 (fun _ h => List.mem_of_mem_take h)).mono ?_; rintro e w4 ⟨v4, rfl, ho4, hb4⟩; have HB4 := hid (HB3.out.trans (hb4.mono HB3.out.size)); have HN4 := hid (HN3.out.on hb4); have HL4 := hid (ho4.lies (fun r h => HRF.out r (List.mem_of_mem_take h))); obtain ⟨oa4, oc4, hov4⟩ := ho4.form; rw [HTL.out] at hov4; subst hov4; clear ho4 hb4 HB3 HN3)
              | (go_at_call 8; refine (hbu _ _ _ HL4.out).mono ?_; rintro e w5 ⟨hb5, h5⟩; obtain ⟨_, na, h6, hN⟩ := h5.resolve_left (fun h => h.1 HQ1.out); subst h6; have HB5 := hid (HB4.out.trans (hb5.mono HB4.out.size)); have HN5 := hid (HN4.out.on hb5); have HA5 := hid hN; clear hb5 h5 hN HB4 HN4 HL4)
              | (go_at_call 9; refine (hru _ _ (rs.drop k) (HL0 _ _ _ _ (by have := HRS.out; omega) (by omega)) hl2 (fun _ h => List.mem_of_mem_drop h)).mono ?_; rintro e w6 ⟨v6, rfl, ho6, hb6⟩; have HB6 := hid (HB5.out.trans (hb6.mono HB5.out.size)); have HN6 := hid (HN5.out.on hb6); have HA6 := hid (HA5.out.on hb6); have HL6 := hid (ho6.lies (fun r h => HRF.out r (List.mem_of_mem_drop h))); obtain ⟨oa6, oc6, hov6⟩ := ho6.form; rw [HDL.out] at hov6; subst hov6; clear ho6 hb6 HB5 HN5 HA5)
              | (go_at_call 8; refine (hbu _ _ _ HL6.out).mono ?_; rintro e w7 ⟨hb7, h7⟩; obtain ⟨_, nc, h8, hN⟩ := h7.resolve_left (fun h => h.1 HQ2.out); subst h8; have HB7 := hid (HB6.out.trans (hb7.mono HB6.out.size)); have HN7 := hid (HN6.out.on hb7); have HA7 := hid (HA6.out.on hb7); have HC7 := hid hN; clear hb7 h7 hN HB6 HN6 HA6 HL6)
              | (go_at_call 12; refine (hcp _ HB7.out).mono ?_; rintro e w8 ⟨x8, rfl, ho8, hb8⟩; have HB8 := hid (HB7.out.trans (hb8.mono HB7.out.size)); have HN8 := hid (HN7.out.on hb8); have HA8 := hid (HA7.out.on hb8); have HC8 := hid (HC7.out.on hb8); have HL8 := hid (Owns.lies ho8 HFT.out); obtain ⟨xa8, xc8, hxv8, _⟩ := own_cells ho8; subst hxv8; clear ho8 hb8 HB7 HN7 HA7 HC7)
              | (go_at_call 16; refine (hla1 _ _ _ _ HA8.out HL8.out).mono ?_; rintro e w9 ⟨v9, rfl, ho9, hb9⟩; have HB9 := hid (HB8.out.trans (hb9.mono HB8.out.size)); have HC9 := hid (HC8.out.on hb9); have HO9 := hid ho9; have HE9 := hid hb9; have HS8 := hid HB8.out.size; obtain ⟨ia, ic, hiv, _⟩ := own_cells ho9; subst hiv; clear ho9 hb9 HB8 HA8 HC8 HL8)
              | (go_at_call 12; refine (hcp _ HB9.out).mono ?_; rintro e wd ⟨xd, rfl, hod, hbd⟩; have HBd := hid (HB9.out.trans (hbd.mono HB9.out.size)); have HEd := hid (HE9.out.trans (hbd.mono HE9.out.size)); have HCd := hid (HC9.out.on hbd); have HOd := hid (own_below HO9.out hbd); have HLd := hid (Owns.lies hod HFT.out); obtain ⟨xad, xcd, hxvd, _⟩ := own_cells hod; subst hxvd; clear hod hbd HB9 HC9 HO9 HE9)
              | (go_at_call 16; refine (hla2 _ _ _ _ HCd.out HLd.out).mono ?_; rintro e we ⟨ve, rfl, hoe, hbe⟩; have HBe := hid (HBd.out.trans (hbe.mono HBd.out.size)); have HEe := hid (HEd.out.trans (hbe.mono HEd.out.size)); have HOe := hid (own_below HOd.out hbe); have HPe := hid hoe; obtain ⟨ja, jc, hjv, _⟩ := own_cells hoe; subst hjv; clear hoe hbe HBd HEd HCd HOd HLd)
              | (at_builtin; refine wpList_ids _ rfl _ _ rfl w8.heap.size (.slice ia L1.length ic) L1 rfl HOe.out _ (.slice ja L2.length jc) L2 rfl HPe.out (by omega) HEe.out.size ?_; intro vf wf hof hgf; obtain ⟨na2, nc2, hfv, _⟩ := own_cells hof; rw [HM.out] at hfv hof; have HOf := hid hof; have HEf := HEe.out.grown hgf HEe.out.size (fun k hk => (row_at HOe.out hk).1); have HNf := hid (HN8.out.on HEf); have HBf := hid (HBe.out.grown hgf HBe.out.size (fun k hk => Nat.le_trans HS8.out (row_at HOe.out hk).1)); clear hof hgf HEf HN8 HBe HOe HPe HEe; subst hfv)
              | (go_at_call 12; refine (hcp _ HBf.out).mono ?_; rintro e wg ⟨xg, rfl, hog, hbg⟩; have HBg := hid (HBf.out.trans (hbg.mono HBf.out.size)); have HNg := hid (HNf.out.on hbg); have HOg := hid (own_below HOf.out hbg); have HLg := hid (Owns.lies hog HFT.out); obtain ⟨xag, xcg, hxvg, _⟩ := own_cells hog; subst hxvg; clear hog hbg HBf HNf HOf)
              | (go_at_call 16; refine (hla3 _ _ _ _ HNg.out HLg.out).mono ?_; rintro e wh ⟨vh, rfl, hoh, hbh⟩; have HBh := hid (HBg.out.trans (hbh.mono HBg.out.size)); have HOh := hid (own_below HOg.out hbh); have HPh := hid hoh; obtain ⟨pa, pc, hpv, _⟩ := own_cells hoh; subst hpv; clear hoh hbh HBg HNg HOg HLg)
              | (go_at_call 17; refine (sameInts_self _ _ _ _ _ (L1 ++ L2) (by rw [HM.out]; exact HOh.out) (by rw [HM.out]; exact HPh.out)).mono ?_; rintro e wi ⟨rfl, hbi⟩; have HBi := hid (HBh.out.trans (hbi.mono HBh.out.size)); clear hbi))
            go_ret
            exact ⟨rfl, HBi.out⟩
      · obtain ⟨r0, hr0⟩ : ∃ r0, rs[0]? = some r0 := ⟨rs[0]'(by omega), List.getElem?_eq_getElem (by omega)⟩
        obtain ⟨g, off, _, _, hra, _⟩ := HR.out.at hr0
        subst hra
        clear hr0 hrs
        by_cases hkr : k = rc
        · subst hkr
          have HDL := hid (HDL.out.trans (show rs.length - k = 0 by omega))
          have HLD : ∀ w1, Below w.heap.size w w1 → LiesR w1 (.slice (some ⟨g, off, none⟩) 0 0) (rs.drop k) := fun w1 hb => by
            have e : rs.drop k = [] := List.drop_eq_nil_of_le (by omega)
            rw [e]
            exact ⟨_, 0, rfl, Nat.le_refl _, Nat.zero_le _, fun i r hi => by simp at hi⟩
          go_enter Try.func5, Try.ntmps5
          go_wp2_with (first
            | (go_at_call 7; refine hwk.mono ?_; clear hwk; rintro e w1 ⟨rfl, hb1⟩; have HB1 := hid hb1; clear hb1)
            | (go_at_call 9; refine (hru _ _ rs (HR.out.on HB1.out) (Nat.le_refl _) (fun _ h => h)).mono ?_; rintro e w2 ⟨v2, rfl, ho2, hb2⟩; have HB2 := hid (HB1.out.trans (hb2.mono HB1.out.size)); have HL2 := hid (ho2.lies HRF.out); obtain ⟨oa, oc, hov⟩ := ho2.form; subst hov; clear ho2 hb2 HB1)
            | (go_at_call 8; refine (hbu _ _ _ HL2.out).mono ?_; rintro e w3 ⟨hb3, h3⟩; obtain ⟨_, nb, h4, hN⟩ := h3.resolve_left (fun h => h.1 HQ.out); subst h4; have HB3 := hid (HB2.out.trans (hb3.mono HB2.out.size)); have HN3 := hid hN; clear hb3 h3 hN HB2 HL2)
            | (go_at_call 9; refine (hru _ _ (rs.take k) (HLT _ HB3.out) hl1 (fun _ h => List.mem_of_mem_take h)).mono ?_; rintro e w4 ⟨v4, rfl, ho4, hb4⟩; have HB4 := hid (HB3.out.trans (hb4.mono HB3.out.size)); have HN4 := hid (HN3.out.on hb4); have HL4 := hid (ho4.lies (fun r h => HRF.out r (List.mem_of_mem_take h))); obtain ⟨oa4, oc4, hov4⟩ := ho4.form; rw [HTL.out] at hov4; subst hov4; clear ho4 hb4 HB3 HN3)
            | (go_at_call 8; refine (hbu _ _ _ HL4.out).mono ?_; rintro e w5 ⟨hb5, h5⟩; obtain ⟨_, na, h6, hN⟩ := h5.resolve_left (fun h => h.1 HQ1.out); subst h6; have HB5 := hid (HB4.out.trans (hb5.mono HB4.out.size)); have HN5 := hid (HN4.out.on hb5); have HA5 := hid hN; clear hb5 h5 hN HB4 HN4 HL4)
            | (go_at_call 9; refine (hru _ _ (rs.drop k) (HLD _ HB5.out) hl2 (fun _ h => List.mem_of_mem_drop h)).mono ?_; rintro e w6 ⟨v6, rfl, ho6, hb6⟩; have HB6 := hid (HB5.out.trans (hb6.mono HB5.out.size)); have HN6 := hid (HN5.out.on hb6); have HA6 := hid (HA5.out.on hb6); have HL6 := hid (ho6.lies (fun r h => HRF.out r (List.mem_of_mem_drop h))); obtain ⟨oa6, oc6, hov6⟩ := ho6.form; rw [HDL.out] at hov6; subst hov6; clear ho6 hb6 HB5 HN5 HA5)
            | (go_at_call 8; refine (hbu _ _ _ HL6.out).mono ?_; rintro e w7 ⟨hb7, h7⟩; obtain ⟨_, nc, h8, hN⟩ := h7.resolve_left (fun h => h.1 HQ2.out); subst h8; have HB7 := hid (HB6.out.trans (hb7.mono HB6.out.size)); have HN7 := hid (HN6.out.on hb7); have HA7 := hid (HA6.out.on hb7); have HC7 := hid hN; clear hb7 h7 hN HB6 HN6 HA6 HL6)
            | (go_at_call 12; refine (hcp _ HB7.out).mono ?_; rintro e w8 ⟨x8, rfl, ho8, hb8⟩; have HB8 := hid (HB7.out.trans (hb8.mono HB7.out.size)); have HN8 := hid (HN7.out.on hb8); have HA8 := hid (HA7.out.on hb8); have HC8 := hid (HC7.out.on hb8); have HL8 := hid (Owns.lies ho8 HFT.out); obtain ⟨xa8, xc8, hxv8, _⟩ := own_cells ho8; subst hxv8; clear ho8 hb8 HB7 HN7 HA7 HC7)
            | (go_at_call 16; refine (hla1 _ _ _ _ HA8.out HL8.out).mono ?_; rintro e w9 ⟨v9, rfl, ho9, hb9⟩; have HB9 := hid (HB8.out.trans (hb9.mono HB8.out.size)); have HC9 := hid (HC8.out.on hb9); have HO9 := hid ho9; have HE9 := hid hb9; have HS8 := hid HB8.out.size; obtain ⟨ia, ic, hiv, _⟩ := own_cells ho9; subst hiv; clear ho9 hb9 HB8 HA8 HC8 HL8)
            | (go_at_call 12; refine (hcp _ HB9.out).mono ?_; rintro e wd ⟨xd, rfl, hod, hbd⟩; have HBd := hid (HB9.out.trans (hbd.mono HB9.out.size)); have HEd := hid (HE9.out.trans (hbd.mono HE9.out.size)); have HCd := hid (HC9.out.on hbd); have HOd := hid (own_below HO9.out hbd); have HLd := hid (Owns.lies hod HFT.out); obtain ⟨xad, xcd, hxvd, _⟩ := own_cells hod; subst hxvd; clear hod hbd HB9 HC9 HO9 HE9)
            | (go_at_call 16; refine (hla2 _ _ _ _ HCd.out HLd.out).mono ?_; rintro e we ⟨ve, rfl, hoe, hbe⟩; have HBe := hid (HBd.out.trans (hbe.mono HBd.out.size)); have HEe := hid (HEd.out.trans (hbe.mono HEd.out.size)); have HOe := hid (own_below HOd.out hbe); have HPe := hid hoe; obtain ⟨ja, jc, hjv, _⟩ := own_cells hoe; subst hjv; clear hoe hbe HBd HEd HCd HOd HLd)
            | (at_builtin; refine wpList_ids _ rfl _ _ rfl w8.heap.size (.slice ia L1.length ic) L1 rfl HOe.out _ (.slice ja L2.length jc) L2 rfl HPe.out (by omega) HEe.out.size ?_; intro vf wf hof hgf; obtain ⟨na2, nc2, hfv, _⟩ := own_cells hof; rw [HM.out] at hfv hof; have HOf := hid hof; have HEf := HEe.out.grown hgf HEe.out.size (fun k hk => (row_at HOe.out hk).1); have HNf := hid (HN8.out.on HEf); have HBf := hid (HBe.out.grown hgf HBe.out.size (fun k hk => Nat.le_trans HS8.out (row_at HOe.out hk).1)); clear hof hgf HEf HN8 HBe HOe HPe HEe; subst hfv)
            | (go_at_call 12; refine (hcp _ HBf.out).mono ?_; rintro e wg ⟨xg, rfl, hog, hbg⟩; have HBg := hid (HBf.out.trans (hbg.mono HBf.out.size)); have HNg := hid (HNf.out.on hbg); have HOg := hid (own_below HOf.out hbg); have HLg := hid (Owns.lies hog HFT.out); obtain ⟨xag, xcg, hxvg, _⟩ := own_cells hog; subst hxvg; clear hog hbg HBf HNf HOf)
            | (go_at_call 16; refine (hla3 _ _ _ _ HNg.out HLg.out).mono ?_; rintro e wh ⟨vh, rfl, hoh, hbh⟩; have HBh := hid (HBg.out.trans (hbh.mono HBg.out.size)); have HOh := hid (own_below HOg.out hbh); have HPh := hid hoh; obtain ⟨pa, pc, hpv, _⟩ := own_cells hoh; subst hpv; clear hoh hbh HBg HNg HOg HLg)
            | (go_at_call 17; refine (sameInts_self _ _ _ _ _ (L1 ++ L2) (by rw [HM.out]; exact HOh.out) (by rw [HM.out]; exact HPh.out)).mono ?_; rintro e wi ⟨rfl, hbi⟩; have HBi := hid (HBh.out.trans (hbi.mono HBh.out.size)); clear hbi))
          go_ret
          exact ⟨rfl, HBi.out⟩
        · have hkc : (k : Int) ≤ (rc : Int) := by omega
          have hkc2 : ¬ rc - k = 0 := by omega
          have hkc3 : ¬ ((rc : Int) - (k : Int)) = 0 := by omega
          have HLD : ∀ w1, Below w.heap.size w w1 → LiesR w1 (.slice (some ⟨g, off + k * 3, none⟩) (rs.length - k) (rc - k)) (rs.drop k) := fun w1 hb => (HR.out.on hb).back k hk
          go_enter Try.func5, Try.ntmps5
          go_wp2_with (first
            | (go_at_call 7; refine hwk.mono ?_; clear hwk; rintro e w1 ⟨rfl, hb1⟩; have HB1 := hid hb1; clear hb1)
            | (go_at_call 9; refine (hru _ _ rs (HR.out.on HB1.out) (Nat.le_refl _) (fun _ h => h)).mono ?_; rintro e w2 ⟨v2, rfl, ho2, hb2⟩; have HB2 := hid (HB1.out.trans (hb2.mono HB1.out.size)); have HL2 := hid (ho2.lies HRF.out); obtain ⟨oa, oc, hov⟩ := ho2.form; subst hov; clear ho2 hb2 HB1)
            | (go_at_call 8; refine (hbu _ _ _ HL2.out).mono ?_; rintro e w3 ⟨hb3, h3⟩; obtain ⟨_, nb, h4, hN⟩ := h3.resolve_left (fun h => h.1 HQ.out); subst h4; have HB3 := hid (HB2.out.trans (hb3.mono HB2.out.size)); have HN3 := hid hN; clear hb3 h3 hN HB2 HL2)
            | (go_at_call 9; refine (hru _ _ (rs.take k) (HLT _ HB3.out) hl1 (fun _ h => List.mem_of_mem_take h)).mono ?_; rintro e w4 ⟨v4, rfl, ho4, hb4⟩; have HB4 := hid (HB3.out.trans (hb4.mono HB3.out.size)); have HN4 := hid (HN3.out.on hb4); have HL4 := hid (ho4.lies (fun r h => HRF.out r (List.mem_of_mem_take h))); obtain ⟨oa4, oc4, hov4⟩ := ho4.form; rw [HTL.out] at hov4; subst hov4; clear ho4 hb4 HB3 HN3)
            | (go_at_call 8; refine (hbu _ _ _ HL4.out).mono ?_; rintro e w5 ⟨hb5, h5⟩; obtain ⟨_, na, h6, hN⟩ := h5.resolve_left (fun h => h.1 HQ1.out); subst h6; have HB5 := hid (HB4.out.trans (hb5.mono HB4.out.size)); have HN5 := hid (HN4.out.on hb5); have HA5 := hid hN; clear hb5 h5 hN HB4 HN4 HL4)
            | (go_at_call 9; refine (hru _ _ (rs.drop k) (HLD _ HB5.out) hl2 (fun _ h => List.mem_of_mem_drop h)).mono ?_; rintro e w6 ⟨v6, rfl, ho6, hb6⟩; have HB6 := hid (HB5.out.trans (hb6.mono HB5.out.size)); have HN6 := hid (HN5.out.on hb6); have HA6 := hid (HA5.out.on hb6); have HL6 := hid (ho6.lies (fun r h => HRF.out r (List.mem_of_mem_drop h))); obtain ⟨oa6, oc6, hov6⟩ := ho6.form; rw [HDL.out] at hov6; subst hov6; clear ho6 hb6 HB5 HN5 HA5)
            | (go_at_call 8; refine (hbu _ _ _ HL6.out).mono ?_; rintro e w7 ⟨hb7, h7⟩; obtain ⟨_, nc, h8, hN⟩ := h7.resolve_left (fun h => h.1 HQ2.out); subst h8; have HB7 := hid (HB6.out.trans (hb7.mono HB6.out.size)); have HN7 := hid (HN6.out.on hb7); have HA7 := hid (HA6.out.on hb7); have HC7 := hid hN; clear hb7 h7 hN HB6 HN6 HA6 HL6)
            | (go_at_call 12; refine (hcp _ HB7.out).mono ?_; rintro e w8 ⟨x8, rfl, ho8, hb8⟩; have HB8 := hid (HB7.out.trans (hb8.mono HB7.out.size)); have HN8 := hid (HN7.out.on hb8); have HA8 := hid (HA7.out.on hb8); have HC8 := hid (HC7.out.on hb8); have HL8 := hid (Owns.lies ho8 HFT.out); obtain ⟨xa8, xc8, hxv8, _⟩ := own_cells ho8; subst hxv8; clear ho8 hb8 HB7 HN7 HA7 HC7)
            | (go_at_call 16; refine (hla1 _ _ _ _ HA8.out HL8.out).mono ?_; rintro e w9 ⟨v9, rfl, ho9, hb9⟩; have HB9 := hid (HB8.out.trans (hb9.mono HB8.out.size)); have HC9 := hid (HC8.out.on hb9); have HO9 := hid ho9; have HE9 := hid hb9; have HS8 := hid HB8.out.size; obtain ⟨ia, ic, hiv, _⟩ := own_cells ho9; subst hiv; clear ho9 hb9 HB8 HA8 HC8 HL8)
            | (go_at_call 12; refine (hcp _ HB9.out).mono ?_; rintro e wd ⟨xd, rfl, hod, hbd⟩; have HBd := hid (HB9.out.trans (hbd.mono HB9.out.size)); have HEd := hid (HE9.out.trans (hbd.mono HE9.out.size)); have HCd := hid (HC9.out.on hbd); have HOd := hid (own_below HO9.out hbd); have HLd := hid (Owns.lies hod HFT.out); obtain ⟨xad, xcd, hxvd, _⟩ := own_cells hod; subst hxvd; clear hod hbd HB9 HC9 HO9 HE9)
            | (go_at_call 16; refine (hla2 _ _ _ _ HCd.out HLd.out).mono ?_; rintro e we ⟨ve, rfl, hoe, hbe⟩; have HBe := hid (HBd.out.trans (hbe.mono HBd.out.size)); have HEe := hid (HEd.out.trans (hbe.mono HEd.out.size)); have HOe := hid (own_below HOd.out hbe); have HPe := hid hoe; obtain ⟨ja, jc, hjv, _⟩ := own_cells hoe; subst hjv; clear hoe hbe HBd HEd HCd HOd HLd)
            | (at_builtin; refine wpList_ids _ rfl _ _ rfl w8.heap.size (.slice ia L1.length ic) L1 rfl HOe.out _ (.slice ja L2.length jc) L2 rfl HPe.out (by omega) HEe.out.size ?_; intro vf wf hof hgf; obtain ⟨na2, nc2, hfv, _⟩ := own_cells hof; rw [HM.out] at hfv hof; have HOf := hid hof; have HEf := HEe.out.grown hgf HEe.out.size (fun k hk => (row_at HOe.out hk).1); have HNf := hid (HN8.out.on HEf); have HBf := hid (HBe.out.grown hgf HBe.out.size (fun k hk => Nat.le_trans HS8.out (row_at HOe.out hk).1)); clear hof hgf HEf HN8 HBe HOe HPe HEe; subst hfv)
            | (go_at_call 12; refine (hcp _ HBf.out).mono ?_; rintro e wg ⟨xg, rfl, hog, hbg⟩; have HBg := hid (HBf.out.trans (hbg.mono HBf.out.size)); have HNg := hid (HNf.out.on hbg); have HOg := hid (own_below HOf.out hbg); have HLg := hid (Owns.lies hog HFT.out); obtain ⟨xag, xcg, hxvg, _⟩ := own_cells hog; subst hxvg; clear hog hbg HBf HNf HOf)
            | (go_at_call 16; refine (hla3 _ _ _ _ HNg.out HLg.out).mono ?_; rintro e wh ⟨vh, rfl, hoh, hbh⟩; have HBh := hid (HBg.out.trans (hbh.mono HBg.out.size)); have HOh := hid (own_below HOg.out hbh); have HPh := hid hoh; obtain ⟨pa, pc, hpv, _⟩ := own_cells hoh; subst hpv; clear hoh hbh HBg HNg HOg HLg)
            | (go_at_call 17; refine (sameInts_self _ _ _ _ _ (L1 ++ L2) (by rw [HM.out]; exact HOh.out) (by rw [HM.out]; exact HPh.out)).mono ?_; rintro e wi ⟨rfl, hbi⟩; have HBi := hid (HBh.out.trans (hbi.mono HBh.out.size)); clear hbi))
          go_ret
          exact ⟨rfl, HBi.out⟩
    · have hqn : ((q : Int) == 0) = false := by simp only [beq_eq_false_iff_ne]; omega
      have hqn2 : ¬ (q : Int) = 0 := by omega
      have hqb : ((q : Int) != 0) = true := by simp; omega
      clear hq hcut
      go_enter Try.func5, Try.ntmps5
      go_wp2_with (first
        | (go_at_call 7; refine hwk.mono ?_; clear hwk; rintro e w1 ⟨rfl, hb1⟩; have HB1 := hid hb1; clear hb1)
        | (go_at_call 9; refine (hru _ _ rs (HR.out.on HB1.out) (Nat.le_refl _) (fun _ h => h)).mono ?_; clear hru; rintro e w2 ⟨v2, rfl, ho2, hb2⟩; have HB2 := hid (HB1.out.trans (hb2.mono HB1.out.size)); have HL2 := hid (ho2.lies HRF.out); obtain ⟨oa, oc, hov⟩ := ho2.form; subst hov; clear ho2 hb2)
        | (go_at_call 8; refine (hbu _ _ _ HL2.out).mono ?_; rintro e w3 ⟨hb3, h3⟩; have h4 := h3.resolve_right (fun h => hb0 (HQ.out.symm.trans h.1)); obtain ⟨_, h5⟩ := h4; rw [HQ.out] at h5; subst h5; have HB3 := hid (HB2.out.trans (hb3.mono HB2.out.size)); clear hb3 h3))
      go_ret
      exact ⟨rfl, HB3.out⟩

theorem netParts_own : ownKnob Try.prog.godebug = none := by kernel_rfl
theorem netParts_laidOut : laidOutB Try.prog = true := by kernel_rfl

set_option maxRecDepth 100000 in
theorem netParts_lifted (os : Os) (started : os.Started) (H : Type) (enc : TypeId × Value → H) :
    ReturnsInHanded {} Try.checked os 5 .any (Rows.netPartsSpec.pre6 enc Try.prog Try.f5 Rows.netPartsRow.domain false) (Rows.netPartsSpec.post enc Try.prog Try.f5 false true false false) := by
  refine returnsInHanded_of_change_sized (C := Try.checked) netParts_own started (by kernel_rfl) Try.func5
    (ChangeSpec.witness6 (enc := enc) (C := Try.checked) false ⟨#[], #[.slice none 0 0, .int .i64 0, .slice none 0 0], []⟩ 8 (by kernel_rfl) (by kernel_rfl) (by kernel_rfl) (by kernel_rfl)) ?_
  intro W base args ds gs before hval0 hW hcnd hsz0 _
  have hsz : (DataW.weightsEach Try.prog (Try.f5.params.toList ++ Rows.netPartsSpec.plain.varTypes Try.prog) (ds ++ gs)).all (· ≤ reachBytes) = true := hsz0
  have hval : ∀ (j : Nat) t v, Try.f5.params[j]? = some t → args[j]? = some v → Value.okWide Try.prog W .any base t v := hval0
  have hW' := hW
  obtain ⟨p, q, hA0, hV, rfl, hfz, hnd⟩ := hW
  have hA : DataW.TrodAll enc Try.prog W 0 (fun _ => true) true Try.f5.params.toList args.toList ds p := hA0
  rw [Try.params5] at hA hval hsz
  obtain ⟨v0, vs0, d0, ds0, p0, q0, hargs, rfl, rfl, h0, r0⟩ := trodAll_cons hA
  obtain ⟨v1, vs1, d1, ds1, p1, q1, rfl, rfl, rfl, h1, r1⟩ := trodAll_cons r0
  obtain ⟨v2, vs2, d2, ds2, p2, q2, rfl, rfl, rfl, h2, r2⟩ := trodAll_cons r1
  obtain ⟨rfl, rfl, rfl⟩ := trodAll_nil r2
  obtain rfl : args = #[v0, v1, v2] := by cases args; simp_all
  obtain ⟨rfl, rfl⟩ := trodVars_none hV
  have k0 := h0
  have lt0 : ∀ x ∈ p0, x.block < W.heap.size := by obtain ⟨m, hm⟩ := k0; exact DataW.trod_lt m _ _ _ hm
  have k1 := h1
  have lt1 : ∀ x ∈ p1, x.block < W.heap.size := by obtain ⟨m, hm⟩ := k1; exact DataW.trod_lt m _ _ _ hm
  have k2 := h2
  have lt2 : ∀ x ∈ p2, x.block < W.heap.size := by obtain ⟨m, hm⟩ := k2; exact DataW.trod_lt m _ _ _ hm
  obtain ⟨L0, l0, z0⟩ := open_rules (hval 0 22 v0 rfl rfl) h0 (fun n hn => by simpa using List.all_eq_true.1 hsz n (DataW.weights_mem_each (j := 0) (t := 22) rfl rfl n hn))
  obtain ⟨a1, rfl, rfl, rfl, w1⟩ := open_int Try.underlying3 (hval 1 3 v1 rfl rfl) h1
  obtain ⟨L2, l2, z2⟩ := open_cells (hval 2 24 v2 rfl rfl) h2 (fun n hn => by simpa using List.all_eq_true.1 hsz n (DataW.weights_mem_each (j := 2) (t := 24) rfl rfl n hn))
  clear hA0 hval0
  refine (netParts_walk v0 L0 a1 v2 L2 w1 W l0 z0 l2 z2).mono fun e W' ⟨he, bel⟩ => ?_
  subst he
  exact ⟨_, rfl, _, _, _, [], _, [], hW', trodAll_mk1 (shut_bool Try.underlying4 _), (trodAll_cons_mk (Below.trod netParts_laidOut (by kernel_rfl) (of_decide_eq_true (by kernel_rfl)) k0 bel lt0) (trodAll_cons_mk (Below.trod netParts_laidOut (by kernel_rfl) (of_decide_eq_true (by kernel_rfl)) k1 bel lt1) (trodAll_cons_mk (Below.trod netParts_laidOut (by kernel_rfl) (of_decide_eq_true (by kernel_rfl)) k2 bel lt2) trodAll_mk0))), rfl, bel.frame _, fun h => by cases h⟩

theorem netParts_holds : Rows.NetPartsSaid :=
  OpenClaim.holds_of_wide 5 Try.f5 rfl rfl rfl rfl rfl rfl rfl ⟨rfl, rfl, rfl, rfl, rfl⟩ rfl rfl rfl rfl rfl (by kernel_rfl) Try.func5 (by kernel_rfl)
    (of_decide_eq_true (by kernel_rfl)) (by unfold Func.isWrapper; first | (rw [if_pos (by decide +kernel)]; kernel_rfl) | (rw [if_neg (by decide +kernel)]; exact ⟨rfl, rfl⟩))
    (fun os started H enc _ => netParts_lifted os started H enc)

#print axioms netParts_holds

end Go.Proofs.Ytpflbdkbbkobbaa
