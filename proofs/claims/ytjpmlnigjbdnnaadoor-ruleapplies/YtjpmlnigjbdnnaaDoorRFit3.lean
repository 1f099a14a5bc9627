/-
  What the document's Fit and Match answer.
-/
import Derived.Test.YtjpmlnigjbdnnaaDoorRFit2
import Derived.Deep.QuietTactic
import Derived.BigQuiet
namespace Go.Proofs.YtjpmlnigjbdnnaaDoor
open Go.RowKit
set_option linter.unusedVariables false
set_option maxRecDepth 100000
set_option linter.unusedSimpArgs false

set_option maxHeartbeats 4000000 in
/-- where the pattern is no variable -/
theorem fit_non (n : Nat) (ih : FitAt n) (B : Nat) (w : World) (u v lv : Value) (nm : ByteArray) (kd : Fo) (nm' : ByteArray) (kd' : Fo) (acc : List Bd) (hn : kd.size < n + 1) (hu : Lies w u (Fo.cons nm kd .nil).flat) (hv : Lies w v (Fo.cons nm' kd' .nil).flat) (hp : check (Fo.cons nm kd .nil).flat = 0) (ht : check (Fo.cons nm' kd' .nil).flat = 0)
    (hB : B ≤ w.heap.size) (ho : OwnsB w B lv acc) (hg : Good acc) (hal : acc.length + kd.size ≤ 1000) (hk : ¬ kind nm.data.toList = 2) :
    Calls Tryd.prog 84 #[u, v, lv] w fun e w' => RFits B (fitF (.cons nm kd .nil) (.cons nm' kd' .nil) acc) e w' ∧ Kp B w w' := by
  have hvar := var_any w u nm kd hu hp
  rw [decide_eq_false hk] at hvar
  have HU : Hid (Lies w u (Fo.cons nm kd .nil).flat) := hu
  have HV : Hid (Lies w v (Fo.cons nm' kd' .nil).flat) := hv
  obtain ⟨RES, hRES⟩ : ∃ R, fitF (.cons nm kd .nil) (.cons nm' kd' .nil) acc = R := ⟨_, rfl⟩
  have HR : Hid (RES = if nm' = nm ∧ kd'.len = kd.len then fitF kd kd' acc else none) := by
    show _ = _
    rw [← hRES, fitF, if_neg hk]
    split
    · cases fitF kd kd' acc <;> rfl
    · rfl
  rw [hRES]
  have HCK : Hid (check (Fo.cons nm kd .nil).flat = 0 ∧ check (Fo.cons nm' kd' .nil).flat = 0) := ⟨hp, ht⟩
  obtain ⟨ua, uc, rfl, hu1, hu2, _, HC⟩ := id hu
  obtain ⟨b, off, rfl, hbl, d1, d2⟩ := HC 0 ⟨nm, (kd.len : Nat)⟩ (by simp [Fo.flat])
  obtain ⟨va, vc, rfl, hv1, hv2, _, HD⟩ := id hv
  obtain ⟨b', off', rfl, hbl', d3, d4⟩ := HD 0 ⟨nm', (kd'.len : Nat)⟩ (by simp [Fo.flat])
  simp only [Nat.zero_mul, Nat.add_zero] at d1 d2 d3 d4
  have hul : 0 < (Fo.cons nm kd .nil).flat.length := by simp [Fo.flat]
  have hvl : 0 < (Fo.cons nm' kd' .nil).flat.length := by simp [Fo.flat]
  have hli : (0 : Int) < ((Fo.cons nm kd .nil).flat.length : Int) := by omega
  have hvi : (0 : Int) < ((Fo.cons nm' kd' .nil).flat.length : Int) := by omega
  have hEq := neq59 nm nm' ((kd.len : Nat) : Int) ((kd'.len : Nat) : Int)
  have HKD : Hid (∀ nq, Kp B w (w.drewN nq)) := fun nq => Kp.of (below_drewN w nq) hB
  have HBD : Hid (∀ nq, Below w.heap.size w (w.drewN nq)) := fun nq => below_drewN w nq
  have hk1 : ∀ w1, Below w.heap.size w w1 → _ := fun w1 hb => rKids_ok w1 _ _ (HU.out.on hb) hp nm kd rfl
  have hk2 : ∀ w1, Below w.heap.size w w1 → _ := fun w1 hb => rKids_ok w1 _ _ (HV.out.on hb) ht nm' kd' rfl
  have HOB : Hid (OwnsB w B lv acc) := ho
  have HGO : Hid (Good acc) := hg
  have HIH : Hid (FitAt n) := ih
  obtain ⟨la, lc, hlv, hl1, hl2⟩ := ho.form
  subst hlv
  obtain ⟨len0, hlen0⟩ : ∃ x, (Fo.cons nm kd .nil).flat.length = x := ⟨_, rfl⟩
  obtain ⟨len1, hlen1⟩ : ∃ x, (Fo.cons nm' kd' .nil).flat.length = x := ⟨_, rfl⟩
  rw [hlen0] at hul hli hvar hk1 ⊢
  rw [hlen1] at hvl hvi hk2 ⊢
  clear hRES HC HD hk hu1 hv1 hp ht hg hu hv ih ho hlen0 hlen1
  by_cases hdc : (⟨nm, ((kd.len : Nat) : Int)⟩ : Cl) = ⟨nm', ((kd'.len : Nat) : Int)⟩
  · have hnl : nm' = nm ∧ kd'.len = kd.len := by injection hdc with e1 e2; exact ⟨e1.symm, by omega⟩
    have HR2 : Hid (RES = fitF kd kd' acc) := by show _ = _; rw [HR.out, if_pos hnl]
    have HLEN : Hid (kd'.len = kd.len) := hnl.2
    rw [decide_eq_true hdc] at hEq
    simp only [Bool.not_true] at hEq
    have HCA : Hid (∀ l ∈ kd.trees, check l = 0) := fun l hl => tree_right HCK.out.1 hl
    have HCB : Hid (∀ l ∈ kd'.trees, check l = 0) := fun l hl => tree_right HCK.out.2 hl
    have HSA : Hid (∀ n1 k1, (Fo.cons n1 k1 .nil).flat ∈ kd.trees → k1.size + 1 ≤ kd.size) := fun n1 k1 hm => by
      obtain ⟨n2, k2, e, h2⟩ := trees_get kd _ hm
      have h3 := congrArg List.length e
      rw [Fo.flat_length, Fo.flat_length] at h3
      simp only [Fo.size] at h3
      omega
    have HGC : Hid ((∀ c ∈ kd'.flat, cellErr c = 0) ∧ kd'.size ≤ 64) := ⟨fun c hc => cellsErr_zero.1 (check_zero HCK.out.2).2.1 c (by simp [Fo.flat, hc]), by have := (check_zero HCK.out.2).1; rw [Fo.flat_length] at this; simp only [Fo.size] at this; omega⟩
    have hkl : kd.trees.length ≤ 64 := by rw [Fo.trees_length]; have := Fo.len_le kd; have h6 := (check_zero HCK.out.1).1; rw [Fo.flat_length] at h6; simp only [Fo.size] at h6; omega
    have HLN : Hid (kd'.trees.length = kd.trees.length) := by show _ = _; rw [Fo.trees_length, Fo.trees_length]; exact HLEN.out
    have HST : Hid (kd.trees = kd.trees ∧ kd'.trees = kd'.trees) := ⟨rfl, rfl⟩
    clear HR hdc hnl
    go_enter Tryd.func84, Tryd.ntmps84
    go_wp2_with (first | (go_at_call 37; refine hvar.mono ?_; rintro e w1 ⟨rfl, rfl⟩))
    go_quiet (fail)
    go_wp2_with (first | (go_at_call 80; refine (hk1 _ (HBD.out _)).mono ?_; rintro e w2 ⟨v2, rfl, oA, hbA⟩; obtain ⟨aa, acp, hav, ha1, ha2⟩ := oA.form; subst hav; have HBA := (HBD.out _).trans (hbA.mono (HBD.out _).size); clear hk1) | (go_at_call 80; refine (hk2 _ HBA).mono ?_; rintro e w3 ⟨v3, rfl, oB, hbB⟩; obtain ⟨ba, bcp, hbv, hb1, hb2⟩ := oB.form; subst hbv; have HBB := HBA.trans (hbB.mono HBA.size)))
    have HOA : Hid (OwnsT w3 _ (.slice aa kd.trees.length acp) kd.trees) := oA.on hbB
    have HOBB : Hid (OwnsT w3 _ (.slice ba kd'.trees.length bcp) kd'.trees) := oB
    have HO3 : Hid (OwnsB w3 B (.slice la acc.length lc) acc) := HOB.out.on HBB
    have HK3 : Hid (Kp B w w3) := Kp.of HBB hB
    have hB3 : B ≤ w3.heap.size := Nat.le_trans hB HBB.size
    clear oA oB hbA hbB HBA HBB hk2 HOB
    go_loopw [2, 55] (fun lvv i wr => ∃ (j : Nat) (f g : Fo) (ac : List Bd), Hid (kd.trees.drop j = f.trees ∧ kd'.trees.drop j = g.trees ∧ f.len = g.len) ∧ j ≤ kd.trees.length ∧ Hid (RES = fitF f g ac) ∧ OwnsB wr B lvv ac ∧ Hid (Good ac) ∧ ac.length + f.size ≤ 1000 ∧ Hid ((∀ c ∈ g.flat, cellErr c = 0) ∧ g.size ≤ 64) ∧ Kp B w3 wr ∧ i = .int .i64 (j : Nat)) (fun _ i _ => kd.trees.length - (intOf i).toNat)
    case atStart => exact ⟨0, kd, kd', acc, ⟨rfl, rfl, HLEN.out.symm⟩, Nat.zero_le _, HR2, HO3.out, HGO, hal, HGC, Kp.refl _ _, rfl⟩
    case round =>
      obtain ⟨j, f, g, ac, HDR, hj, HRR, hO, HG, hsz, HGC2, hkp, rfl⟩ := hrel
      have hBr : B ≤ wr.heap.size := Nat.le_trans hB3 hkp.low.size
      obtain ⟨qa, qc, hqv, hq1, hq2⟩ := hO.form
      subst hqv
      have HOW : Hid (OwnsB wr B (.slice qa ac.length qc) ac) := hO
      clear hO HO3
      cases f with
      | nil =>
        have hjn : ¬ (j : Int) < (kd.trees.length : Int) := by have := congrArg List.length HDR.out.1; simp [Fo.trees] at this; omega
        have HX : Hid (RES = some ac) := by
          show _ = _
          have hg0 := HDR.out.2.2
          cases g with
          | nil => exact HRR.out
          | cons _ _ _ => simp [Fo.len] at hg0
        clear HDR HRR
        go_wp2_with fail
        go_ret2
        refine ⟨?_, HK3.out.trans hkp⟩
        rw [HX.out]
        exact ⟨_, rfl, HOW.out⟩
      | cons n1 k1 r1 =>
        cases g with
        | nil => have := HDR.out.2.2; simp [Fo.len] at this
        | cons n2 k2 r2 =>
          obtain ⟨q1, q2⟩ := drop_tree HDR.out.1
          obtain ⟨q3, q4⟩ := drop_tree HDR.out.2.1
          have hrl : r1.len = r2.len := by have := HDR.out.2.2; simp [Fo.len] at this; exact this
          have hjl : j < kd.trees.length := (List.getElem?_eq_some_iff.1 q1).1
          have hjl2 : j < kd'.trees.length := (List.getElem?_eq_some_iff.1 q3).1
          have hji : (j : Int) < (kd.trees.length : Int) := by omega
          have hji2 : (j : Int) < (kd'.trees.length : Int) := by omega
          have m1 := List.mem_of_getElem? q1
          have m3 := List.mem_of_getElem? q3
          obtain ⟨g1, o1, x1, hA, g1l, c1, lx1⟩ := ((HOA.out.kp hkp).lies (trees_fine2 HCA.out)).at q1
          obtain ⟨g2, o2, x2, hBb, g2l, c2, lx2⟩ := ((HOBB.out.kp hkp).lies (trees_fine2 HCB.out)).at q3
          subst hA hBb
          have hs1 := HSA.out n1 k1 m1
          simp only [Fo.size] at hsz
          have HGC3 := HGC2.out
          simp only [Fo.size] at HGC3
          have hcall := HIH.out B wr.drew x1 x2 (.slice qa ac.length qc) n1 k1 n2 k2 ac (by omega) (lx1.on ((Below.refl _ wr).drew)) (lx2.on ((Below.refl _ wr).drew)) (HCA.out _ m1) (HCB.out _ m3) hBr HOW.out HG.out (by omega)
          have hRR := HRR.out
          rw [fitF_cons] at hRR
          have HGD : Hid (∀ a2, fitF (.cons n1 k1 .nil) (.cons n2 k2 .nil) ac = some a2 → Good a2 ∧ a2.length ≤ ac.length + (k1.size + 1)) := fun a2 h2 => by
            have := fitF_good (.cons n1 k1 .nil) (.cons n2 k2 .nil) ac a2 h2 (fun c hc => HGC3.1 c (by rw [Fo.flat_cons]; exact List.mem_append.2 (.inl hc))) (by simp only [Fo.size]; omega) HG.out
            simp only [Fo.size] at this
            exact ⟨this.1, by omega⟩
          have HDR2 : Hid (kd.trees.drop (j + 1) = r1.trees ∧ kd'.trees.drop (j + 1) = r2.trees ∧ r1.len = r2.len) := ⟨q2, q4, hrl⟩
          have HGC4 : Hid ((∀ c ∈ r2.flat, cellErr c = 0) ∧ r2.size ≤ 64) := ⟨fun c hc => HGC3.1 c (by rw [Fo.flat_cons]; exact List.mem_append.2 (.inr hc)), by omega⟩
          have e1 : wr.drew.cell? ⟨g1, o1 + j, none⟩ = some x1 := c1
          have e2 : wr.drew.cell? ⟨g2, o2 + j, none⟩ = some x2 := c2
          have HKD2 : Hid (Kp B w3 wr.drew) := hkp.trans ⟨(Below.refl _ wr).drew, fun _ _ _ h _ => h⟩
          obtain ⟨xa, xc, hxx, _⟩ := lx1
          subst hxx
          obtain ⟨ya, yc, hyy, _⟩ := lx2
          subst hyy
          cases hres : fitF (.cons n1 k1 .nil) (.cons n2 k2 .nil) ac with
          | none =>
            rw [hres] at hcall hRR
            have HX : Hid (RES = none) := hRR
            have hcall2 : Calls Tryd.prog 84 _ wr.drew fun e w' => (∃ v', e = .returned (.tuple #[v', .bool false])) ∧ Kp B wr.drew w' := hcall
            clear hcall hRR hres HDR HRR q1 q2 q3 q4 m1 m3 hkp HGC2 HGC3 HGD c1 c2
            generalize (Fo.cons n1 k1 .nil).flat.length = z1 at hcall2 e1
            generalize (Fo.cons n2 k2 .nil).flat.length = z2 at hcall2 e2
            go_wp2_with fail
            go_region_law (first
              | (go_simp; go_at_call 84; refine hcall2.mono ?_; rintro e w8 ⟨⟨v8, rfl⟩, hk8⟩; have hk9 := HKD2.out.trans hk8))
            all_goals
              (go_wp2_with fail
               go_ret2
               refine ⟨?_, HK3.out.trans hk9⟩
               rw [HX.out]
               exact ⟨_, rfl⟩)
          | some a2 =>
            obtain ⟨gd1, gd2⟩ := HGD.out a2 hres
            rw [hres] at hcall hRR
            have HX : Hid (RES = fitF r1 r2 a2) := hRR
            have HG2 : Hid (Good a2) := gd1
            have hcall2 : Calls Tryd.prog 84 _ wr.drew fun e w' => (∃ v', e = .returned (.tuple #[v', .bool true]) ∧ OwnsB w' B v' a2) ∧ Kp B wr.drew w' := hcall
            clear hcall hRR hres HDR HRR q1 q2 q3 q4 m1 m3 hkp HGC2 HGC3 HGD c1 c2 gd1
            generalize (Fo.cons n1 k1 .nil).flat.length = z1 at hcall2 e1
            generalize (Fo.cons n2 k2 .nil).flat.length = z2 at hcall2 e2
            go_wp2_with fail
            go_region_law (first
              | (go_simp; go_at_call 84; refine hcall2.mono ?_; rintro e w8 ⟨⟨v8, rfl, ho8⟩, hk8⟩; have hk9 := HKD2.out.trans hk8; have HO8 : Hid (OwnsB w8 B v8 a2) := ho8; clear ho8))
            all_goals
              (go_wp2_with fail
               go_roundw
               case rel => exact ⟨j + 1, r1, r2, a2, HDR2, by omega, HX, HO8.out, HG2, by omega, HGC4, hk9, by go_num⟩
               case measure => simp [intOf]; omega)
  · have HX : Hid (RES = none) := by
      show _ = _
      rw [HR.out, if_neg]
      rintro ⟨e1, e2⟩
      exact hdc (by rw [e1, e2])
    rw [decide_eq_false hdc] at hEq
    simp only [Bool.not_false] at hEq
    clear HR hdc
    go_enter Tryd.func84, Tryd.ntmps84
    go_wp2_with (first | (go_at_call 37; refine hvar.mono ?_; rintro e w1 ⟨rfl, rfl⟩))
    go_quiet (fail)
    go_wp2_with fail
    go_ret2
    refine ⟨?_, HKD.out _⟩
    rw [HX.out]
    exact ⟨_, rfl⟩

theorem rFit_any : ∀ n, FitAt n := by
  intro n
  induction n with
  | zero => intro B w u v lv nm kd nm' kd' acc h; omega
  | succ n ih =>
    intro B w u v lv nm kd nm' kd' acc hn hu hv hp ht hB ho hg hal
    by_cases hk : kind nm.data.toList = 2
    · exact fit_var n B w u v lv nm kd nm' kd' acc hu hv hp ht hB ho hg hal hk
    · exact fit_non n ih B w u v lv nm kd nm' kd' acc hn hu hv hp ht hB ho hg hal hk

end Go.Proofs.YtjpmlnigjbdnnaaDoor
