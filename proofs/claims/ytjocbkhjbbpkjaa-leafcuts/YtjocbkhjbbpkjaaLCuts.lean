/-
  every list that is right is cut as the document says, and both sides fit where it would fit without one of its entries; lists that are not right end, too.
-/
import Derived.Test.YtjocbkhjbbpkjaaRows
import Derived.Test.YtjocbkhjbbpkjaaCw
import Derived.Test.YtjocbkhjbbpkjaaAh
import Derived.Test.YtjocbkhjbbpkjaaOe
import Derived.Test.YtjocbkhjbbpkjaaWk
import Derived.ProofKit
import Derived.OpenShut
import Derived.ShutString
import Derived.ChangeOld
import Derived.Below
import Derived.SizedLaws
import Derived.Lib.SmallJoins
namespace Go.Proofs.Ytjocbkhjbbpkjaa
open Go.ChangeShapes Go.WideShapes Go.ChangeAt Go.RowKit Go.Joins
open Go.ChangeMaps (open_string shut_string)
set_option linter.unusedVariables false
set_option linter.unusedSimpArgs false
set_option maxRecDepth 100000

set_option maxHeartbeats 8000000 in
theorem leafCuts_walk (v : Value) (L : List Ent) (w : World) (l1 : LiesE w v L) (z1 : L.length ≤ 4398046510976) :
    Calls Try.prog 8 #[v] w fun e w' => e = .returned (.bool true) ∧ Below w.heap.size w w' := by
  have hsm := l1.sml
  have HL := hid l1
  obtain ⟨n, hn⟩ : ∃ n, L.length = n := ⟨_, rfl⟩
  have HCP : Hid (∀ w1 : World, Below w.heap.size w w1 → Calls Try.prog 11 #[v] w1 fun e w' => ∃ a c, e = .returned (.slice a n c) ∧ RowE w' w1.heap.size (.slice a n c) L ∧ Below w1.heap.size w1 w') := fun w1 hb => copy_big w1 v L n hn (l1.on hb) (by omega)
  have HRT : Hid (∀ w1 : World, Below w.heap.size w w1 → Calls Try.prog 19 #[v] w1 fun e w' => e = .returned (.int .i64 (ckE none L : Nat)) ∧ Below w1.heap.size w1 w') := fun w1 hb => right_any w1 v L (l1.on hb)
  have HSM := hid hsm
  by_cases hc : ckE none L = 0
  · rw [hc] at HRT
    obtain ⟨k, hk⟩ := cut_ex L
    obtain ⟨p, hp⟩ : ∃ p, (L.take k).length = p := ⟨_, rfl⟩
    obtain ⟨q, hq⟩ : ∃ q, (L.drop k).length = q := ⟨_, rfl⟩
    have HCT : Hid (∀ (w1 : World) (x : Value), LiesE w1 x L → Calls Try.prog 26 #[x] w1 fun e w' => ∃ a c a2 c2, e = .returned (.tuple #[.slice a p c, .slice a2 q c2]) ∧ RowE w' w1.heap.size (.slice a p c) (L.take k) ∧ RowE w' w1.heap.size (.slice a2 q c2) (L.drop k) ∧ Below w1.heap.size w1 w') := fun w1 x h => cut_right w1 x L k p q hc h (by omega) hk hp hq
    have HRC : Hid (∀ w1 : World, Below w.heap.size w w1 → Calls Try.prog 27 #[v] w1 fun e w' => e = .returned (.int .i64 (k : Nat)) ∧ Below w1.heap.size w1 w') := fun w1 hb => rCut_right w1 v L k hc (l1.on hb) (by omega) hk
    have HSS : Hid (∀ (w1 : World) (x y : Value) (D : List Ent), LiesE w1 x D → LiesE w1 y D → Calls Try.prog 17 #[x, y] w1 fun e w' => e = .returned (.bool true) ∧ Below w1.heap.size w1 w') := fun w1 x y D h1 h2 => same_self w1 x y D h1 h2
    have HSZ : Hid (∀ (w1 : World) (y : Value) (M : List Ent), LiesE w1 y M → Calls Try.prog 14 #[y] w1 fun e w' => e = .returned (.int .i64 (szL M)) ∧ Below w1.heap.size w1 w') := fun w1 y M h => rSize_any w1 y M h
    have HS1 : Hid (SmlL (L.take k)) := hsm.take k
    have HS2 : Hid (SmlL (L.drop k)) := hsm.drop k
    have hs98 := ckE_small hc
    have hsl := sum_lt hc (by omega)
    have hZ0 := (szL_is hc (by omega) L.length).1
    rw [List.take_length] at hZ0
    have HIS := hid (szL_is hc (by omega) k)
    have HFT : Hid (∀ (i : Nat) (x : Ent), L[i]? = some x → 2 + sumE L ≤ 256 + x.sz → 2 ≤ n → 2 + sumE (L.take k) ≤ 256 ∧ 2 + sumE (L.drop k) ≤ 256) := fun i x hx hi h2 => cut_fits hs98 (by omega) hk hx hi
    have HS98 := hid hs98
    have HN := hid hn
    obtain ⟨a, c, hv⟩ := l1.form
    subst hv
    have hcap := l1.cap
    have HC := hid (And.intro hcap.2.1 hcap.2.2)
    have hkn := hk.le
    rw [hn] at HL HRT HCP HRC HC hkn z1 ⊢
    have hr1 := run_hd a n c k (by have := HC.out.1; omega)
    have hr2 := run_tl a n c k hkn
    have HLA := hid (HL.out.hd (i := k) hkn)
    have HLB := hid (HL.out.tl (i := k) hkn)
    generalize sA a 0 c = a1 at *
    generalize sA a k c = a2 at *
    obtain ⟨m2, hm2⟩ : ∃ m2, n - k = m2 := ⟨_, rfl⟩
    obtain ⟨k2, hk2⟩ : ∃ k2, c - k = k2 := ⟨_, rfl⟩
    rw [hm2, hk2] at hr2 HLB
    obtain ⟨s0, hs0⟩ : ∃ s0, sumE L = s0 := ⟨_, rfl⟩
    rw [hs0] at hZ0 HFT hsl
    obtain ⟨t0, ht0⟩ : ∃ t0 : Int, ((2 + s0 : Nat) : Int) = t0 := ⟨_, rfl⟩
    rw [ht0] at hZ0
    have HT0 := hid ht0
    have HZ0 := hid hZ0
    clear ht0
    clear hk hsm l1 hn hp hq hc hcap hm2 hk2 hZ0 hs98
    go_enter Try.func8, Try.ntmps8
    go_wp2_with (first
      | (go_at_call 9; refine (wakes_any _).mono ?_; rintro e w1 ⟨rfl, hb1⟩; have HB1 := hid hb1; clear hb1)
      | (go_at_call 11; refine (HCP.out _ HB1.out).mono ?_; clear HCP; rintro e w2 ⟨b2, c2, rfl, hr2', hb2⟩; have HI2 := hid (hr2'.lies HSM.out); have HB2 := hid (HB1.out.trans (hb2.mono HB1.out.size)); clear hr2' hb2 HB1)
      | (go_at_call 26; refine (HCT.out _ _ HI2.out).mono ?_; clear HCT; rintro e w3 ⟨a3, c3, a4, c4, rfl, hr3, hr4, hb3⟩; have HA3 := hid (hr3.lies HS1.out); have HC3 := hid (hr4.lies HS2.out); have HB3 := hid (HB2.out.trans (hb3.mono HB2.out.size)); clear hr3 hr4 hb3 HB2 HI2)
      | (go_at_call 19; refine (HRT.out _ HB3.out).mono ?_; clear HRT; rintro e w4 ⟨rfl, hb4⟩; have HA4 := hid (HA3.out.on hb4); have HC4 := hid (HC3.out.on hb4); have HB4 := hid (HB3.out.trans (hb4.mono HB3.out.size)); clear hb4 HB3 HA3 HC3)
      | (go_at_call 27; refine (HRC.out _ HB4.out).mono ?_; clear HRC; rintro e w5 ⟨rfl, hb5⟩; have HA5 := hid (HA4.out.on hb5); have HC5 := hid (HC4.out.on hb5); have HB5 := hid (HB4.out.trans (hb5.mono HB4.out.size)); clear hb5 HB4 HA4 HC4)
      | (go_at_call 17; refine (HSS.out _ _ _ _ HA5.out (HLA.out.on HB5.out)).mono ?_; clear HLA; rintro e w6 ⟨rfl, hb6⟩; have HA6 := hid (HA5.out.on hb6); have HC6 := hid (HC5.out.on hb6); have HB6 := hid (HB5.out.trans (hb6.mono HB5.out.size)); clear hb6 HB5 HA5 HC5)
      | (go_at_call 17; refine (HSS.out _ _ _ _ HC6.out (HLB.out.on HB6.out)).mono ?_; clear HLB; rintro e w7 ⟨rfl, hb7⟩; have HA7 := hid (HA6.out.on hb7); have HC7 := hid (HC6.out.on hb7); have HB7 := hid (HB6.out.trans (hb7.mono HB6.out.size)); clear hb7 HB6 HA6 HC6))
    clear hr1 hr2
    go_loopw [36] (fun i wr => ∃ j : Nat, j ≤ n ∧ i = .int .i64 (j : Nat) ∧ Hid (Below w7.heap.size w7 wr)) (fun i _ => n - (intOf i).toNat)
    case atStart => exact ⟨0, Nat.zero_le _, rfl, Below.refl _ _⟩
    case round =>
      obtain ⟨j, hj, rfl, HB⟩ := hrel
      by_cases hjm : j < n
      · have hji : (j : Int) < (n : Int) := by omega
        obtain ⟨x, hx⟩ : ∃ x, L[j]? = some x := ⟨_, List.getElem?_eq_getElem (by rw [HN.out]; exact hjm)⟩
        have hx98 := HS98.out x (List.mem_of_getElem? hx)
        have hZ1 := szL_one x hx98
        have HW := hid (HB7.out.trans (HB.out.mono HB7.out.size))
        have HLW := hid (HL.out.on HW.out)
        have HL1 := hid (HLW.out.one_at hx)
        have hr := run_one a n c j (by have := HC.out.1; omega)
        have HF := hid (HFT.out j x hx)
        have HAW := hid (HA7.out.on HB.out)
        have HCW := hid (HC7.out.on HB.out)
        have hjw : IntKind.i64.wrap ((j : Int) + 1) = (j : Int) + 1 := by rw [IntKind.wrap_i64]; omega
        generalize sA a j c = a3' at *
        generalize c - j = c3' at *
        clear hx
        obtain ⟨z, hz⟩ : ∃ z, x.sz = z := ⟨_, rfl⟩
        rw [hz] at HF hx98 hZ1
        obtain ⟨t1, ht1⟩ : ∃ t1 : Int, ((2 + z : Nat) : Int) = t1 := ⟨_, rfl⟩
        rw [ht1] at hZ1
        have HT1 := hid ht1
        have HZ1 := hid hZ1
        clear ht1
        clear hZ1 hz
        go_wp2_with fail
        refine wp_region_d (fun _ => True) (fun _ => true) (by kernel_rfl) ?_
        have hd : Below wr.heap.size wr wr.drew := (Below.refl _ wr).drew
        have HLW := hid (HLW.out.on hd)
        have HL1 := hid (HL1.out.on hd)
        have HAW := hid (HAW.out.on hd)
        have HCW := hid (HCW.out.on hd)
        have HB := hid (HB.out.trans (hd.mono HB.out.size))
        have HW := hid (HW.out.trans (hd.mono HW.out.size))
        clear hd
        generalize wr.drew = wd at *
        refine wpAnyM_pick (i := 0) (some 39) (v := ?vz1) rfl rfl (by kernel_rfl) (by kernel_rfl) (by kernel_rfl) (by kernel_rfl) (fun _ _ _ h => h) (Or.inl ⟨by rfl, ?hz1⟩) trivial ?rz1
        case hz1 => intro w hSw; (try have hs1 := hSw.1); (try have hs2 := hSw.2); go_simp; try with_reducible rfl
        try simp only [Act.put, List.setIfInBounds_toArray, List.set_cons_zero, List.set_cons_succ]
        refine wpAnyM_pick (i := 2) (some 41) (v := ?vz2) rfl rfl (by kernel_rfl) (by kernel_rfl) (by kernel_rfl) (by kernel_rfl) (fun _ _ _ h => h) (Or.inl ⟨by rfl, ?hz2⟩) trivial ?rz2
        case hz2 => intro w hSw; (try have hs1 := hSw.1); (try have hs2 := hSw.2); go_simp; try with_reducible rfl
        try simp only [Act.put, List.setIfInBounds_toArray, List.set_cons_zero, List.set_cons_succ]
        refine wpAnyM_pick (i := 3) (some 42) (v := ?vz3) rfl rfl (by kernel_rfl) (by kernel_rfl) (by kernel_rfl) (by kernel_rfl) (fun _ _ _ h => h) (Or.inl ⟨by rfl, ?hz3⟩) trivial ?rz3
        case hz3 => intro w hSw; (try have hs1 := hSw.1); (try have hs2 := hSw.2); go_simp; try with_reducible rfl
        try simp only [Act.put, List.setIfInBounds_toArray, List.set_cons_zero, List.set_cons_succ]
        refine wpAnyM_pick (i := 4) (some 43) (v := ?vz4) rfl rfl (by kernel_rfl) (by kernel_rfl) (by kernel_rfl) (by kernel_rfl) (fun _ _ _ h => h) (Or.inl ⟨by rfl, ?hz4⟩) trivial ?rz4
        case hz4 => intro w hSw; (try have hs1 := hSw.1); (try have hs2 := hSw.2); go_simp; try with_reducible rfl
        try simp only [Act.put, List.setIfInBounds_toArray, List.set_cons_zero, List.set_cons_succ]
        refine wpAnyM_pick (i := 5) (some 44) (v := ?vz5) rfl rfl (by kernel_rfl) (by kernel_rfl) (by kernel_rfl) (by kernel_rfl) (fun _ _ _ h => h) (Or.inl ⟨by rfl, ?hz5⟩) trivial ?rz5
        case hz5 => intro w hSw; (try have hs1 := hSw.1); (try have hs2 := hSw.2); go_simp; try with_reducible rfl
        try simp only [Act.put, List.setIfInBounds_toArray, List.set_cons_zero, List.set_cons_succ]
        refine wpAnyM_pick (i := 6) (some 45) (v := ?vz6) rfl rfl (by kernel_rfl) (by kernel_rfl) (by kernel_rfl) (by kernel_rfl) (fun _ _ _ h => h) (Or.inl ⟨by rfl, ?hz6⟩) trivial ?rz6
        case hz6 => intro w hSw; (try have hs1 := hSw.1); (try have hs2 := hSw.2); go_simp; try with_reducible rfl
        try simp only [Act.put, List.setIfInBounds_toArray, List.set_cons_zero, List.set_cons_succ]
        clear hr
        refine wpAnyM_one (i := 1) (by kernel_rfl) rfl (fun K hK => ?_)
        go_simp
        go_at_call 14
        refine (HSZ.out wd _ _ HLW.out).mono ?_
        rintro e y1 ⟨rfl, hb1⟩
        have HL1 := hid (HL1.out.on hb1)
        have HAW := hid (HAW.out.on hb1)
        have HCW := hid (HCW.out.on hb1)
        have HB := hid (HB.out.trans (hb1.mono HB.out.size))
        have HW := hid (HW.out.trans (hb1.mono HW.out.size))
        clear hb1
        rw [HZ0.out]
        go_wp2_with fail
        refine hK.out _ _ (fun _ => trivial) ?_
        clear hK K
        try simp only [Act.put, List.setIfInBounds_toArray, List.set_cons_zero, List.set_cons_succ]
        refine wpAnyM_one (i := 7) (by kernel_rfl) rfl (fun K hK => ?_)
        go_simp
        go_at_call 14
        refine (HSZ.out y1 _ _ HL1.out).mono ?_
        rintro e y2 ⟨rfl, hb2⟩
        have HAW := hid (HAW.out.on hb2)
        have HCW := hid (HCW.out.on hb2)
        have HB := hid (HB.out.trans (hb2.mono HB.out.size))
        have HW := hid (HW.out.trans (hb2.mono HW.out.size))
        clear hb2
        rw [HZ1.out]
        go_wp2_with fail
        refine hK.out _ _ (fun _ => trivial) ?_
        clear hK K
        try simp only [Act.put, List.setIfInBounds_toArray, List.set_cons_zero, List.set_cons_succ]
        obtain ⟨g1, hg1⟩ : ∃ g1 : Int, IntKind.i64.wrap (t0 - t1) = g1 := ⟨_, rfl⟩
        obtain ⟨g2, hg2⟩ : ∃ g2 : Int, IntKind.i64.wrap (g1 + 2) = g2 := ⟨_, rfl⟩
        have hg : g2 = (s0 : Int) + 2 - (z : Int) := by
          have e0 := HT0.out
          have e1 := HT1.out
          rw [← hg2, ← hg1, IntKind.wrap_i64, IntKind.wrap_i64]
          omega
        have HG := hid hg
        clear hg
        refine wpAnyM_pick (i := 8) (some 47) (v := ?vz7) rfl rfl (by kernel_rfl) (by kernel_rfl) (by kernel_rfl) (by kernel_rfl) (fun _ _ _ h => h) (Or.inl ⟨by rfl, ?hz7⟩) trivial ?rz7
        case hz7 => intro w hSw; (try have hs1 := hSw.1); (try have hs2 := hSw.2); go_simp; try with_reducible rfl
        try simp only [Act.put, List.setIfInBounds_toArray, List.set_cons_zero, List.set_cons_succ]
        refine wpAnyM_pick (i := 9) (some 48) (v := ?vz8) rfl rfl (by kernel_rfl) (by kernel_rfl) (by kernel_rfl) (by kernel_rfl) (fun _ _ _ h => h) (Or.inl ⟨by rfl, ?hz8⟩) trivial ?rz8
        case hz8 => intro w hSw; (try have hs1 := hSw.1); (try have hs2 := hSw.2); go_simp; try with_reducible rfl
        try simp only [Act.put, List.setIfInBounds_toArray, List.set_cons_zero, List.set_cons_succ]
        refine wpAnyM_pick (i := 10) (some 49) (v := ?vz9) rfl rfl (by kernel_rfl) (by kernel_rfl) (by kernel_rfl) (by kernel_rfl) (fun _ _ _ h => h) (Or.inl ⟨by rfl, ?hz9⟩) trivial ?rz9
        case hz9 => intro w hSw; (try have hs1 := hSw.1); (try have hs2 := hSw.2); go_simp; try with_reducible rfl
        try simp only [Act.put, List.setIfInBounds_toArray, List.set_cons_zero, List.set_cons_succ]
        refine wpAnyM_done (by kernel_rfl) ?_ _
        try simp only [Act.put, List.setIfInBounds_toArray, List.set_cons_zero, List.set_cons_succ]
        clear hg1 hg2
        by_cases hle : g2 ≤ 256
        · by_cases hn2 : n < 2
          · have hni : (n : Int) < 2 := by omega
            go_wp2_with fail
            go_ret
            exact ⟨rfl, HW.out⟩
          · have hni : ¬ (n : Int) < 2 := by omega
            obtain ⟨f1, f2⟩ := HF.out (by have := HG.out; omega) (by omega)
            have hz1 : szL (L.take k) ≤ 256 := by rw [HIS.out.1]; omega
            have hz2 : szL (L.drop k) ≤ 256 := by rw [HIS.out.2]; omega
            have HP1 : Hid (∀ w1 : World, LiesE w1 (.slice a3 p c3) (L.take k) → _) := fun w1 h => HSZ.out w1 _ _ h
            have HP2 : Hid (∀ w1 : World, LiesE w1 (.slice a4 q c4) (L.drop k) → _) := fun w1 h => HSZ.out w1 _ _ h
            clear HSZ f1 f2 HF HIS
            generalize szL (L.take k) = s1 at *
            generalize szL (L.drop k) = s2 at *
            go_wp2_with (first
              | (go_at_call 14; refine (HP1.out _ HAW.out).mono ?_; clear HP1; rintro e x1 ⟨rfl, hb1⟩; have HCX := hid (HCW.out.on hb1); have HWX := hid (HW.out.trans (hb1.mono HW.out.size)); clear hb1)
              | (go_at_call 14; refine (HP2.out _ HCX.out).mono ?_; clear HP2; rintro e x2 ⟨rfl, hb2⟩; have HWY := hid (HWX.out.trans (hb2.mono HWX.out.size)); clear hb2))
            go_ret
            exact ⟨rfl, HWY.out⟩
        · go_wp2_with fail
          go_roundw
          case rel => exact ⟨j + 1, by omega, by go_num, HB⟩
          case measure => simp [intOf]; omega
      · obtain rfl : j = n := by omega
        have hji : ¬ (j : Int) < (j : Int) := by omega
        have HW := hid (HB7.out.trans (HB.out.mono HB7.out.size))
        go_wp2_with fail
        go_ret
        exact ⟨rfl, HW.out⟩
  · have d5 : ((ckE none L : Int) == 0) = false := beq_eq_false_iff_ne.2 (by omega)
    have d7 : ¬ (ckE none L : Int) = 0 := by omega
    have HCT : Hid (∀ (w1 : World) (x : Value), LiesE w1 x L → Calls Try.prog 26 #[x] w1 fun e w' => ∃ (a : Option Addr) (m c : Nat) (a2 : Option Addr) (m2 c2 : Nat), e = .returned (.tuple #[.slice a m c, .slice a2 m2 c2]) ∧ Below w1.heap.size w1 w') := fun w1 x h => (cut_any w1 x L h (by omega)).mono (by
      rintro e w' ⟨i, a, c, a2, c2, _, _, rfl, _, _, _, hb⟩
      exact ⟨a, _, c, a2, _, c2, rfl, hb⟩)
    generalize ckE none L = q at *
    clear hc hsm l1 z1 hn
    go_enter Try.func8, Try.ntmps8
    go_wp2_with (first
      | (go_at_call 9; refine (wakes_any _).mono ?_; rintro e w1 ⟨rfl, hb1⟩; have HB1 := hid hb1; clear hb1)
      | (go_at_call 11; refine (HCP.out _ HB1.out).mono ?_; clear HCP; rintro e w2 ⟨a2, c2, rfl, hr2, hb2⟩; have HI2 := hid (hr2.lies HSM.out); have HB2 := hid (HB1.out.trans (hb2.mono HB1.out.size)); clear hr2 hb2 HB1)
      | (go_at_call 26; refine (HCT.out _ _ HI2.out).mono ?_; clear HCT; rintro e w3 ⟨a3, m3, c3, a4, m4, c4, rfl, hb3⟩; have HB3 := hid (HB2.out.trans (hb3.mono HB2.out.size)); clear hb3 HB2 HI2)
      | (go_at_call 19; refine (HRT.out _ HB3.out).mono ?_; clear HRT; rintro e w5 ⟨rfl, hb5⟩; have HB5 := hid (HB3.out.trans (hb5.mono HB3.out.size)); clear hb5 HB3))
    go_ret
    exact ⟨rfl, HB5.out⟩

theorem leafCuts_own : ownKnob Try.prog.godebug = none := by kernel_rfl
theorem leafCuts_laidOut : laidOutB Try.prog = true := by kernel_rfl

set_option maxRecDepth 100000 in
theorem leafCuts_lifted (os : Os) (started : os.Started) (H : Type) (enc : TypeId × Value → H) :
    ReturnsInHanded {} Try.checked os 8 .any (Rows.leafCutsSpec.pre6 enc Try.prog Try.f8 Rows.leafCutsRow.domain false) (Rows.leafCutsSpec.post enc Try.prog Try.f8 false true false false) := by
  refine returnsInHanded_of_change_sized (C := Try.checked) leafCuts_own started (by kernel_rfl) Try.func8
    (ChangeSpec.witness6 (enc := enc) (C := Try.checked) false ⟨#[], #[.slice none 0 0], []⟩ 8 (by kernel_rfl) (by kernel_rfl) (by kernel_rfl) (by kernel_rfl)) ?_
  intro W base args ds gs before hval0 hW hcnd hsz0 _
  have hsz : (DataW.weightsEach Try.prog (Try.f8.params.toList ++ Rows.leafCutsSpec.plain.varTypes Try.prog) (ds ++ gs)).all (· ≤ reachBytes) = true := hsz0
  have hval : ∀ (j : Nat) t v, Try.f8.params[j]? = some t → args[j]? = some v → Value.okWide Try.prog W .any base t v := hval0
  have hW' := hW
  obtain ⟨p, q, hA0, hV, rfl, hfz, hnd⟩ := hW
  have hA : DataW.TrodAll enc Try.prog W 0 (fun _ => true) true Try.f8.params.toList args.toList ds p := hA0
  rw [Try.params8] at hA hval hsz
  obtain ⟨v0, vs0, d0, ds0, p0, q0, hargs, rfl, rfl, h0, r0⟩ := trodAll_cons hA
  obtain ⟨rfl, rfl, rfl⟩ := trodAll_nil r0
  obtain rfl : args = #[v0] := by cases args; simp_all
  obtain ⟨rfl, rfl⟩ := trodVars_none hV
  have k0 := h0
  have lt0 : ∀ x ∈ p0, x.block < W.heap.size := by obtain ⟨m, hm⟩ := k0; exact DataW.trod_lt m _ _ _ hm
  obtain ⟨L0, l0, z0⟩ := open_entries (hval 0 22 v0 rfl rfl) h0 (fun n hn => by simpa using List.all_eq_true.1 hsz n (DataW.weights_mem_each (j := 0) (t := 22) rfl rfl n hn))
  clear hA0 hval0
  refine (leafCuts_walk v0 L0 W l0 z0).mono fun e W' ⟨he, bel⟩ => ?_
  subst he
  exact ⟨_, rfl, _, _, _, [], _, [], hW', trodAll_mk1 (shut_bool Try.underlying4 _), (trodAll_cons_mk (Below.trod leafCuts_laidOut (by kernel_rfl) (of_decide_eq_true (by kernel_rfl)) k0 bel lt0) trodAll_mk0), rfl, bel.frame _, fun h => by cases h⟩

theorem leafCuts_holds : Rows.LeafCutsSaid :=
  OpenClaim.holds_of_wide 8 Try.f8 rfl rfl rfl rfl rfl rfl rfl ⟨rfl, rfl, rfl, rfl, rfl⟩ rfl rfl rfl rfl rfl (by kernel_rfl) Try.func8 (by kernel_rfl)
    (of_decide_eq_true (by kernel_rfl)) (by unfold Func.isWrapper; first | (rw [if_pos (by decide +kernel)]; kernel_rfl) | (rw [if_neg (by decide +kernel)]; exact ⟨rfl, rfl⟩))
    (fun os started H enc _ => leafCuts_lifted os started H enc)

#print axioms leafCuts_holds

end Go.Proofs.Ytjocbkhjbbpkjaa
