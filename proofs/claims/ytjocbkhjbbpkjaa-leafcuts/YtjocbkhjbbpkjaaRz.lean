/-
  The document's Cut.
-/
import Derived.Test.YtjocbkhjbbpkjaaCt
namespace Go.Proofs.Ytjocbkhjbbpkjaa
open Go.RowKit
set_option linter.unusedVariables false
set_option linter.unusedSimpArgs false
set_option maxRecDepth 100000

theorem szL_is {L : List Ent} (h : ckE none L = 0) (hz : L.length ≤ 4398046511104) (j : Nat) : szL (L.take j) = ((2 + sumE (L.take j) : Nat) : Int) ∧ szL (L.drop j) = ((2 + sumE (L.drop j) : Nat) : Int) := by
  have h1 := sum_lt h hz
  have h2 := sum_split L j
  unfold szL
  exact ⟨wr64_in (by omega), wr64_in (by omega)⟩

set_option maxHeartbeats 2000000 in
theorem rCut_any (w : World) (v : Value) (L : List Ent) (hl : LiesE w v L) (hz : L.length ≤ 4398046511000) (hc : ckE none L = 0) :
    Calls Try.prog 27 #[v] w fun e w' => ∃ k : Nat, e = .returned (.int .i64 (k : Nat)) ∧ cutAt L k ∧ Below w.heap.size w w' := by
  have HSZ : Hid (∀ (w1 : World) (y : Value) (M : List Ent), LiesE w1 y M → Calls Try.prog 14 #[y] w1 fun e w' => e = .returned (.int .i64 (szL M)) ∧ Below w1.heap.size w1 w') := fun w1 y M h => rSize_any w1 y M h
  obtain ⟨a, c, hv⟩ := hl.form
  subst hv
  have HIS := hid (fun j => szL_is hc (by omega) j)
  have HL := hid hl
  have hcap := hl.cap
  have HC := hid (And.intro hcap.2.1 hcap.2.2)
  obtain ⟨m, hm⟩ : ∃ m, L.length = m := ⟨_, rfl⟩
  have HM := hid hm
  rw [hm] at HL hz HC ⊢
  clear hm hl hc hcap
  by_cases h2 : m < 2
  · have hm2 : (m : Int) < 2 := by omega
    go_enter Try.func27, Try.ntmps27
    go_wp2_with fail
    go_ret
    exact ⟨m, rfl, .inl ⟨by rw [HM.out]; exact h2, HM.out.symm⟩, Below.refl _ _⟩
  · have hm2 : ¬ (m : Int) < 2 := by omega
    go_enter Try.func27, Try.ntmps27
    go_wp2_with fail
    go_loopw [3, 4] (fun y i wr => ∃ (j b : Nat), 2 ≤ j ∧ j ≤ m ∧ i = .int .i64 (j : Nat) ∧ y = .int .i64 (b : Nat) ∧ Hid (Best L j b) ∧ Hid (Below w.heap.size w wr)) (fun _ i _ => m - (intOf i).toNat)
    case atStart => exact ⟨2, 1, Nat.le_refl _, by omega, rfl, rfl, Best.one L, Below.refl _ _⟩
    case round =>
      obtain ⟨j, b, h2j, hjm, rfl, rfl, HI, HB⟩ := hrel
      by_cases hlt : j < m
      · have hji : (j : Int) < (m : Int) := by omega
        have hbj : b < j := HI.out.2.1
        have HLW := hid (HL.out.on HB.out)
        have HL1 := hid (HLW.out.hd (i := j) (by omega))
        have HL2 := hid (HLW.out.tl (i := j) (by omega))
        have HL3 := hid (HLW.out.hd (i := b) (by omega))
        have HL4 := hid (HLW.out.tl (i := b) (by omega))
        have hr1 := run_hd a m c j (by have := HC.out.1; omega)
        have hr2 := run_tl a m c j (by omega)
        have hr3 := run_hd a m c b (by have := HC.out.1; omega)
        have hr4 := run_tl a m c b (by omega)
        generalize sA a 0 c = a1 at *
        generalize sA a j c = a2 at *
        generalize sA a b c = a4 at *
        generalize m - j = m2 at *
        generalize c - j = c2 at *
        generalize m - b = m4 at *
        generalize c - b = c4 at *
        have HG : Hid (max (szL (L.take j)) (szL (L.drop j)) = ((gre L j : Nat) : Int) ∧ max (szL (L.take b)) (szL (L.drop b)) = ((gre L b : Nat) : Int)) := by
          show _ ∧ _
          rw [(HIS.out j).1, (HIS.out j).2, (HIS.out b).1, (HIS.out b).2]
          unfold gre
          omega
        obtain ⟨z1, hz1⟩ : ∃ z1, szL (L.take j) = z1 := ⟨_, rfl⟩
        obtain ⟨z2, hz2⟩ : ∃ z2, szL (L.drop j) = z2 := ⟨_, rfl⟩
        obtain ⟨z3, hz3⟩ : ∃ z3, szL (L.take b) = z3 := ⟨_, rfl⟩
        obtain ⟨z4, hz4⟩ : ∃ z4, szL (L.drop b) = z4 := ⟨_, rfl⟩
        rw [hz1, hz2, hz3, hz4] at HG
        have HZ1 := hid hz1
        have HZ2 := hid hz2
        have HZ3 := hid hz3
        have HZ4 := hid hz4
        clear hz1 hz2 hz3 hz4 HLW
        go_wp2_with fail
        refine wp_region_d (fun _ => True) (fun _ => true) (by kernel_rfl) ?_
        have hd : Below wr.heap.size wr wr.drew := (Below.refl _ wr).drew
        have HL1 := hid (HL1.out.on hd)
        have HL2 := hid (HL2.out.on hd)
        have HL3 := hid (HL3.out.on hd)
        have HL4 := hid (HL4.out.on hd)
        have HB := hid (HB.out.trans (hd.mono HB.out.size))
        clear hd
        generalize wr.drew = wd at *
        refine wpAnyM_pick (i := 0) (some 16) (v := ?vz1) rfl rfl (by kernel_rfl) (by kernel_rfl) (by kernel_rfl) (by kernel_rfl) (fun _ _ _ h => h) (Or.inl ⟨by rfl, ?hz1⟩) trivial ?rz1
        case hz1 => intro w hSw; (try have hs1 := hSw.1); (try have hs2 := hSw.2); go_simp; try with_reducible rfl
        try simp only [Act.put, List.setIfInBounds_toArray, List.set_cons_zero, List.set_cons_succ]
        refine wpAnyM_pick (i := 1) (some 17) (v := ?vz2) rfl rfl (by kernel_rfl) (by kernel_rfl) (by kernel_rfl) (by kernel_rfl) (fun _ _ _ h => h) (Or.inl ⟨by rfl, ?hz2⟩) trivial ?rz2
        case hz2 => intro w hSw; (try have hs1 := hSw.1); (try have hs2 := hSw.2); go_simp; try with_reducible rfl
        try simp only [Act.put, List.setIfInBounds_toArray, List.set_cons_zero, List.set_cons_succ]
        refine wpAnyM_pick (i := 2) (some 18) (v := ?vz3) rfl rfl (by kernel_rfl) (by kernel_rfl) (by kernel_rfl) (by kernel_rfl) (fun _ _ _ h => h) (Or.inl ⟨by rfl, ?hz3⟩) trivial ?rz3
        case hz3 => intro w hSw; (try have hs1 := hSw.1); (try have hs2 := hSw.2); go_simp; try with_reducible rfl
        try simp only [Act.put, List.setIfInBounds_toArray, List.set_cons_zero, List.set_cons_succ]
        refine wpAnyM_pick (i := 4) (some 20) (v := ?vz4) rfl rfl (by kernel_rfl) (by kernel_rfl) (by kernel_rfl) (by kernel_rfl) (fun _ _ _ h => h) (Or.inl ⟨by rfl, ?hz4⟩) trivial ?rz4
        case hz4 => intro w hSw; (try have hs1 := hSw.1); (try have hs2 := hSw.2); go_simp; try with_reducible rfl
        try simp only [Act.put, List.setIfInBounds_toArray, List.set_cons_zero, List.set_cons_succ]
        refine wpAnyM_pick (i := 5) (some 21) (v := ?vz5) rfl rfl (by kernel_rfl) (by kernel_rfl) (by kernel_rfl) (by kernel_rfl) (fun _ _ _ h => h) (Or.inl ⟨by rfl, ?hz5⟩) trivial ?rz5
        case hz5 => intro w hSw; (try have hs1 := hSw.1); (try have hs2 := hSw.2); go_simp; try with_reducible rfl
        try simp only [Act.put, List.setIfInBounds_toArray, List.set_cons_zero, List.set_cons_succ]
        refine wpAnyM_pick (i := 6) (some 22) (v := ?vz6) rfl rfl (by kernel_rfl) (by kernel_rfl) (by kernel_rfl) (by kernel_rfl) (fun _ _ _ h => h) (Or.inl ⟨by rfl, ?hz6⟩) trivial ?rz6
        case hz6 => intro w hSw; (try have hs1 := hSw.1); (try have hs2 := hSw.2); go_simp; try with_reducible rfl
        try simp only [Act.put, List.setIfInBounds_toArray, List.set_cons_zero, List.set_cons_succ]
        refine wpAnyM_pick (i := 9) (some 25) (v := ?vz7) rfl rfl (by kernel_rfl) (by kernel_rfl) (by kernel_rfl) (by kernel_rfl) (fun _ _ _ h => h) (Or.inl ⟨by rfl, ?hz7⟩) trivial ?rz7
        case hz7 => intro w hSw; (try have hs1 := hSw.1); (try have hs2 := hSw.2); go_simp; try with_reducible rfl
        try simp only [Act.put, List.setIfInBounds_toArray, List.set_cons_zero, List.set_cons_succ]
        refine wpAnyM_pick (i := 10) (some 26) (v := ?vz8) rfl rfl (by kernel_rfl) (by kernel_rfl) (by kernel_rfl) (by kernel_rfl) (fun _ _ _ h => h) (Or.inl ⟨by rfl, ?hz8⟩) trivial ?rz8
        case hz8 => intro w hSw; (try have hs1 := hSw.1); (try have hs2 := hSw.2); go_simp; try with_reducible rfl
        try simp only [Act.put, List.setIfInBounds_toArray, List.set_cons_zero, List.set_cons_succ]
        refine wpAnyM_pick (i := 11) (some 27) (v := ?vz9) rfl rfl (by kernel_rfl) (by kernel_rfl) (by kernel_rfl) (by kernel_rfl) (fun _ _ _ h => h) (Or.inl ⟨by rfl, ?hz9⟩) trivial ?rz9
        case hz9 => intro w hSw; (try have hs1 := hSw.1); (try have hs2 := hSw.2); go_simp; try with_reducible rfl
        try simp only [Act.put, List.setIfInBounds_toArray, List.set_cons_zero, List.set_cons_succ]
        refine wpAnyM_pick (i := 13) (some 29) (v := ?vz10) rfl rfl (by kernel_rfl) (by kernel_rfl) (by kernel_rfl) (by kernel_rfl) (fun _ _ _ h => h) (Or.inl ⟨by rfl, ?hz10⟩) trivial ?rz10
        case hz10 => intro w hSw; (try have hs1 := hSw.1); (try have hs2 := hSw.2); go_simp; try with_reducible rfl
        try simp only [Act.put, List.setIfInBounds_toArray, List.set_cons_zero, List.set_cons_succ]
        refine wpAnyM_pick (i := 14) (some 30) (v := ?vz11) rfl rfl (by kernel_rfl) (by kernel_rfl) (by kernel_rfl) (by kernel_rfl) (fun _ _ _ h => h) (Or.inl ⟨by rfl, ?hz11⟩) trivial ?rz11
        case hz11 => intro w hSw; (try have hs1 := hSw.1); (try have hs2 := hSw.2); go_simp; try with_reducible rfl
        try simp only [Act.put, List.setIfInBounds_toArray, List.set_cons_zero, List.set_cons_succ]
        refine wpAnyM_pick (i := 15) (some 31) (v := ?vz12) rfl rfl (by kernel_rfl) (by kernel_rfl) (by kernel_rfl) (by kernel_rfl) (fun _ _ _ h => h) (Or.inl ⟨by rfl, ?hz12⟩) trivial ?rz12
        case hz12 => intro w hSw; (try have hs1 := hSw.1); (try have hs2 := hSw.2); go_simp; try with_reducible rfl
        try simp only [Act.put, List.setIfInBounds_toArray, List.set_cons_zero, List.set_cons_succ]
        clear hr1 hr2 hr3 hr4
        refine wpAnyM_one (i := 3) (by kernel_rfl) rfl (fun K hK => ?_)
        go_simp
        go_at_call 14
        refine (HSZ.out wd _ _ HL1.out).mono ?_
        rintro e y0 ⟨rfl, hb0⟩
        have HL2 := hid (HL2.out.on hb0)
        have HL3 := hid (HL3.out.on hb0)
        have HL4 := hid (HL4.out.on hb0)
        have HB := hid (HB.out.trans (hb0.mono HB.out.size))
        clear hb0
        rw [HZ1.out]
        go_wp2_with fail
        refine hK.out _ _ (fun _ => trivial) ?_
        clear hK K
        try simp only [Act.put, List.setIfInBounds_toArray, List.set_cons_zero, List.set_cons_succ]
        refine wpAnyM_one (i := 7) (by kernel_rfl) rfl (fun K hK => ?_)
        go_simp
        go_at_call 14
        refine (HSZ.out y0 _ _ HL2.out).mono ?_
        rintro e y1 ⟨rfl, hb1⟩
        have HL3 := hid (HL3.out.on hb1)
        have HL4 := hid (HL4.out.on hb1)
        have HB := hid (HB.out.trans (hb1.mono HB.out.size))
        clear hb1
        rw [HZ2.out]
        go_wp2_with fail
        refine hK.out _ _ (fun _ => trivial) ?_
        clear hK K
        try simp only [Act.put, List.setIfInBounds_toArray, List.set_cons_zero, List.set_cons_succ]
        refine wpAnyM_pick (i := 8) (some 24) (v := ?vz13) rfl rfl (by kernel_rfl) (by kernel_rfl) (by kernel_rfl) (by kernel_rfl) (fun _ _ _ h => h) (Or.inl ⟨by rfl, ?hz13⟩) trivial ?rz13
        case hz13 => intro w hSw; (try have hs1 := hSw.1); (try have hs2 := hSw.2); go_simp; try with_reducible rfl
        try simp only [Act.put, List.setIfInBounds_toArray, List.set_cons_zero, List.set_cons_succ]
        refine wpAnyM_one (i := 12) (by kernel_rfl) rfl (fun K hK => ?_)
        go_simp
        go_at_call 14
        refine (HSZ.out y1 _ _ HL3.out).mono ?_
        rintro e y2 ⟨rfl, hb2⟩
        have HL4 := hid (HL4.out.on hb2)
        have HB := hid (HB.out.trans (hb2.mono HB.out.size))
        clear hb2
        rw [HZ3.out]
        go_wp2_with fail
        refine hK.out _ _ (fun _ => trivial) ?_
        clear hK K
        try simp only [Act.put, List.setIfInBounds_toArray, List.set_cons_zero, List.set_cons_succ]
        refine wpAnyM_one (i := 16) (by kernel_rfl) rfl (fun K hK => ?_)
        go_simp
        go_at_call 14
        refine (HSZ.out y2 _ _ HL4.out).mono ?_
        rintro e y3 ⟨rfl, hb3⟩
        have HB := hid (HB.out.trans (hb3.mono HB.out.size))
        clear hb3
        rw [HZ4.out]
        go_wp2_with fail
        refine hK.out _ _ (fun _ => trivial) ?_
        clear hK K
        try simp only [Act.put, List.setIfInBounds_toArray, List.set_cons_zero, List.set_cons_succ]
        obtain ⟨hg1, hg2⟩ := HG.out
        rw [hg1]
        refine wpAnyM_pick (i := 17) (some 33) (v := ?vz14) rfl rfl (by kernel_rfl) (by kernel_rfl) (by kernel_rfl) (by kernel_rfl) (fun _ _ _ h => h) (Or.inl ⟨by rfl, ?hz14⟩) trivial ?rz14
        case hz14 => intro w hSw; (try have hs1 := hSw.1); (try have hs2 := hSw.2); go_simp; try with_reducible rfl
        try simp only [Act.put, List.setIfInBounds_toArray, List.set_cons_zero, List.set_cons_succ]
        refine wpAnyM_pick (i := 18) (some 34) (v := ?vz15) rfl rfl (by kernel_rfl) (by kernel_rfl) (by kernel_rfl) (by kernel_rfl) (fun _ _ _ h => h) (Or.inl ⟨by rfl, ?hz15⟩) trivial ?rz15
        case hz15 => intro w hSw; (try have hs1 := hSw.1); (try have hs2 := hSw.2); go_simp; try with_reducible rfl
        try simp only [Act.put, List.setIfInBounds_toArray, List.set_cons_zero, List.set_cons_succ]
        refine wpAnyM_done (by kernel_rfl) ?_ _
        try simp only [Act.put, List.setIfInBounds_toArray, List.set_cons_zero, List.set_cons_succ]
        by_cases hls : gre L j < gre L b
        · have HI2 := hid (HI.out.yes (by omega) hls)
          have hli : ((gre L j : Nat) : Int) < ((gre L b : Nat) : Int) := by omega
          generalize gre L j = g1 at *
          generalize gre L b = g2 at *
          go_wp2_with fail
          go_roundw
          case rel => exact ⟨j + 1, j, by omega, by omega, by go_num, rfl, HI2, HB⟩
          case measure => simp [intOf]; omega
        · have HI2 := hid (HI.out.no hls)
          have hli : ¬ ((gre L j : Nat) : Int) < ((gre L b : Nat) : Int) := by omega
          generalize gre L j = g1 at *
          generalize gre L b = g2 at *
          go_wp2_with fail
          go_roundw
          case rel => exact ⟨j + 1, b, by omega, by omega, by go_num, rfl, HI2, HB⟩
          case measure => simp [intOf]; omega
      · obtain rfl : j = m := by omega
        have hji : ¬ (j : Int) < (j : Int) := by omega
        go_wp2_with fail
        go_ret
        exact ⟨b, rfl, .inr ⟨by rw [HM.out]; exact h2j, by rw [HM.out]; exact HI.out⟩, HB.out⟩
end Go.Proofs.Ytjocbkhjbbpkjaa

