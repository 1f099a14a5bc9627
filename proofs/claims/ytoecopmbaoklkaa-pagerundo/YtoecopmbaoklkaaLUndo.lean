/-
  What is undone was never there, and what was written before is; no condition.
-/
import Derived.Test.YtoecopmbaoklkaaRows
import Derived.Test.YtoecopmbaoklkaaKd
import Derived.ProofKit
import Derived.OpenShut
import Derived.ShutString
import Derived.ChangeOld
import Derived.Below
import Derived.SizedLaws
import Derived.Lib.SmallJoins
namespace Go.Proofs.Ytoecopmbaoklkaa
open Go.ChangeShapes Go.WideShapes Go.ChangeAt Go.RowKit Go.Joins
open Go.ChangeMaps (open_string shut_string)
set_option linter.unusedVariables false
set_option linter.unusedSimpArgs false
set_option maxRecDepth 100000

theorem vs_st_px {w w1 : World} {k q : Nat} {p : Pp} {v : Value} {L : List ByteArray} (h : Px w w1 k q p v L) (hv : VS p 0) (a : Int) (ha : I64 a) (s : ByteArray) (hs : s.size = 256) : Calls Try.prog 13 #[.pointer (some ⟨q, 0, none⟩), .int .i64 a, .string s] w1 fun e w' => (∃ x : Int, e = .returned (.int .i64 x)) ∧ Px w w' k q (p.st a s) v L :=
  (store_px 0 a ha s (by rw [hs]; decide) hv.ok h).mono fun e w' hh => ⟨⟨_, hh.1⟩, hh.2⟩
set_option maxHeartbeats 8000000 in
theorem pagerUndo_walk (v0 : Value) (A : List Ac) (v1 : Value) (B : List Ac) (w : World) (hl0 : LiesA w v0 A) (hz0 : A.length * 32 ≤ 140737488351232) (hl1 : LiesA w v1 B) (hz1 : B.length * 32 ≤ 140737488351232) :
    Calls Try.prog 5 #[v0, v1] w fun e w' => e = .returned (.bool true) ∧ Below w.heap.size w w' := by
  obtain ⟨va, vc, e1⟩ := hl0.form
  subst e1
  obtain ⟨ua, uc, e1⟩ := hl1.form
  subst e1
  have HL0 := hid hl0
  have HL1 := hid hl1
  obtain ⟨n, hn⟩ : ∃ n, A.length = n := ⟨_, rfl⟩
  obtain ⟨m, hm⟩ : ∃ m, B.length = m := ⟨_, rfl⟩
  have HN := hid hn
  have HM := hid hm
  rw [hn] at hz0 HL0 ⊢
  rw [hm] at hz1 HL1 ⊢
  have hnn : n ≤ 4398046510976 := by omega
  have hmm : m ≤ 4398046510976 := by omega
  clear hl0 hl1 hn hm hz0 hz1
  have hwk := wakes_any w
  have HNEW : Hid (∀ w1, Below w.heap.size w w1 → Calls Try.prog 8 #[.int .i64 70] w1 fun e w' => ∃ k, e = .returned (.tuple #[.pointer (some ⟨k, 0, none⟩), .int .i64 0]) ∧ Dz w w' k (nw 70)) := fun w1 hb => new_dz 70 (by decide) (by decide) w w1 hb
  have HPN : Hid (∀ w1 k, Dz w w1 k (nw 70) → Calls Try.prog 9 #[.pointer (some ⟨k, 0, none⟩), .int .i64 4] w1 fun e w' => ∃ q, e = .returned (.tuple #[.pointer (some ⟨q, 0, none⟩), .int .i64 0]) ∧ Px w w' k q (pw (nw 70) 4) (.slice none 0 0) []) := fun w1 k h => pnew_dz 4 (by decide) h
  have HV0 : Hid (VS (pw (nw 70) 4) 0 ∧ (pw (nw 70) 4).d = nw 70) := ⟨nw_vs (by decide) (by decide) (by decide), rfl⟩
  generalize pw (nw 70) 4 = p0 at *
  have HCA : Hid (∀ (w1 : World) (j : Nat) (x : Ac), Below w.heap.size w w1 → A[j]? = some x → ∃ b off, va = some ⟨b, off, none⟩ ∧ b < w.heap.size ∧ (w1.cell? ⟨b, off + j * 3 + 1, none⟩ = some (.int .i64 x.pl) ∧ w1.cell? ⟨b, off + j * 3 + 2, none⟩ = some (.string x.tx)) ∧ x.tx.size ≤ maxLen) := fun w1 j x hb hj => by
    obtain ⟨b, off, h1, h2, _, h4, h5, _, h7⟩ := HL0.out.at hj
    exact ⟨b, off, h1, h2, ⟨(hb.cell (p := ⟨b, off + j * 3 + 1, none⟩) h2).trans h4, (hb.cell (p := ⟨b, off + j * 3 + 2, none⟩) h2).trans h5⟩, h7⟩
  have HCB : Hid (∀ (w1 : World) (j : Nat) (x : Ac), Below w.heap.size w w1 → B[j]? = some x → ∃ b off, ua = some ⟨b, off, none⟩ ∧ b < w.heap.size ∧ (w1.cell? ⟨b, off + j * 3 + 1, none⟩ = some (.int .i64 x.pl) ∧ w1.cell? ⟨b, off + j * 3 + 2, none⟩ = some (.string x.tx)) ∧ x.tx.size ≤ maxLen) := fun w1 j x hb hj => by
    obtain ⟨b, off, h1, h2, _, h4, h5, _, h7⟩ := HL1.out.at hj
    exact ⟨b, off, h1, h2, ⟨(hb.cell (p := ⟨b, off + j * 3 + 1, none⟩) h2).trans h4, (hb.cell (p := ⟨b, off + j * 3 + 2, none⟩) h2).trans h5⟩, h7⟩
  clear HL0 HL1
  by_cases hnm : n + m ≤ 1000
  case neg =>
    have hn2 : (1000 : Int) < (n : Int) + (m : Int) := by omega
    clear HCA HCB
    go_enter Try.func5, Try.ntmps5
    go_wp2_with (first
      | (go_at_call 7; refine hwk.mono ?_; clear hwk; rintro e w1 ⟨rfl, hb1⟩; have HB1 := hid hb1; clear hb1)
      | (go_at_call 8; refine (HNEW.out _ HB1.out).mono ?_; clear HNEW; rintro e w2 ⟨k, rfl, hd2⟩; have HD2 := hid hd2; clear hd2)
      | (go_at_call 9; refine (HPN.out _ _ HD2.out).mono ?_; clear HPN; rintro e w3 ⟨q, rfl, hp3⟩; have HP3 := hid hp3; clear hp3))
    go_ret
    exact ⟨rfl, HP3.out.below⟩
  have hn2 : ¬ (1000 : Int) < (n : Int) + (m : Int) := by omega
  go_enter Try.func5, Try.ntmps5
  go_wp2_with (first
    | (go_at_call 7; refine hwk.mono ?_; clear hwk; rintro e w1 ⟨rfl, hb1⟩; have HB1 := hid hb1; clear hb1)
    | (go_at_call 8; refine (HNEW.out _ HB1.out).mono ?_; clear HNEW; rintro e w2 ⟨k, rfl, hd2⟩; have HD2 := hid hd2; clear hd2)
    | (go_at_call 9; refine (HPN.out _ _ HD2.out).mono ?_; clear HPN; rintro e w3 ⟨q, rfl, hp3⟩; have HP3 := hid hp3; clear hp3))
  go_loopw [42] (fun i wr => ∃ (j : Nat) (p : Pp), j ≤ n ∧ i = .int .i64 (j : Nat) ∧ Hid (VS p 0 ∧ p.d = nw 70) ∧ Hid (Px w wr k q p (.slice none 0 0) [])) (fun i _ => n - (intOf i).toNat)
  case atStart => exact ⟨0, p0, Nat.zero_le _, rfl, HV0, HP3⟩
  case round =>
    obtain ⟨j, p, hj, rfl, HS, HX⟩ := hrel
    clear HP3
    by_cases hjn : j < n
    · have hji : (j : Int) < (n : Int) := by omega
      obtain ⟨x, hx⟩ : ∃ x, A[j]? = some x := ⟨_, List.getElem?_eq_getElem (by rw [HN.out]; exact hjn)⟩
      have HBd := hid (HX.out.below.drew)
      obtain ⟨b, off, e1, hbl, HS0, htx⟩ := HCA.out wr.drew j x HBd.out hx
      subst e1
      obtain ⟨kx, hkx⟩ : ∃ kx, kd x.pl 30 = kx := ⟨_, rfl⟩
      have hk1 : 0 ≤ kx := by rw [← hkx]; exact kd_lo _ (by decide)
      have hk2 : kx < 30 := by rw [← hkx]; exact kd_hi _ (by decide)
      have hw37 : IntKind.i64.wrap (37 + kx) = 37 + kx := IntWalk.i64_in _ ⟨by omega, by omega⟩
      have HKD : Hid (∀ w1, Calls Try.prog 10 #[.int .i64 x.pl, .int .i64 30] w1 fun e w' => e = .returned (.int .i64 kx) ∧ w1 = w') := fun w1 => by rw [← hkx]; exact kind_any x.pl 30 (by decide) w1
      have HBL : Hid (∀ w1, Calls Try.prog 14 #[.string x.tx] w1 fun e w' => e = .returned (.string (blk x.tx)) ∧ Below w1.heap.size w1 w') := fun w1 => lBlock_any x.tx htx w1
      have HST : Hid (∀ w1, Px w w1 k q p (.slice none 0 0) [] → Calls Try.prog 13 #[.pointer (some ⟨q, 0, none⟩), .int .i64 (37 + kx), .string (blk x.tx)] w1 fun e w' => (∃ y : Int, e = .returned (.int .i64 y)) ∧ Px w w' k q (p.st (37 + kx) (blk x.tx)) (.slice none 0 0) []) := fun w1 h => vs_st_px h HS.out.1 _ (by unfold I64; omega) _ (blk_size _)
      have HKS : Hid (∀ w1, Below w.heap.size w w1 → w1.cell? ⟨b, off + j * 3 + 1, none⟩ = some (.int .i64 x.pl) ∧ w1.cell? ⟨b, off + j * 3 + 2, none⟩ = some (.string x.tx)) := fun w1 hb => by
        obtain ⟨b', off', e9, _, h9, _⟩ := HCA.out w1 j x hb hx
        cases e9
        exact h9
      have hbsz := blk_size x.tx
      obtain ⟨bs, hbs⟩ : ∃ bs, blk x.tx = bs := ⟨_, rfl⟩
      rw [hbs] at HBL HST hbsz
      have HV1 : Hid (VS (p.st (37 + kx) bs) 0 ∧ (p.st (37 + kx) bs).d = nw 70) := ⟨HS.out.1.st _ _, by rw [Pp.st_d]; exact HS.out.2⟩
      clear hkx hbl htx HS hbs hbsz
      go_wp2_with fail
      refine wp_region_d (fun w' => w'.cell? ⟨b, off + j * 3 + 1, none⟩ = some (.int .i64 x.pl) ∧ w'.cell? ⟨b, off + j * 3 + 2, none⟩ = some (.string x.tx)) (fun _ => true) (by kernel_rfl) ?_
      refine wpAnyM_pick (i := 0) (some 45) (v := ?vz1) rfl rfl (by kernel_rfl) (by kernel_rfl) (by kernel_rfl) (by kernel_rfl) (fun _ _ _ h => h) (Or.inl ⟨by rfl, ?hz1⟩) HS0 ?rz1
      case hz1 => intro w hSw; go_simp; try with_reducible rfl
      try simp only [Act.put, List.setIfInBounds_toArray, List.set_cons_zero, List.set_cons_succ]
      refine wpAnyM_pick (i := 1) (some 46) (v := ?vz2) rfl rfl (by kernel_rfl) (by kernel_rfl) (by kernel_rfl) (by kernel_rfl) (fun _ _ _ h => h) (Or.inl ⟨by rfl, ?hz2⟩) HS0 ?rz2
      case hz2 => intro w hSw; go_simp; try with_reducible rfl
      try simp only [Act.put, List.setIfInBounds_toArray, List.set_cons_zero, List.set_cons_succ]
      refine wpAnyM_pick (i := 2) (some 47) (v := ?vz3) rfl rfl (by kernel_rfl) (by kernel_rfl) (by kernel_rfl) (by kernel_rfl) (fun _ _ _ h => h) (Or.inl ⟨by rfl, ?hz3⟩) HS0 ?rz3
      case hz3 => intro w hSw; go_simp; try with_reducible rfl
      try simp only [Act.put, List.setIfInBounds_toArray, List.set_cons_zero, List.set_cons_succ]
      refine wpAnyM_pick (i := 3) (some 48) (v := ?vz4) rfl rfl (by kernel_rfl) (by kernel_rfl) (by kernel_rfl) (by kernel_rfl) (fun _ _ _ h => h) (Or.inl ⟨by rfl, ?hz4⟩) HS0 ?rz4
      case hz4 => intro w hSw; go_simp; try with_reducible rfl
      try simp only [Act.put, List.setIfInBounds_toArray, List.set_cons_zero, List.set_cons_succ]
      refine wpAnyM_pick (i := 4) (some 49) (v := ?vz5) rfl rfl (by kernel_rfl) (by kernel_rfl) (by kernel_rfl) (by kernel_rfl) (fun _ _ _ h => h) (Or.inl ⟨by rfl, ?hz5⟩) HS0 ?rz5
      case hz5 => intro w hSw; go_simp; try with_reducible rfl
      try simp only [Act.put, List.setIfInBounds_toArray, List.set_cons_zero, List.set_cons_succ]
      refine wpAnyM_pick (i := 5) (some 50) (v := ?vz6) rfl rfl (by kernel_rfl) (by kernel_rfl) (by kernel_rfl) (by kernel_rfl) (fun _ _ _ h => h) (Or.inl ⟨by rfl, ?hz6⟩) HS0 ?rz6
      case hz6 => intro w hSw; go_simp; try with_reducible rfl
      try simp only [Act.put, List.setIfInBounds_toArray, List.set_cons_zero, List.set_cons_succ]
      refine wpAnyM_pick (i := 8) (some 53) (v := ?vz7) rfl rfl (by kernel_rfl) (by kernel_rfl) (by kernel_rfl) (by kernel_rfl) (fun _ _ _ h => h) (Or.inl ⟨by rfl, ?hz7⟩) HS0 ?rz7
      case hz7 => intro w hSw; go_simp; try with_reducible rfl
      try simp only [Act.put, List.setIfInBounds_toArray, List.set_cons_zero, List.set_cons_succ]
      refine wpAnyM_pick (i := 9) (some 54) (v := ?vz8) rfl rfl (by kernel_rfl) (by kernel_rfl) (by kernel_rfl) (by kernel_rfl) (fun _ _ _ h => h) (Or.inl ⟨by rfl, ?hz8⟩) HS0 ?rz8
      case hz8 => intro w hSw; go_simp; try with_reducible rfl
      try simp only [Act.put, List.setIfInBounds_toArray, List.set_cons_zero, List.set_cons_succ]
      refine wpAnyM_pick (i := 10) (some 55) (v := ?vz9) rfl rfl (by kernel_rfl) (by kernel_rfl) (by kernel_rfl) (by kernel_rfl) (fun _ _ _ h => h) (Or.inl ⟨by rfl, ?hz9⟩) HS0 ?rz9
      case hz9 => intro w hSw; go_simp; try with_reducible rfl
      try simp only [Act.put, List.setIfInBounds_toArray, List.set_cons_zero, List.set_cons_succ]
      refine wpAnyM_pick (i := 11) (some 56) (v := ?vz10) rfl rfl (by kernel_rfl) (by kernel_rfl) (by kernel_rfl) (by kernel_rfl) (fun _ _ _ h => h) (Or.inl ⟨by rfl, ?hz10⟩) HS0 ?rz10
      case hz10 => intro w hSw; go_simp; try with_reducible rfl
      try simp only [Act.put, List.setIfInBounds_toArray, List.set_cons_zero, List.set_cons_succ]
      refine wpAnyM_pick (i := 12) (some 57) (v := ?vz11) rfl rfl (by kernel_rfl) (by kernel_rfl) (by kernel_rfl) (by kernel_rfl) (fun _ _ _ h => h) (Or.inl ⟨by rfl, ?hz11⟩) HS0 ?rz11
      case hz11 => intro w hSw; go_simp; try with_reducible rfl
      try simp only [Act.put, List.setIfInBounds_toArray, List.set_cons_zero, List.set_cons_succ]
      refine wpAnyM_one (i := 6) (by kernel_rfl) rfl (fun K hK => ?_)
      go_simp
      go_at_call 10
      refine (HKD.out _).mono ?_
      clear HKD
      rintro e waa ⟨rfl, rfl⟩
      try go_simp
      refine hK.out _ _ (fun _ => HS0) ?_
      clear hK K
      try simp only [Act.put, List.setIfInBounds_toArray, List.set_cons_zero, List.set_cons_succ]
      refine wpAnyM_pick (i := 7) (some 52) (v := ?vz12) rfl rfl (by kernel_rfl) (by kernel_rfl) (by kernel_rfl) (by kernel_rfl) (fun _ _ _ h => h) (Or.inl ⟨by rfl, ?hz12⟩) HS0 ?rz12
      case hz12 => intro w hSw; go_simp; try with_reducible rfl
      try simp only [Act.put, List.setIfInBounds_toArray, List.set_cons_zero, List.set_cons_succ]
      refine wpAnyM_one (i := 13) (by kernel_rfl) rfl (fun K hK => ?_)
      go_simp
      go_at_call 14
      refine (HBL.out _).mono ?_
      clear HBL
      rintro e wab ⟨rfl, hb6⟩
      have HX6b := hid ((HX.out.on ((Below.refl _ wr).drew)).on hb6)
      have HS1 := HKS.out wab HX6b.out.below
      clear hb6 HS0
      try go_simp
      refine hK.out _ _ (fun _ => HS1) ?_
      clear hK K
      try simp only [Act.put, List.setIfInBounds_toArray, List.set_cons_zero, List.set_cons_succ]
      refine wpAnyM_one (i := 14) (by kernel_rfl) rfl (fun K hK => ?_)
      go_simp
      go_at_call 13
      refine (HST.out _ HX6b.out).mono ?_
      clear HST
      rintro e wac ⟨⟨rx, rfl⟩, hx7⟩
      have HX7b := hid hx7
      have HS2 := HKS.out wac hx7.below
      clear hx7 HS1
      try go_simp
      refine hK.out _ _ (fun _ => HS2) ?_
      clear hK K
      try simp only [Act.put, List.setIfInBounds_toArray, List.set_cons_zero, List.set_cons_succ]
      refine wpAnyM_done (by kernel_rfl) ?_ _
      try simp only [Act.put, List.setIfInBounds_toArray, List.set_cons_zero, List.set_cons_succ]
      clear HS2 HKS
      go_wp2_with fail
      go_roundw
      case rel => exact ⟨j + 1, p.st (37 + kx) bs, by omega, by go_num, HV1, HX7b⟩
      case measure => simp [intOf]; omega
    · obtain rfl : j = n := by omega
      clear HCA
      obtain ⟨hv1, hv2⟩ := HS.out
      obtain ⟨m1, m2, m3, m4, m5, _⟩ := hv1.cm
      have HCO := commit_px 0 hv1.ok (by rw [hv2]; show Fit (0 + 5000); unfold Fit; decide) HX.out
      rw [m1] at HCO
      have hlg := cm_lg p
      have hfew := hv1.ok.few
      rw [hv2] at hlg
      have hlg2 : p.cm.d.lg.length ≤ 2100 := by
        have : lb p.ch.length ≤ 10 := by unfold lb; omega
        have h0 : (nw 70).lg.length = 0 := rfl
        omega
      have hb70 : p.cm.d.bs.length = 70 := by rw [m5, hv2]; exact nw_len 70
      have HV1 := hid m2
      clear hv1 hv2 m1 m2 m3 m4 m5 hlg hfew HS
      generalize p.cm = p1 at *
      obtain ⟨d1, hd1⟩ : ∃ d1, p1.d = d1 := ⟨_, rfl⟩
      have HD1 := hid hd1
      rw [hd1] at hlg2 hb70
      have HIM : Hid (∀ (p : Pp) (v : Value) (L : List ByteArray) (w1 : World), p.d = d1 → Px w w1 k q p v L → Calls Try.prog 12 #[.pointer (some ⟨k, 0, none⟩)] w1 fun e w' => ∃ v', e = .returned v' ∧ RowS w' w1.heap.size v' d1.bs ∧ Below w1.heap.size w1 w') := fun p v L w1 hd h => by
        have := image_px h
        rw [hd] at this
        exact this
      have HB70 := hid hb70
      clear hd1 hb70
      go_wp2_with (first
        | (go_at_call 17; refine HCO.mono ?_; clear HCO; rintro e w5 ⟨rfl, hx5⟩; have HX5 := hid hx5; clear hx5)
        | (go_at_call 12; refine (HIM.out _ _ _ _ HD1.out HX5.out).mono ?_; rintro e w6 ⟨v6, rfl, hr6, hb6⟩; have HX6 := hid (HX5.out.take hb6 hr6); obtain ⟨g6, c6, e6, _, _, _, _⟩ := own_some hr6 (by rw [HB70.out]; decide); subst e6; rw [HB70.out]; rw [HB70.out] at HX6; clear hr6 hb6))
      clear HX5 HX
      go_loopw [68] (fun i wr => ∃ (j : Nat) (p : Pp), j ≤ m ∧ i = .int .i64 (j : Nat) ∧ Hid (VS p 0 ∧ p.d = d1) ∧ Hid (Px w wr k q p (.slice (some ⟨g6, 0, none⟩) 70 c6) d1.bs)) (fun i _ => m - (intOf i).toNat)
      case atStart => exact ⟨0, p1, Nat.zero_le _, rfl, ⟨HV1.out, HD1.out⟩, HX6⟩
      case round =>
        obtain ⟨j, p, hj, rfl, HS, HX⟩ := hrel
        clear HX6
        by_cases hjn : j < m
        · have hji : (j : Int) < (m : Int) := by omega
          obtain ⟨x, hx⟩ : ∃ x, B[j]? = some x := ⟨_, List.getElem?_eq_getElem (by rw [HM.out]; exact hjn)⟩
          have HBd := hid (HX.out.below.drew)
          obtain ⟨b, off, e1, hbl, HS0, htx⟩ := HCB.out wr.drew j x HBd.out hx
          subst e1
          obtain ⟨kx, hkx⟩ : ∃ kx, kd x.pl 30 = kx := ⟨_, rfl⟩
          have hk1 : 0 ≤ kx := by rw [← hkx]; exact kd_lo _ (by decide)
          have hk2 : kx < 30 := by rw [← hkx]; exact kd_hi _ (by decide)
          have hw37 : IntKind.i64.wrap (37 + kx) = 37 + kx := IntWalk.i64_in _ ⟨by omega, by omega⟩
          have HKD : Hid (∀ w1, Calls Try.prog 10 #[.int .i64 x.pl, .int .i64 30] w1 fun e w' => e = .returned (.int .i64 kx) ∧ w1 = w') := fun w1 => by rw [← hkx]; exact kind_any x.pl 30 (by decide) w1
          have HBL : Hid (∀ w1, Calls Try.prog 14 #[.string x.tx] w1 fun e w' => e = .returned (.string (blk x.tx)) ∧ Below w1.heap.size w1 w') := fun w1 => lBlock_any x.tx htx w1
          have HST : Hid (∀ w1, Px w w1 k q p (.slice (some ⟨g6, 0, none⟩) 70 c6) d1.bs → Calls Try.prog 13 #[.pointer (some ⟨q, 0, none⟩), .int .i64 (37 + kx), .string (blk x.tx)] w1 fun e w' => (∃ y : Int, e = .returned (.int .i64 y)) ∧ Px w w' k q (p.st (37 + kx) (blk x.tx)) (.slice (some ⟨g6, 0, none⟩) 70 c6) d1.bs) := fun w1 h => vs_st_px h HS.out.1 _ (by unfold I64; omega) _ (blk_size _)
          have HKS : Hid (∀ w1, Below w.heap.size w w1 → w1.cell? ⟨b, off + j * 3 + 1, none⟩ = some (.int .i64 x.pl) ∧ w1.cell? ⟨b, off + j * 3 + 2, none⟩ = some (.string x.tx)) := fun w1 hb => by
            obtain ⟨b', off', e9, _, h9, _⟩ := HCB.out w1 j x hb hx
            cases e9
            exact h9
          have hbsz := blk_size x.tx
          obtain ⟨bs, hbs⟩ : ∃ bs, blk x.tx = bs := ⟨_, rfl⟩
          rw [hbs] at HBL HST hbsz
          have HV2 : Hid (VS (p.st (37 + kx) bs) 0 ∧ (p.st (37 + kx) bs).d = d1) := ⟨HS.out.1.st _ _, by rw [Pp.st_d]; exact HS.out.2⟩
          clear hkx hbl htx HS hbs hbsz
          go_wp2_with fail
          refine wp_region_d (fun w' => w'.cell? ⟨b, off + j * 3 + 1, none⟩ = some (.int .i64 x.pl) ∧ w'.cell? ⟨b, off + j * 3 + 2, none⟩ = some (.string x.tx)) (fun _ => true) (by kernel_rfl) ?_
          refine wpAnyM_pick (i := 0) (some 71) (v := ?vy1) rfl rfl (by kernel_rfl) (by kernel_rfl) (by kernel_rfl) (by kernel_rfl) (fun _ _ _ h => h) (Or.inl ⟨by rfl, ?hy1⟩) HS0 ?ry1
          case hy1 => intro w hSw; go_simp; try with_reducible rfl
          try simp only [Act.put, List.setIfInBounds_toArray, List.set_cons_zero, List.set_cons_succ]
          refine wpAnyM_pick (i := 1) (some 72) (v := ?vy2) rfl rfl (by kernel_rfl) (by kernel_rfl) (by kernel_rfl) (by kernel_rfl) (fun _ _ _ h => h) (Or.inl ⟨by rfl, ?hy2⟩) HS0 ?ry2
          case hy2 => intro w hSw; go_simp; try with_reducible rfl
          try simp only [Act.put, List.setIfInBounds_toArray, List.set_cons_zero, List.set_cons_succ]
          refine wpAnyM_pick (i := 2) (some 73) (v := ?vy3) rfl rfl (by kernel_rfl) (by kernel_rfl) (by kernel_rfl) (by kernel_rfl) (fun _ _ _ h => h) (Or.inl ⟨by rfl, ?hy3⟩) HS0 ?ry3
          case hy3 => intro w hSw; go_simp; try with_reducible rfl
          try simp only [Act.put, List.setIfInBounds_toArray, List.set_cons_zero, List.set_cons_succ]
          refine wpAnyM_pick (i := 3) (some 74) (v := ?vy4) rfl rfl (by kernel_rfl) (by kernel_rfl) (by kernel_rfl) (by kernel_rfl) (fun _ _ _ h => h) (Or.inl ⟨by rfl, ?hy4⟩) HS0 ?ry4
          case hy4 => intro w hSw; go_simp; try with_reducible rfl
          try simp only [Act.put, List.setIfInBounds_toArray, List.set_cons_zero, List.set_cons_succ]
          refine wpAnyM_pick (i := 4) (some 75) (v := ?vy5) rfl rfl (by kernel_rfl) (by kernel_rfl) (by kernel_rfl) (by kernel_rfl) (fun _ _ _ h => h) (Or.inl ⟨by rfl, ?hy5⟩) HS0 ?ry5
          case hy5 => intro w hSw; go_simp; try with_reducible rfl
          try simp only [Act.put, List.setIfInBounds_toArray, List.set_cons_zero, List.set_cons_succ]
          refine wpAnyM_pick (i := 5) (some 76) (v := ?vy6) rfl rfl (by kernel_rfl) (by kernel_rfl) (by kernel_rfl) (by kernel_rfl) (fun _ _ _ h => h) (Or.inl ⟨by rfl, ?hy6⟩) HS0 ?ry6
          case hy6 => intro w hSw; go_simp; try with_reducible rfl
          try simp only [Act.put, List.setIfInBounds_toArray, List.set_cons_zero, List.set_cons_succ]
          refine wpAnyM_pick (i := 8) (some 79) (v := ?vy7) rfl rfl (by kernel_rfl) (by kernel_rfl) (by kernel_rfl) (by kernel_rfl) (fun _ _ _ h => h) (Or.inl ⟨by rfl, ?hy7⟩) HS0 ?ry7
          case hy7 => intro w hSw; go_simp; try with_reducible rfl
          try simp only [Act.put, List.setIfInBounds_toArray, List.set_cons_zero, List.set_cons_succ]
          refine wpAnyM_pick (i := 9) (some 80) (v := ?vy8) rfl rfl (by kernel_rfl) (by kernel_rfl) (by kernel_rfl) (by kernel_rfl) (fun _ _ _ h => h) (Or.inl ⟨by rfl, ?hy8⟩) HS0 ?ry8
          case hy8 => intro w hSw; go_simp; try with_reducible rfl
          try simp only [Act.put, List.setIfInBounds_toArray, List.set_cons_zero, List.set_cons_succ]
          refine wpAnyM_pick (i := 10) (some 81) (v := ?vy9) rfl rfl (by kernel_rfl) (by kernel_rfl) (by kernel_rfl) (by kernel_rfl) (fun _ _ _ h => h) (Or.inl ⟨by rfl, ?hy9⟩) HS0 ?ry9
          case hy9 => intro w hSw; go_simp; try with_reducible rfl
          try simp only [Act.put, List.setIfInBounds_toArray, List.set_cons_zero, List.set_cons_succ]
          refine wpAnyM_pick (i := 11) (some 82) (v := ?vy10) rfl rfl (by kernel_rfl) (by kernel_rfl) (by kernel_rfl) (by kernel_rfl) (fun _ _ _ h => h) (Or.inl ⟨by rfl, ?hy10⟩) HS0 ?ry10
          case hy10 => intro w hSw; go_simp; try with_reducible rfl
          try simp only [Act.put, List.setIfInBounds_toArray, List.set_cons_zero, List.set_cons_succ]
          refine wpAnyM_pick (i := 12) (some 83) (v := ?vy11) rfl rfl (by kernel_rfl) (by kernel_rfl) (by kernel_rfl) (by kernel_rfl) (fun _ _ _ h => h) (Or.inl ⟨by rfl, ?hy11⟩) HS0 ?ry11
          case hy11 => intro w hSw; go_simp; try with_reducible rfl
          try simp only [Act.put, List.setIfInBounds_toArray, List.set_cons_zero, List.set_cons_succ]
          refine wpAnyM_one (i := 6) (by kernel_rfl) rfl (fun K hK => ?_)
          go_simp
          go_at_call 10
          refine (HKD.out _).mono ?_
          clear HKD
          rintro e wba ⟨rfl, rfl⟩
          try go_simp
          refine hK.out _ _ (fun _ => HS0) ?_
          clear hK K
          try simp only [Act.put, List.setIfInBounds_toArray, List.set_cons_zero, List.set_cons_succ]
          refine wpAnyM_pick (i := 7) (some 78) (v := ?vy12) rfl rfl (by kernel_rfl) (by kernel_rfl) (by kernel_rfl) (by kernel_rfl) (fun _ _ _ h => h) (Or.inl ⟨by rfl, ?hy12⟩) HS0 ?ry12
          case hy12 => intro w hSw; go_simp; try with_reducible rfl
          try simp only [Act.put, List.setIfInBounds_toArray, List.set_cons_zero, List.set_cons_succ]
          refine wpAnyM_one (i := 13) (by kernel_rfl) rfl (fun K hK => ?_)
          go_simp
          go_at_call 14
          refine (HBL.out _).mono ?_
          clear HBL
          rintro e wbb ⟨rfl, hb6⟩
          have HX6b := hid ((HX.out.on ((Below.refl _ wr).drew)).on hb6)
          have HS1 := HKS.out wbb HX6b.out.below
          clear hb6 HS0
          try go_simp
          refine hK.out _ _ (fun _ => HS1) ?_
          clear hK K
          try simp only [Act.put, List.setIfInBounds_toArray, List.set_cons_zero, List.set_cons_succ]
          refine wpAnyM_one (i := 14) (by kernel_rfl) rfl (fun K hK => ?_)
          go_simp
          go_at_call 13
          refine (HST.out _ HX6b.out).mono ?_
          clear HST
          rintro e wbc ⟨⟨rx, rfl⟩, hx7⟩
          have HX7b := hid hx7
          have HS2 := HKS.out wbc hx7.below
          clear hx7 HS1
          try go_simp
          refine hK.out _ _ (fun _ => HS2) ?_
          clear hK K
          try simp only [Act.put, List.setIfInBounds_toArray, List.set_cons_zero, List.set_cons_succ]
          refine wpAnyM_done (by kernel_rfl) ?_ _
          try simp only [Act.put, List.setIfInBounds_toArray, List.set_cons_zero, List.set_cons_succ]
          clear HS2 HKS
          go_wp2_with fail
          go_roundw
          case rel => exact ⟨j + 1, p.st (37 + kx) bs, by omega, by go_num, HV2, HX7b⟩
          case measure => simp [intOf]; omega
        · obtain rfl : j = m := by omega
          clear HCB
          have HUN := undo_px HX.out
          have HVU : Hid (VS p.undo 0 ∧ p.undo.d = d1 ∧ p.undo.ch = []) := ⟨HS.out.1.undo, HS.out.2, rfl⟩
          clear HS
          generalize p.undo = p2 at *
          go_wp2_with (first
            | (go_at_call 21; refine HUN.mono ?_; clear HUN; rintro e w7 ⟨rfl, hx7⟩; have HX7 := hid hx7; clear hx7))
          clear HX
          go_loopw [12] (fun i wr => ∃ (j : Nat) (p : Pp), (37 ≤ j ∧ j ≤ 67) ∧ i = .int .i64 (j : Nat) ∧ Hid (VS p (j - 37) ∧ p.d = d1 ∧ p.ch = []) ∧ Hid (Px w wr k q p (.slice (some ⟨g6, 0, none⟩) 70 c6) d1.bs)) (fun i _ => 67 - (intOf i).toNat)
          case atStart => exact ⟨37, p2, ⟨Nat.le_refl _, by decide⟩, rfl, HVU, HX7⟩
          case round =>
            obtain ⟨a, p, ⟨ha1, ha2⟩, rfl, HS, HX⟩ := hrel
            clear HX7 HVU
            by_cases hlt : a < 67
            · have hlti : (a : Int) < 67 := by omega
              have ha70 : (a : Int) < 70 := by omega
              obtain ⟨hv, hd, hc⟩ := HS.out
              have hpg : isPg p.d.bs.length (a : Int) := by rw [hd, HB70.out]; exact pg70 ⟨by omega, by omega⟩
              obtain ⟨q1, _, q3⟩ := hv.sees hpg
              have q4 := q3 (by rw [hc]; rfl)
              rw [hd, Int.toNat_natCast] at q4
              have HL1 := load_px (a - 37) (by omega) (a : Int) hv.ok HX.out
              rw [q1] at HL1
              have HV3 : Hid (VS (p.ld (a : Int)) (a + 1 - 37) ∧ (p.ld (a : Int)).d = d1 ∧ (p.ld (a : Int)).ch = []) := ⟨by have := hv.ld (a : Int); rw [show a + 1 - 37 = a - 37 + 1 by omega]; exact this, by rw [Pp.ld_d]; exact hd, by rw [Pp.ld_ch]; exact hc⟩
              generalize p.ldS (a : Int) = ss at *
              have HCC : Hid (∀ w1, Px w w1 k q (p.ld (a : Int)) (.slice (some ⟨g6, 0, none⟩) 70 c6) d1.bs → w1.cell? ⟨g6, a, none⟩ = some (.string ss)) := fun w1 h => by
                have := (h.row.at q4).1
                exact this
              clear hv hd hc hpg q1 q3 q4 HS
              go_wp2_with (first
                | (go_at_call 11; refine HL1.mono ?_; clear HL1; rintro e w8 ⟨rfl, hx8⟩; have HX8 := hid hx8; have c8 := HCC.out w8 hx8; clear hx8 HCC))
              go_roundw
              case rel => exact ⟨a + 1, p.ld (a : Int), ⟨by omega, by omega⟩, by go_num, HV3, HX8⟩
              case measure => simp [intOf]; omega
            · obtain rfl : a = 67 := by omega
              obtain ⟨hv, hd, hc⟩ := HS.out
              obtain ⟨z1, z2⟩ := cm_nil hc
              have HDI := dirty_px hv.ok HX.out
              rw [hc] at HDI
              have HCO : Hid (∀ w1, Below wr.heap.size wr w1 → Calls Try.prog 17 #[.pointer (some ⟨q, 0, none⟩)] w1 fun e w' => e = .returned (.int .i64 0) ∧ Px w w' k q p.cm (.slice (some ⟨g6, 0, none⟩) 70 c6) d1.bs) := fun w1 hb => by
                have := commit_px _ hv.ok (by rw [hd]; exact (show Fit 8000 by unfold Fit; decide).le (by omega)) (HX.out.on hb)
                rw [z1] at this
                exact this
              have HZ : Hid (p.cm.d = d1) := z2.trans hd
              have HSA : Hid (∀ (w1 : World) (B1 : Nat) (u v : Value), RowS w1 B1 u d1.bs → RowS w1 0 v d1.bs → Calls Try.prog 22 #[u, v] w1 fun e w' => e = .returned (.bool true) ∧ Below w1.heap.size w1 w') := fun w1 B1 u v h1 h2 => same_self w1 B1 0 u v d1.bs h1 h2 (by rw [HB70.out]; decide)
              clear hv hd hc z1 z2 HS
              generalize p.cm = p9 at *
              go_wp2_with (first
                | (go_at_call 18; refine HDI.mono ?_; clear HDI; rintro e w8 ⟨v8, rfl, hr8, hb8⟩; have HB8 := hid hb8; obtain ⟨da, dc, e8⟩ := hr8.form; subst e8; clear hr8 hb8)
                | (go_at_call 17; refine (HCO.out _ HB8.out).mono ?_; clear HCO; rintro e w9 ⟨rfl, hx9⟩; have HX9 := hid hx9; clear hx9)
                | (go_at_call 12; refine (HIM.out _ _ _ _ HZ.out HX9.out).mono ?_; clear HIM; rintro e w10 ⟨v10, rfl, hr10, hb10⟩; have HR10 := hid hr10; have HX10 := hid (HX9.out.on hb10); obtain ⟨ia, ic, e10⟩ := hr10.form; subst e10; clear hr10 hb10)
                | (go_at_call 22; refine (HSA.out _ _ _ _ HR10.out HX10.out.row).mono ?_; clear HSA; rintro e w11 ⟨rfl, hb11⟩; have HX11 := hid (HX10.out.on hb11); clear hb11))
              go_ret
              exact ⟨rfl, HX11.out.below⟩

theorem pagerUndo_own : ownKnob Try.prog.godebug = none := by kernel_rfl
theorem pagerUndo_laidOut : laidOutB Try.prog = true := by kernel_rfl

set_option maxRecDepth 100000 in
theorem pagerUndo_lifted (os : Os) (started : os.Started) (H : Type) (enc : TypeId × Value → H) :
    ReturnsInHanded {} Try.checked os 5 .any (Rows.pagerUndoSpec.pre6 enc Try.prog Try.f5 Rows.pagerUndoRow.domain false) (Rows.pagerUndoSpec.post enc Try.prog Try.f5 false true false false) := by
  refine returnsInHanded_of_change_sized (C := Try.checked) pagerUndo_own started (by kernel_rfl) Try.func5
    (ChangeSpec.witness6 (enc := enc) (C := Try.checked) false ⟨#[], #[.slice none 0 0, .slice none 0 0], []⟩ 8 (by kernel_rfl) (by kernel_rfl) (by kernel_rfl) (by kernel_rfl)) ?_
  intro W base args ds gs before hval0 hW hcnd hsz0 _
  have hsz : (DataW.weightsEach Try.prog (Try.f5.params.toList ++ Rows.pagerUndoSpec.plain.varTypes Try.prog) (ds ++ gs)).all (· ≤ reachBytes) = true := hsz0
  have hval : ∀ (j : Nat) t v, Try.f5.params[j]? = some t → args[j]? = some v → Value.okWide Try.prog W .any base t v := hval0
  have hW' := hW
  obtain ⟨p, q, hA0, hV, rfl, hfz, hnd⟩ := hW
  have hA : DataW.TrodAll enc Try.prog W 0 (fun _ => true) true Try.f5.params.toList args.toList ds p := hA0
  rw [Try.params5] at hA hval hsz
  obtain ⟨v0, vs0, d0, ds0, p0, q0, hargs, rfl, rfl, h0, r0⟩ := trodAll_cons hA
  obtain ⟨v1, vs1, d1, ds1, p1, q1, rfl, rfl, rfl, h1, r1⟩ := trodAll_cons r0
  obtain ⟨rfl, rfl, rfl⟩ := trodAll_nil r1
  obtain rfl : args = #[v0, v1] := by cases args; simp_all
  obtain ⟨rfl, rfl⟩ := trodVars_none hV
  have k0 := h0
  have lt0 : ∀ x ∈ p0, x.block < W.heap.size := by obtain ⟨m, hm⟩ := k0; exact DataW.trod_lt m _ _ _ hm
  have k1 := h1
  have lt1 : ∀ x ∈ p1, x.block < W.heap.size := by obtain ⟨m, hm⟩ := k1; exact DataW.trod_lt m _ _ _ hm
  obtain ⟨L0, l0, z0⟩ := open_acts (hval 0 22 v0 rfl rfl) h0 (fun n hn => by simpa using List.all_eq_true.1 hsz n (DataW.weights_mem_each (j := 0) (t := 22) rfl rfl n hn))
  obtain ⟨L1, l1, z1⟩ := open_acts (hval 1 22 v1 rfl rfl) h1 (fun n hn => by simpa using List.all_eq_true.1 hsz n (DataW.weights_mem_each (j := 1) (t := 22) rfl rfl n hn))
  clear hA0 hval0
  refine (pagerUndo_walk v0 L0 v1 L1 W l0 z0 l1 z1).mono fun e W' ⟨he, bel⟩ => ?_
  subst he
  exact ⟨_, rfl, _, _, _, [], _, [], hW', trodAll_mk1 (shut_bool Try.underlying4 _), (trodAll_cons_mk (Below.trod pagerUndo_laidOut (by kernel_rfl) (of_decide_eq_true (by kernel_rfl)) k0 bel lt0) (trodAll_cons_mk (Below.trod pagerUndo_laidOut (by kernel_rfl) (of_decide_eq_true (by kernel_rfl)) k1 bel lt1) trodAll_mk0)), rfl, bel.frame _, fun h => by cases h⟩

theorem pagerUndo_holds : Rows.PagerUndoSaid :=
  OpenClaim.holds_of_wide 5 Try.f5 rfl rfl rfl rfl rfl rfl rfl ⟨rfl, rfl, rfl, rfl, rfl⟩ rfl rfl rfl rfl rfl (by kernel_rfl) Try.func5 (by kernel_rfl)
    (of_decide_eq_true (by kernel_rfl)) (by unfold Func.isWrapper; first | (rw [if_pos (by decide +kernel)]; kernel_rfl) | (rw [if_neg (by decide +kernel)]; exact ⟨rfl, rfl⟩))
    (fun os started H enc _ => pagerUndo_lifted os started H enc)

#print axioms pagerUndo_holds

end Go.Proofs.Ytoecopmbaoklkaa
