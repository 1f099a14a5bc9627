/-
  What the document's May answers.
-/
import Derived.Test.YtoecopmbaoklkaaGreatRh
import Derived.Test.YtoecopmbaoklkaaGreatWl
namespace Go.Proofs.YtoecopmbaoklkaaGreat
open Go.RowKit
set_option linter.unusedVariables false
set_option linter.unusedSimpArgs false
set_option maxRecDepth 100000
set_option maxHeartbeats 4000000 in

/-- the document's disk as writes leave it, what is not its own as it was -/
def Wr (w : World) (S : Nat → Prop) (k : Nat) (d : Ds) (w' : World) : Prop := ∃ S', Rk w' S' k d ∧ Keep S w w' ∧ Grows S S' w
theorem wrs_snoc (d : Ds) (L : List Pg) (p : Pg) (h : (d.wrs L).1 = 0) : d.wrs (L ++ [p]) = ((d.wrs L).2.wrE p.pl p.data, (d.wrs L).2.wr p.pl p.data) := by
  rw [Ds.wrs_append, if_pos h, Ds.wrs_cons]
  split
  · rename_i h2; rw [h2]; rfl
  · rfl
theorem wrs_stop {d : Ds} {L : List Pg} (n : Nat) (h : ¬ (d.wrs (L.take n)).1 = 0) : d.wrs L = d.wrs (L.take n) := by
  conv => lhs; rw [← List.take_append_drop n L]
  rw [Ds.wrs_append, if_neg h]

set_option maxHeartbeats 4000000 in
theorem rDone_any (w : World) (S : Nat → Prop) (k : Nat) (d : Ds) (hd : Rk w S k d) (v : Value) (L : List Pg) (hl : LiesO w S v L) (hz : Fit (d.lg.length + L.length + 1)) :
    Calls Tryz.prog 90 #[.pointer (some ⟨k, 0, none⟩), v] w fun e w' => e = .returned (.int .i64 ((d.wrs L).1 : Nat)) ∧ Wr w S k (d.wrs L).2 w' := by
  obtain ⟨a, c, e1⟩ := hl.form
  subst e1
  have HL := hid hl
  obtain ⟨N, hN⟩ : ∃ N, L.length = N := ⟨_, rfl⟩
  have HN := hid hN
  have hlm := hl.len
  rw [hN] at hz hlm ⊢
  unfold maxLen at hlm
  have HZ := hid hz
  have HD : Hid (Wr w S k (d.wrs (L.take 0)).2 w) := ⟨S, hd, Keep.refl _ _, Grows.refl _ _⟩
  clear hl hN hz hd
  go_enter Tryz.func90, Tryz.ntmps90
  go_wp2_with fail
  go_loopw [9] (fun i wr => ∃ (j : Nat), j ≤ N ∧ i = .int .i64 (j : Nat) ∧ Hid ((d.wrs (L.take j)).1 = 0) ∧ Hid (Wr w S k (d.wrs (L.take j)).2 wr)) (fun i _ => N - (intOf i).toNat)
  case atStart => exact ⟨0, Nat.zero_le _, rfl, (rfl : (d.wrs (L.take 0)).1 = 0), HD⟩
  case round =>
    obtain ⟨j, hj, rfl, H0, HW⟩ := hrel
    clear HD
    by_cases hlt : j < N
    · have hji : (j : Int) < (N : Int) := by omega
      obtain ⟨p, hp⟩ : ∃ p, L[j]? = some p := ⟨_, List.getElem?_eq_getElem (by rw [HN.out]; exact hlt)⟩
      obtain ⟨S1, r1, k1, g1⟩ := HW.out
      obtain ⟨b, off, hab, hblt, hbs, cp0, cp1, _, hpd⟩ := (HL.out.keep k1 g1).at hp
      subst hab
      have hlg := Ds.wrs_lg (L.take j) d
      rw [List.length_take] at hlg
      have HWR : Hid (∀ w1, Below wr.heap.size wr w1 → Calls Tryz.prog 111 #[.pointer (some ⟨k, 0, none⟩), .int .i64 p.pl, .string p.data] w1 fun e w' => e = .returned (.int .i64 ((d.wrs (L.take (j + 1))).1 : Nat)) ∧ Wr w S k (d.wrs (L.take (j + 1))).2 w') := fun w1 hb => by
        rw [take_snoc hp, wrs_snoc d _ p H0.out]
        refine (rWrite_any p.pl p.data w1 S1 k _ (r1.on hb) (HZ.out.le (show (d.wrs (L.take j)).2.lg.length + 1 ≤ _ by omega))).mono ?_
        · rintro e w' ⟨rfl, S', r2, k2, g2⟩
          have hkb : Keep S w w1 := k1.trans (Keep.of_below hb : Keep (fun _ => False) wr w1) (fun _ _ h => h.elim)
          exact ⟨rfl, S', r2, hkb.trans k2 (fun q hq h => (g1 q h).resolve_right (by omega)), g1.trans (fun q h => (g2 q h).imp id (Nat.le_trans hb.size)) k1.size⟩
      have HST := hid (fun (h : ¬ (d.wrs (L.take (j + 1))).1 = 0) => wrs_stop (L := L) (d := d) (j + 1) h)
      obtain ⟨X, hX⟩ : ∃ X, d.wrs (L.take (j + 1)) = X := ⟨_, rfl⟩
      have HX := hid hX
      rw [hX] at HWR HST
      obtain ⟨x, D⟩ := X
      obtain ⟨pl, data⟩ := p
      simp only at cp0 cp1 HWR HST
      have HSW : wr.drew.cell? ⟨b, off + j * 2, none⟩ = some (.int .i64 pl) ∧ wr.drew.cell? ⟨b, off + j * 2 + 1, none⟩ = some (.string data) := ⟨cp0, cp1⟩
      clear hp hpd hlg hX H0 HW r1 k1 g1 hbs cp0 cp1
      by_cases hx : x = 0
      · subst hx
        have HWR0 : Hid (∀ w1, Below wr.heap.size wr w1 → Calls Tryz.prog 111 #[.pointer (some ⟨k, 0, none⟩), .int .i64 pl, .string data] w1 fun e w' => e = .returned (.int .i64 0) ∧ Wr w S k D w') := HWR.out
        clear HWR HST
        go_wp2_with fail
        refine wp_region_d (fun w' => w'.cell? ⟨b, off + j * 2, none⟩ = some (.int .i64 pl) ∧ w'.cell? ⟨b, off + j * 2 + 1, none⟩ = some (.string data)) (fun i => i == 5 || i == 10) (by kernel_rfl) ?_
        refine wpAnyM_late (i := 0) (some 12) (v := ?vz1) rfl rfl (by kernel_rfl) (by kernel_rfl) (by kernel_rfl) (by kernel_rfl) (fun _ _ _ h => h) (Or.inl ⟨by rfl, ?hz1⟩) ?rz1
        case hz1 => intro w hSw; go_simp; try with_reducible rfl
        try simp only [Act.put, List.setIfInBounds_toArray, List.set_cons_zero, List.set_cons_succ]
        refine wpAnyM_late (i := 1) (some 13) (v := ?vz2) rfl rfl (by kernel_rfl) (by kernel_rfl) (by kernel_rfl) (by kernel_rfl) (fun _ _ _ h => h) (Or.inl ⟨by rfl, ?hz2⟩) ?rz2
        case hz2 => intro w hSw; go_simp; try with_reducible rfl
        try simp only [Act.put, List.setIfInBounds_toArray, List.set_cons_zero, List.set_cons_succ]
        refine wpAnyM_late (i := 2) (some 14) (v := ?vz3) rfl rfl (by kernel_rfl) (by kernel_rfl) (by kernel_rfl) (by kernel_rfl) (fun _ _ _ h => h) (Or.inl ⟨by rfl, ?hz3⟩) ?rz3
        case hz3 => intro w hSw; go_simp; try with_reducible rfl
        try simp only [Act.put, List.setIfInBounds_toArray, List.set_cons_zero, List.set_cons_succ]
        refine wpAnyM_late (i := 3) (some 15) (v := ?vz4) rfl rfl (by kernel_rfl) (by kernel_rfl) (by kernel_rfl) (by kernel_rfl) (fun _ _ _ h => h) (Or.inl ⟨by rfl, ?hz4⟩) ?rz4
        case hz4 => intro w hSw; go_simp; try with_reducible rfl
        try simp only [Act.put, List.setIfInBounds_toArray, List.set_cons_zero, List.set_cons_succ]
        refine wpAnyM_late (i := 4) (some 16) (v := ?vz5) rfl rfl (by kernel_rfl) (by kernel_rfl) (by kernel_rfl) (by kernel_rfl) (fun _ _ _ h => h) (Or.inl ⟨by rfl, ?hz5⟩) ?rz5
        case hz5 => intro w hSw; go_simp; try with_reducible rfl
        try simp only [Act.put, List.setIfInBounds_toArray, List.set_cons_zero, List.set_cons_succ]
        refine wpAnyM_late (i := 6) (some 18) (v := ?vz7) rfl rfl (by kernel_rfl) (by kernel_rfl) (by kernel_rfl) (by kernel_rfl) (fun _ _ _ h => h) (Or.inl ⟨by rfl, ?hz7⟩) ?rz7
        case hz7 => intro w hSw; go_simp; try with_reducible rfl
        try simp only [Act.put, List.setIfInBounds_toArray, List.set_cons_zero, List.set_cons_succ]
        refine wpAnyM_late (i := 7) (some 19) (v := ?vz8) rfl rfl (by kernel_rfl) (by kernel_rfl) (by kernel_rfl) (by kernel_rfl) (fun _ _ _ h => h) (Or.inl ⟨by rfl, ?hz8⟩) ?rz8
        case hz8 => intro w hSw; go_simp; try with_reducible rfl
        try simp only [Act.put, List.setIfInBounds_toArray, List.set_cons_zero, List.set_cons_succ]
        refine wpAnyM_late (i := 8) (some 20) (v := ?vz9) rfl rfl (by kernel_rfl) (by kernel_rfl) (by kernel_rfl) (by kernel_rfl) (fun _ _ _ h => h) (Or.inl ⟨by rfl, ?hz9⟩) ?rz9
        case hz9 => intro w hSw; go_simp; try with_reducible rfl
        try simp only [Act.put, List.setIfInBounds_toArray, List.set_cons_zero, List.set_cons_succ]
        refine wpAnyM_late (i := 9) (some 21) (v := ?vz10) rfl rfl (by kernel_rfl) (by kernel_rfl) (by kernel_rfl) (by kernel_rfl) (fun _ _ _ h => h) (Or.inl ⟨by rfl, ?hz10⟩) ?rz10
        case hz10 => intro w hSw; go_simp; try with_reducible rfl
        try simp only [Act.put, List.setIfInBounds_toArray, List.set_cons_zero, List.set_cons_succ]
        refine wpAnyM_pick (i := 5) (some 17) (v := ?vz6) rfl rfl (by kernel_rfl) (by kernel_rfl) (by kernel_rfl) (by kernel_rfl) (fun _ _ _ h => h) (Or.inl ⟨by rfl, ?hz6⟩) HSW ?rz6
        case hz6 => intro w hSw; go_simp; try with_reducible rfl
        try simp only [Act.put, List.setIfInBounds_toArray, List.set_cons_zero, List.set_cons_succ]
        refine wpAnyM_pick (i := 10) (some 22) (v := ?vz11) rfl rfl (by kernel_rfl) (by kernel_rfl) (by kernel_rfl) (by kernel_rfl) (fun _ _ _ h => h) (Or.inl ⟨by rfl, ?hz11⟩) HSW ?rz11
        case hz11 => intro w hSw; go_simp; try with_reducible rfl
        try simp only [Act.put, List.setIfInBounds_toArray, List.set_cons_zero, List.set_cons_succ]
        refine wpAnyM_one (i := 11) (by kernel_rfl) rfl (fun K hK => ?_)
        go_simp
        go_at_call 111
        refine (HWR0.out _ ((Below.refl _ _).drew)).mono ?_
        clear HWR0
        rintro e w3 ⟨rfl, hw3⟩
        have HW3 := hid hw3
        clear hw3
        try go_simp
        refine hK.out _ _ (fun h => absurd h (by decide)) ?_
        clear hK K
        try simp only [Act.put, List.setIfInBounds_toArray, List.set_cons_zero, List.set_cons_succ]
        refine wpAnyM_one (i := 12) (by kernel_rfl) rfl (fun K hK => ?_)
        go_simp
        refine hK.out _ _ (fun h => absurd h (by decide)) ?_
        clear hK K
        refine wpAnyM_done (by kernel_rfl) ?_ _
        try simp only [Act.put, List.setIfInBounds_toArray, List.set_cons_zero, List.set_cons_succ]
        clear HSW
        go_wp2_with fail
        go_roundw
        case rel => exact ⟨j + 1, by omega, by go_num, (by show _ = _; rw [HX.out]), (by show Wr _ _ _ _ _; rw [HX.out]; exact HW3.out)⟩
        case measure => simp [intOf]; omega
      · have hxi : ((x : Int) == 0) = false := by simpa using hx
        have HE := hid (HST.out hx)
        clear HST
        go_wp2_with fail
        refine wp_region_d (fun w' => w'.cell? ⟨b, off + j * 2, none⟩ = some (.int .i64 pl) ∧ w'.cell? ⟨b, off + j * 2 + 1, none⟩ = some (.string data)) (fun i => i == 5 || i == 10) (by kernel_rfl) ?_
        refine wpAnyM_late (i := 0) (some 12) (v := ?vy1) rfl rfl (by kernel_rfl) (by kernel_rfl) (by kernel_rfl) (by kernel_rfl) (fun _ _ _ h => h) (Or.inl ⟨by rfl, ?hy1⟩) ?ry1
        case hy1 => intro w hSw; go_simp; try with_reducible rfl
        try simp only [Act.put, List.setIfInBounds_toArray, List.set_cons_zero, List.set_cons_succ]
        refine wpAnyM_late (i := 1) (some 13) (v := ?vy2) rfl rfl (by kernel_rfl) (by kernel_rfl) (by kernel_rfl) (by kernel_rfl) (fun _ _ _ h => h) (Or.inl ⟨by rfl, ?hy2⟩) ?ry2
        case hy2 => intro w hSw; go_simp; try with_reducible rfl
        try simp only [Act.put, List.setIfInBounds_toArray, List.set_cons_zero, List.set_cons_succ]
        refine wpAnyM_late (i := 2) (some 14) (v := ?vy3) rfl rfl (by kernel_rfl) (by kernel_rfl) (by kernel_rfl) (by kernel_rfl) (fun _ _ _ h => h) (Or.inl ⟨by rfl, ?hy3⟩) ?ry3
        case hy3 => intro w hSw; go_simp; try with_reducible rfl
        try simp only [Act.put, List.setIfInBounds_toArray, List.set_cons_zero, List.set_cons_succ]
        refine wpAnyM_late (i := 3) (some 15) (v := ?vy4) rfl rfl (by kernel_rfl) (by kernel_rfl) (by kernel_rfl) (by kernel_rfl) (fun _ _ _ h => h) (Or.inl ⟨by rfl, ?hy4⟩) ?ry4
        case hy4 => intro w hSw; go_simp; try with_reducible rfl
        try simp only [Act.put, List.setIfInBounds_toArray, List.set_cons_zero, List.set_cons_succ]
        refine wpAnyM_late (i := 4) (some 16) (v := ?vy5) rfl rfl (by kernel_rfl) (by kernel_rfl) (by kernel_rfl) (by kernel_rfl) (fun _ _ _ h => h) (Or.inl ⟨by rfl, ?hy5⟩) ?ry5
        case hy5 => intro w hSw; go_simp; try with_reducible rfl
        try simp only [Act.put, List.setIfInBounds_toArray, List.set_cons_zero, List.set_cons_succ]
        refine wpAnyM_late (i := 6) (some 18) (v := ?vy7) rfl rfl (by kernel_rfl) (by kernel_rfl) (by kernel_rfl) (by kernel_rfl) (fun _ _ _ h => h) (Or.inl ⟨by rfl, ?hy7⟩) ?ry7
        case hy7 => intro w hSw; go_simp; try with_reducible rfl
        try simp only [Act.put, List.setIfInBounds_toArray, List.set_cons_zero, List.set_cons_succ]
        refine wpAnyM_late (i := 7) (some 19) (v := ?vy8) rfl rfl (by kernel_rfl) (by kernel_rfl) (by kernel_rfl) (by kernel_rfl) (fun _ _ _ h => h) (Or.inl ⟨by rfl, ?hy8⟩) ?ry8
        case hy8 => intro w hSw; go_simp; try with_reducible rfl
        try simp only [Act.put, List.setIfInBounds_toArray, List.set_cons_zero, List.set_cons_succ]
        refine wpAnyM_late (i := 8) (some 20) (v := ?vy9) rfl rfl (by kernel_rfl) (by kernel_rfl) (by kernel_rfl) (by kernel_rfl) (fun _ _ _ h => h) (Or.inl ⟨by rfl, ?hy9⟩) ?ry9
        case hy9 => intro w hSw; go_simp; try with_reducible rfl
        try simp only [Act.put, List.setIfInBounds_toArray, List.set_cons_zero, List.set_cons_succ]
        refine wpAnyM_late (i := 9) (some 21) (v := ?vy10) rfl rfl (by kernel_rfl) (by kernel_rfl) (by kernel_rfl) (by kernel_rfl) (fun _ _ _ h => h) (Or.inl ⟨by rfl, ?hy10⟩) ?ry10
        case hy10 => intro w hSw; go_simp; try with_reducible rfl
        try simp only [Act.put, List.setIfInBounds_toArray, List.set_cons_zero, List.set_cons_succ]
        refine wpAnyM_pick (i := 5) (some 17) (v := ?vy6) rfl rfl (by kernel_rfl) (by kernel_rfl) (by kernel_rfl) (by kernel_rfl) (fun _ _ _ h => h) (Or.inl ⟨by rfl, ?hy6⟩) HSW ?ry6
        case hy6 => intro w hSw; go_simp; try with_reducible rfl
        try simp only [Act.put, List.setIfInBounds_toArray, List.set_cons_zero, List.set_cons_succ]
        refine wpAnyM_pick (i := 10) (some 22) (v := ?vy11) rfl rfl (by kernel_rfl) (by kernel_rfl) (by kernel_rfl) (by kernel_rfl) (fun _ _ _ h => h) (Or.inl ⟨by rfl, ?hy11⟩) HSW ?ry11
        case hy11 => intro w hSw; go_simp; try with_reducible rfl
        try simp only [Act.put, List.setIfInBounds_toArray, List.set_cons_zero, List.set_cons_succ]
        refine wpAnyM_one (i := 11) (by kernel_rfl) rfl (fun K hK => ?_)
        go_simp
        go_at_call 111
        refine (HWR.out _ ((Below.refl _ _).drew)).mono ?_
        clear HWR
        rintro e w3 ⟨rfl, hw3⟩
        have HW3 := hid hw3
        clear hw3
        try go_simp
        refine hK.out _ _ (fun h => absurd h (by decide)) ?_
        clear hK K
        try simp only [Act.put, List.setIfInBounds_toArray, List.set_cons_zero, List.set_cons_succ]
        refine wpAnyM_one (i := 12) (by kernel_rfl) rfl (fun K hK => ?_)
        go_simp
        refine hK.out _ _ (fun h => absurd h (by decide)) ?_
        clear hK K
        refine wpAnyM_done (by kernel_rfl) ?_ _
        try simp only [Act.put, List.setIfInBounds_toArray, List.set_cons_zero, List.set_cons_succ]
        clear HSW
        go_wp2_with fail
        go_ret
        rw [HE.out]
        exact ⟨rfl, HW3.out⟩
    · have hji : ¬ (j : Int) < (N : Int) := by omega
      obtain rfl : j = N := by omega
      have H1 : Hid ((d.wrs L).1 = 0) := by have := H0.out; rw [List.take_of_length_le (by rw [HN.out]; omega)] at this; exact this
      have H2 : Hid (Wr w S k (d.wrs L).2 wr) := by have := HW.out; rw [List.take_of_length_le (by rw [HN.out]; omega)] at this; exact this
      clear H0 HW
      go_wp2_with fail
      go_ret
      rw [H1.out]
      exact ⟨rfl, H2.out⟩

theorem rMay_any (n : Nat) (h1 : 64 ≤ n) (h2 : n ≤ 2048) (w : World) (S : Nat → Prop) (v : Value) (L : List Pg) (hl : LiesO w S v L) :
    Calls Tryz.prog 89 #[.int .i64 (n : Nat), v] w fun e w' => e = .returned (.int .i64 (ck n L : Nat)) ∧ Below w.heap.size w w' := by
  obtain ⟨a, c, e1⟩ := hl.form
  subst e1
  have HL := hid hl
  have hlen := hl.len
  unfold maxLen at hlen
  have hpg := rPages_any n h1 h2 w
  have hq := pgs_hi h2
  have hip : ∀ (x : Int) w1, _ := fun x w1 => rPage_any n h1 h2 x w1
  obtain ⟨N, hN⟩ : ∃ N, L.length = N := ⟨_, rfl⟩
  have HN := hid hN
  obtain ⟨e, he⟩ : ∃ e, ck n L = e := ⟨_, rfl⟩
  rw [he]
  have HE := hid he
  rw [hN] at hlen ⊢
  clear hl hN he
  obtain ⟨q, hqq⟩ : ∃ q, pgs n = q := ⟨_, rfl⟩
  rw [hqq] at hpg hq
  have HQ := hid hqq
  clear hqq
  by_cases hm : q < N
  · have hmi : (q : Int) < (N : Int) := by omega
    obtain rfl : 10 = e := by rw [← HE.out]; unfold ck; rw [HQ.out, HN.out, if_pos hm]
    go_enter Tryz.func89, Tryz.ntmps89
    go_wp2_with (go_at_call 83; refine hpg.mono ?_; rintro e w1 ⟨rfl, rfl⟩)
    go_ret
    exact ⟨rfl, Below.refl _ _⟩
  have hmi : ¬ (q : Int) < (N : Int) := by omega
  have HC0 : Hid (e = ckL n ((L.take 0).map Pg.pl) (L.drop 0)) := by
    show _ = _
    rw [← HE.out]
    unfold ck
    rw [HQ.out, HN.out, if_neg hm]
    rfl
  clear HE
  go_enter Tryz.func89, Tryz.ntmps89
  go_wp2_with (go_at_call 83; refine hpg.mono ?_; clear hpg; rintro e w1 ⟨rfl, rfl⟩)
  go_loopw [14] (fun i wr => ∃ k : Nat, k ≤ N ∧ i = .int .i64 (k : Nat) ∧ Hid (Below w.heap.size w wr) ∧ Hid (e = ckL n ((L.take k).map Pg.pl) (L.drop k))) (fun i _ => N - (intOf i).toNat)
  case atStart => exact ⟨0, Nat.zero_le _, rfl, Below.refl _ _, HC0⟩
  case round =>
    obtain ⟨k, hk, rfl, HB, HC⟩ := hrel
    clear HC0
    by_cases hlt : k < N
    · have hki : (k : Int) < (N : Int) := by omega
      obtain ⟨p, hp⟩ : ∃ p, L[k]? = some p := ⟨_, List.getElem?_eq_getElem (by rw [HN.out]; exact hlt)⟩
      obtain ⟨b, off, hab, hblt, _, cp0, cp1, hpl, hpd⟩ := (HL.out.on HB.out).at hp
      subst hab
      have HC2 : Hid _ := HC.out.trans (ckL_at hp)
      have hip1 := hip p.pl
      obtain ⟨pl, data⟩ := p
      simp only at cp0 cp1 hpl hpd hip1 HC2
      unfold maxLen at hpd
      by_cases g1 : isPg n pl
      · rw [decide_eq_true g1] at hip1
        have HC3 : Hid _ := HC2.out.trans (if_neg (fun h => h g1))
        by_cases g2 : data.size = 256
        · have HC4 : Hid _ := HC3.out.trans (if_neg (fun h => h g2))
          have g2i : ((data.size : Int) != 256) = false := by simp; omega
          clear HC HC2 HC3 g1
          obtain ⟨wb, hwb⟩ : ∃ wb, wb = wr := ⟨_, rfl⟩
          subst hwb
          go_upto_region 11 with (go_at_call 54; refine (hip1 _).mono ?_; clear hip1; rintro e w1 ⟨rfl, rfl⟩)
          go_loopw [6] (fun i wr2 => ∃ j : Nat, j ≤ k ∧ i = .int .i64 (j : Nat) ∧ Hid (pl ∉ (L.take j).map Pg.pl) ∧ Hid (Below wb.heap.size wb wr2)) (fun i _ => k - (intOf i).toNat)
          case atStart => exact ⟨0, Nat.zero_le _, rfl, (by show ¬ _; simp), Below.refl _ _⟩
          case round =>
            obtain ⟨j, hj, rfl, HP, HB2⟩ := hrel
            by_cases hjk : j < k
            · have hji : (j : Int) < (k : Int) := by omega
              have hjn : (j : Int) < (N : Int) := by omega
              obtain ⟨p2, hp2⟩ : ∃ p, L[j]? = some p := ⟨_, List.getElem?_eq_getElem (by rw [HN.out]; omega)⟩
              obtain ⟨b', off', hab, hblt2, _, cq0, _, hpl2, _⟩ := ((HL.out.on HB.out).on HB2.out).at hp2
              cases hab
              have cx0 : wr.cell? ⟨b, off + k * 2, none⟩ = some (.int .i64 pl) := (HB2.out.cell (p := ⟨b, off + k * 2, none⟩) hblt).trans cp0
              obtain ⟨pl2, data2⟩ := p2
              simp only at cq0 hpl2
              have HSN := hid (take_snoc hp2)
              by_cases g3 : pl2 = pl
              · subst g3
                obtain rfl : e = 9 := HC4.out.trans (if_pos (List.mem_map.2 ⟨⟨pl2, data2⟩, List.mem_of_getElem? (show (L.take k)[j]? = some _ by rw [List.getElem?_take, if_pos hjk]; exact hp2), rfl⟩))
                have HB3 := hid (HB.out.trans ((HB2.out.drew).mono HB.out.size))
                clear HC4 HSN hp2 hp HP HL HB HB2 cp0 cp1
                go_wp2_with fail
                go_region
                go_wp2_with fail
                go_ret
                exact ⟨rfl, HB3.out⟩
              · have HP2 : Hid (pl ∉ (L.take (j + 1)).map Pg.pl) := by
                  show ¬ _
                  rw [HSN.out, List.map_append]
                  intro hmm
                  rcases List.mem_append.1 hmm with h | h
                  · exact HP.out h
                  · simp at h
                    exact g3 h.symm
                have HB3 := hid (HB2.out.drew)
                have g3' : (pl2 == pl) = false := by simpa using g3
                clear HC4 HSN hp2 hp HP HL HB HB2 cp0 cp1
                go_wp2_with fail
                go_region
                go_wp2_with fail
                go_roundw
                case rel => exact ⟨j + 1, by omega, by go_num, HP2, HB3⟩
                case measure => simp [intOf]; omega
            · have hji : ¬ (j : Int) < (k : Int) := by omega
              obtain rfl : j = k := by omega
              have HC5 : Hid (e = ckL n ((L.take (j + 1)).map Pg.pl) (L.drop (j + 1))) := HC4.out.trans (if_neg HP.out)
              have HB3 := hid (HB.out.trans (HB2.out.mono HB.out.size))
              clear HC4 hp HP HL HB HB2 cp0 cp1
              go_wp2_with fail
              go_roundw
              case rel => exact ⟨j + 1, by omega, by go_num, HB3, HC5⟩
              case measure => simp [intOf]; omega
        · obtain rfl : e = 3 := HC3.out.trans (if_pos g2)
          have g2i : ((data.size : Int) != 256) = true := by simp; omega
          have g2j : ¬ (data.size : Int) = 256 := by omega
          clear HC HC2 HC3 g1 hp HL
          go_wp2_with (go_at_call 54; refine (hip1 _).mono ?_; clear hip1; rintro e w1 ⟨rfl, rfl⟩)
          go_ret
          exact ⟨rfl, HB.out⟩
      · obtain rfl : e = 1 := HC2.out.trans (if_pos g1)
        rw [decide_eq_false g1] at hip1
        clear HC HC2 g1 hp HL
        go_wp2_with (go_at_call 54; refine (hip1 _).mono ?_; clear hip1; rintro e w1 ⟨rfl, rfl⟩)
        go_ret
        exact ⟨rfl, HB.out⟩
    · have hki : ¬ (k : Int) < (N : Int) := by omega
      obtain rfl : k = N := by omega
      obtain rfl : e = 0 := by
        rw [HC.out, List.drop_eq_nil_of_le (by rw [HN.out]; omega)]
        rfl
      go_wp2_with fail
      go_ret
      exact ⟨rfl, HB.out⟩

end Go.Proofs.YtoecopmbaoklkaaGreat
