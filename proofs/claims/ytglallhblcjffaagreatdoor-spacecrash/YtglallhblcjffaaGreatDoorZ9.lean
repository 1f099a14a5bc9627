/-
  An act, done to both: kind 9.
-/
import Derived.Test.YtglallhblcjffaaGreatDoorTz
namespace Go.Proofs.YtglallhblcjffaaGreatDoor
open Go.RowKit
set_option linter.unusedVariables false
set_option linter.unusedSimpArgs false
set_option maxRecDepth 100000

section
variable {w0 w : World} {g k q s b1 b2 n : Nat} {d : Ds} {f : Int → ByteArray} {N : Nat} {now was : Rsp}

set_option maxHeartbeats 4000000 in
theorem does_5 (ak ap : Int) (ax : ByteArray) (hap : I64 ap) (hkd : kd ak 10 = 5) (hE : Env w0) (hN : N < 4611686018427380000) (hz : Fit (d.lg.length + 5000)) (hp : Pl n d f now was) (h : Wo w0 w g k q s b1 b2 d f N now was) :
    Calls Tryz.prog 10 #[.pointer (some ⟨g, 0, none⟩), .agg #[.int .i64 ak, .int .i64 ap, .string ax]] w fun e V => e = .returned (.bool true) ∧ Ws w0 V g k q s n (N + 5) (d.lg.length + 4000) := by
  have HKD : Hid (∀ w1 : World, Calls Tryz.prog 13 #[.int .i64 ak, .int .i64 10] w1 fun e w' => e = .returned (.int .i64 5) ∧ w1 = w') := fun w1 => by have := kind_any ak 10 (by decide) w1; rw [hkd] at this; exact this
  obtain ⟨hok, hdn, hpg⟩ := h.good
  have hm : (f (mpg d)).size = 256 := hpg _ (mpg_pg hok)
  have H0 := hid (Wx.start h #[.int .i64 ak, .int .i64 ap, .string ax])
  have HP := hid hp
  obtain ⟨he, hpl⟩ := hp.rel hm ap
  have HPU : Hid (∀ w1 p, Wx w0 w1 g k q s b1 b2 d f N now was p #[.int .i64 ak, .int .i64 ap, .string ax] → Calls Tryz.prog 25 #[.pointer (some ⟨s, 0, none⟩), .int .i64 ap] w1 fun e V => e = .returned (.int .i64 (now.gE ap : Nat)) ∧ Wx w0 V g k q s b1 b2 d (if gtE d f ap = 0 then rlF d f ap else f) (N + 2) now was p #[.int .i64 ak, .int .i64 ap, .string ax]) := fun w1 p hh => by
    have := hh.space (F := fun e V => e = .returned (.int .i64 (gtE d f ap : Nat))) hE fun S hs hee h0 => release_sp ap hee h0 (by omega) hs
    rw [he] at this ⊢
    exact this
  have HRP : Hid (∀ w1 p f' N', Wx w0 w1 g k q s b1 b2 d f' N' now was p #[.int .i64 ak, .int .i64 ap, .string ax] → Calls Tryz.prog 36 #[.pointer (some ⟨b1, 0, none⟩), .int .i64 ap] w1 fun e V => e = .returned (.int .i64 (now.gE ap : Nat)) ∧ Wx w0 V g k q s b1 b2 d f' N' (if now.gE ap = 0 then { now with taken := now.taken.set (now.ix ap) false } else now) was p #[.int .i64 ak, .int .i64 ap, .string ax]) := fun w1 p f' N' hh => hh.ref fun R hr => rRelease_any ap hap HP.out.ok1 hr
  have HPL := hid hpl
  clear he hpl
  obtain ⟨f1, hf1⟩ : ∃ f1, (if gtE d f ap = 0 then rlF d f ap else f) = f1 := ⟨_, rfl⟩
  obtain ⟨now1, hn1⟩ : ∃ now1, (if now.gE ap = 0 then { now with taken := now.taken.set (now.ix ap) false } else now : Rsp) = now1 := ⟨_, rfl⟩
  rw [hf1] at HPU
  rw [hn1] at HRP
  rw [hf1, hn1] at HPL
  clear hf1 hn1
  generalize now.gE ap = pe at *
  clear h hp hkd
  go_enter Tryz.func10, Tryz.ntmps10
  go_wp2_with (go_at_call 13; refine (HKD.out _).mono ?_; clear HKD; rintro e w1 ⟨rfl, rfl⟩)
  generalize w.alloc (.cells #[.int .i64 ak, .int .i64 ap, .string ax] 28) = wa at *
  generalize w.heap.size = p at *
  refine wp_region_d (fun w' => w'.cell? ⟨g, 1, none⟩ = some (.pointer (some ⟨s, 0, none⟩)) ∧ w'.cell? ⟨g, 2, none⟩ = some (.pointer (some ⟨b1, 0, none⟩)) ∧ w'.cell? ⟨p, 1, none⟩ = some (.int .i64 ap) ∧ w'.cell? ⟨p, 2, none⟩ = some (.string ax)) (fun _ => true) (by kernel_rfl) ?_
  have H0d := hid (H0.out.on ((Below.refl _ wa).drew))
  generalize wa.drew = wad at *
  have hS : _ ∧ _ ∧ _ ∧ _ := ⟨H0d.out.wcell (i := 1) rfl, H0d.out.wcell (i := 2) rfl, H0d.out.pcell (i := 1) rfl, H0d.out.pcell (i := 2) rfl⟩
  refine wpAnyM_pick (i := 0) (some 142) (v := ?vz1) rfl rfl (by kernel_rfl) (by kernel_rfl) (by kernel_rfl) (by kernel_rfl) (fun _ _ _ h => h) (Or.inl ⟨by rfl, ?hz1⟩) hS ?rz1
  case hz1 => intro w hSw; (try have hs1 := hSw.1); (try have hs2 := hSw.2); (try (obtain ⟨ha1, ha2, ha3, ha4⟩ := hSw)); go_simp; try with_reducible rfl
  try simp only [Act.put, List.setIfInBounds_toArray, List.set_cons_zero, List.set_cons_succ]
  refine wpAnyM_pick (i := 1) (some 143) (v := ?vz2) rfl rfl (by kernel_rfl) (by kernel_rfl) (by kernel_rfl) (by kernel_rfl) (fun _ _ _ h => h) (Or.inl ⟨by rfl, ?hz2⟩) hS ?rz2
  case hz2 => intro w hSw; (try have hs1 := hSw.1); (try have hs2 := hSw.2); (try (obtain ⟨ha1, ha2, ha3, ha4⟩ := hSw)); go_simp; try with_reducible rfl
  try simp only [Act.put, List.setIfInBounds_toArray, List.set_cons_zero, List.set_cons_succ]
  refine wpAnyM_pick (i := 2) (some 144) (v := ?vz3) rfl rfl (by kernel_rfl) (by kernel_rfl) (by kernel_rfl) (by kernel_rfl) (fun _ _ _ h => h) (Or.inl ⟨by rfl, ?hz3⟩) hS ?rz3
  case hz3 => intro w hSw; (try have hs1 := hSw.1); (try have hs2 := hSw.2); (try (obtain ⟨ha1, ha2, ha3, ha4⟩ := hSw)); go_simp; try with_reducible rfl
  try simp only [Act.put, List.setIfInBounds_toArray, List.set_cons_zero, List.set_cons_succ]
  refine wpAnyM_pick (i := 3) (some 145) (v := ?vz4) rfl rfl (by kernel_rfl) (by kernel_rfl) (by kernel_rfl) (by kernel_rfl) (fun _ _ _ h => h) (Or.inl ⟨by rfl, ?hz4⟩) hS ?rz4
  case hz4 => intro w hSw; (try have hs1 := hSw.1); (try have hs2 := hSw.2); (try (obtain ⟨ha1, ha2, ha3, ha4⟩ := hSw)); go_simp; try with_reducible rfl
  try simp only [Act.put, List.setIfInBounds_toArray, List.set_cons_zero, List.set_cons_succ]
  refine wpAnyM_pick (i := 4) (some 146) (v := ?vz5) rfl rfl (by kernel_rfl) (by kernel_rfl) (by kernel_rfl) (by kernel_rfl) (fun _ _ _ h => h) (Or.inl ⟨by rfl, ?hz5⟩) hS ?rz5
  case hz5 => intro w hSw; (try have hs1 := hSw.1); (try have hs2 := hSw.2); (try (obtain ⟨ha1, ha2, ha3, ha4⟩ := hSw)); go_simp; try with_reducible rfl
  try simp only [Act.put, List.setIfInBounds_toArray, List.set_cons_zero, List.set_cons_succ]
  refine wpAnyM_pick (i := 5) (some 147) (v := ?vz6) rfl rfl (by kernel_rfl) (by kernel_rfl) (by kernel_rfl) (by kernel_rfl) (fun _ _ _ h => h) (Or.inl ⟨by rfl, ?hz6⟩) hS ?rz6
  case hz6 => intro w hSw; (try have hs1 := hSw.1); (try have hs2 := hSw.2); (try (obtain ⟨ha1, ha2, ha3, ha4⟩ := hSw)); go_simp; try with_reducible rfl
  try simp only [Act.put, List.setIfInBounds_toArray, List.set_cons_zero, List.set_cons_succ]
  refine wpAnyM_pick (i := 7) (some 149) (v := ?vz7) rfl rfl (by kernel_rfl) (by kernel_rfl) (by kernel_rfl) (by kernel_rfl) (fun _ _ _ h => h) (Or.inl ⟨by rfl, ?hz7⟩) hS ?rz7
  case hz7 => intro w hSw; (try have hs1 := hSw.1); (try have hs2 := hSw.2); (try (obtain ⟨ha1, ha2, ha3, ha4⟩ := hSw)); go_simp; try with_reducible rfl
  try simp only [Act.put, List.setIfInBounds_toArray, List.set_cons_zero, List.set_cons_succ]
  refine wpAnyM_pick (i := 8) (some 150) (v := ?vz8) rfl rfl (by kernel_rfl) (by kernel_rfl) (by kernel_rfl) (by kernel_rfl) (fun _ _ _ h => h) (Or.inl ⟨by rfl, ?hz8⟩) hS ?rz8
  case hz8 => intro w hSw; (try have hs1 := hSw.1); (try have hs2 := hSw.2); (try (obtain ⟨ha1, ha2, ha3, ha4⟩ := hSw)); go_simp; try with_reducible rfl
  try simp only [Act.put, List.setIfInBounds_toArray, List.set_cons_zero, List.set_cons_succ]
  refine wpAnyM_pick (i := 9) (some 151) (v := ?vz9) rfl rfl (by kernel_rfl) (by kernel_rfl) (by kernel_rfl) (by kernel_rfl) (fun _ _ _ h => h) (Or.inl ⟨by rfl, ?hz9⟩) hS ?rz9
  case hz9 => intro w hSw; (try have hs1 := hSw.1); (try have hs2 := hSw.2); (try (obtain ⟨ha1, ha2, ha3, ha4⟩ := hSw)); go_simp; try with_reducible rfl
  try simp only [Act.put, List.setIfInBounds_toArray, List.set_cons_zero, List.set_cons_succ]
  refine wpAnyM_pick (i := 10) (some 152) (v := ?vz10) rfl rfl (by kernel_rfl) (by kernel_rfl) (by kernel_rfl) (by kernel_rfl) (fun _ _ _ h => h) (Or.inl ⟨by rfl, ?hz10⟩) hS ?rz10
  case hz10 => intro w hSw; (try have hs1 := hSw.1); (try have hs2 := hSw.2); (try (obtain ⟨ha1, ha2, ha3, ha4⟩ := hSw)); go_simp; try with_reducible rfl
  try simp only [Act.put, List.setIfInBounds_toArray, List.set_cons_zero, List.set_cons_succ]
  refine wpAnyM_pick (i := 11) (some 153) (v := ?vz11) rfl rfl (by kernel_rfl) (by kernel_rfl) (by kernel_rfl) (by kernel_rfl) (fun _ _ _ h => h) (Or.inl ⟨by rfl, ?hz11⟩) hS ?rz11
  case hz11 => intro w hSw; (try have hs1 := hSw.1); (try have hs2 := hSw.2); (try (obtain ⟨ha1, ha2, ha3, ha4⟩ := hSw)); go_simp; try with_reducible rfl
  try simp only [Act.put, List.setIfInBounds_toArray, List.set_cons_zero, List.set_cons_succ]
  refine wpAnyM_pick (i := 12) (some 154) (v := ?vz12) rfl rfl (by kernel_rfl) (by kernel_rfl) (by kernel_rfl) (by kernel_rfl) (fun _ _ _ h => h) (Or.inl ⟨by rfl, ?hz12⟩) hS ?rz12
  case hz12 => intro w hSw; (try have hs1 := hSw.1); (try have hs2 := hSw.2); (try (obtain ⟨ha1, ha2, ha3, ha4⟩ := hSw)); go_simp; try with_reducible rfl
  try simp only [Act.put, List.setIfInBounds_toArray, List.set_cons_zero, List.set_cons_succ]
  refine wpAnyM_one (i := 6) (by kernel_rfl) rfl (fun K hK => ?_)
  go_simp
  go_at_call 25
  refine (HPU.out _ _ H0d.out).mono ?_
  rintro e w3 ⟨rfl, h3⟩
  have H3 := hid h3
  clear h3 H0d HPU
  clear hS
  have hS : _ ∧ _ ∧ _ ∧ _ := ⟨H3.out.wcell (i := 1) rfl, H3.out.wcell (i := 2) rfl, H3.out.pcell (i := 1) rfl, H3.out.pcell (i := 2) rfl⟩
  go_wp2_with fail
  refine hK.out _ _ (fun _ => hS) ?_
  clear hK K
  try simp only [Act.put, List.setIfInBounds_toArray, List.set_cons_zero, List.set_cons_succ]
  refine wpAnyM_one (i := 13) (by kernel_rfl) rfl (fun K hK => ?_)
  go_simp
  go_at_call 36
  refine (HRP.out _ _ _ _ H3.out).mono ?_
  rintro e w5 ⟨rfl, h5⟩
  have H5 := hid h5
  clear h5 H3 HRP
  clear hS
  have hS : _ ∧ _ ∧ _ ∧ _ := ⟨H5.out.wcell (i := 1) rfl, H5.out.wcell (i := 2) rfl, H5.out.pcell (i := 1) rfl, H5.out.pcell (i := 2) rfl⟩
  go_wp2_with fail
  refine hK.out _ _ (fun _ => hS) ?_
  clear hK K
  try simp only [Act.put, List.setIfInBounds_toArray, List.set_cons_zero, List.set_cons_succ]
  refine wpAnyM_pick (i := 14) (some 156) (v := ?vz13) rfl rfl (by kernel_rfl) (by kernel_rfl) (by kernel_rfl) (by kernel_rfl) (fun _ _ _ h => h) (Or.inl ⟨by rfl, ?hz13⟩) hS ?rz13
  case hz13 => intro w hSw; (try have hs1 := hSw.1); (try have hs2 := hSw.2); (try (obtain ⟨ha1, ha2, ha3, ha4⟩ := hSw)); go_simp; try with_reducible rfl
  try simp only [Act.put, List.setIfInBounds_toArray, List.set_cons_zero, List.set_cons_succ]
  refine wpAnyM_pick (i := 15) (some 4) (v := ?vz14) rfl rfl (by kernel_rfl) (by kernel_rfl) (by kernel_rfl) (by kernel_rfl) (fun _ _ _ h => h) (Or.inl ⟨by rfl, ?hz14⟩) hS ?rz14
  case hz14 => intro w hSw; (try have hs1 := hSw.1); (try have hs2 := hSw.2); (try (obtain ⟨ha1, ha2, ha3, ha4⟩ := hSw)); go_simp; try with_reducible rfl
  try simp only [Act.put, List.setIfInBounds_toArray, List.set_cons_zero, List.set_cons_succ]
  refine wpAnyM_done (by kernel_rfl) ?_ _
  try simp only [Act.put, List.setIfInBounds_toArray, List.set_cons_zero, List.set_cons_succ]
  clear hS
  go_wp2_with fail
  go_ret
  exact ⟨rfl, b1, b2, d, f1, now1, was, Wo.mono H5.out.wo (by omega), HPL.out, Nat.le_add_right _ _⟩
end

section
variable {w0 w : World} {g k q s b1 b2 n : Nat} {d : Ds} {f : Int → ByteArray} {N : Nat} {now was : Rsp}

set_option maxHeartbeats 4000000 in
theorem does_6 (ak ap : Int) (ax : ByteArray) (hap : I64 ap) (hkd : kd ak 10 = 6) (hE : Env w0) (hN : N < 4611686018427380000) (hz : Fit (d.lg.length + 5000)) (hp : Pl n d f now was) (h : Wo w0 w g k q s b1 b2 d f N now was) :
    Calls Tryz.prog 10 #[.pointer (some ⟨g, 0, none⟩), .agg #[.int .i64 ak, .int .i64 ap, .string ax]] w fun e V => e = .returned (.bool true) ∧ Ws w0 V g k q s n (N + 5) (d.lg.length + 4000) := by
  have HKD : Hid (∀ w1 : World, Calls Tryz.prog 13 #[.int .i64 ak, .int .i64 10] w1 fun e w' => e = .returned (.int .i64 6) ∧ w1 = w') := fun w1 => by have := kind_any ak 10 (by decide) w1; rw [hkd] at this; exact this
  obtain ⟨hok, hdn, hpg⟩ := h.good
  have hm : (f (mpg d)).size = 256 := hpg _ (mpg_pg hok)
  have H0 := hid (Wx.start h #[.int .i64 ak, .int .i64 ap, .string ax])
  have HP := hid hp
  have HCM : Hid (∀ w1 p b, Wx w0 w1 g k q s b1 b d f N now now p #[.int .i64 ak, .int .i64 ap, .string ax] → Calls Tryz.prog 15 #[.pointer (some ⟨s, 0, none⟩)] w1 fun e V => ∃ d', Pl n d' (onD d') now now ∧ d'.lg.length ≤ d.lg.length + 4000 ∧ e = .returned (.int .i64 0) ∧ Wx w0 V g k q s b1 b d' (onD d') N now now p #[.int .i64 ak, .int .i64 ap, .string ax]) := fun w1 p b hh => hh.commit hE hz HP.out
  have HCN : Hid (∀ w1 p, Wx w0 w1 g k q s b1 b2 d f N now was p #[.int .i64 ak, .int .i64 ap, .string ax] → _) := fun w1 p hh => Wx.copyNow HP.out.ok1 hh
  have c1 := H0.out.wcell (i := 2) rfl
  clear h hp hkd
  go_enter Tryz.func10, Tryz.ntmps10
  go_wp2_with (go_at_call 13; refine (HKD.out _).mono ?_; clear HKD; rintro e w1 ⟨rfl, rfl⟩)
  clear c1
  generalize w.alloc (.cells #[.int .i64 ak, .int .i64 ap, .string ax] 28) = wa at *
  generalize w.heap.size = p at *
  go_at_call 17
  refine (HCN.out _ _ H0.out).mono ?_
  clear HCN
  rintro e w2 ⟨b, rfl, h2, h3⟩
  have c2 := h2.wcell (i := 3) rfl
  have c3 := h2.free 3
  have c4 := h3.wcell (i := 1) rfl
  have HC := hid (HCM.out _ _ _ h3)
  clear h2 h3 H0
  go_wp2_with (go_at_call 15; refine HC.out.mono ?_; clear HC; rintro e w4 ⟨d', hp', hl', rfl, h4⟩; have H4 := hid h4; have HP4 := hid hp'; clear h4 hp')
  go_ret
  exact ⟨rfl, b1, b, d', onD d', now, now, Wo.mono H4.out.wo (by omega), HP4.out, hl'⟩
end

section
variable {w0 w : World} {g k q s b1 b2 n : Nat} {d : Ds} {f : Int → ByteArray} {N : Nat} {now was : Rsp}

set_option maxHeartbeats 4000000 in
theorem does_7 (ak ap : Int) (ax : ByteArray) (hap : I64 ap) (hkd : kd ak 10 = 7) (hE : Env w0) (hN : N < 4611686018427380000) (hz : Fit (d.lg.length + 5000)) (hp : Pl n d f now was) (h : Wo w0 w g k q s b1 b2 d f N now was) :
    Calls Tryz.prog 10 #[.pointer (some ⟨g, 0, none⟩), .agg #[.int .i64 ak, .int .i64 ap, .string ax]] w fun e V => e = .returned (.bool true) ∧ Ws w0 V g k q s n (N + 5) (d.lg.length + 4000) := by
  have HKD : Hid (∀ w1 : World, Calls Tryz.prog 13 #[.int .i64 ak, .int .i64 10] w1 fun e w' => e = .returned (.int .i64 7) ∧ w1 = w') := fun w1 => by have := kind_any ak 10 (by decide) w1; rw [hkd] at this; exact this
  obtain ⟨hok, hdn, hpg⟩ := h.good
  have hm : (f (mpg d)).size = 256 := hpg _ (mpg_pg hok)
  have H0 := hid (Wx.start h #[.int .i64 ak, .int .i64 ap, .string ax])
  have HP := hid hp
  have HUN : Hid (∀ w1 p, Wx w0 w1 g k q s b1 b2 d f N now was p #[.int .i64 ak, .int .i64 ap, .string ax] → Calls Tryz.prog 26 #[.pointer (some ⟨s, 0, none⟩)] w1 fun e V => e = .returned (.tuple #[]) ∧ Wx w0 V g k q s b1 b2 d (onD d) N now was p #[.int .i64 ak, .int .i64 ap, .string ax]) := fun w1 p hh => hh.space hE fun S hs _ _ => sundo_sp hs
  have HCN : Hid (∀ w1 p, Wx w0 w1 g k q s b1 b2 d (onD d) N now was p #[.int .i64 ak, .int .i64 ap, .string ax] → _) := fun w1 p hh => Wx.copyWas HP.out.ok2 hh
  have c1 := H0.out.wcell (i := 1) rfl
  clear h hp hkd
  go_enter Tryz.func10, Tryz.ntmps10
  go_wp2_with (go_at_call 13; refine (HKD.out _).mono ?_; clear HKD; rintro e w1 ⟨rfl, rfl⟩)
  clear c1
  generalize w.alloc (.cells #[.int .i64 ak, .int .i64 ap, .string ax] 28) = wa at *
  generalize w.heap.size = p at *
  go_at_call 26
  refine (HUN.out _ _ H0.out).mono ?_
  clear HUN H0
  rintro e w2 ⟨rfl, h2⟩
  have H2 := hid h2
  have c2 := h2.wcell (i := 3) rfl
  clear h2
  go_wp2_with fail
  go_at_call 17
  refine (HCN.out _ _ H2.out).mono ?_
  clear HCN
  rintro e w3 ⟨b, rfl, h3, h4⟩
  have c3 := h3.wcell (i := 2) rfl
  have c4 := h3.free 2
  have H4 := hid h4
  clear h3 h4 H2 c2
  go_wp2_with fail
  go_ret
  exact ⟨rfl, b, b2, d, onD d, was, was, Wo.mono H4.out.wo (by omega), HP.out.undo, Nat.le_add_right _ _⟩
end

section
variable {w0 w : World} {g k q s b1 b2 n : Nat} {d : Ds} {f : Int → ByteArray} {N : Nat} {now was : Rsp}

set_option maxHeartbeats 4000000 in
theorem does_8 (ak ap : Int) (ax : ByteArray) (hap : I64 ap) (hkd : kd ak 10 = 8) (hE : Env w0) (hN : N < 4611686018427380000) (hz : Fit (d.lg.length + 5000)) (hp : Pl n d f now was) (h : Wo w0 w g k q s b1 b2 d f N now was) :
    Calls Tryz.prog 10 #[.pointer (some ⟨g, 0, none⟩), .agg #[.int .i64 ak, .int .i64 ap, .string ax]] w fun e V => e = .returned (.bool true) ∧ Ws w0 V g k q s n (N + 5) (d.lg.length + 4000) := by
  have HKD : Hid (∀ w1 : World, Calls Tryz.prog 13 #[.int .i64 ak, .int .i64 10] w1 fun e w' => e = .returned (.int .i64 8) ∧ w1 = w') := fun w1 => by have := kind_any ak 10 (by decide) w1; rw [hkd] at this; exact this
  obtain ⟨hok, hdn, hpg⟩ := h.good
  have hm : (f (mpg d)).size = 256 := hpg _ (mpg_pg hok)
  have H0 := hid (Wx.start h #[.int .i64 ak, .int .i64 ap, .string ax])
  have HP := hid hp
  have HLG : Hid (∀ w1 : World, _) := fun w1 => long_any ax 248 (by decide) w1
  have HS1 : Hid (∀ w1 p (x : ByteArray) f' N', Wx w0 w1 g k q s b1 b2 d f' N' now was p #[.int .i64 ak, .int .i64 ap, .string ax] → Calls Tryz.prog 29 #[.pointer (some ⟨s, 0, none⟩), .string x] w1 fun e V => e = .returned (.int .i64 (if x.size = 248 then 0 else 3 : Nat)) ∧ Wx w0 V g k q s b1 b2 d (if x.size = 248 then (fun b => if b = 0 then mkB d.bs.length ++ x else f' b) else f') N' now was p #[.int .i64 ak, .int .i64 ap, .string ax]) := fun w1 p x f' N' hh => hh.space hE fun S hs _ _ => setHead_sp x hs
  have HS3 : Hid (∀ w1 p (x : ByteArray) f' N' now', Wx w0 w1 g k q s b1 b2 d f' N' now' was p #[.int .i64 ak, .int .i64 ap, .string ax] → Calls Tryz.prog 29 #[.pointer (some ⟨s, 0, none⟩), .string x] w1 fun e V => e = .returned (.int .i64 (if x.size = 248 then 0 else 3 : Nat)) ∧ Wx w0 V g k q s b1 b2 d (if x.size = 248 then (fun b => if b = 0 then mkB d.bs.length ++ x else f' b) else f') N' now' was p #[.int .i64 ak, .int .i64 ap, .string ax]) := fun w1 p x f' N' now' hh => hh.space hE fun S hs _ _ => setHead_sp x hs
  have HS2 : Hid (∀ w1 p (x : ByteArray) f' N' now', Wx w0 w1 g k q s b1 b2 d f' N' now' was p #[.int .i64 ak, .int .i64 ap, .string ax] → Calls Tryz.prog 37 #[.pointer (some ⟨b1, 0, none⟩), .string x] w1 fun e V => e = .returned (.int .i64 (if x.size = 248 then 0 else 3 : Nat)) ∧ Wx w0 V g k q s b1 b2 d f' N' (if x.size = 248 then { now' with top := x } else now') was p #[.int .i64 ak, .int .i64 ap, .string ax]) := fun w1 p x f' N' now' hh => hh.ref fun R hr => rSetHead_any x hr
  have h248 := lng_size ax 248
  have hp1 := hp.hd (lng ax 248)
  generalize lng ax 248 = lx at *
  rw [if_pos h248, if_pos h248] at hp1
  obtain ⟨f1, hf1⟩ : ∃ f1 : Int → ByteArray, (fun b => if b = 0 then mkB d.bs.length ++ lx else f b) = f1 := ⟨_, rfl⟩
  obtain ⟨now1, hn1⟩ : ∃ now1 : Rsp, { now with top := lx } = now1 := ⟨_, rfl⟩
  rw [hf1, hn1] at hp1
  have HPL := hid (hp1.hd ax)
  clear hp1
  have HA1 : Hid (∀ w1 p, Wx w0 w1 g k q s b1 b2 d f N now was p #[.int .i64 ak, .int .i64 ap, .string ax] → Calls Tryz.prog 29 #[.pointer (some ⟨s, 0, none⟩), .string lx] w1 fun e V => e = .returned (.int .i64 0) ∧ Wx w0 V g k q s b1 b2 d f1 N now was p #[.int .i64 ak, .int .i64 ap, .string ax]) := fun w1 p hh => by
    have := HS1.out w1 p lx f N hh
    rw [if_pos h248, if_pos h248, hf1] at this
    exact this
  have HA2 : Hid (∀ w1 p, Wx w0 w1 g k q s b1 b2 d f1 N now was p #[.int .i64 ak, .int .i64 ap, .string ax] → Calls Tryz.prog 37 #[.pointer (some ⟨b1, 0, none⟩), .string lx] w1 fun e V => e = .returned (.int .i64 0) ∧ Wx w0 V g k q s b1 b2 d f1 N now1 was p #[.int .i64 ak, .int .i64 ap, .string ax]) := fun w1 p hh => by
    have := HS2.out w1 p lx f1 N now hh
    rw [if_pos h248, if_pos h248, hn1] at this
    exact this
  have HA3 : Hid (∀ w1 p, Wx w0 w1 g k q s b1 b2 d f1 N now1 was p #[.int .i64 ak, .int .i64 ap, .string ax] → _) := fun w1 p hh => HS3.out w1 p ax f1 N now1 hh
  have HA4 : Hid (∀ w1 p f', Wx w0 w1 g k q s b1 b2 d f' N now1 was p #[.int .i64 ak, .int .i64 ap, .string ax] → _) := fun w1 p f' hh => HS2.out w1 p ax f' N now1 hh
  obtain ⟨f2, hf2⟩ : ∃ f2 : Int → ByteArray, (if ax.size = 248 then (fun b => if b = 0 then mkB d.bs.length ++ ax else f1 b) else f1) = f2 := ⟨_, rfl⟩
  obtain ⟨now2, hn2⟩ : ∃ now2 : Rsp, (if ax.size = 248 then { now1 with top := ax } else now1) = now2 := ⟨_, rfl⟩
  rw [hf2] at HA3
  rw [hn2] at HA4
  rw [hf2, hn2] at HPL
  generalize (if ax.size = 248 then 0 else 3 : Nat) = pe at *
  clear hf1 hn1 hf2 hn2 HS1 HS2 HS3
  clear h hp hkd
  go_enter Tryz.func10, Tryz.ntmps10
  go_wp2_with (go_at_call 13; refine (HKD.out _).mono ?_; clear HKD; rintro e w1 ⟨rfl, rfl⟩)
  generalize w.alloc (.cells #[.int .i64 ak, .int .i64 ap, .string ax] 28) = wa at *
  generalize w.heap.size = p at *
  refine wp_region_d (fun w' => w'.cell? ⟨g, 1, none⟩ = some (.pointer (some ⟨s, 0, none⟩)) ∧ w'.cell? ⟨g, 2, none⟩ = some (.pointer (some ⟨b1, 0, none⟩)) ∧ w'.cell? ⟨p, 1, none⟩ = some (.int .i64 ap) ∧ w'.cell? ⟨p, 2, none⟩ = some (.string ax)) (fun _ => true) (by kernel_rfl) ?_
  have H0d := hid (H0.out.on ((Below.refl _ wa).drew))
  generalize wa.drew = wad at *
  have hS : _ ∧ _ ∧ _ ∧ _ := ⟨H0d.out.wcell (i := 1) rfl, H0d.out.wcell (i := 2) rfl, H0d.out.pcell (i := 1) rfl, H0d.out.pcell (i := 2) rfl⟩
  refine wpAnyM_pick (i := 0) (some 190) (v := ?vz1) rfl rfl (by kernel_rfl) (by kernel_rfl) (by kernel_rfl) (by kernel_rfl) (fun _ _ _ h => h) (Or.inl ⟨by rfl, ?hz1⟩) hS ?rz1
  case hz1 => intro w hSw; (try have hs1 := hSw.1); (try have hs2 := hSw.2); (try (obtain ⟨ha1, ha2, ha3, ha4⟩ := hSw)); go_simp; try with_reducible rfl
  try simp only [Act.put, List.setIfInBounds_toArray, List.set_cons_zero, List.set_cons_succ]
  refine wpAnyM_pick (i := 1) (some 191) (v := ?vz2) rfl rfl (by kernel_rfl) (by kernel_rfl) (by kernel_rfl) (by kernel_rfl) (fun _ _ _ h => h) (Or.inl ⟨by rfl, ?hz2⟩) hS ?rz2
  case hz2 => intro w hSw; (try have hs1 := hSw.1); (try have hs2 := hSw.2); (try (obtain ⟨ha1, ha2, ha3, ha4⟩ := hSw)); go_simp; try with_reducible rfl
  try simp only [Act.put, List.setIfInBounds_toArray, List.set_cons_zero, List.set_cons_succ]
  refine wpAnyM_pick (i := 2) (some 192) (v := ?vz3) rfl rfl (by kernel_rfl) (by kernel_rfl) (by kernel_rfl) (by kernel_rfl) (fun _ _ _ h => h) (Or.inl ⟨by rfl, ?hz3⟩) hS ?rz3
  case hz3 => intro w hSw; (try have hs1 := hSw.1); (try have hs2 := hSw.2); (try (obtain ⟨ha1, ha2, ha3, ha4⟩ := hSw)); go_simp; try with_reducible rfl
  try simp only [Act.put, List.setIfInBounds_toArray, List.set_cons_zero, List.set_cons_succ]
  refine wpAnyM_pick (i := 3) (some 193) (v := ?vz4) rfl rfl (by kernel_rfl) (by kernel_rfl) (by kernel_rfl) (by kernel_rfl) (fun _ _ _ h => h) (Or.inl ⟨by rfl, ?hz4⟩) hS ?rz4
  case hz4 => intro w hSw; (try have hs1 := hSw.1); (try have hs2 := hSw.2); (try (obtain ⟨ha1, ha2, ha3, ha4⟩ := hSw)); go_simp; try with_reducible rfl
  try simp only [Act.put, List.setIfInBounds_toArray, List.set_cons_zero, List.set_cons_succ]
  refine wpAnyM_pick (i := 4) (some 194) (v := ?vz5) rfl rfl (by kernel_rfl) (by kernel_rfl) (by kernel_rfl) (by kernel_rfl) (fun _ _ _ h => h) (Or.inl ⟨by rfl, ?hz5⟩) hS ?rz5
  case hz5 => intro w hSw; (try have hs1 := hSw.1); (try have hs2 := hSw.2); (try (obtain ⟨ha1, ha2, ha3, ha4⟩ := hSw)); go_simp; try with_reducible rfl
  try simp only [Act.put, List.setIfInBounds_toArray, List.set_cons_zero, List.set_cons_succ]
  refine wpAnyM_pick (i := 5) (some 195) (v := ?vz6) rfl rfl (by kernel_rfl) (by kernel_rfl) (by kernel_rfl) (by kernel_rfl) (fun _ _ _ h => h) (Or.inl ⟨by rfl, ?hz6⟩) hS ?rz6
  case hz6 => intro w hSw; (try have hs1 := hSw.1); (try have hs2 := hSw.2); (try (obtain ⟨ha1, ha2, ha3, ha4⟩ := hSw)); go_simp; try with_reducible rfl
  try simp only [Act.put, List.setIfInBounds_toArray, List.set_cons_zero, List.set_cons_succ]
  refine wpAnyM_pick (i := 8) (some 198) (v := ?vz7) rfl rfl (by kernel_rfl) (by kernel_rfl) (by kernel_rfl) (by kernel_rfl) (fun _ _ _ h => h) (Or.inl ⟨by rfl, ?hz7⟩) hS ?rz7
  case hz7 => intro w hSw; (try have hs1 := hSw.1); (try have hs2 := hSw.2); (try (obtain ⟨ha1, ha2, ha3, ha4⟩ := hSw)); go_simp; try with_reducible rfl
  try simp only [Act.put, List.setIfInBounds_toArray, List.set_cons_zero, List.set_cons_succ]
  refine wpAnyM_pick (i := 9) (some 199) (v := ?vz8) rfl rfl (by kernel_rfl) (by kernel_rfl) (by kernel_rfl) (by kernel_rfl) (fun _ _ _ h => h) (Or.inl ⟨by rfl, ?hz8⟩) hS ?rz8
  case hz8 => intro w hSw; (try have hs1 := hSw.1); (try have hs2 := hSw.2); (try (obtain ⟨ha1, ha2, ha3, ha4⟩ := hSw)); go_simp; try with_reducible rfl
  try simp only [Act.put, List.setIfInBounds_toArray, List.set_cons_zero, List.set_cons_succ]
  refine wpAnyM_pick (i := 10) (some 200) (v := ?vz9) rfl rfl (by kernel_rfl) (by kernel_rfl) (by kernel_rfl) (by kernel_rfl) (fun _ _ _ h => h) (Or.inl ⟨by rfl, ?hz9⟩) hS ?rz9
  case hz9 => intro w hSw; (try have hs1 := hSw.1); (try have hs2 := hSw.2); (try (obtain ⟨ha1, ha2, ha3, ha4⟩ := hSw)); go_simp; try with_reducible rfl
  try simp only [Act.put, List.setIfInBounds_toArray, List.set_cons_zero, List.set_cons_succ]
  refine wpAnyM_pick (i := 11) (some 201) (v := ?vz10) rfl rfl (by kernel_rfl) (by kernel_rfl) (by kernel_rfl) (by kernel_rfl) (fun _ _ _ h => h) (Or.inl ⟨by rfl, ?hz10⟩) hS ?rz10
  case hz10 => intro w hSw; (try have hs1 := hSw.1); (try have hs2 := hSw.2); (try (obtain ⟨ha1, ha2, ha3, ha4⟩ := hSw)); go_simp; try with_reducible rfl
  try simp only [Act.put, List.setIfInBounds_toArray, List.set_cons_zero, List.set_cons_succ]
  refine wpAnyM_pick (i := 12) (some 202) (v := ?vz11) rfl rfl (by kernel_rfl) (by kernel_rfl) (by kernel_rfl) (by kernel_rfl) (fun _ _ _ h => h) (Or.inl ⟨by rfl, ?hz11⟩) hS ?rz11
  case hz11 => intro w hSw; (try have hs1 := hSw.1); (try have hs2 := hSw.2); (try (obtain ⟨ha1, ha2, ha3, ha4⟩ := hSw)); go_simp; try with_reducible rfl
  try simp only [Act.put, List.setIfInBounds_toArray, List.set_cons_zero, List.set_cons_succ]
  refine wpAnyM_pick (i := 13) (some 203) (v := ?vz12) rfl rfl (by kernel_rfl) (by kernel_rfl) (by kernel_rfl) (by kernel_rfl) (fun _ _ _ h => h) (Or.inl ⟨by rfl, ?hz12⟩) hS ?rz12
  case hz12 => intro w hSw; (try have hs1 := hSw.1); (try have hs2 := hSw.2); (try (obtain ⟨ha1, ha2, ha3, ha4⟩ := hSw)); go_simp; try with_reducible rfl
  try simp only [Act.put, List.setIfInBounds_toArray, List.set_cons_zero, List.set_cons_succ]
  refine wpAnyM_one (i := 6) (by kernel_rfl) rfl (fun K hK => ?_)
  go_simp
  go_at_call 33
  refine (HLG.out _).mono ?_
  rintro e w2 ⟨rfl, hb2⟩
  have H2 := hid (H0d.out.on hb2)
  clear hb2 H0d
  clear hS
  have hS : _ ∧ _ ∧ _ ∧ _ := ⟨H2.out.wcell (i := 1) rfl, H2.out.wcell (i := 2) rfl, H2.out.pcell (i := 1) rfl, H2.out.pcell (i := 2) rfl⟩
  go_wp2_with fail
  refine hK.out _ _ (fun _ => hS) ?_
  clear hK K
  try simp only [Act.put, List.setIfInBounds_toArray, List.set_cons_zero, List.set_cons_succ]
  refine wpAnyM_one (i := 7) (by kernel_rfl) rfl (fun K hK => ?_)
  go_simp
  go_at_call 29
  refine (HA1.out _ _ H2.out).mono ?_
  rintro e w3 ⟨rfl, h3⟩
  have H3 := hid h3
  clear h3 H2 HA1
  clear hS
  have hS : _ ∧ _ ∧ _ ∧ _ := ⟨H3.out.wcell (i := 1) rfl, H3.out.wcell (i := 2) rfl, H3.out.pcell (i := 1) rfl, H3.out.pcell (i := 2) rfl⟩
  go_wp2_with fail
  refine hK.out _ _ (fun _ => hS) ?_
  clear hK K
  try simp only [Act.put, List.setIfInBounds_toArray, List.set_cons_zero, List.set_cons_succ]
  refine wpAnyM_one (i := 14) (by kernel_rfl) rfl (fun K hK => ?_)
  go_simp
  go_at_call 33
  refine (HLG.out _).mono ?_
  rintro e w4 ⟨rfl, hb4⟩
  have H4 := hid (H3.out.on hb4)
  clear hb4 H3
  clear hS
  have hS : _ ∧ _ ∧ _ ∧ _ := ⟨H4.out.wcell (i := 1) rfl, H4.out.wcell (i := 2) rfl, H4.out.pcell (i := 1) rfl, H4.out.pcell (i := 2) rfl⟩
  go_wp2_with fail
  refine hK.out _ _ (fun _ => hS) ?_
  clear hK K
  try simp only [Act.put, List.setIfInBounds_toArray, List.set_cons_zero, List.set_cons_succ]
  refine wpAnyM_one (i := 15) (by kernel_rfl) rfl (fun K hK => ?_)
  go_simp
  go_at_call 37
  refine (HA2.out _ _ H4.out).mono ?_
  rintro e w5 ⟨rfl, h5⟩
  have H5 := hid h5
  clear h5 H4 HA2
  clear hS
  have hS : _ ∧ _ ∧ _ ∧ _ := ⟨H5.out.wcell (i := 1) rfl, H5.out.wcell (i := 2) rfl, H5.out.pcell (i := 1) rfl, H5.out.pcell (i := 2) rfl⟩
  go_wp2_with fail
  refine hK.out _ _ (fun _ => hS) ?_
  clear hK K
  try simp only [Act.put, List.setIfInBounds_toArray, List.set_cons_zero, List.set_cons_succ]
  refine wpAnyM_pick (i := 16) (some 206) (v := ?vz13) rfl rfl (by kernel_rfl) (by kernel_rfl) (by kernel_rfl) (by kernel_rfl) (fun _ _ _ h => h) (Or.inl ⟨by rfl, ?hz13⟩) hS ?rz13
  case hz13 => intro w hSw; (try have hs1 := hSw.1); (try have hs2 := hSw.2); (try (obtain ⟨ha1, ha2, ha3, ha4⟩ := hSw)); go_simp; try with_reducible rfl
  try simp only [Act.put, List.setIfInBounds_toArray, List.set_cons_zero, List.set_cons_succ]
  refine wpAnyM_pick (i := 17) (some 207) (v := ?vz14) rfl rfl (by kernel_rfl) (by kernel_rfl) (by kernel_rfl) (by kernel_rfl) (fun _ _ _ h => h) (Or.inl ⟨by rfl, ?hz14⟩) hS ?rz14
  case hz14 => intro w hSw; (try have hs1 := hSw.1); (try have hs2 := hSw.2); (try (obtain ⟨ha1, ha2, ha3, ha4⟩ := hSw)); go_simp; try with_reducible rfl
  try simp only [Act.put, List.setIfInBounds_toArray, List.set_cons_zero, List.set_cons_succ]
  refine wpAnyM_pick (i := 18) (some 208) (v := ?vz15) rfl rfl (by kernel_rfl) (by kernel_rfl) (by kernel_rfl) (by kernel_rfl) (fun _ _ _ h => h) (Or.inl ⟨by rfl, ?hz15⟩) hS ?rz15
  case hz15 => intro w hSw; (try have hs1 := hSw.1); (try have hs2 := hSw.2); (try (obtain ⟨ha1, ha2, ha3, ha4⟩ := hSw)); go_simp; try with_reducible rfl
  try simp only [Act.put, List.setIfInBounds_toArray, List.set_cons_zero, List.set_cons_succ]
  refine wpAnyM_pick (i := 19) (some 209) (v := ?vz16) rfl rfl (by kernel_rfl) (by kernel_rfl) (by kernel_rfl) (by kernel_rfl) (fun _ _ _ h => h) (Or.inl ⟨by rfl, ?hz16⟩) hS ?rz16
  case hz16 => intro w hSw; (try have hs1 := hSw.1); (try have hs2 := hSw.2); (try (obtain ⟨ha1, ha2, ha3, ha4⟩ := hSw)); go_simp; try with_reducible rfl
  try simp only [Act.put, List.setIfInBounds_toArray, List.set_cons_zero, List.set_cons_succ]
  refine wpAnyM_pick (i := 20) (some 210) (v := ?vz17) rfl rfl (by kernel_rfl) (by kernel_rfl) (by kernel_rfl) (by kernel_rfl) (fun _ _ _ h => h) (Or.inl ⟨by rfl, ?hz17⟩) hS ?rz17
  case hz17 => intro w hSw; (try have hs1 := hSw.1); (try have hs2 := hSw.2); (try (obtain ⟨ha1, ha2, ha3, ha4⟩ := hSw)); go_simp; try with_reducible rfl
  try simp only [Act.put, List.setIfInBounds_toArray, List.set_cons_zero, List.set_cons_succ]
  refine wpAnyM_pick (i := 21) (some 211) (v := ?vz18) rfl rfl (by kernel_rfl) (by kernel_rfl) (by kernel_rfl) (by kernel_rfl) (fun _ _ _ h => h) (Or.inl ⟨by rfl, ?hz18⟩) hS ?rz18
  case hz18 => intro w hSw; (try have hs1 := hSw.1); (try have hs2 := hSw.2); (try (obtain ⟨ha1, ha2, ha3, ha4⟩ := hSw)); go_simp; try with_reducible rfl
  try simp only [Act.put, List.setIfInBounds_toArray, List.set_cons_zero, List.set_cons_succ]
  refine wpAnyM_pick (i := 22) (some 212) (v := ?vz19) rfl rfl (by kernel_rfl) (by kernel_rfl) (by kernel_rfl) (by kernel_rfl) (fun _ _ _ h => h) (Or.inl ⟨by rfl, ?hz19⟩) hS ?rz19
  case hz19 => intro w hSw; (try have hs1 := hSw.1); (try have hs2 := hSw.2); (try (obtain ⟨ha1, ha2, ha3, ha4⟩ := hSw)); go_simp; try with_reducible rfl
  try simp only [Act.put, List.setIfInBounds_toArray, List.set_cons_zero, List.set_cons_succ]
  refine wpAnyM_pick (i := 23) (some 213) (v := ?vz20) rfl rfl (by kernel_rfl) (by kernel_rfl) (by kernel_rfl) (by kernel_rfl) (fun _ _ _ h => h) (Or.inl ⟨by rfl, ?hz20⟩) hS ?rz20
  case hz20 => intro w hSw; (try have hs1 := hSw.1); (try have hs2 := hSw.2); (try (obtain ⟨ha1, ha2, ha3, ha4⟩ := hSw)); go_simp; try with_reducible rfl
  try simp only [Act.put, List.setIfInBounds_toArray, List.set_cons_zero, List.set_cons_succ]
  refine wpAnyM_pick (i := 25) (some 215) (v := ?vz21) rfl rfl (by kernel_rfl) (by kernel_rfl) (by kernel_rfl) (by kernel_rfl) (fun _ _ _ h => h) (Or.inl ⟨by rfl, ?hz21⟩) hS ?rz21
  case hz21 => intro w hSw; (try have hs1 := hSw.1); (try have hs2 := hSw.2); (try (obtain ⟨ha1, ha2, ha3, ha4⟩ := hSw)); go_simp; try with_reducible rfl
  try simp only [Act.put, List.setIfInBounds_toArray, List.set_cons_zero, List.set_cons_succ]
  refine wpAnyM_pick (i := 26) (some 216) (v := ?vz22) rfl rfl (by kernel_rfl) (by kernel_rfl) (by kernel_rfl) (by kernel_rfl) (fun _ _ _ h => h) (Or.inl ⟨by rfl, ?hz22⟩) hS ?rz22
  case hz22 => intro w hSw; (try have hs1 := hSw.1); (try have hs2 := hSw.2); (try (obtain ⟨ha1, ha2, ha3, ha4⟩ := hSw)); go_simp; try with_reducible rfl
  try simp only [Act.put, List.setIfInBounds_toArray, List.set_cons_zero, List.set_cons_succ]
  refine wpAnyM_pick (i := 27) (some 217) (v := ?vz23) rfl rfl (by kernel_rfl) (by kernel_rfl) (by kernel_rfl) (by kernel_rfl) (fun _ _ _ h => h) (Or.inl ⟨by rfl, ?hz23⟩) hS ?rz23
  case hz23 => intro w hSw; (try have hs1 := hSw.1); (try have hs2 := hSw.2); (try (obtain ⟨ha1, ha2, ha3, ha4⟩ := hSw)); go_simp; try with_reducible rfl
  try simp only [Act.put, List.setIfInBounds_toArray, List.set_cons_zero, List.set_cons_succ]
  refine wpAnyM_pick (i := 28) (some 218) (v := ?vz24) rfl rfl (by kernel_rfl) (by kernel_rfl) (by kernel_rfl) (by kernel_rfl) (fun _ _ _ h => h) (Or.inl ⟨by rfl, ?hz24⟩) hS ?rz24
  case hz24 => intro w hSw; (try have hs1 := hSw.1); (try have hs2 := hSw.2); (try (obtain ⟨ha1, ha2, ha3, ha4⟩ := hSw)); go_simp; try with_reducible rfl
  try simp only [Act.put, List.setIfInBounds_toArray, List.set_cons_zero, List.set_cons_succ]
  refine wpAnyM_pick (i := 29) (some 219) (v := ?vz25) rfl rfl (by kernel_rfl) (by kernel_rfl) (by kernel_rfl) (by kernel_rfl) (fun _ _ _ h => h) (Or.inl ⟨by rfl, ?hz25⟩) hS ?rz25
  case hz25 => intro w hSw; (try have hs1 := hSw.1); (try have hs2 := hSw.2); (try (obtain ⟨ha1, ha2, ha3, ha4⟩ := hSw)); go_simp; try with_reducible rfl
  try simp only [Act.put, List.setIfInBounds_toArray, List.set_cons_zero, List.set_cons_succ]
  refine wpAnyM_pick (i := 30) (some 220) (v := ?vz26) rfl rfl (by kernel_rfl) (by kernel_rfl) (by kernel_rfl) (by kernel_rfl) (fun _ _ _ h => h) (Or.inl ⟨by rfl, ?hz26⟩) hS ?rz26
  case hz26 => intro w hSw; (try have hs1 := hSw.1); (try have hs2 := hSw.2); (try (obtain ⟨ha1, ha2, ha3, ha4⟩ := hSw)); go_simp; try with_reducible rfl
  try simp only [Act.put, List.setIfInBounds_toArray, List.set_cons_zero, List.set_cons_succ]
  refine wpAnyM_one (i := 24) (by kernel_rfl) rfl (fun K hK => ?_)
  go_simp
  go_at_call 29
  refine (HA3.out _ _ H5.out).mono ?_
  rintro e w6 ⟨rfl, h6⟩
  have H6 := hid h6
  clear h6 H5 HA3
  clear hS
  have hS : _ ∧ _ ∧ _ ∧ _ := ⟨H6.out.wcell (i := 1) rfl, H6.out.wcell (i := 2) rfl, H6.out.pcell (i := 1) rfl, H6.out.pcell (i := 2) rfl⟩
  go_wp2_with fail
  refine hK.out _ _ (fun _ => hS) ?_
  clear hK K
  try simp only [Act.put, List.setIfInBounds_toArray, List.set_cons_zero, List.set_cons_succ]
  refine wpAnyM_one (i := 31) (by kernel_rfl) rfl (fun K hK => ?_)
  go_simp
  go_at_call 37
  refine (HA4.out _ _ _ H6.out).mono ?_
  rintro e w7 ⟨rfl, h7⟩
  have H7 := hid h7
  clear h7 H6 HA4
  clear hS
  have hS : _ ∧ _ ∧ _ ∧ _ := ⟨H7.out.wcell (i := 1) rfl, H7.out.wcell (i := 2) rfl, H7.out.pcell (i := 1) rfl, H7.out.pcell (i := 2) rfl⟩
  go_wp2_with fail
  refine hK.out _ _ (fun _ => hS) ?_
  clear hK K
  try simp only [Act.put, List.setIfInBounds_toArray, List.set_cons_zero, List.set_cons_succ]
  refine wpAnyM_pick (i := 32) (some 222) (v := ?vz27) rfl rfl (by kernel_rfl) (by kernel_rfl) (by kernel_rfl) (by kernel_rfl) (fun _ _ _ h => h) (Or.inl ⟨by rfl, ?hz27⟩) hS ?rz27
  case hz27 => intro w hSw; (try have hs1 := hSw.1); (try have hs2 := hSw.2); (try (obtain ⟨ha1, ha2, ha3, ha4⟩ := hSw)); go_simp; try with_reducible rfl
  try simp only [Act.put, List.setIfInBounds_toArray, List.set_cons_zero, List.set_cons_succ]
  refine wpAnyM_pick (i := 33) (some 223) (v := ?vz28) rfl rfl (by kernel_rfl) (by kernel_rfl) (by kernel_rfl) (by kernel_rfl) (fun _ _ _ h => h) (Or.inl ⟨by rfl, ?hz28⟩) hS ?rz28
  case hz28 => intro w hSw; (try have hs1 := hSw.1); (try have hs2 := hSw.2); (try (obtain ⟨ha1, ha2, ha3, ha4⟩ := hSw)); go_simp; try with_reducible rfl
  try simp only [Act.put, List.setIfInBounds_toArray, List.set_cons_zero, List.set_cons_succ]
  refine wpAnyM_pick (i := 34) (some 4) (v := ?vz29) rfl rfl (by kernel_rfl) (by kernel_rfl) (by kernel_rfl) (by kernel_rfl) (fun _ _ _ h => h) (Or.inl ⟨by rfl, ?hz29⟩) hS ?rz29
  case hz29 => intro w hSw; (try have hs1 := hSw.1); (try have hs2 := hSw.2); (try (obtain ⟨ha1, ha2, ha3, ha4⟩ := hSw)); go_simp; try with_reducible rfl
  try simp only [Act.put, List.setIfInBounds_toArray, List.set_cons_zero, List.set_cons_succ]
  refine wpAnyM_done (by kernel_rfl) ?_ _
  try simp only [Act.put, List.setIfInBounds_toArray, List.set_cons_zero, List.set_cons_succ]
  clear hS
  go_wp2_with fail
  go_ret
  exact ⟨rfl, b1, b2, d, f2, now2, was, Wo.mono H7.out.wo (by omega), HPL.out, Nat.le_add_right _ _⟩
end

section
variable {w0 w : World} {g k q s b1 b2 n : Nat} {d : Ds} {f : Int → ByteArray} {N : Nat} {now was : Rsp}

set_option maxHeartbeats 4000000 in
theorem does_9 (ak ap : Int) (ax : ByteArray) (hap : I64 ap) (hkd : kd ak 10 = 9) (hE : Env w0) (hN : N < 4611686018427380000) (hz : Fit (d.lg.length + 5000)) (hp : Pl n d f now was) (h : Wo w0 w g k q s b1 b2 d f N now was) :
    Calls Tryz.prog 10 #[.pointer (some ⟨g, 0, none⟩), .agg #[.int .i64 ak, .int .i64 ap, .string ax]] w fun e V => e = .returned (.bool true) ∧ Ws w0 V g k q s n (N + 5) (d.lg.length + 4000) := by
  have HKD : Hid (∀ w1 : World, Calls Tryz.prog 13 #[.int .i64 ak, .int .i64 10] w1 fun e w' => e = .returned (.int .i64 9) ∧ w1 = w') := fun w1 => by have := kind_any ak 10 (by decide) w1; rw [hkd] at this; exact this
  obtain ⟨hok, hdn, hpg⟩ := h.good
  have hm : (f (mpg d)).size = 256 := hpg _ (mpg_pg hok)
  have H0 := hid (Wx.start h #[.int .i64 ak, .int .i64 ap, .string ax])
  have HP := hid hp
  have ht := hp.sh.top
  have HHD : Hid (∀ w1 p, Wx w0 w1 g k q s b1 b2 d f N now was p #[.int .i64 ak, .int .i64 ap, .string ax] → Calls Tryz.prog 27 #[.pointer (some ⟨s, 0, none⟩)] w1 fun e V => e = .returned (.tuple #[.string now.top, .int .i64 0]) ∧ Wx w0 V g k q s b1 b2 d f (N + 1) now was p #[.int .i64 ak, .int .i64 ap, .string ax]) := fun w1 p hh => by
    rw [← ht]
    exact hh.space hE fun S hs _ _ => head_sp (by omega) hs
  have HTT : Hid (∀ w1 p, Wx w0 w1 g k q s b1 b2 d f (N + 1) now was p #[.int .i64 ak, .int .i64 ap, .string ax] → w1.cell? ⟨b1, 1, none⟩ = some (.string now.top)) := fun w1 p hh => hh.top
  clear ht
  generalize now.top = tp at *
  have hq : (tp.toList == tp.toList) = true := by simp
  have c1 := H0.out.wcell (i := 1) rfl
  clear h hp hkd
  go_enter Tryz.func10, Tryz.ntmps10
  go_wp2_with (go_at_call 13; refine (HKD.out _).mono ?_; clear HKD; rintro e w1 ⟨rfl, rfl⟩)
  clear c1
  generalize w.alloc (.cells #[.int .i64 ak, .int .i64 ap, .string ax] 28) = wa at *
  generalize w.heap.size = p at *
  go_at_call 27
  refine (HHD.out _ _ H0.out).mono ?_
  clear HHD H0
  rintro e w2 ⟨rfl, h2⟩
  have H2 := hid h2
  have c2 : w2.cell? ⟨g, 2, none⟩ = some (.pointer (some ⟨b1, 0, none⟩)) := h2.wcell (i := 2) rfl
  have c3 := HTT.out _ _ h2
  clear h2
  go_wp2_with fail
  go_ret
  exact ⟨rfl, b1, b2, d, f, now, was, Wo.mono H2.out.wo (by omega), HP.out, Nat.le_add_right _ _⟩
end

end Go.Proofs.YtglallhblcjffaaGreatDoor
