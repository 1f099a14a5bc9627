/-
  An act, done to both: kind 4.
-/
import Derived.Test.YtglallhblcjffaaGreatDoorTz
namespace Go.Proofs.YtglallhblcjffaaGreatDoor
open Go.RowKit
set_option linter.unusedVariables false
set_option linter.unusedSimpArgs false
set_option maxRecDepth 100000

section
variable {w0 w : World} {g k q s b1 b2 n : Nat} {d : Ds} {f : Int → ByteArray} {N : Nat} {now was : Rsp}

set_option maxHeartbeats 4000000 in
theorem does_0 (ak ap : Int) (ax : ByteArray) (hap : I64 ap) (hkd : kd ak 10 = 0) (hE : Env w0) (hN : N < 4611686018427380000) (hz : Fit (d.lg.length + 5000)) (hp : Pl n d f now was) (h : Wo w0 w g k q s b1 b2 d f N now was) :
    Calls Tryz.prog 10 #[.pointer (some ⟨g, 0, none⟩), .agg #[.int .i64 ak, .int .i64 ap, .string ax]] w fun e V => e = .returned (.bool true) ∧ Ws w0 V g k q s n (N + 5) (d.lg.length + 4000) := by
  have HKD : Hid (∀ w1 : World, Calls Tryz.prog 13 #[.int .i64 ak, .int .i64 10] w1 fun e w' => e = .returned (.int .i64 0) ∧ w1 = w') := fun w1 => by have := kind_any ak 10 (by decide) w1; rw [hkd] at this; exact this
  obtain ⟨hok, hdn, hpg⟩ := h.good
  have hm : (f (mpg d)).size = 256 := hpg _ (mpg_pg hok)
  have H0 := hid (Wx.start h #[.int .i64 ak, .int .i64 ap, .string ax])
  have HP := hid hp
  obtain ⟨e1, e2⟩ := hp.get ap
  have HGT : Hid (∀ w1 p, Wx w0 w1 g k q s b1 b2 d f N now was p #[.int .i64 ak, .int .i64 ap, .string ax] → Calls Tryz.prog 28 #[.pointer (some ⟨s, 0, none⟩), .int .i64 ap] w1 fun e V => e = .returned (.tuple #[.string (now.gS ap), .int .i64 (now.gE ap : Nat)]) ∧ Wx w0 V g k q s b1 b2 d f (N + 2) now was p #[.int .i64 ak, .int .i64 ap, .string ax]) := fun w1 p hh => by
    rw [← e1, ← e2]
    exact hh.space hE fun S hs he h0 => get_sp ap he h0 (by omega) hs
  have HRG : Hid (∀ w1 p, Wx w0 w1 g k q s b1 b2 d f (N + 2) now was p #[.int .i64 ak, .int .i64 ap, .string ax] → Calls Tryz.prog 32 #[.pointer (some ⟨b1, 0, none⟩), .int .i64 ap] w1 fun e V => e = .returned (.tuple #[.string (now.gS ap), .int .i64 (now.gE ap : Nat)]) ∧ Wx w0 V g k q s b1 b2 d f (N + 2) now was p #[.int .i64 ak, .int .i64 ap, .string ax]) := fun w1 p hh => hh.refRead fun R hr => rGet_any ap hap HP.out.ok1 hr
  clear e1 e2
  generalize now.gS ap = xs at *
  generalize now.gE ap = xe at *
  have hq : (xs.toList == xs.toList) = true := by simp
  clear h hp hkd
  go_enter Tryz.func10, Tryz.ntmps10
  go_wp2_with (go_at_call 13; refine (HKD.out _).mono ?_; clear HKD; rintro e w1 ⟨rfl, rfl⟩)
  generalize w.alloc (.cells #[.int .i64 ak, .int .i64 ap, .string ax] 28) = wa at *
  generalize w.heap.size = p at *
  refine wp_region_d (fun w' => w'.cell? ⟨g, 1, none⟩ = some (.pointer (some ⟨s, 0, none⟩)) ∧ w'.cell? ⟨g, 2, none⟩ = some (.pointer (some ⟨b1, 0, none⟩)) ∧ w'.cell? ⟨p, 1, none⟩ = some (.int .i64 ap) ∧ w'.cell? ⟨p, 2, none⟩ = some (.string ax)) (fun _ => true) (by kernel_rfl) ?_
  have H0d := hid (H0.out.on ((Below.refl _ wa).drew))
  generalize wa.drew = wad at *
  have hS : _ ∧ _ ∧ _ ∧ _ := ⟨H0d.out.wcell (i := 1) rfl, H0d.out.wcell (i := 2) rfl, H0d.out.pcell (i := 1) rfl, H0d.out.pcell (i := 2) rfl⟩
  refine wpAnyM_pick (i := 0) (some 42) (v := ?vz1) rfl rfl (by kernel_rfl) (by kernel_rfl) (by kernel_rfl) (by kernel_rfl) (fun _ _ _ h => h) (Or.inl ⟨by rfl, ?hz1⟩) hS ?rz1
  case hz1 => intro w hSw; (try have hs1 := hSw.1); (try have hs2 := hSw.2); (try (obtain ⟨ha1, ha2, ha3, ha4⟩ := hSw)); go_simp; try with_reducible rfl
  try simp only [Act.put, List.setIfInBounds_toArray, List.set_cons_zero, List.set_cons_succ]
  refine wpAnyM_pick (i := 1) (some 43) (v := ?vz2) rfl rfl (by kernel_rfl) (by kernel_rfl) (by kernel_rfl) (by kernel_rfl) (fun _ _ _ h => h) (Or.inl ⟨by rfl, ?hz2⟩) hS ?rz2
  case hz2 => intro w hSw; (try have hs1 := hSw.1); (try have hs2 := hSw.2); (try (obtain ⟨ha1, ha2, ha3, ha4⟩ := hSw)); go_simp; try with_reducible rfl
  try simp only [Act.put, List.setIfInBounds_toArray, List.set_cons_zero, List.set_cons_succ]
  refine wpAnyM_pick (i := 2) (some 44) (v := ?vz3) rfl rfl (by kernel_rfl) (by kernel_rfl) (by kernel_rfl) (by kernel_rfl) (fun _ _ _ h => h) (Or.inl ⟨by rfl, ?hz3⟩) hS ?rz3
  case hz3 => intro w hSw; (try have hs1 := hSw.1); (try have hs2 := hSw.2); (try (obtain ⟨ha1, ha2, ha3, ha4⟩ := hSw)); go_simp; try with_reducible rfl
  try simp only [Act.put, List.setIfInBounds_toArray, List.set_cons_zero, List.set_cons_succ]
  refine wpAnyM_pick (i := 3) (some 45) (v := ?vz4) rfl rfl (by kernel_rfl) (by kernel_rfl) (by kernel_rfl) (by kernel_rfl) (fun _ _ _ h => h) (Or.inl ⟨by rfl, ?hz4⟩) hS ?rz4
  case hz4 => intro w hSw; (try have hs1 := hSw.1); (try have hs2 := hSw.2); (try (obtain ⟨ha1, ha2, ha3, ha4⟩ := hSw)); go_simp; try with_reducible rfl
  try simp only [Act.put, List.setIfInBounds_toArray, List.set_cons_zero, List.set_cons_succ]
  refine wpAnyM_pick (i := 4) (some 46) (v := ?vz5) rfl rfl (by kernel_rfl) (by kernel_rfl) (by kernel_rfl) (by kernel_rfl) (fun _ _ _ h => h) (Or.inl ⟨by rfl, ?hz5⟩) hS ?rz5
  case hz5 => intro w hSw; (try have hs1 := hSw.1); (try have hs2 := hSw.2); (try (obtain ⟨ha1, ha2, ha3, ha4⟩ := hSw)); go_simp; try with_reducible rfl
  try simp only [Act.put, List.setIfInBounds_toArray, List.set_cons_zero, List.set_cons_succ]
  refine wpAnyM_pick (i := 5) (some 47) (v := ?vz6) rfl rfl (by kernel_rfl) (by kernel_rfl) (by kernel_rfl) (by kernel_rfl) (fun _ _ _ h => h) (Or.inl ⟨by rfl, ?hz6⟩) hS ?rz6
  case hz6 => intro w hSw; (try have hs1 := hSw.1); (try have hs2 := hSw.2); (try (obtain ⟨ha1, ha2, ha3, ha4⟩ := hSw)); go_simp; try with_reducible rfl
  try simp only [Act.put, List.setIfInBounds_toArray, List.set_cons_zero, List.set_cons_succ]
  refine wpAnyM_one (i := 6) (by kernel_rfl) rfl (fun K hK => ?_)
  go_simp
  go_at_call 28
  refine (HGT.out _ _ H0d.out).mono ?_
  rintro e w2 ⟨rfl, h2⟩
  have H2 := hid h2
  clear h2 H0d
  clear hS
  have hS : _ ∧ _ ∧ _ ∧ _ := ⟨H2.out.wcell (i := 1) rfl, H2.out.wcell (i := 2) rfl, H2.out.pcell (i := 1) rfl, H2.out.pcell (i := 2) rfl⟩
  go_wp2_with fail
  refine hK.out _ _ (fun _ => hS) ?_
  clear hK K
  try simp only [Act.put, List.setIfInBounds_toArray, List.set_cons_zero, List.set_cons_succ]
  refine wpAnyM_pick (i := 7) (some 41) (v := ?vz7) rfl rfl (by kernel_rfl) (by kernel_rfl) (by kernel_rfl) (by kernel_rfl) (fun _ _ _ h => h) (Or.inl ⟨by rfl, ?hz7⟩) hS ?rz7
  case hz7 => intro w hSw; (try have hs1 := hSw.1); (try have hs2 := hSw.2); (try (obtain ⟨ha1, ha2, ha3, ha4⟩ := hSw)); go_simp; try with_reducible rfl
  try simp only [Act.put, List.setIfInBounds_toArray, List.set_cons_zero, List.set_cons_succ]
  refine wpAnyM_pick (i := 8) (some 49) (v := ?vz8) rfl rfl (by kernel_rfl) (by kernel_rfl) (by kernel_rfl) (by kernel_rfl) (fun _ _ _ h => h) (Or.inl ⟨by rfl, ?hz8⟩) hS ?rz8
  case hz8 => intro w hSw; (try have hs1 := hSw.1); (try have hs2 := hSw.2); (try (obtain ⟨ha1, ha2, ha3, ha4⟩ := hSw)); go_simp; try with_reducible rfl
  try simp only [Act.put, List.setIfInBounds_toArray, List.set_cons_zero, List.set_cons_succ]
  refine wpAnyM_pick (i := 9) (some 50) (v := ?vz9) rfl rfl (by kernel_rfl) (by kernel_rfl) (by kernel_rfl) (by kernel_rfl) (fun _ _ _ h => h) (Or.inl ⟨by rfl, ?hz9⟩) hS ?rz9
  case hz9 => intro w hSw; (try have hs1 := hSw.1); (try have hs2 := hSw.2); (try (obtain ⟨ha1, ha2, ha3, ha4⟩ := hSw)); go_simp; try with_reducible rfl
  try simp only [Act.put, List.setIfInBounds_toArray, List.set_cons_zero, List.set_cons_succ]
  refine wpAnyM_pick (i := 10) (some 5) (v := ?vz10) rfl rfl (by kernel_rfl) (by kernel_rfl) (by kernel_rfl) (by kernel_rfl) (fun _ _ _ h => h) (Or.inl ⟨by rfl, ?hz10⟩) hS ?rz10
  case hz10 => intro w hSw; (try have hs1 := hSw.1); (try have hs2 := hSw.2); (try (obtain ⟨ha1, ha2, ha3, ha4⟩ := hSw)); go_simp; try with_reducible rfl
  try simp only [Act.put, List.setIfInBounds_toArray, List.set_cons_zero, List.set_cons_succ]
  refine wpAnyM_pick (i := 11) (some 6) (v := ?vz11) rfl rfl (by kernel_rfl) (by kernel_rfl) (by kernel_rfl) (by kernel_rfl) (fun _ _ _ h => h) (Or.inl ⟨by rfl, ?hz11⟩) hS ?rz11
  case hz11 => intro w hSw; (try have hs1 := hSw.1); (try have hs2 := hSw.2); (try (obtain ⟨ha1, ha2, ha3, ha4⟩ := hSw)); go_simp; try with_reducible rfl
  try simp only [Act.put, List.setIfInBounds_toArray, List.set_cons_zero, List.set_cons_succ]
  refine wpAnyM_done (by kernel_rfl) ?_ _
  try simp only [Act.put, List.setIfInBounds_toArray, List.set_cons_zero, List.set_cons_succ]
  clear hS
  go_wp2_with fail
  refine wp_region_d (fun w' => w'.cell? ⟨g, 1, none⟩ = some (.pointer (some ⟨s, 0, none⟩)) ∧ w'.cell? ⟨g, 2, none⟩ = some (.pointer (some ⟨b1, 0, none⟩)) ∧ w'.cell? ⟨p, 1, none⟩ = some (.int .i64 ap) ∧ w'.cell? ⟨p, 2, none⟩ = some (.string ax)) (fun _ => true) (by kernel_rfl) ?_
  have H2d := hid (H2.out.on ((Below.refl _ w2).drew))
  generalize w2.drew = w2d at *
  have hS : _ ∧ _ ∧ _ ∧ _ := ⟨H2d.out.wcell (i := 1) rfl, H2d.out.wcell (i := 2) rfl, H2d.out.pcell (i := 1) rfl, H2d.out.pcell (i := 2) rfl⟩
  refine wpAnyM_pick (i := 0) (some 52) (v := ?vz12) rfl rfl (by kernel_rfl) (by kernel_rfl) (by kernel_rfl) (by kernel_rfl) (fun _ _ _ h => h) (Or.inl ⟨by rfl, ?hz12⟩) hS ?rz12
  case hz12 => intro w hSw; (try have hs1 := hSw.1); (try have hs2 := hSw.2); (try (obtain ⟨ha1, ha2, ha3, ha4⟩ := hSw)); go_simp; try with_reducible rfl
  try simp only [Act.put, List.setIfInBounds_toArray, List.set_cons_zero, List.set_cons_succ]
  refine wpAnyM_pick (i := 1) (some 53) (v := ?vz13) rfl rfl (by kernel_rfl) (by kernel_rfl) (by kernel_rfl) (by kernel_rfl) (fun _ _ _ h => h) (Or.inl ⟨by rfl, ?hz13⟩) hS ?rz13
  case hz13 => intro w hSw; (try have hs1 := hSw.1); (try have hs2 := hSw.2); (try (obtain ⟨ha1, ha2, ha3, ha4⟩ := hSw)); go_simp; try with_reducible rfl
  try simp only [Act.put, List.setIfInBounds_toArray, List.set_cons_zero, List.set_cons_succ]
  refine wpAnyM_pick (i := 2) (some 54) (v := ?vz14) rfl rfl (by kernel_rfl) (by kernel_rfl) (by kernel_rfl) (by kernel_rfl) (fun _ _ _ h => h) (Or.inl ⟨by rfl, ?hz14⟩) hS ?rz14
  case hz14 => intro w hSw; (try have hs1 := hSw.1); (try have hs2 := hSw.2); (try (obtain ⟨ha1, ha2, ha3, ha4⟩ := hSw)); go_simp; try with_reducible rfl
  try simp only [Act.put, List.setIfInBounds_toArray, List.set_cons_zero, List.set_cons_succ]
  refine wpAnyM_pick (i := 3) (some 55) (v := ?vz15) rfl rfl (by kernel_rfl) (by kernel_rfl) (by kernel_rfl) (by kernel_rfl) (fun _ _ _ h => h) (Or.inl ⟨by rfl, ?hz15⟩) hS ?rz15
  case hz15 => intro w hSw; (try have hs1 := hSw.1); (try have hs2 := hSw.2); (try (obtain ⟨ha1, ha2, ha3, ha4⟩ := hSw)); go_simp; try with_reducible rfl
  try simp only [Act.put, List.setIfInBounds_toArray, List.set_cons_zero, List.set_cons_succ]
  refine wpAnyM_pick (i := 4) (some 56) (v := ?vz16) rfl rfl (by kernel_rfl) (by kernel_rfl) (by kernel_rfl) (by kernel_rfl) (fun _ _ _ h => h) (Or.inl ⟨by rfl, ?hz16⟩) hS ?rz16
  case hz16 => intro w hSw; (try have hs1 := hSw.1); (try have hs2 := hSw.2); (try (obtain ⟨ha1, ha2, ha3, ha4⟩ := hSw)); go_simp; try with_reducible rfl
  try simp only [Act.put, List.setIfInBounds_toArray, List.set_cons_zero, List.set_cons_succ]
  refine wpAnyM_pick (i := 5) (some 57) (v := ?vz17) rfl rfl (by kernel_rfl) (by kernel_rfl) (by kernel_rfl) (by kernel_rfl) (fun _ _ _ h => h) (Or.inl ⟨by rfl, ?hz17⟩) hS ?rz17
  case hz17 => intro w hSw; (try have hs1 := hSw.1); (try have hs2 := hSw.2); (try (obtain ⟨ha1, ha2, ha3, ha4⟩ := hSw)); go_simp; try with_reducible rfl
  try simp only [Act.put, List.setIfInBounds_toArray, List.set_cons_zero, List.set_cons_succ]
  refine wpAnyM_one (i := 6) (by kernel_rfl) rfl (fun K hK => ?_)
  go_simp
  go_at_call 32
  refine (HRG.out _ _ H2d.out).mono ?_
  rintro e w3 ⟨rfl, h3⟩
  have H3 := hid h3
  clear h3 H2d
  clear hS
  have hS : _ ∧ _ ∧ _ ∧ _ := ⟨H3.out.wcell (i := 1) rfl, H3.out.wcell (i := 2) rfl, H3.out.pcell (i := 1) rfl, H3.out.pcell (i := 2) rfl⟩
  go_wp2_with fail
  refine hK.out _ _ (fun _ => hS) ?_
  clear hK K
  try simp only [Act.put, List.setIfInBounds_toArray, List.set_cons_zero, List.set_cons_succ]
  refine wpAnyM_pick (i := 7) (some 51) (v := ?vz18) rfl rfl (by kernel_rfl) (by kernel_rfl) (by kernel_rfl) (by kernel_rfl) (fun _ _ _ h => h) (Or.inl ⟨by rfl, ?hz18⟩) hS ?rz18
  case hz18 => intro w hSw; (try have hs1 := hSw.1); (try have hs2 := hSw.2); (try (obtain ⟨ha1, ha2, ha3, ha4⟩ := hSw)); go_simp; try with_reducible rfl
  try simp only [Act.put, List.setIfInBounds_toArray, List.set_cons_zero, List.set_cons_succ]
  refine wpAnyM_pick (i := 8) (some 59) (v := ?vz19) rfl rfl (by kernel_rfl) (by kernel_rfl) (by kernel_rfl) (by kernel_rfl) (fun _ _ _ h => h) (Or.inl ⟨by rfl, ?hz19⟩) hS ?rz19
  case hz19 => intro w hSw; (try have hs1 := hSw.1); (try have hs2 := hSw.2); (try (obtain ⟨ha1, ha2, ha3, ha4⟩ := hSw)); go_simp; try with_reducible rfl
  try simp only [Act.put, List.setIfInBounds_toArray, List.set_cons_zero, List.set_cons_succ]
  refine wpAnyM_pick (i := 9) (some 60) (v := ?vz20) rfl rfl (by kernel_rfl) (by kernel_rfl) (by kernel_rfl) (by kernel_rfl) (fun _ _ _ h => h) (Or.inl ⟨by rfl, ?hz20⟩) hS ?rz20
  case hz20 => intro w hSw; (try have hs1 := hSw.1); (try have hs2 := hSw.2); (try (obtain ⟨ha1, ha2, ha3, ha4⟩ := hSw)); go_simp; try with_reducible rfl
  try simp only [Act.put, List.setIfInBounds_toArray, List.set_cons_zero, List.set_cons_succ]
  refine wpAnyM_pick (i := 10) (some 7) (v := ?vz21) rfl rfl (by kernel_rfl) (by kernel_rfl) (by kernel_rfl) (by kernel_rfl) (fun _ _ _ h => h) (Or.inl ⟨by rfl, ?hz21⟩) hS ?rz21
  case hz21 => intro w hSw; (try have hs1 := hSw.1); (try have hs2 := hSw.2); (try (obtain ⟨ha1, ha2, ha3, ha4⟩ := hSw)); go_simp; try with_reducible rfl
  try simp only [Act.put, List.setIfInBounds_toArray, List.set_cons_zero, List.set_cons_succ]
  refine wpAnyM_pick (i := 11) (some 8) (v := ?vz22) rfl rfl (by kernel_rfl) (by kernel_rfl) (by kernel_rfl) (by kernel_rfl) (fun _ _ _ h => h) (Or.inl ⟨by rfl, ?hz22⟩) hS ?rz22
  case hz22 => intro w hSw; (try have hs1 := hSw.1); (try have hs2 := hSw.2); (try (obtain ⟨ha1, ha2, ha3, ha4⟩ := hSw)); go_simp; try with_reducible rfl
  try simp only [Act.put, List.setIfInBounds_toArray, List.set_cons_zero, List.set_cons_succ]
  refine wpAnyM_done (by kernel_rfl) ?_ _
  try simp only [Act.put, List.setIfInBounds_toArray, List.set_cons_zero, List.set_cons_succ]
  clear hS
  go_wp2_with fail
  go_ret
  exact ⟨rfl, b1, b2, d, f, now, was, Wo.mono H3.out.wo (by omega), HP.out, Nat.le_add_right _ _⟩
end

section
variable {w0 w : World} {g k q s b1 b2 n : Nat} {d : Ds} {f : Int → ByteArray} {N : Nat} {now was : Rsp}

set_option maxHeartbeats 4000000 in
theorem does_1 (ak ap : Int) (ax : ByteArray) (hap : I64 ap) (hkd : kd ak 10 = 1) (hE : Env w0) (hN : N < 4611686018427380000) (hz : Fit (d.lg.length + 5000)) (hp : Pl n d f now was) (h : Wo w0 w g k q s b1 b2 d f N now was) :
    Calls Tryz.prog 10 #[.pointer (some ⟨g, 0, none⟩), .agg #[.int .i64 ak, .int .i64 ap, .string ax]] w fun e V => e = .returned (.bool true) ∧ Ws w0 V g k q s n (N + 5) (d.lg.length + 4000) := by
  have HKD : Hid (∀ w1 : World, Calls Tryz.prog 13 #[.int .i64 ak, .int .i64 10] w1 fun e w' => e = .returned (.int .i64 1) ∧ w1 = w') := fun w1 => by have := kind_any ak 10 (by decide) w1; rw [hkd] at this; exact this
  obtain ⟨hok, hdn, hpg⟩ := h.good
  have hm : (f (mpg d)).size = 256 := hpg _ (mpg_pg hok)
  have H0 := hid (Wx.start h #[.int .i64 ak, .int .i64 ap, .string ax])
  have HP := hid hp
  have HLG : Hid (∀ w1 : World, _) := fun w1 => long_any ax 256 (by decide) w1
  generalize lng ax 256 = lx at *
  obtain ⟨he, hpl⟩ := hp.put ap lx
  have HPU : Hid (∀ w1 p, Wx w0 w1 g k q s b1 b2 d f N now was p #[.int .i64 ak, .int .i64 ap, .string ax] → Calls Tryz.prog 30 #[.pointer (some ⟨s, 0, none⟩), .int .i64 ap, .string lx] w1 fun e V => e = .returned (.int .i64 (now.pE ap lx : Nat)) ∧ Wx w0 V g k q s b1 b2 d (if ptE d f ap lx = 0 then (fun b => if b = ap then lx else f b) else f) (N + 2) now was p #[.int .i64 ak, .int .i64 ap, .string ax]) := fun w1 p hh => by
    have := hh.space (F := fun e V => e = .returned (.int .i64 (ptE d f ap lx : Nat))) hE fun S hs hee h0 => put_sp ap lx hee h0 (by omega) hs
    rw [he] at this ⊢
    exact this
  have HRP : Hid (∀ w1 p f' N', Wx w0 w1 g k q s b1 b2 d f' N' now was p #[.int .i64 ak, .int .i64 ap, .string ax] → Calls Tryz.prog 34 #[.pointer (some ⟨b1, 0, none⟩), .int .i64 ap, .string lx] w1 fun e V => e = .returned (.int .i64 (now.pE ap lx : Nat)) ∧ Wx w0 V g k q s b1 b2 d f' N' (if now.pE ap lx = 0 then { now with pages := now.pages.set (now.ix ap) lx } else now) was p #[.int .i64 ak, .int .i64 ap, .string ax]) := fun w1 p f' N' hh => hh.ref fun R hr => rPut_any ap hap lx HP.out.ok1 hr
  have HPL := hid hpl
  clear he hpl
  obtain ⟨f1, hf1⟩ : ∃ f1, (if ptE d f ap lx = 0 then (fun b => if b = ap then lx else f b) else f) = f1 := ⟨_, rfl⟩
  obtain ⟨now1, hn1⟩ : ∃ now1, (if now.pE ap lx = 0 then { now with pages := now.pages.set (now.ix ap) lx } else now : Rsp) = now1 := ⟨_, rfl⟩
  rw [hf1] at HPU
  rw [hn1] at HRP
  rw [hf1, hn1] at HPL
  clear hf1 hn1
  generalize now.pE ap lx = pe at *
  clear h hp hkd
  go_enter Tryz.func10, Tryz.ntmps10
  go_wp2_with (go_at_call 13; refine (HKD.out _).mono ?_; clear HKD; rintro e w1 ⟨rfl, rfl⟩)
  generalize w.alloc (.cells #[.int .i64 ak, .int .i64 ap, .string ax] 28) = wa at *
  generalize w.heap.size = p at *
  refine wp_region_d (fun w' => w'.cell? ⟨g, 1, none⟩ = some (.pointer (some ⟨s, 0, none⟩)) ∧ w'.cell? ⟨g, 2, none⟩ = some (.pointer (some ⟨b1, 0, none⟩)) ∧ w'.cell? ⟨p, 1, none⟩ = some (.int .i64 ap) ∧ w'.cell? ⟨p, 2, none⟩ = some (.string ax)) (fun _ => true) (by kernel_rfl) ?_
  have H0d := hid (H0.out.on ((Below.refl _ wa).drew))
  generalize wa.drew = wad at *
  have hS : _ ∧ _ ∧ _ ∧ _ := ⟨H0d.out.wcell (i := 1) rfl, H0d.out.wcell (i := 2) rfl, H0d.out.pcell (i := 1) rfl, H0d.out.pcell (i := 2) rfl⟩
  refine wpAnyM_pick (i := 0) (some 71) (v := ?vz1) rfl rfl (by kernel_rfl) (by kernel_rfl) (by kernel_rfl) (by kernel_rfl) (fun _ _ _ h => h) (Or.inl ⟨by rfl, ?hz1⟩) hS ?rz1
  case hz1 => intro w hSw; (try have hs1 := hSw.1); (try have hs2 := hSw.2); (try (obtain ⟨ha1, ha2, ha3, ha4⟩ := hSw)); go_simp; try with_reducible rfl
  try simp only [Act.put, List.setIfInBounds_toArray, List.set_cons_zero, List.set_cons_succ]
  refine wpAnyM_pick (i := 1) (some 72) (v := ?vz2) rfl rfl (by kernel_rfl) (by kernel_rfl) (by kernel_rfl) (by kernel_rfl) (fun _ _ _ h => h) (Or.inl ⟨by rfl, ?hz2⟩) hS ?rz2
  case hz2 => intro w hSw; (try have hs1 := hSw.1); (try have hs2 := hSw.2); (try (obtain ⟨ha1, ha2, ha3, ha4⟩ := hSw)); go_simp; try with_reducible rfl
  try simp only [Act.put, List.setIfInBounds_toArray, List.set_cons_zero, List.set_cons_succ]
  refine wpAnyM_pick (i := 2) (some 73) (v := ?vz3) rfl rfl (by kernel_rfl) (by kernel_rfl) (by kernel_rfl) (by kernel_rfl) (fun _ _ _ h => h) (Or.inl ⟨by rfl, ?hz3⟩) hS ?rz3
  case hz3 => intro w hSw; (try have hs1 := hSw.1); (try have hs2 := hSw.2); (try (obtain ⟨ha1, ha2, ha3, ha4⟩ := hSw)); go_simp; try with_reducible rfl
  try simp only [Act.put, List.setIfInBounds_toArray, List.set_cons_zero, List.set_cons_succ]
  refine wpAnyM_pick (i := 3) (some 74) (v := ?vz4) rfl rfl (by kernel_rfl) (by kernel_rfl) (by kernel_rfl) (by kernel_rfl) (fun _ _ _ h => h) (Or.inl ⟨by rfl, ?hz4⟩) hS ?rz4
  case hz4 => intro w hSw; (try have hs1 := hSw.1); (try have hs2 := hSw.2); (try (obtain ⟨ha1, ha2, ha3, ha4⟩ := hSw)); go_simp; try with_reducible rfl
  try simp only [Act.put, List.setIfInBounds_toArray, List.set_cons_zero, List.set_cons_succ]
  refine wpAnyM_pick (i := 4) (some 75) (v := ?vz5) rfl rfl (by kernel_rfl) (by kernel_rfl) (by kernel_rfl) (by kernel_rfl) (fun _ _ _ h => h) (Or.inl ⟨by rfl, ?hz5⟩) hS ?rz5
  case hz5 => intro w hSw; (try have hs1 := hSw.1); (try have hs2 := hSw.2); (try (obtain ⟨ha1, ha2, ha3, ha4⟩ := hSw)); go_simp; try with_reducible rfl
  try simp only [Act.put, List.setIfInBounds_toArray, List.set_cons_zero, List.set_cons_succ]
  refine wpAnyM_pick (i := 5) (some 76) (v := ?vz6) rfl rfl (by kernel_rfl) (by kernel_rfl) (by kernel_rfl) (by kernel_rfl) (fun _ _ _ h => h) (Or.inl ⟨by rfl, ?hz6⟩) hS ?rz6
  case hz6 => intro w hSw; (try have hs1 := hSw.1); (try have hs2 := hSw.2); (try (obtain ⟨ha1, ha2, ha3, ha4⟩ := hSw)); go_simp; try with_reducible rfl
  try simp only [Act.put, List.setIfInBounds_toArray, List.set_cons_zero, List.set_cons_succ]
  refine wpAnyM_pick (i := 6) (some 77) (v := ?vz7) rfl rfl (by kernel_rfl) (by kernel_rfl) (by kernel_rfl) (by kernel_rfl) (fun _ _ _ h => h) (Or.inl ⟨by rfl, ?hz7⟩) hS ?rz7
  case hz7 => intro w hSw; (try have hs1 := hSw.1); (try have hs2 := hSw.2); (try (obtain ⟨ha1, ha2, ha3, ha4⟩ := hSw)); go_simp; try with_reducible rfl
  try simp only [Act.put, List.setIfInBounds_toArray, List.set_cons_zero, List.set_cons_succ]
  refine wpAnyM_pick (i := 7) (some 78) (v := ?vz8) rfl rfl (by kernel_rfl) (by kernel_rfl) (by kernel_rfl) (by kernel_rfl) (fun _ _ _ h => h) (Or.inl ⟨by rfl, ?hz8⟩) hS ?rz8
  case hz8 => intro w hSw; (try have hs1 := hSw.1); (try have hs2 := hSw.2); (try (obtain ⟨ha1, ha2, ha3, ha4⟩ := hSw)); go_simp; try with_reducible rfl
  try simp only [Act.put, List.setIfInBounds_toArray, List.set_cons_zero, List.set_cons_succ]
  refine wpAnyM_pick (i := 10) (some 81) (v := ?vz9) rfl rfl (by kernel_rfl) (by kernel_rfl) (by kernel_rfl) (by kernel_rfl) (fun _ _ _ h => h) (Or.inl ⟨by rfl, ?hz9⟩) hS ?rz9
  case hz9 => intro w hSw; (try have hs1 := hSw.1); (try have hs2 := hSw.2); (try (obtain ⟨ha1, ha2, ha3, ha4⟩ := hSw)); go_simp; try with_reducible rfl
  try simp only [Act.put, List.setIfInBounds_toArray, List.set_cons_zero, List.set_cons_succ]
  refine wpAnyM_pick (i := 11) (some 82) (v := ?vz10) rfl rfl (by kernel_rfl) (by kernel_rfl) (by kernel_rfl) (by kernel_rfl) (fun _ _ _ h => h) (Or.inl ⟨by rfl, ?hz10⟩) hS ?rz10
  case hz10 => intro w hSw; (try have hs1 := hSw.1); (try have hs2 := hSw.2); (try (obtain ⟨ha1, ha2, ha3, ha4⟩ := hSw)); go_simp; try with_reducible rfl
  try simp only [Act.put, List.setIfInBounds_toArray, List.set_cons_zero, List.set_cons_succ]
  refine wpAnyM_pick (i := 12) (some 83) (v := ?vz11) rfl rfl (by kernel_rfl) (by kernel_rfl) (by kernel_rfl) (by kernel_rfl) (fun _ _ _ h => h) (Or.inl ⟨by rfl, ?hz11⟩) hS ?rz11
  case hz11 => intro w hSw; (try have hs1 := hSw.1); (try have hs2 := hSw.2); (try (obtain ⟨ha1, ha2, ha3, ha4⟩ := hSw)); go_simp; try with_reducible rfl
  try simp only [Act.put, List.setIfInBounds_toArray, List.set_cons_zero, List.set_cons_succ]
  refine wpAnyM_pick (i := 13) (some 84) (v := ?vz12) rfl rfl (by kernel_rfl) (by kernel_rfl) (by kernel_rfl) (by kernel_rfl) (fun _ _ _ h => h) (Or.inl ⟨by rfl, ?hz12⟩) hS ?rz12
  case hz12 => intro w hSw; (try have hs1 := hSw.1); (try have hs2 := hSw.2); (try (obtain ⟨ha1, ha2, ha3, ha4⟩ := hSw)); go_simp; try with_reducible rfl
  try simp only [Act.put, List.setIfInBounds_toArray, List.set_cons_zero, List.set_cons_succ]
  refine wpAnyM_pick (i := 14) (some 85) (v := ?vz13) rfl rfl (by kernel_rfl) (by kernel_rfl) (by kernel_rfl) (by kernel_rfl) (fun _ _ _ h => h) (Or.inl ⟨by rfl, ?hz13⟩) hS ?rz13
  case hz13 => intro w hSw; (try have hs1 := hSw.1); (try have hs2 := hSw.2); (try (obtain ⟨ha1, ha2, ha3, ha4⟩ := hSw)); go_simp; try with_reducible rfl
  try simp only [Act.put, List.setIfInBounds_toArray, List.set_cons_zero, List.set_cons_succ]
  refine wpAnyM_pick (i := 15) (some 86) (v := ?vz14) rfl rfl (by kernel_rfl) (by kernel_rfl) (by kernel_rfl) (by kernel_rfl) (fun _ _ _ h => h) (Or.inl ⟨by rfl, ?hz14⟩) hS ?rz14
  case hz14 => intro w hSw; (try have hs1 := hSw.1); (try have hs2 := hSw.2); (try (obtain ⟨ha1, ha2, ha3, ha4⟩ := hSw)); go_simp; try with_reducible rfl
  try simp only [Act.put, List.setIfInBounds_toArray, List.set_cons_zero, List.set_cons_succ]
  refine wpAnyM_pick (i := 16) (some 87) (v := ?vz15) rfl rfl (by kernel_rfl) (by kernel_rfl) (by kernel_rfl) (by kernel_rfl) (fun _ _ _ h => h) (Or.inl ⟨by rfl, ?hz15⟩) hS ?rz15
  case hz15 => intro w hSw; (try have hs1 := hSw.1); (try have hs2 := hSw.2); (try (obtain ⟨ha1, ha2, ha3, ha4⟩ := hSw)); go_simp; try with_reducible rfl
  try simp only [Act.put, List.setIfInBounds_toArray, List.set_cons_zero, List.set_cons_succ]
  refine wpAnyM_pick (i := 17) (some 88) (v := ?vz16) rfl rfl (by kernel_rfl) (by kernel_rfl) (by kernel_rfl) (by kernel_rfl) (fun _ _ _ h => h) (Or.inl ⟨by rfl, ?hz16⟩) hS ?rz16
  case hz16 => intro w hSw; (try have hs1 := hSw.1); (try have hs2 := hSw.2); (try (obtain ⟨ha1, ha2, ha3, ha4⟩ := hSw)); go_simp; try with_reducible rfl
  try simp only [Act.put, List.setIfInBounds_toArray, List.set_cons_zero, List.set_cons_succ]
  refine wpAnyM_one (i := 8) (by kernel_rfl) rfl (fun K hK => ?_)
  go_simp
  go_at_call 33
  refine (HLG.out _).mono ?_
  rintro e w2 ⟨rfl, hb2⟩
  have H2 := hid (H0d.out.on hb2)
  clear hb2 H0d
  clear hS
  have hS : _ ∧ _ ∧ _ ∧ _ := ⟨H2.out.wcell (i := 1) rfl, H2.out.wcell (i := 2) rfl, H2.out.pcell (i := 1) rfl, H2.out.pcell (i := 2) rfl⟩
  go_wp2_with fail
  refine hK.out _ _ (fun _ => hS) ?_
  clear hK K
  try simp only [Act.put, List.setIfInBounds_toArray, List.set_cons_zero, List.set_cons_succ]
  refine wpAnyM_one (i := 9) (by kernel_rfl) rfl (fun K hK => ?_)
  go_simp
  go_at_call 30
  refine (HPU.out _ _ H2.out).mono ?_
  rintro e w3 ⟨rfl, h3⟩
  have H3 := hid h3
  clear h3 H2 HPU
  clear hS
  have hS : _ ∧ _ ∧ _ ∧ _ := ⟨H3.out.wcell (i := 1) rfl, H3.out.wcell (i := 2) rfl, H3.out.pcell (i := 1) rfl, H3.out.pcell (i := 2) rfl⟩
  go_wp2_with fail
  refine hK.out _ _ (fun _ => hS) ?_
  clear hK K
  try simp only [Act.put, List.setIfInBounds_toArray, List.set_cons_zero, List.set_cons_succ]
  refine wpAnyM_one (i := 18) (by kernel_rfl) rfl (fun K hK => ?_)
  go_simp
  go_at_call 33
  refine (HLG.out _).mono ?_
  rintro e w4 ⟨rfl, hb4⟩
  have H4 := hid (H3.out.on hb4)
  clear hb4 H3
  clear hS
  have hS : _ ∧ _ ∧ _ ∧ _ := ⟨H4.out.wcell (i := 1) rfl, H4.out.wcell (i := 2) rfl, H4.out.pcell (i := 1) rfl, H4.out.pcell (i := 2) rfl⟩
  go_wp2_with fail
  refine hK.out _ _ (fun _ => hS) ?_
  clear hK K
  try simp only [Act.put, List.setIfInBounds_toArray, List.set_cons_zero, List.set_cons_succ]
  refine wpAnyM_one (i := 19) (by kernel_rfl) rfl (fun K hK => ?_)
  go_simp
  go_at_call 34
  refine (HRP.out _ _ _ _ H4.out).mono ?_
  rintro e w5 ⟨rfl, h5⟩
  have H5 := hid h5
  clear h5 H4 HRP
  clear hS
  have hS : _ ∧ _ ∧ _ ∧ _ := ⟨H5.out.wcell (i := 1) rfl, H5.out.wcell (i := 2) rfl, H5.out.pcell (i := 1) rfl, H5.out.pcell (i := 2) rfl⟩
  go_wp2_with fail
  refine hK.out _ _ (fun _ => hS) ?_
  clear hK K
  try simp only [Act.put, List.setIfInBounds_toArray, List.set_cons_zero, List.set_cons_succ]
  refine wpAnyM_pick (i := 20) (some 91) (v := ?vz17) rfl rfl (by kernel_rfl) (by kernel_rfl) (by kernel_rfl) (by kernel_rfl) (fun _ _ _ h => h) (Or.inl ⟨by rfl, ?hz17⟩) hS ?rz17
  case hz17 => intro w hSw; (try have hs1 := hSw.1); (try have hs2 := hSw.2); (try (obtain ⟨ha1, ha2, ha3, ha4⟩ := hSw)); go_simp; try with_reducible rfl
  try simp only [Act.put, List.setIfInBounds_toArray, List.set_cons_zero, List.set_cons_succ]
  refine wpAnyM_pick (i := 21) (some 4) (v := ?vz18) rfl rfl (by kernel_rfl) (by kernel_rfl) (by kernel_rfl) (by kernel_rfl) (fun _ _ _ h => h) (Or.inl ⟨by rfl, ?hz18⟩) hS ?rz18
  case hz18 => intro w hSw; (try have hs1 := hSw.1); (try have hs2 := hSw.2); (try (obtain ⟨ha1, ha2, ha3, ha4⟩ := hSw)); go_simp; try with_reducible rfl
  try simp only [Act.put, List.setIfInBounds_toArray, List.set_cons_zero, List.set_cons_succ]
  refine wpAnyM_done (by kernel_rfl) ?_ _
  try simp only [Act.put, List.setIfInBounds_toArray, List.set_cons_zero, List.set_cons_succ]
  clear hS
  go_wp2_with fail
  go_ret
  exact ⟨rfl, b1, b2, d, f1, now1, was, Wo.mono H5.out.wo (by omega), HPL.out, Nat.le_add_right _ _⟩
end

section
variable {w0 w : World} {g k q s b1 b2 n : Nat} {d : Ds} {f : Int → ByteArray} {N : Nat} {now was : Rsp}

set_option maxHeartbeats 4000000 in
theorem does_2 (ak ap : Int) (ax : ByteArray) (hap : I64 ap) (hkd : kd ak 10 = 2) (hE : Env w0) (hN : N < 4611686018427380000) (hz : Fit (d.lg.length + 5000)) (hp : Pl n d f now was) (h : Wo w0 w g k q s b1 b2 d f N now was) :
    Calls Tryz.prog 10 #[.pointer (some ⟨g, 0, none⟩), .agg #[.int .i64 ak, .int .i64 ap, .string ax]] w fun e V => e = .returned (.bool true) ∧ Ws w0 V g k q s n (N + 5) (d.lg.length + 4000) := by
  have HKD : Hid (∀ w1 : World, Calls Tryz.prog 13 #[.int .i64 ak, .int .i64 10] w1 fun e w' => e = .returned (.int .i64 2) ∧ w1 = w') := fun w1 => by have := kind_any ak 10 (by decide) w1; rw [hkd] at this; exact this
  obtain ⟨hok, hdn, hpg⟩ := h.good
  have hm : (f (mpg d)).size = 256 := hpg _ (mpg_pg hok)
  have H0 := hid (Wx.start h #[.int .i64 ak, .int .i64 ap, .string ax])
  have HP := hid hp
  obtain ⟨he, hpl⟩ := hp.put ap ax
  have HPU : Hid (∀ w1 p, Wx w0 w1 g k q s b1 b2 d f N now was p #[.int .i64 ak, .int .i64 ap, .string ax] → Calls Tryz.prog 30 #[.pointer (some ⟨s, 0, none⟩), .int .i64 ap, .string ax] w1 fun e V => e = .returned (.int .i64 (now.pE ap ax : Nat)) ∧ Wx w0 V g k q s b1 b2 d (if ptE d f ap ax = 0 then (fun b => if b = ap then ax else f b) else f) (N + 2) now was p #[.int .i64 ak, .int .i64 ap, .string ax]) := fun w1 p hh => by
    have := hh.space (F := fun e V => e = .returned (.int .i64 (ptE d f ap ax : Nat))) hE fun S hs hee h0 => put_sp ap ax hee h0 (by omega) hs
    rw [he] at this ⊢
    exact this
  have HRP : Hid (∀ w1 p f' N', Wx w0 w1 g k q s b1 b2 d f' N' now was p #[.int .i64 ak, .int .i64 ap, .string ax] → Calls Tryz.prog 34 #[.pointer (some ⟨b1, 0, none⟩), .int .i64 ap, .string ax] w1 fun e V => e = .returned (.int .i64 (now.pE ap ax : Nat)) ∧ Wx w0 V g k q s b1 b2 d f' N' (if now.pE ap ax = 0 then { now with pages := now.pages.set (now.ix ap) ax } else now) was p #[.int .i64 ak, .int .i64 ap, .string ax]) := fun w1 p f' N' hh => hh.ref fun R hr => rPut_any ap hap ax HP.out.ok1 hr
  have HPL := hid hpl
  clear he hpl
  obtain ⟨f1, hf1⟩ : ∃ f1, (if ptE d f ap ax = 0 then (fun b => if b = ap then ax else f b) else f) = f1 := ⟨_, rfl⟩
  obtain ⟨now1, hn1⟩ : ∃ now1, (if now.pE ap ax = 0 then { now with pages := now.pages.set (now.ix ap) ax } else now : Rsp) = now1 := ⟨_, rfl⟩
  rw [hf1] at HPU
  rw [hn1] at HRP
  rw [hf1, hn1] at HPL
  clear hf1 hn1
  generalize now.pE ap ax = pe at *
  clear h hp hkd
  go_enter Tryz.func10, Tryz.ntmps10
  go_wp2_with (go_at_call 13; refine (HKD.out _).mono ?_; clear HKD; rintro e w1 ⟨rfl, rfl⟩)
  generalize w.alloc (.cells #[.int .i64 ak, .int .i64 ap, .string ax] 28) = wa at *
  generalize w.heap.size = p at *
  refine wp_region_d (fun w' => w'.cell? ⟨g, 1, none⟩ = some (.pointer (some ⟨s, 0, none⟩)) ∧ w'.cell? ⟨g, 2, none⟩ = some (.pointer (some ⟨b1, 0, none⟩)) ∧ w'.cell? ⟨p, 1, none⟩ = some (.int .i64 ap) ∧ w'.cell? ⟨p, 2, none⟩ = some (.string ax)) (fun _ => true) (by kernel_rfl) ?_
  have H0d := hid (H0.out.on ((Below.refl _ wa).drew))
  generalize wa.drew = wad at *
  have hS : _ ∧ _ ∧ _ ∧ _ := ⟨H0d.out.wcell (i := 1) rfl, H0d.out.wcell (i := 2) rfl, H0d.out.pcell (i := 1) rfl, H0d.out.pcell (i := 2) rfl⟩
  refine wpAnyM_pick (i := 0) (some 94) (v := ?vz1) rfl rfl (by kernel_rfl) (by kernel_rfl) (by kernel_rfl) (by kernel_rfl) (fun _ _ _ h => h) (Or.inl ⟨by rfl, ?hz1⟩) hS ?rz1
  case hz1 => intro w hSw; (try have hs1 := hSw.1); (try have hs2 := hSw.2); (try (obtain ⟨ha1, ha2, ha3, ha4⟩ := hSw)); go_simp; try with_reducible rfl
  try simp only [Act.put, List.setIfInBounds_toArray, List.set_cons_zero, List.set_cons_succ]
  refine wpAnyM_pick (i := 1) (some 95) (v := ?vz2) rfl rfl (by kernel_rfl) (by kernel_rfl) (by kernel_rfl) (by kernel_rfl) (fun _ _ _ h => h) (Or.inl ⟨by rfl, ?hz2⟩) hS ?rz2
  case hz2 => intro w hSw; (try have hs1 := hSw.1); (try have hs2 := hSw.2); (try (obtain ⟨ha1, ha2, ha3, ha4⟩ := hSw)); go_simp; try with_reducible rfl
  try simp only [Act.put, List.setIfInBounds_toArray, List.set_cons_zero, List.set_cons_succ]
  refine wpAnyM_pick (i := 2) (some 96) (v := ?vz3) rfl rfl (by kernel_rfl) (by kernel_rfl) (by kernel_rfl) (by kernel_rfl) (fun _ _ _ h => h) (Or.inl ⟨by rfl, ?hz3⟩) hS ?rz3
  case hz3 => intro w hSw; (try have hs1 := hSw.1); (try have hs2 := hSw.2); (try (obtain ⟨ha1, ha2, ha3, ha4⟩ := hSw)); go_simp; try with_reducible rfl
  try simp only [Act.put, List.setIfInBounds_toArray, List.set_cons_zero, List.set_cons_succ]
  refine wpAnyM_pick (i := 3) (some 97) (v := ?vz4) rfl rfl (by kernel_rfl) (by kernel_rfl) (by kernel_rfl) (by kernel_rfl) (fun _ _ _ h => h) (Or.inl ⟨by rfl, ?hz4⟩) hS ?rz4
  case hz4 => intro w hSw; (try have hs1 := hSw.1); (try have hs2 := hSw.2); (try (obtain ⟨ha1, ha2, ha3, ha4⟩ := hSw)); go_simp; try with_reducible rfl
  try simp only [Act.put, List.setIfInBounds_toArray, List.set_cons_zero, List.set_cons_succ]
  refine wpAnyM_pick (i := 4) (some 98) (v := ?vz5) rfl rfl (by kernel_rfl) (by kernel_rfl) (by kernel_rfl) (by kernel_rfl) (fun _ _ _ h => h) (Or.inl ⟨by rfl, ?hz5⟩) hS ?rz5
  case hz5 => intro w hSw; (try have hs1 := hSw.1); (try have hs2 := hSw.2); (try (obtain ⟨ha1, ha2, ha3, ha4⟩ := hSw)); go_simp; try with_reducible rfl
  try simp only [Act.put, List.setIfInBounds_toArray, List.set_cons_zero, List.set_cons_succ]
  refine wpAnyM_pick (i := 5) (some 99) (v := ?vz6) rfl rfl (by kernel_rfl) (by kernel_rfl) (by kernel_rfl) (by kernel_rfl) (fun _ _ _ h => h) (Or.inl ⟨by rfl, ?hz6⟩) hS ?rz6
  case hz6 => intro w hSw; (try have hs1 := hSw.1); (try have hs2 := hSw.2); (try (obtain ⟨ha1, ha2, ha3, ha4⟩ := hSw)); go_simp; try with_reducible rfl
  try simp only [Act.put, List.setIfInBounds_toArray, List.set_cons_zero, List.set_cons_succ]
  refine wpAnyM_pick (i := 6) (some 100) (v := ?vz7) rfl rfl (by kernel_rfl) (by kernel_rfl) (by kernel_rfl) (by kernel_rfl) (fun _ _ _ h => h) (Or.inl ⟨by rfl, ?hz7⟩) hS ?rz7
  case hz7 => intro w hSw; (try have hs1 := hSw.1); (try have hs2 := hSw.2); (try (obtain ⟨ha1, ha2, ha3, ha4⟩ := hSw)); go_simp; try with_reducible rfl
  try simp only [Act.put, List.setIfInBounds_toArray, List.set_cons_zero, List.set_cons_succ]
  refine wpAnyM_pick (i := 7) (some 101) (v := ?vz8) rfl rfl (by kernel_rfl) (by kernel_rfl) (by kernel_rfl) (by kernel_rfl) (fun _ _ _ h => h) (Or.inl ⟨by rfl, ?hz8⟩) hS ?rz8
  case hz8 => intro w hSw; (try have hs1 := hSw.1); (try have hs2 := hSw.2); (try (obtain ⟨ha1, ha2, ha3, ha4⟩ := hSw)); go_simp; try with_reducible rfl
  try simp only [Act.put, List.setIfInBounds_toArray, List.set_cons_zero, List.set_cons_succ]
  refine wpAnyM_pick (i := 9) (some 103) (v := ?vz9) rfl rfl (by kernel_rfl) (by kernel_rfl) (by kernel_rfl) (by kernel_rfl) (fun _ _ _ h => h) (Or.inl ⟨by rfl, ?hz9⟩) hS ?rz9
  case hz9 => intro w hSw; (try have hs1 := hSw.1); (try have hs2 := hSw.2); (try (obtain ⟨ha1, ha2, ha3, ha4⟩ := hSw)); go_simp; try with_reducible rfl
  try simp only [Act.put, List.setIfInBounds_toArray, List.set_cons_zero, List.set_cons_succ]
  refine wpAnyM_pick (i := 10) (some 104) (v := ?vz10) rfl rfl (by kernel_rfl) (by kernel_rfl) (by kernel_rfl) (by kernel_rfl) (fun _ _ _ h => h) (Or.inl ⟨by rfl, ?hz10⟩) hS ?rz10
  case hz10 => intro w hSw; (try have hs1 := hSw.1); (try have hs2 := hSw.2); (try (obtain ⟨ha1, ha2, ha3, ha4⟩ := hSw)); go_simp; try with_reducible rfl
  try simp only [Act.put, List.setIfInBounds_toArray, List.set_cons_zero, List.set_cons_succ]
  refine wpAnyM_pick (i := 11) (some 105) (v := ?vz11) rfl rfl (by kernel_rfl) (by kernel_rfl) (by kernel_rfl) (by kernel_rfl) (fun _ _ _ h => h) (Or.inl ⟨by rfl, ?hz11⟩) hS ?rz11
  case hz11 => intro w hSw; (try have hs1 := hSw.1); (try have hs2 := hSw.2); (try (obtain ⟨ha1, ha2, ha3, ha4⟩ := hSw)); go_simp; try with_reducible rfl
  try simp only [Act.put, List.setIfInBounds_toArray, List.set_cons_zero, List.set_cons_succ]
  refine wpAnyM_pick (i := 12) (some 106) (v := ?vz12) rfl rfl (by kernel_rfl) (by kernel_rfl) (by kernel_rfl) (by kernel_rfl) (fun _ _ _ h => h) (Or.inl ⟨by rfl, ?hz12⟩) hS ?rz12
  case hz12 => intro w hSw; (try have hs1 := hSw.1); (try have hs2 := hSw.2); (try (obtain ⟨ha1, ha2, ha3, ha4⟩ := hSw)); go_simp; try with_reducible rfl
  try simp only [Act.put, List.setIfInBounds_toArray, List.set_cons_zero, List.set_cons_succ]
  refine wpAnyM_pick (i := 13) (some 107) (v := ?vz13) rfl rfl (by kernel_rfl) (by kernel_rfl) (by kernel_rfl) (by kernel_rfl) (fun _ _ _ h => h) (Or.inl ⟨by rfl, ?hz13⟩) hS ?rz13
  case hz13 => intro w hSw; (try have hs1 := hSw.1); (try have hs2 := hSw.2); (try (obtain ⟨ha1, ha2, ha3, ha4⟩ := hSw)); go_simp; try with_reducible rfl
  try simp only [Act.put, List.setIfInBounds_toArray, List.set_cons_zero, List.set_cons_succ]
  refine wpAnyM_pick (i := 14) (some 108) (v := ?vz14) rfl rfl (by kernel_rfl) (by kernel_rfl) (by kernel_rfl) (by kernel_rfl) (fun _ _ _ h => h) (Or.inl ⟨by rfl, ?hz14⟩) hS ?rz14
  case hz14 => intro w hSw; (try have hs1 := hSw.1); (try have hs2 := hSw.2); (try (obtain ⟨ha1, ha2, ha3, ha4⟩ := hSw)); go_simp; try with_reducible rfl
  try simp only [Act.put, List.setIfInBounds_toArray, List.set_cons_zero, List.set_cons_succ]
  refine wpAnyM_pick (i := 15) (some 109) (v := ?vz15) rfl rfl (by kernel_rfl) (by kernel_rfl) (by kernel_rfl) (by kernel_rfl) (fun _ _ _ h => h) (Or.inl ⟨by rfl, ?hz15⟩) hS ?rz15
  case hz15 => intro w hSw; (try have hs1 := hSw.1); (try have hs2 := hSw.2); (try (obtain ⟨ha1, ha2, ha3, ha4⟩ := hSw)); go_simp; try with_reducible rfl
  try simp only [Act.put, List.setIfInBounds_toArray, List.set_cons_zero, List.set_cons_succ]
  refine wpAnyM_pick (i := 16) (some 110) (v := ?vz16) rfl rfl (by kernel_rfl) (by kernel_rfl) (by kernel_rfl) (by kernel_rfl) (fun _ _ _ h => h) (Or.inl ⟨by rfl, ?hz16⟩) hS ?rz16
  case hz16 => intro w hSw; (try have hs1 := hSw.1); (try have hs2 := hSw.2); (try (obtain ⟨ha1, ha2, ha3, ha4⟩ := hSw)); go_simp; try with_reducible rfl
  try simp only [Act.put, List.setIfInBounds_toArray, List.set_cons_zero, List.set_cons_succ]
  refine wpAnyM_one (i := 8) (by kernel_rfl) rfl (fun K hK => ?_)
  go_simp
  go_at_call 30
  refine (HPU.out _ _ H0d.out).mono ?_
  rintro e w3 ⟨rfl, h3⟩
  have H3 := hid h3
  clear h3 H0d HPU
  clear hS
  have hS : _ ∧ _ ∧ _ ∧ _ := ⟨H3.out.wcell (i := 1) rfl, H3.out.wcell (i := 2) rfl, H3.out.pcell (i := 1) rfl, H3.out.pcell (i := 2) rfl⟩
  go_wp2_with fail
  refine hK.out _ _ (fun _ => hS) ?_
  clear hK K
  try simp only [Act.put, List.setIfInBounds_toArray, List.set_cons_zero, List.set_cons_succ]
  refine wpAnyM_one (i := 17) (by kernel_rfl) rfl (fun K hK => ?_)
  go_simp
  go_at_call 34
  refine (HRP.out _ _ _ _ H3.out).mono ?_
  rintro e w5 ⟨rfl, h5⟩
  have H5 := hid h5
  clear h5 H3 HRP
  clear hS
  have hS : _ ∧ _ ∧ _ ∧ _ := ⟨H5.out.wcell (i := 1) rfl, H5.out.wcell (i := 2) rfl, H5.out.pcell (i := 1) rfl, H5.out.pcell (i := 2) rfl⟩
  go_wp2_with fail
  refine hK.out _ _ (fun _ => hS) ?_
  clear hK K
  try simp only [Act.put, List.setIfInBounds_toArray, List.set_cons_zero, List.set_cons_succ]
  refine wpAnyM_pick (i := 18) (some 112) (v := ?vz17) rfl rfl (by kernel_rfl) (by kernel_rfl) (by kernel_rfl) (by kernel_rfl) (fun _ _ _ h => h) (Or.inl ⟨by rfl, ?hz17⟩) hS ?rz17
  case hz17 => intro w hSw; (try have hs1 := hSw.1); (try have hs2 := hSw.2); (try (obtain ⟨ha1, ha2, ha3, ha4⟩ := hSw)); go_simp; try with_reducible rfl
  try simp only [Act.put, List.setIfInBounds_toArray, List.set_cons_zero, List.set_cons_succ]
  refine wpAnyM_pick (i := 19) (some 4) (v := ?vz18) rfl rfl (by kernel_rfl) (by kernel_rfl) (by kernel_rfl) (by kernel_rfl) (fun _ _ _ h => h) (Or.inl ⟨by rfl, ?hz18⟩) hS ?rz18
  case hz18 => intro w hSw; (try have hs1 := hSw.1); (try have hs2 := hSw.2); (try (obtain ⟨ha1, ha2, ha3, ha4⟩ := hSw)); go_simp; try with_reducible rfl
  try simp only [Act.put, List.setIfInBounds_toArray, List.set_cons_zero, List.set_cons_succ]
  refine wpAnyM_done (by kernel_rfl) ?_ _
  try simp only [Act.put, List.setIfInBounds_toArray, List.set_cons_zero, List.set_cons_succ]
  clear hS
  go_wp2_with fail
  go_ret
  exact ⟨rfl, b1, b2, d, f1, now1, was, Wo.mono H5.out.wo (by omega), HPL.out, Nat.le_add_right _ _⟩
end

section
variable {w0 w : World} {g k q s b1 b2 n : Nat} {d : Ds} {f : Int → ByteArray} {N : Nat} {now was : Rsp}

set_option maxHeartbeats 4000000 in
theorem does_3 (ak ap : Int) (ax : ByteArray) (hap : I64 ap) (hkd : kd ak 10 = 3) (hE : Env w0) (hN : N < 4611686018427380000) (hz : Fit (d.lg.length + 5000)) (hp : Pl n d f now was) (h : Wo w0 w g k q s b1 b2 d f N now was) :
    Calls Tryz.prog 10 #[.pointer (some ⟨g, 0, none⟩), .agg #[.int .i64 ak, .int .i64 ap, .string ax]] w fun e V => e = .returned (.bool true) ∧ Ws w0 V g k q s n (N + 5) (d.lg.length + 4000) := by
  have HKD : Hid (∀ w1 : World, Calls Tryz.prog 13 #[.int .i64 ak, .int .i64 10] w1 fun e w' => e = .returned (.int .i64 3) ∧ w1 = w') := fun w1 => by have := kind_any ak 10 (by decide) w1; rw [hkd] at this; exact this
  obtain ⟨hok, hdn, hpg⟩ := h.good
  have hm : (f (mpg d)).size = 256 := hpg _ (mpg_pg hok)
  have H0 := hid (Wx.start h #[.int .i64 ak, .int .i64 ap, .string ax])
  have HP := hid hp
  by_cases hf : frI now.taken < now.taken.length
  · obtain ⟨L, hL⟩ := hp.shd.first hp.ok1 hp.nd hf
    have HPL := hid (hp.al hm hf)
    have HAL : Hid (∀ w1 p, Wx w0 w1 g k q s b1 b2 d f N now was p #[.int .i64 ak, .int .i64 ap, .string ax] → Calls Tryz.prog 23 #[.pointer (some ⟨s, 0, none⟩)] w1 fun e V => e = .returned (.tuple #[.int .i64 ((frs now.n : Int) + 1 + (frI now.taken : Int)), .int .i64 0]) ∧ Wx w0 V g k q s b1 b2 d (alF d f ((frs now.n : Int) + 1 + (frI now.taken : Int))) (N + 1) now was p #[.int .i64 ak, .int .i64 ap, .string ax]) := fun w1 p hh => hh.space hE fun S hs _ _ => alloc_sp hL (by omega) hs
    have HRA : Hid (∀ w1 p f' N', Wx w0 w1 g k q s b1 b2 d f' N' now was p #[.int .i64 ak, .int .i64 ap, .string ax] → Calls Tryz.prog 35 #[.pointer (some ⟨b1, 0, none⟩)] w1 fun e V => e = .returned (.tuple #[.int .i64 ((frs now.n : Int) + 1 + (frI now.taken : Int)), .int .i64 0]) ∧ Wx w0 V g k q s b1 b2 d f' N' now.al was p #[.int .i64 ak, .int .i64 ap, .string ax]) := fun w1 p f' N' hh => hh.ref fun R hr => by
      have := rAlloc_any HP.out.ok1 hr
      rw [if_pos hf, if_pos hf] at this
      exact this
    generalize (frs now.n : Int) + 1 + (frI now.taken : Int) = at0 at *
    generalize alF d f at0 = f1 at *
    generalize now.al = now1 at *
    have c1 := H0.out.wcell (i := 1) rfl
    clear h hp hkd
    go_enter Tryz.func10, Tryz.ntmps10
    go_wp2_with (go_at_call 13; refine (HKD.out _).mono ?_; clear HKD; rintro e w1 ⟨rfl, rfl⟩)
    clear c1
    generalize w.alloc (.cells #[.int .i64 ak, .int .i64 ap, .string ax] 28) = wa at *
    generalize w.heap.size = p at *
    go_at_call 23
    refine (HAL.out _ _ H0.out).mono ?_
    clear HAL H0
    rintro e w2 ⟨rfl, h2⟩
    have H2 := hid h2
    have c2 := h2.wcell (i := 2) rfl
    clear h2
    go_wp2_with (go_at_call 35; refine (HRA.out _ _ _ _ H2.out).mono ?_; clear HRA H2; rintro e w3 ⟨rfl, h3⟩; have H3 := hid h3; clear h3)
    go_ret
    exact ⟨rfl, b1, b2, d, f1, now1, was, Wo.mono H3.out.wo (by omega), HPL.out, Nat.le_add_right _ _⟩
  · have hL := hp.shd.full hp.ok1 hp.nd hf
    have HAL : Hid (∀ w1 p, Wx w0 w1 g k q s b1 b2 d f N now was p #[.int .i64 ak, .int .i64 ap, .string ax] → Calls Tryz.prog 23 #[.pointer (some ⟨s, 0, none⟩)] w1 fun e V => e = .returned (.tuple #[.int .i64 0, .int .i64 16]) ∧ Wx w0 V g k q s b1 b2 d f (N + 1) now was p #[.int .i64 ak, .int .i64 ap, .string ax]) := fun w1 p hh => hh.space hE fun S hs _ _ => alloc_full hL (by omega) hs
    have HRA : Hid (∀ w1 p f' N', Wx w0 w1 g k q s b1 b2 d f' N' now was p #[.int .i64 ak, .int .i64 ap, .string ax] → Calls Tryz.prog 35 #[.pointer (some ⟨b1, 0, none⟩)] w1 fun e V => e = .returned (.tuple #[.int .i64 0, .int .i64 16]) ∧ Wx w0 V g k q s b1 b2 d f' N' now was p #[.int .i64 ak, .int .i64 ap, .string ax]) := fun w1 p f' N' hh => by
      have := hh.ref fun R hr => rAlloc_any HP.out.ok1 hr
      rw [if_neg hf, if_neg hf, al_full hf] at this
      exact this
    have c1 := H0.out.wcell (i := 1) rfl
    clear h hp hkd
    go_enter Tryz.func10, Tryz.ntmps10
    go_wp2_with (go_at_call 13; refine (HKD.out _).mono ?_; clear HKD; rintro e w1 ⟨rfl, rfl⟩)
    clear c1
    generalize w.alloc (.cells #[.int .i64 ak, .int .i64 ap, .string ax] 28) = wa at *
    generalize w.heap.size = p at *
    go_at_call 23
    refine (HAL.out _ _ H0.out).mono ?_
    clear HAL H0
    rintro e w2 ⟨rfl, h2⟩
    have H2 := hid h2
    have c2 := h2.wcell (i := 2) rfl
    clear h2
    go_wp2_with (go_at_call 35; refine (HRA.out _ _ _ _ H2.out).mono ?_; clear HRA H2; rintro e w3 ⟨rfl, h3⟩; have H3 := hid h3; clear h3)
    go_ret
    exact ⟨rfl, b1, b2, d, f, now, was, Wo.mono H3.out.wo (by omega), HP.out, Nat.le_add_right _ _⟩
end

section
variable {w0 w : World} {g k q s b1 b2 n : Nat} {d : Ds} {f : Int → ByteArray} {N : Nat} {now was : Rsp}

set_option maxHeartbeats 4000000 in
theorem does_4 (ak ap : Int) (ax : ByteArray) (hap : I64 ap) (hkd : kd ak 10 = 4) (hE : Env w0) (hN : N < 4611686018427380000) (hz : Fit (d.lg.length + 5000)) (hp : Pl n d f now was) (h : Wo w0 w g k q s b1 b2 d f N now was) :
    Calls Tryz.prog 10 #[.pointer (some ⟨g, 0, none⟩), .agg #[.int .i64 ak, .int .i64 ap, .string ax]] w fun e V => e = .returned (.bool true) ∧ Ws w0 V g k q s n (N + 5) (d.lg.length + 4000) := by
  have HKD : Hid (∀ w1 : World, Calls Tryz.prog 13 #[.int .i64 ak, .int .i64 10] w1 fun e w' => e = .returned (.int .i64 4) ∧ w1 = w') := fun w1 => by have := kind_any ak 10 (by decide) w1; rw [hkd] at this; exact this
  obtain ⟨hok, hdn, hpg⟩ := h.good
  have hm : (f (mpg d)).size = 256 := hpg _ (mpg_pg hok)
  have H0 := hid (Wx.start h #[.int .i64 ak, .int .i64 ap, .string ax])
  have HP := hid hp
  by_cases hf : frI now.taken < now.taken.length
  · obtain ⟨L, hL⟩ := hp.shd.first hp.ok1 hp.nd hf
    have HPL := hid (hp.al hm hf)
    have HAL : Hid (∀ w1 p, Wx w0 w1 g k q s b1 b2 d f N now was p #[.int .i64 ak, .int .i64 ap, .string ax] → Calls Tryz.prog 23 #[.pointer (some ⟨s, 0, none⟩)] w1 fun e V => e = .returned (.tuple #[.int .i64 ((frs now.n : Int) + 1 + (frI now.taken : Int)), .int .i64 0]) ∧ Wx w0 V g k q s b1 b2 d (alF d f ((frs now.n : Int) + 1 + (frI now.taken : Int))) (N + 1) now was p #[.int .i64 ak, .int .i64 ap, .string ax]) := fun w1 p hh => hh.space hE fun S hs _ _ => alloc_sp hL (by omega) hs
    have HRA : Hid (∀ w1 p f' N', Wx w0 w1 g k q s b1 b2 d f' N' now was p #[.int .i64 ak, .int .i64 ap, .string ax] → Calls Tryz.prog 35 #[.pointer (some ⟨b1, 0, none⟩)] w1 fun e V => e = .returned (.tuple #[.int .i64 ((frs now.n : Int) + 1 + (frI now.taken : Int)), .int .i64 0]) ∧ Wx w0 V g k q s b1 b2 d f' N' now.al was p #[.int .i64 ak, .int .i64 ap, .string ax]) := fun w1 p f' N' hh => hh.ref fun R hr => by
      have := rAlloc_any HP.out.ok1 hr
      rw [if_pos hf, if_pos hf] at this
      exact this
    generalize (frs now.n : Int) + 1 + (frI now.taken : Int) = at0 at *
    generalize alF d f at0 = f1 at *
    generalize now.al = now1 at *
    have c1 := H0.out.wcell (i := 1) rfl
    clear h hp hkd
    go_enter Tryz.func10, Tryz.ntmps10
    go_wp2_with (go_at_call 13; refine (HKD.out _).mono ?_; clear HKD; rintro e w1 ⟨rfl, rfl⟩)
    clear c1
    generalize w.alloc (.cells #[.int .i64 ak, .int .i64 ap, .string ax] 28) = wa at *
    generalize w.heap.size = p at *
    go_at_call 23
    refine (HAL.out _ _ H0.out).mono ?_
    clear HAL H0
    rintro e w2 ⟨rfl, h2⟩
    have H2 := hid h2
    have c2 := h2.wcell (i := 2) rfl
    clear h2
    go_wp2_with (go_at_call 35; refine (HRA.out _ _ _ _ H2.out).mono ?_; clear HRA H2; rintro e w3 ⟨rfl, h3⟩; have H3 := hid h3; clear h3)
    go_ret
    exact ⟨rfl, b1, b2, d, f1, now1, was, Wo.mono H3.out.wo (by omega), HPL.out, Nat.le_add_right _ _⟩
  · have hL := hp.shd.full hp.ok1 hp.nd hf
    have HAL : Hid (∀ w1 p, Wx w0 w1 g k q s b1 b2 d f N now was p #[.int .i64 ak, .int .i64 ap, .string ax] → Calls Tryz.prog 23 #[.pointer (some ⟨s, 0, none⟩)] w1 fun e V => e = .returned (.tuple #[.int .i64 0, .int .i64 16]) ∧ Wx w0 V g k q s b1 b2 d f (N + 1) now was p #[.int .i64 ak, .int .i64 ap, .string ax]) := fun w1 p hh => hh.space hE fun S hs _ _ => alloc_full hL (by omega) hs
    have HRA : Hid (∀ w1 p f' N', Wx w0 w1 g k q s b1 b2 d f' N' now was p #[.int .i64 ak, .int .i64 ap, .string ax] → Calls Tryz.prog 35 #[.pointer (some ⟨b1, 0, none⟩)] w1 fun e V => e = .returned (.tuple #[.int .i64 0, .int .i64 16]) ∧ Wx w0 V g k q s b1 b2 d f' N' now was p #[.int .i64 ak, .int .i64 ap, .string ax]) := fun w1 p f' N' hh => by
      have := hh.ref fun R hr => rAlloc_any HP.out.ok1 hr
      rw [if_neg hf, if_neg hf, al_full hf] at this
      exact this
    have c1 := H0.out.wcell (i := 1) rfl
    clear h hp hkd
    go_enter Tryz.func10, Tryz.ntmps10
    go_wp2_with (go_at_call 13; refine (HKD.out _).mono ?_; clear HKD; rintro e w1 ⟨rfl, rfl⟩)
    clear c1
    generalize w.alloc (.cells #[.int .i64 ak, .int .i64 ap, .string ax] 28) = wa at *
    generalize w.heap.size = p at *
    go_at_call 23
    refine (HAL.out _ _ H0.out).mono ?_
    clear HAL H0
    rintro e w2 ⟨rfl, h2⟩
    have H2 := hid h2
    have c2 := h2.wcell (i := 2) rfl
    clear h2
    go_wp2_with (go_at_call 35; refine (HRA.out _ _ _ _ H2.out).mono ?_; clear HRA H2; rintro e w3 ⟨rfl, h3⟩; have H3 := hid h3; clear h3)
    go_ret
    exact ⟨rfl, b1, b2, d, f, now, was, Wo.mono H3.out.wo (by omega), HP.out, Nat.le_add_right _ _⟩
end

end Go.Proofs.YtglallhblcjffaaGreatDoor
