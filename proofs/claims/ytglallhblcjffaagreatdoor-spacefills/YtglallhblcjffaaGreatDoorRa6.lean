/-
  The document's space: a new one.
-/
import Derived.Test.YtglallhblcjffaaGreatDoorRa5
namespace Go.Proofs.YtglallhblcjffaaGreatDoor
open Go.RowKit
set_option linter.unusedVariables false
set_option linter.unusedSimpArgs false
set_option maxRecDepth 100000

/-- a new space -/
def rNewP (n : Nat) : Rsp := ⟨n, ⟨(zs 248).toArray⟩, List.replicate (pgs n - 2) ⟨(zs 256).toArray⟩, List.replicate (pgs n - 2) false⟩
theorem rNewP_ok {n : Nat} (h1 : 64 ≤ n) (h2 : n ≤ 2048) : (rNewP n).Ok := ⟨h1, h2, by unfold rNewP; simp, by unfold rNewP; simp⟩
theorem rep_snoc {α : Type} (j : Nat) (x : α) : List.replicate j x ++ [x] = List.replicate (j + 1) x := by
  rw [List.replicate_succ']
set_option maxHeartbeats 2000000 in
theorem rNew_any (n : Nat) (h1 : 64 ≤ n) (h2 : n ≤ 2048) (w : World) : Calls Tryz.prog 20 #[.int .i64 (n : Nat)] w fun e w' => ∃ b', e = .returned (.pointer (some ⟨b', 0, none⟩)) ∧ Nr w w' b' (rNewP n) := by
  obtain ⟨b1, b2, b3, b4, b5⟩ := frs_small h1 h2
  have HPG : Hid (∀ w1 : World, Calls Tryz.prog 22 #[.int .i64 (n : Nat)] w1 fun e w' => e = .returned (.int .i64 (pgs n : Nat)) ∧ w1 = w') := fun w1 => rPages_any n h1 h2 w1
  have hz8 : Calls Tryz.prog 48 #[.int .i64 248] w fun e w' => e = .returned (.string ⟨(zs 248).toArray⟩) ∧ Below w.heap.size w w' := zeros_any 248 w (by decide)
  have HZ6 : Hid (∀ w1 : World, Calls Tryz.prog 48 #[.int .i64 256] w1 fun e w' => e = .returned (.string ⟨(zs 256).toArray⟩) ∧ Below w1.heap.size w1 w') := fun w1 => zeros_any 256 w1 (by decide)
  unfold rNewP
  generalize (⟨(zs 248).toArray⟩ : ByteArray) = tp at *
  generalize (⟨(zs 256).toArray⟩ : ByteArray) = zz at *
  generalize pgs n = M at *
  obtain ⟨c, hc⟩ : ∃ c, M - 2 = c := ⟨_, rfl⟩
  have hMc : M = c + 2 := by omega
  have hwM : IntKind.i64.wrap ((M : Int) - 2) = (c : Int) := by rw [IntKind.wrap_i64]; omega
  have hc2 : c ≤ 1017 := by omega
  rw [hc]
  clear b1 b2 b3 b4 b5 hc hMc
  go_enter Tryz.func20, Tryz.ntmps20
  go_wp2_with (go_at_call 48; refine hz8.mono ?_; clear hz8; rintro e w1 ⟨rfl, hb1⟩; have HN1 := hid (Nr.made w w1 hb1 n tp); clear hb1)
  generalize w1.alloc (.cells #[.int .i64 (n : Nat), .string tp, .slice none 0 0, .slice none 0 0] 72) = w2 at HN1 ⊢
  generalize w1.heap.size = b at *
  go_loopw [4] (fun i wr => ∃ j : Nat, j ≤ c ∧ i = .int .i64 (j : Nat) ∧ Hid (Nr w wr b ⟨n, tp, List.replicate j zz, List.replicate j false⟩)) (fun i _ => c - (intOf i).toNat)
  case atStart => exact ⟨0, Nat.zero_le _, rfl, HN1⟩
  case round =>
    obtain ⟨j, hj, rfl, HN⟩ := hrel
    clear HN1
    by_cases hjc : j < c
    · have hji : (j : Int) < (c : Int) := by omega
      go_wp2_with (go_at_call 22; refine (HPG.out _).mono ?_; rintro e w9 ⟨rfl, rfl⟩)
      obtain ⟨pa, pc, ta, tc, i2, i3, j2, j3, f2, f3, hl1⟩ := HN.out.read
      have HSW : wr.drew.cell? ⟨b, 2, none⟩ = some (.slice pa j pc) := by rw [show wr.drew.cell? ⟨b, 2, none⟩ = _ from i2]; simp
      have HNd := hid (HN.out.on ((Below.refl _ wr).drew))
      refine wp_region_m (fun w' => w'.cell? ⟨b, 2, none⟩ = some (.slice pa j pc)) 8 (by kernel_rfl) ?_
      refine wpAnyM_pick (i := 0) (some 16) (v := ?vz1) rfl rfl (by kernel_rfl) (by kernel_rfl) (by kernel_rfl) (by kernel_rfl) (fun _ _ _ h => h) (Or.inl ⟨by rfl, ?hz1⟩) HSW ?rz1
      case hz1 => intro w hSw; go_simp; try with_reducible rfl
      try simp only [Act.put, List.setIfInBounds_toArray, List.set_cons_zero, List.set_cons_succ]
      refine wpAnyM_pick (i := 1) (some 17) (v := ?vz2) rfl rfl (by kernel_rfl) (by kernel_rfl) (by kernel_rfl) (by kernel_rfl) (fun _ _ _ h => h) (Or.inl ⟨by rfl, ?hz2⟩) HSW ?rz2
      case hz2 => intro w hSw; go_simp; try with_reducible rfl
      try simp only [Act.put, List.setIfInBounds_toArray, List.set_cons_zero, List.set_cons_succ]
      refine wpAnyM_pick (i := 2) (some 18) (v := ?vz3) rfl rfl (by kernel_rfl) (by kernel_rfl) (by kernel_rfl) (by kernel_rfl) (fun _ _ _ h => h) (Or.inl ⟨by rfl, ?hz3⟩) HSW ?rz3
      case hz3 => intro w hSw; go_simp; try with_reducible rfl
      try simp only [Act.put, List.setIfInBounds_toArray, List.set_cons_zero, List.set_cons_succ]
      refine wpAnyM_pick (i := 3) (some 19) (v := ?vz4) rfl rfl (by kernel_rfl) (by kernel_rfl) (by kernel_rfl) (by kernel_rfl) (fun _ _ _ h => h) (Or.inl ⟨by rfl, ?hz4⟩) HSW ?rz4
      case hz4 => intro w hSw; go_simp; try with_reducible rfl
      try simp only [Act.put, List.setIfInBounds_toArray, List.set_cons_zero, List.set_cons_succ]
      refine wpAnyM_pick (i := 4) (some 20) (v := ?vz5) rfl rfl (by kernel_rfl) (by kernel_rfl) (by kernel_rfl) (by kernel_rfl) (fun _ _ _ h => h) (Or.inl ⟨by rfl, ?hz5⟩) HSW ?rz5
      case hz5 => intro w hSw; go_simp; try with_reducible rfl
      try simp only [Act.put, List.setIfInBounds_toArray, List.set_cons_zero, List.set_cons_succ]
      refine wpAnyM_one (i := 5) (by kernel_rfl) rfl (fun K hK => ?_)
      go_simp
      go_at_call 48
      refine (HZ6.out _).mono ?_
      rintro e w5 ⟨rfl, hb5⟩
      have HN5 := hid (HNd.out.on hb5)
      have HA5 := hid (HN5.out.on ((Below.refl _ w5).alloc (Nat.le_refl _) (.cells #[.string zz] 9)))
      have HC : Hid (∀ w6, Below wr.drew.heap.size wr.drew w6 → w6.cell? ⟨b, 2, none⟩ = some (.slice pa j pc)) := fun w6 hb => (hb.cell (p := ⟨b, 2, none⟩) hl1).trans HSW
      have HR5 : Hid (RowS (w5.alloc (.cells #[.string zz] 9)) w.heap.size (.slice pa j pc) (List.replicate j zz)) := by
        have h := ((j2.on ((Below.refl _ wr).drew)).on hb5).on ((Below.refl _ w5).alloc (Nat.le_refl _) (.cells #[.string zz] 9))
        show RowS _ _ _ _
        simpa using h
      have hk5 := HC.out w5 hb5
      have hk6 := HC.out (w5.alloc (.cells #[.string zz] 9)) (hb5.alloc hb5.size _)
      clear hb5 HC
      try go_simp
      refine hK.out _ _ (fun _ => hk5) ?_
      clear hK K
      try simp only [Act.put, List.setIfInBounds_toArray, List.set_cons_zero, List.set_cons_succ]
      refine wpAnyM_one (i := 6) (by kernel_rfl) rfl (fun K hK => ?_)
      go_simp
      refine hK.out _ _ (fun _ => hk6) ?_
      clear hK K
      try simp only [Act.put, List.setIfInBounds_toArray, List.set_cons_zero, List.set_cons_succ]
      refine wpAnyM_one (i := 7) (by kernel_rfl) rfl (fun K hK => ?_)
      simp only [List.getElem_toArray, List.getElem_cons_succ, List.getElem_cons_zero]
      rw [if_pos (by rfl)]
      refine wp_strs _ w.heap.size HA5.out.below.size (.tmp 20) (.tmp 22) rfl _ (List.replicate j zz) j (by simp) rfl HR5.out ⟨w5.heap.size, 0, none⟩ [zz] 1 1 rfl (by decide) rfl (cells_one w5 _ 9) (by omega) ?_
      intro va vc w6 hr6 hg6
      rw [rep_snoc] at hr6
      obtain ⟨o1, o2, o3, o4⟩ := HA5.out.pg hk6 hg6 hr6
      have HN6 := hid o4
      clear hr6 hg6 o4
      refine hK.out _ _ (fun _ => o1) ?_
      clear hK K
      try simp only [Act.put, List.setIfInBounds_toArray, List.set_cons_zero, List.set_cons_succ]
      refine wpAnyM_one (i := 8) (by kernel_rfl) rfl (fun K hK => ?_)
      go_simp
      refine hK.out _ _ (fun h => absurd h (by decide)) ?_
      clear hK K
      refine wpAnyM_one (i := 9) (by kernel_rfl) rfl (fun K hK => ?_)
      go_simp
      refine hK.out _ _ (fun h => absurd h (by decide)) ?_
      clear hK K
      refine wpAnyM_one (i := 10) (by kernel_rfl) rfl (fun K hK => ?_)
      go_simp
      refine hK.out _ _ (fun h => absurd h (by decide)) ?_
      clear hK K
      refine wpAnyM_done (by kernel_rfl) ?_ _
      try simp only [Act.put, List.setIfInBounds_toArray, List.set_cons_zero, List.set_cons_succ]
      generalize w6.setCell ⟨b, 2, none⟩ (.slice va (j + 1) vc) = w7 at HN6 ⊢
      clear o1 o2 o3 hk5 hk6 HR5 HA5 HN5 HNd HSW i2 i3 j2 j3 f2 f3 hl1 HN
      obtain ⟨pa2, pc2, ta2, tc2, _, i3, _, j3, _, f3, hl7⟩ := HN6.out.read
      have e3 : w7.cell? ⟨b, 3, none⟩ = some (.slice ta2 j tc2) := by rw [i3]; simp
      have HR7 : Hid (RowB (w7.alloc (.cells #[.bool false] 4)) w.heap.size (.slice ta2 j tc2) (List.replicate j false)) := by
        have h := j3.on ((Below.refl _ w7).alloc (Nat.le_refl _) (.cells #[.bool false] 4))
        show RowB _ _ _ _
        simpa using h
      have HA7 := hid (HN6.out.on ((Below.refl _ w7).alloc (Nat.le_refl _) (.cells #[.bool false] 4)))
      have hk7 : (w7.alloc (.cells #[.bool false] 4)).cell? ⟨b, 3, none⟩ = some (.slice ta2 j tc2) := (((Below.refl w7.heap.size w7).alloc (Nat.le_refl _) _).cell (p := ⟨b, 3, none⟩) hl7).trans e3
      clear i3 j3 f3 hl7
      go_wp2_with (at_builtin; refine wpList_plain rfl fun K hK => wp_bools _ w.heap.size HA7.out.below.size (.tmp 30) (.tmp 31) rfl _ (List.replicate j false) j (by simp) rfl HR7.out ⟨w7.heap.size, 0, none⟩ [false] 1 1 rfl (by decide) rfl (cells_one w7 _ 4) (by omega) ?_; intro ua uc w8 hr8 hg8; refine hK _ _ ?_; clear hK K; rw [rep_snoc] at hr8; obtain ⟨o1, o2, o3, o4⟩ := HA7.out.tk hk7 hg8 hr8; have HN8 := hid o4; clear hr8 hg8 o4)
      go_roundw
      case rel => exact ⟨j + 1, by omega, by go_num, HN8⟩
      case measure => simp [intOf]; omega
    · obtain rfl : j = c := by omega
      have hji : ¬ (j : Int) < (j : Int) := by omega
      go_wp2_with (go_at_call 22; refine (HPG.out _).mono ?_; rintro e w9 ⟨rfl, rfl⟩)
      go_ret
      exact ⟨b, rfl, HN.out⟩
end Go.Proofs.YtglallhblcjffaaGreatDoor
