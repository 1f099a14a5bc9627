/-
  join: lists as one, in memory of its own.
-/
import Derived.Test.YtjocbkhjbbpkjabCc
namespace Go.Proofs.Ytjocbkhjbbpkjab
open Go.RowKit
set_option linter.unusedVariables false
set_option linter.unusedSimpArgs false
set_option maxRecDepth 100000

theorem set_same {α : Type} {L : List α} {k : Nat} {x : α} (h : L[k]? = some x) : L.set k x = L := by
  obtain ⟨hk, rfl⟩ := List.getElem?_eq_some_iff.1 h
  exact List.set_getElem_self hk

set_option maxHeartbeats 4000000 in
theorem join_any (w : World) (v : Value) (K : List (List Ent)) (hv : LiesL w v K) (hn : K.flatten.length ≤ 4398046511000) (hs : SmlL K.flatten) :
    Calls Try.prog 14 #[v] w fun e w' => ∃ a c, e = .returned (.slice a K.flatten.length c) ∧ RowE w' w.heap.size (.slice a K.flatten.length c) K.flatten ∧ Below w.heap.size w w' := by
  have HCC := hid (concat_any w v K hv hn)
  obtain ⟨L, hL⟩ : ∃ L, K.flatten = L := ⟨_, rfl⟩
  rw [hL] at HCC hn hs ⊢
  have HSM := hid hs
  obtain ⟨n, hn'⟩ : ∃ n, L.length = n := ⟨_, rfl⟩
  have HN := hid hn'
  rw [hn'] at HCC hn ⊢
  clear hL hv hs hn'
  go_enter Try.func14, Try.ntmps14
  go_wp2_with (go_at_call 22; refine HCC.out.mono ?_; clear HCC; rintro e w1 ⟨va, vc, rfl, ho1, hb1⟩; have HO1 := hid ho1; have HB1 := hid hb1; clear ho1 hb1)
  go_loopw [10] (fun i wr => ∃ j : Nat, j ≤ n ∧ i = .int .i64 (j : Nat) ∧ Hid (RowE wr w.heap.size (.slice va n vc) L) ∧ Hid (Below w.heap.size w wr)) (fun i _ => n - (intOf i).toNat)
  case atStart => exact ⟨0, Nat.zero_le _, rfl, HO1, HB1⟩
  case round =>
    obtain ⟨j, hj, rfl, HO, HB⟩ := hrel
    clear HO1 HB1
    by_cases hjm : j < n
    · have hji : (j : Int) < (n : Int) := by omega
      obtain ⟨x, hx⟩ : ∃ x, L[j]? = some x := ⟨_, List.getElem?_eq_getElem (by rw [HN.out]; exact hjm)⟩
      obtain ⟨s1, s2⟩ := HSM.out x (List.mem_of_getElem? hx)
      have HC1 : Hid (∀ w1 : World, Calls Try.prog 23 #[.string x.k] w1 fun e w' => e = .returned (.string x.k) ∧ Below w1.heap.size w1 w') := fun w1 => clone_any _ w1 (by unfold Sml at s1; omega)
      have HC2 : Hid (∀ w1 : World, Calls Try.prog 23 #[.string x.v] w1 fun e w' => e = .returned (.string x.v) ∧ Below w1.heap.size w1 w') := fun w1 => clone_any _ w1 (by unfold Sml at s2; omega)
      obtain ⟨g, vc', e1, v1, v2, hgB, hgl⟩ := own_some HO.out (by rw [HN.out]; omega)
      have hnn : L.length = n := HN.out
      injection e1 with e1 e2 e3
      subst e1
      subst e3
      obtain ⟨_, _, e4, _, _, hcc⟩ := own_cells HO.out
      cases e4
      obtain ⟨_, e5, _, _, c1, f1⟩ := hcc (j * 2) (.string x.k) (by rw [flatE_even, hx]; rfl)
      cases e5
      obtain ⟨_, e5, _, _, c2, f2⟩ := hcc (j * 2 + 1) (.string x.v) (by rw [flatE_odd, hx]; rfl)
      cases e5
      have HX := hid hx
      have hba : Below wr.heap.size wr (wr.alloc (.cells #[.string x.k, .string x.v] 26)) := (Below.refl _ wr).alloc (Nat.le_refl _) _
      have HBk := hid (Blk.made wr #[.string x.k, .string x.v] 26)
      have HOa := hid (HO.out.on hba)
      have HBa := hid (HB.out.trans (hba.mono HB.out.size))
      clear hcc hx s1 s2 hba HO HB hnn v1 v2 e2
      go_wp2_with fail
      clear c1 c2 f1 f2
      generalize wr.alloc (.cells #[.string x.k, .string x.v] 26) = wa at *
      generalize wr.heap.size = p at *
      obtain ⟨xk, xv⟩ := x
      simp only at HC1 HC2 HBk
      have hd0 : Below wa.heap.size wa wa.drew := (Below.refl _ wa).drew
      have HBk0 := hid (HBk.out.on hd0 HBk.out.lt)
      have HO0 := hid (HOa.out.on hd0)
      have HB0 := hid (HBa.out.trans (hd0.mono HBa.out.size))
      clear hd0 HBk HOa HBa
      refine wp_region_d (fun w' => w'.cell? ⟨p, 0, none⟩ = some (.string xk) ∧ w'.cell? ⟨p, 1, none⟩ = some (.string xv)) (fun _ => true) (by kernel_rfl) ?_
      generalize wa.drew = wd at *
      have hS : wd.cell? ⟨p, 0, none⟩ = some (.string xk) ∧ wd.cell? ⟨p, 1, none⟩ = some (.string xv) := ⟨HBk0.out.cell (i := 0) rfl, HBk0.out.cell (i := 1) rfl⟩
      refine wpAnyM_pick (i := 0) (some 15) (v := ?vz1) rfl rfl (by kernel_rfl) (by kernel_rfl) (by kernel_rfl) (by kernel_rfl) (fun _ _ _ h => h) (Or.inl ⟨by rfl, ?hz1⟩) hS ?rz1
      case hz1 => intro w hSw; (try have hs1 := hSw.1); (try have hs2 := hSw.2); go_simp; try with_reducible rfl
      try simp only [Act.put, List.setIfInBounds_toArray, List.set_cons_zero, List.set_cons_succ]
      refine wpAnyM_pick (i := 1) (some 16) (v := ?vz2) rfl rfl (by kernel_rfl) (by kernel_rfl) (by kernel_rfl) (by kernel_rfl) (fun _ _ _ h => h) (Or.inl ⟨by rfl, ?hz2⟩) hS ?rz2
      case hz2 => intro w hSw; (try have hs1 := hSw.1); (try have hs2 := hSw.2); go_simp; try with_reducible rfl
      try simp only [Act.put, List.setIfInBounds_toArray, List.set_cons_zero, List.set_cons_succ]
      refine wpAnyM_pick (i := 2) (some 17) (v := ?vz3) rfl rfl (by kernel_rfl) (by kernel_rfl) (by kernel_rfl) (by kernel_rfl) (fun _ _ _ h => h) (Or.inl ⟨by rfl, ?hz3⟩) hS ?rz3
      case hz3 => intro w hSw; (try have hs1 := hSw.1); (try have hs2 := hSw.2); go_simp; try with_reducible rfl
      try simp only [Act.put, List.setIfInBounds_toArray, List.set_cons_zero, List.set_cons_succ]
      refine wpAnyM_pick (i := 3) (some 18) (v := ?vz4) rfl rfl (by kernel_rfl) (by kernel_rfl) (by kernel_rfl) (by kernel_rfl) (fun _ _ _ h => h) (Or.inl ⟨by rfl, ?hz4⟩) hS ?rz4
      case hz4 => intro w hSw; (try have hs1 := hSw.1); (try have hs2 := hSw.2); go_simp; try with_reducible rfl
      try simp only [Act.put, List.setIfInBounds_toArray, List.set_cons_zero, List.set_cons_succ]
      refine wpAnyM_pick (i := 5) (some 20) (v := ?vz5) rfl rfl (by kernel_rfl) (by kernel_rfl) (by kernel_rfl) (by kernel_rfl) (fun _ _ _ h => h) (Or.inl ⟨by rfl, ?hz5⟩) hS ?rz5
      case hz5 => intro w hSw; (try have hs1 := hSw.1); (try have hs2 := hSw.2); go_simp; try with_reducible rfl
      try simp only [Act.put, List.setIfInBounds_toArray, List.set_cons_zero, List.set_cons_succ]
      refine wpAnyM_pick (i := 6) (some 21) (v := ?vz6) rfl rfl (by kernel_rfl) (by kernel_rfl) (by kernel_rfl) (by kernel_rfl) (fun _ _ _ h => h) (Or.inl ⟨by rfl, ?hz6⟩) hS ?rz6
      case hz6 => intro w hSw; (try have hs1 := hSw.1); (try have hs2 := hSw.2); go_simp; try with_reducible rfl
      try simp only [Act.put, List.setIfInBounds_toArray, List.set_cons_zero, List.set_cons_succ]
      refine wpAnyM_one (i := 4) (by kernel_rfl) rfl (fun K hK => ?_)
      go_simp
      go_at_call 23
      refine (HC1.out _).mono ?_
      rintro e w3 ⟨rfl, hb3⟩
      have HBk3 := hid (HBk0.out.on hb3 HBk0.out.lt)
      have HO3 := hid (HO0.out.on hb3)
      have HB3 := hid (HB0.out.trans (hb3.mono HB0.out.size))
      clear hb3 HBk0 HO0 HB0 hS HC1
      have hS : w3.cell? ⟨p, 0, none⟩ = some (.string xk) ∧ w3.cell? ⟨p, 1, none⟩ = some (.string xv) := ⟨HBk3.out.cell (i := 0) rfl, HBk3.out.cell (i := 1) rfl⟩
      go_wp2_with fail
      refine hK.out _ _ (fun _ => hS) ?_
      clear hK K
      try simp only [Act.put, List.setIfInBounds_toArray, List.set_cons_zero, List.set_cons_succ]
      refine wpAnyM_one (i := 7) (by kernel_rfl) rfl (fun K hK => ?_)
      go_simp
      go_at_call 23
      refine (HC2.out _).mono ?_
      rintro e w4 ⟨rfl, hb4⟩
      have HBk4 := hid (HBk3.out.on hb4 HBk3.out.lt)
      have HO4 := hid (HO3.out.on hb4)
      have HB4 := hid (HB3.out.trans (hb4.mono HB3.out.size))
      clear hb4 HBk3 HO3 HB3 hS HC2
      have hS : w4.cell? ⟨p, 0, none⟩ = some (.string xk) ∧ w4.cell? ⟨p, 1, none⟩ = some (.string xv) := ⟨HBk4.out.cell (i := 0) rfl, HBk4.out.cell (i := 1) rfl⟩
      go_wp2_with fail
      refine hK.out _ _ (fun _ => hS) ?_
      clear hK K
      try simp only [Act.put, List.setIfInBounds_toArray, List.set_cons_zero, List.set_cons_succ]
      refine wpAnyM_pick (i := 8) (some 23) (v := ?vz7) rfl rfl (by kernel_rfl) (by kernel_rfl) (by kernel_rfl) (by kernel_rfl) (fun _ _ _ h => h) (Or.inl ⟨by rfl, ?hz7⟩) hS ?rz7
      case hz7 => intro w hSw; (try have hs1 := hSw.1); (try have hs2 := hSw.2); go_simp; try with_reducible rfl
      try simp only [Act.put, List.setIfInBounds_toArray, List.set_cons_zero, List.set_cons_succ]
      refine wpAnyM_pick (i := 9) (some 24) (v := ?vz8) rfl rfl (by kernel_rfl) (by kernel_rfl) (by kernel_rfl) (by kernel_rfl) (fun _ _ _ h => h) (Or.inl ⟨by rfl, ?hz8⟩) hS ?rz8
      case hz8 => intro w hSw; (try have hs1 := hSw.1); (try have hs2 := hSw.2); go_simp; try with_reducible rfl
      try simp only [Act.put, List.setIfInBounds_toArray, List.set_cons_zero, List.set_cons_succ]
      obtain ⟨_, _, e4, _, _, hcc⟩ := own_cells HO4.out
      cases e4
      obtain ⟨_, e5, _, _, c1, f1⟩ := hcc (j * 2) (.string xk) (by rw [flatE_even, HX.out]; rfl)
      cases e5
      obtain ⟨_, e5, _, _, c2, f2⟩ := hcc (j * 2 + 1) (.string xv) (by rw [flatE_odd, HX.out]; rfl)
      cases e5
      have HO5 : Hid (RowE ((w4.setCell ⟨g, j * 2, none⟩ (.string xk)).setCell ⟨g, j * 2 + 1, none⟩ (.string xv)) w.heap.size (.slice (some ⟨g, 0, none⟩) L.length vc) L) := by
        have r1 := own_set (own_set HO4.out (j * 2) (.string xk)) (j * 2 + 1) (.string xv)
        rw [flatE_set L j ⟨xk, xv⟩, set_same HX.out] at r1
        exact r1
      have k1 : Keep (fun j => j = g) w4 ((w4.setCell ⟨g, j * 2, none⟩ (.string xk)).setCell ⟨g, j * 2 + 1, none⟩ (.string xv)) := (Keep.set (S := fun j => j = g) w4 rfl _ _).trans (Keep.set (S := fun j => j = g) _ rfl _ _) (fun _ _ h => h)
      have HB5 := hid (HB4.out.trans (k1.below (fun j hj => by rw [hj]; exact hgB) HB4.out.size))
      have HBk5 := hid (k1.blk HBk4.out (fun e => by omega))
      clear k1 hcc HO4 HB4 hS HBk4
      refine wpAnyM_one (i := 10) (by kernel_rfl) rfl (fun K hK => ?_)
      go_simp
      refine hK.out _ _ (fun _ => ⟨HBk5.out.cell (i := 0) rfl, HBk5.out.cell (i := 1) rfl⟩) ?_
      clear hK K
      try simp only [Act.put, List.setIfInBounds_toArray, List.set_cons_zero, List.set_cons_succ]
      refine wpAnyM_done (by kernel_rfl) ?_ _
      clear c1 c2 f1 f2 HBk5
      generalize (w4.setCell ⟨g, j * 2, none⟩ (.string xk)).setCell ⟨g, j * 2 + 1, none⟩ (.string xv) = w6 at *
      go_wp2_with fail
      go_roundw
      case rel => exact ⟨j + 1, by omega, by go_num, HO5, HB5⟩
      case measure => simp [intOf]; omega
    · obtain rfl : j = n := by omega
      have hji : ¬ (j : Int) < (j : Int) := by omega
      go_wp2_with fail
      go_ret
      exact ⟨_, _, rfl, HO.out, HB.out⟩
end Go.Proofs.Ytjocbkhjbbpkjab

