/-
  What Held, Dirty and Commit do.
-/
import Derived.Test.YtoecopmbaoklkaaPh
namespace Go.Proofs.Ytoecopmbaoklkaa
open Go.RowKit
set_option linter.unusedVariables false
set_option linter.unusedSimpArgs false
set_option maxRecDepth 100000

theorem held_nil (w : World) : Calls Try.prog 19 #[.pointer none] w fun e w' => e = .returned (.slice none 0 0) ∧ w = w' := by
  go_enter Try.func19, Try.ntmps19
  go_wp2
  go_ret
  exact ⟨rfl, rfl⟩
theorem dirty_nil (w : World) : Calls Try.prog 18 #[.pointer none] w fun e w' => e = .returned (.slice none 0 0) ∧ w = w' := by
  go_enter Try.func18, Try.ntmps18
  go_wp2
  go_ret
  exact ⟨rfl, rfl⟩
theorem pcommit_nil (w : World) : Calls Try.prog 17 #[.pointer none] w fun e w' => e = .returned (.int .i64 18) ∧ w = w' := by
  go_enter Try.func17, Try.ntmps17
  go_wp2
  go_ret
  exact ⟨rfl, rfl⟩
theorem zeros_made (n : Nat) : (madeCells (Value.int .i64 0).cells (n * 1)).toList = (List.replicate n (0 : Int)).map (Value.int .i64) := by
  simp [Value.cells, toList_madeCells_one]

section
variable {w : World} {S : Nat → Prop} {k q : Nat} {p : Pp}

theorem held_any (hl : p.hs.length ≤ 2000) (h : Pk w S k q p) : Calls Try.prog 19 #[.pointer (some ⟨q, 0, none⟩)] w fun e w' => ∃ v', e = .returned v' ∧ RowI w' w.heap.size v' (p.hs.map Hp.pl) ∧ Below w.heap.size w w' := by
  obtain ⟨i0, hi, hz0, hz1, hz2⟩ := info_parts info3
  obtain ⟨D, T, _, _, _, _, _, cv, uv, m, hb3, _, hu, _⟩ := h
  obtain ⟨va, vc, e1⟩ := hu.form
  subst e1
  have c4 : w.cell? ⟨q, 4, none⟩ = some (.slice va (p.hs.map Hp.pl).length vc) := hb3.cell (i := 4) rfl
  have hql := hb3.lt
  have HU := hid hu
  rw [List.length_map] at c4 HU
  have HN : Hid ((p.hs.map Hp.pl).length = p.hs.length) := List.length_map _
  generalize p.hs.map Hp.pl = U at *
  generalize p.hs.length = n at *
  clear hb3 hu
  have HK : Hid (∀ w5, Below w.heap.size w w5 → w5.cell? ⟨q, 4, none⟩ = some (.slice va n vc)) := fun w5 hb => (hb.cell (p := ⟨q, 4, none⟩) hql).trans c4
  clear hql
  go_enter Try.func19, Try.ntmps19
  go_wp2_with (first
    | (at_make; refine wpList_make_full _ rfl (.tmp 11) (.tmp 11) 42 rfl w.heap.size 3 i0 (.int .i64 0) 1 Try.underlying42 hi hz0 hz1 .i64 .i64 _ _ n rfl rfl rfl rfl (by rw [hz2]; omega) (by unfold maxLen; omega) (Nat.le_refl _) ?_; intro w1 hown hgrow; have HB1 := hid ((Below.refl _ w).grown hgrow (Nat.le_refl _) (fun k hk => by cases hk)); have c41 := HK.out w1 HB1.out; obtain ⟨w2, hcp, ho2, hg2⟩ := run_copy_rows w1 42 42 3 3 1 n w.heap.size 0 w.heap.size (.slice va n vc) (U.map (Value.int .i64)) _ Try.underlying42 info3s (by have h := HU.out.on HB1.out; unfold RowI at h; rw [HN.out] at h; exact h) hown (ints_one U); have HB2 := hid (HB1.out.grown hg2 HB1.out.size (fun k hk => by cases hk; exact Nat.le_refl _)); have HO2 := hid ho2; clear hown hgrow ho2 hg2 HB1 c4))
  go_ret
  refine ⟨_, rfl, ?_, HB2.out⟩
  unfold RowI
  rw [HN.out]
  exact HO2.out

set_option maxHeartbeats 1000000 in
theorem dirty_any (hl : p.ch.length ≤ 2000) (h : Pk w S k q p) : Calls Try.prog 18 #[.pointer (some ⟨q, 0, none⟩)] w fun e w' => ∃ v', e = .returned v' ∧ RowI w' w.heap.size v' (p.ch.map Pg.pl) ∧ Below w.heap.size w w' := by
  obtain ⟨i0, hi, hz0, hz1, hz2⟩ := info_parts info3
  obtain ⟨D, T, _, _, _, _, _, cv, uv, m, hb3, hr, _⟩ := h
  obtain ⟨va, vc, e1⟩ := own_form hr
  subst e1
  have c1 : w.cell? ⟨q, 1, none⟩ = some (.slice va p.ch.length vc) := hb3.cell (i := 1) rfl
  have hql := hb3.lt
  have HR := hid hr
  generalize p.ch = L at *
  obtain ⟨n, hnn⟩ : ∃ n, L.length = n := ⟨_, rfl⟩
  have HN := hid hnn
  rw [hnn] at c1 hl
  clear hb3 hr
  rw [hnn] at HR
  clear hnn
  have HK : Hid (∀ w5, Below w.heap.size w w5 → w5.cell? ⟨q, 1, none⟩ = some (.slice va n vc)) := fun w5 hb => (hb.cell (p := ⟨q, 1, none⟩) hql).trans c1
  clear hql
  go_enter Try.func18, Try.ntmps18
  go_wp2_with (first
    | (at_make; refine wpList_make_full _ rfl (.tmp 12) (.tmp 12) 42 rfl w.heap.size 3 i0 (.int .i64 0) 1 Try.underlying42 hi hz0 hz1 .i64 .i64 _ _ n rfl rfl rfl rfl (by rw [hz2]; omega) (by unfold maxLen; omega) (Nat.le_refl _) ?_; intro w1 hown hgrow; have HB1 := hid ((Below.refl _ w).grown hgrow (Nat.le_refl _) (fun k hk => by cases hk)); have c11 := HK.out w1 HB1.out; have HO1 := hid hown; clear hown hgrow c1))
  clear HK c11
  go_loopw [19] (fun i wr => ∃ j : Nat, j ≤ n ∧ i = .int .i64 (j : Nat) ∧ Hid (wr.ownsRow w.heap.size 3 1 (.slice (some ⟨w.heap.size, 0, none⟩) n n) n (((L.take j).map Pg.pl ++ List.replicate (n - j) 0).map (Value.int .i64))) ∧ Hid (Below w.heap.size w wr)) (fun i _ => n - (intOf i).toNat)
  case atStart =>
    refine ⟨0, Nat.zero_le _, rfl, ?_, HB1⟩
    have h1 := HO1.out
    rw [zeros_made] at h1
    exact h1
  case round =>
    obtain ⟨j, hj, rfl, HO, HB⟩ := hrel
    clear HO1 HB1
    by_cases hjn : j < n
    · have hji : (j : Int) < (n : Int) := by omega
      obtain ⟨c, hc⟩ : ∃ c, L[j]? = some c := ⟨_, List.getElem?_eq_getElem (by rw [HN.out]; exact hjn)⟩
      obtain ⟨g, e1, _, hgl⟩ := row_some HR.out (by rw [HN.out]; omega)
      subst e1
      have HR2 := hid (HR.out)
      obtain ⟨d0, d1, _⟩ := RowP.at HR.out hc
      have c0 : wr.cell? ⟨g, j * 2, none⟩ = some (.int .i64 c.pl) := (HB.out.cell (p := ⟨g, j * 2, none⟩) hgl).trans d0
      have c1 : wr.cell? ⟨g, j * 2 + 1, none⟩ = some (.string c.data) := (HB.out.cell (p := ⟨g, j * 2 + 1, none⟩) hgl).trans d1
      obtain ⟨W, hW⟩ : ∃ W, wr.alloc (.cells #[.int .i64 c.pl, .string c.data] 64) = W := ⟨_, rfl⟩
      have hbW : Below wr.heap.size wr W := by rw [← hW]; exact (Below.refl _ _).alloc (Nat.le_refl _) _
      have bW : Blk W wr.heap.size #[.int .i64 c.pl, .string c.data] 64 := by rw [← hW]; exact Blk.made _ _ _
      have x0 := bW.cell (i := 0) rfl
      have hOW := own_below HO.out hbW
      obtain ⟨_, _, e2, _, _, hcc⟩ := own_cells hOW
      cases e2
      have hl1 : ((L.take j).map Pg.pl).length = j := by rw [List.length_map, List.length_take, HN.out]; omega
      obtain ⟨g2, e3, _, _, y0, z0⟩ := hcc j (.int .i64 0) (by
        rw [List.getElem?_map, List.getElem?_append_right (by omega), hl1, Nat.sub_self, List.getElem?_replicate, if_pos (by omega)]
        rfl)
      cases e3
      have HO3 : Hid ((W.setCell ⟨w.heap.size, j, none⟩ (.int .i64 c.pl)).ownsRow w.heap.size 3 1 (.slice (some ⟨w.heap.size, 0, none⟩) n n) n (((L.take (j + 1)).map Pg.pl ++ List.replicate (n - (j + 1)) 0).map (Value.int .i64))) := by
        have h2 := own_set hOW j (.int .i64 c.pl)
        have e : (((L.take j).map Pg.pl ++ List.replicate (n - j) 0).map (Value.int .i64)).set j (.int .i64 c.pl) = (((L.take (j + 1)).map Pg.pl ++ List.replicate (n - (j + 1)) 0).map (Value.int .i64)) := by
          rw [take_snoc hc, List.map_append, List.map_append, List.set_append_right _ _ (by rw [List.length_map, hl1]; exact Nat.le_refl _), List.length_map, hl1, Nat.sub_self, show n - j = (n - (j + 1)) + 1 by omega, List.replicate_succ, List.map_cons, List.set_cons_zero]
          simp
        rw [e] at h2
        exact h2
      have HB3 : Hid (Below w.heap.size w (W.setCell ⟨w.heap.size, j, none⟩ (.int .i64 c.pl))) := (HB.out.trans (hbW.mono HB.out.size)).setCell (p := ⟨w.heap.size, j, none⟩) (Nat.le_refl _) _
      clear hcc hOW HO HB bW hbW d0 d1 hc HR2 hgl hl1
      go_wp2_with fail
      try rw [hW]
      clear hW c0 c1
      go_wp2_with fail
      go_roundw
      case rel => exact ⟨j + 1, by omega, by go_num, HO3, HB3⟩
      case measure => simp [intOf]; omega
    · obtain rfl : j = n := by omega
      go_wp2_with fail
      go_ret
      refine ⟨_, rfl, ?_, HB.out⟩
      have h1 := HO.out
      rw [Nat.sub_self, List.replicate_zero, List.append_nil, List.take_of_length_le (by rw [HN.out]; exact Nat.le_refl _)] at h1
      unfold RowI
      rw [List.length_map, HN.out]
      exact h1
end

end Go.Proofs.Ytoecopmbaoklkaa
