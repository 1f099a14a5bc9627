/-
  What the document's Parse (rule) answers at any two texts.
-/
import Derived.Test.YtjpmlnigjbdnnaaDoorRc
import Derived.Test.YtjpmlnigjbdnnaaDoorRef
namespace Go.Proofs.YtjpmlnigjbdnnaaDoor
open Go.RowKit
set_option linter.unusedVariables false
set_option linter.unusedSimpArgs false
set_option maxRecDepth 100000

theorem rTerm_any (s : ByteArray) (w : World) : Calls Tryd.prog 45 #[.string s] w fun x w' => ∃ (a : Option Addr) (c : Nat) (j : Int), x = .returned (.tuple #[.slice a (prL s).length c, .int .i64 j, .int .i64 (prE s : Nat)]) ∧ Owns w' w.heap.size (.slice a (prL s).length c) (prL s) ∧ Below w.heap.size w w' := by
  refine (rParse_any s w).mono fun x w' h => ?_
  obtain ⟨h, hb⟩ := h
  cases hp : parse s with
  | bad j e =>
    rw [hp] at h
    rw [(prE_bad hp).1, (prE_bad hp).2]
    exact ⟨none, 0, _, h, World.ownsRow_nil _ _ _ _, hb⟩
  | ok M j =>
    rw [hp] at h
    obtain ⟨v, h1, h2⟩ := h
    rw [(prE_ok hp).1, (prE_ok hp).2]
    obtain ⟨a, c, hv, _⟩ := own_cells h2
    subst hv
    exact ⟨a, c, _, h1, h2, hb⟩

theorem rd_1 {l r : ByteArray} (h : prE l ≠ 0) : rdE l r = prE l := fst_hit _ 3 0 0 (Nat.le_refl _) (by omega) (fun j h1 h2 => by omega) h
theorem rd_2 {l r : ByteArray} (h0 : prE l = 0) (h : prE r ≠ 0) : rdE l r = prE r := fst_hit _ 3 0 1 (by omega) (by omega) (fun j h1 h2 => by cases j with | zero => exact h0 | succ j => omega) h
theorem rd_3 {l r : ByteArray} (h0 : prE l = 0) (h1 : prE r = 0) : rdE l r = chk 0 (prL l) (prL r) := by
  unfold rdE
  simp only [fst, rdr]
  rw [if_pos h0, if_pos h1]
  by_cases h : chk 0 (prL l) (prL r) = 0
  · rw [if_pos h, h]
  · rw [if_neg h]

set_option maxHeartbeats 1000000 in
theorem rRuleParse_any (l r : ByteArray) (w : World) :
    Calls Tryd.prog 15 #[.string l, .string r] w fun e w' => ∃ lv rv, e = .returned (.tuple #[.agg #[.int .i64 0, lv, rv], .int .i64 (rdE l r : Nat)]) ∧ Lies w' lv (rdL l r) ∧ Lies w' rv (rdR l r) ∧ Below w.heap.size w w' := by
  have h1 := fun w => rTerm_any l w
  have h2 := fun w => rTerm_any r w
  have hy := Blk.made w #[.int .i64 0, .slice none 0 0, .slice none 0 0] 25
  have hb : Below w.heap.size w (w.alloc (.cells #[.int .i64 0, .slice none 0 0, .slice none 0 0] 25)) := (Below.refl _ w).alloc (Nat.le_refl _) _
  have HY : Hid (Blk (w.alloc (.cells #[.int .i64 0, .slice none 0 0, .slice none 0 0] 25)) w.heap.size #[.int .i64 0, .slice none 0 0, .slice none 0 0] 25) := hy
  have HB : Hid (Below w.heap.size w (w.alloc (.cells #[.int .i64 0, .slice none 0 0, .slice none 0 0] 25))) := hb
  clear hy hb
  unfold rdL rdR
  by_cases hl : prE l = 0
  · rw [hl] at h1
    by_cases hr : prE r = 0
    · rw [hr] at h2
      rw [rd_3 hl hr]
      have hck : ∀ w1 a b, Owns w1 0 a (prL l) → Owns w1 0 b (prL r) → _ := fun w1 a b g1 g2 => rChk_any w1 0 a b (prL l) (prL r) (Owns.lies g1 (pr_fine l)) (Owns.lies g2 (pr_fine r))
      have FL : Hid (Fine (prL l)) := pr_fine l
      have FR : Hid (Fine (prL r)) := pr_fine r
      generalize prL l = L at h1 hck FL ⊢
      generalize prL r = R at h2 hck FR ⊢
      by_cases hE : chk 0 L R = 0
      · rw [if_pos hE, if_pos hE]
        rw [hE] at hck ⊢
        clear hl hr hE
        go_enter Tryd.func15, Tryd.ntmps15
        go_wp2_with (first
          | (go_at_call 45; refine (h1 _).mono ?_; clear h1; rintro e w1 ⟨la, lc, lj, rfl, o1, b1⟩; have D1 := HB.out.trans (b1.mono HB.out.size); have Y1 := HY.out.on b1 HY.out.lt)
          | (go_at_call 45; refine (h2 _).mono ?_; clear h2; rintro e w2 ⟨ra, rc, rj, rfl, o2, b2⟩; have D2 := D1.trans (b2.mono D1.size); have Y2 := Y1.on b2 Y1.lt; have o3 := own_below o1 b2; have A2 : Below w2.heap.size w2 (w2.alloc (.cells #[.int .i64 0, .slice la L.length lc, .slice ra R.length rc] 25)) := (Below.refl _ w2).alloc (Nat.le_refl _) _; have D3 := D2.trans (A2.mono D2.size); have Y3 := Y2.on A2 Y2.lt; have X3 := Blk.made w2 #[.int .i64 0, .slice la L.length lc, .slice ra R.length rc] 25; have p1 := own_base (own_below o3 A2) (Nat.zero_le _); have p2 := own_base (own_below o2 A2) (Nat.zero_le _))
          | (go_at_call 12; refine (hck _ _ _ p1 p2).mono ?_; rintro e w4 ⟨rfl, b4⟩; have X4 := X3.on b4 X3.lt; have Y4 := Y3.on b4 Y3.lt; have c0 := X4.cell (i := 0) rfl; have c1 := X4.cell (i := 1) rfl; have c2 := X4.cell (i := 2) rfl; have d0 := Y4.cell (i := 0) rfl; have d1 := Y4.cell (i := 1) rfl; have d2 := Y4.cell (i := 2) rfl; have f0 := Y4.free 0; have f1 := Y4.free 1; have f2 := Y4.free 2; have D4 := D3.trans (b4.mono D3.size); have p3 := own_below p1 b4; have p4 := own_below p2 b4))
        obtain ⟨hD, hg2⟩ := set3 Y4 (.int .i64 0) (.slice la L.length lc) (.slice ra R.length rc)
        generalize ((w4.setCell ⟨w.heap.size, 0, none⟩ (.int .i64 0)).setCell ⟨w.heap.size, 1, none⟩ (.slice la L.length lc)).setCell ⟨w.heap.size, 2, none⟩ (.slice ra R.length rc) = w5 at hD hg2 ⊢
        have e0 := hD.cell (i := 0) rfl
        have e1 := hD.cell (i := 1) rfl
        have e2 := hD.cell (i := 2) rfl
        have hs2 := A2.size
        have hs4 := b4.size
        have hbm := D4.grown hg2 D4.size (fun k hk => by cases hk; exact Nat.le_refl _)
        have hwl := HY.out.lt
        have q1 : Owns w5 (w.heap.size + 1) (.slice la L.length lc) L := own_apart (p := w.heap.size) (own_base (own_below (own_below o3 A2) b4) (by have := HY.out.lt; omega)) hg2 (by omega)
        have q2 : Owns w5 (w.heap.size + 1) (.slice ra R.length rc) R := own_apart (p := w.heap.size) (own_base (own_below (own_below o2 A2) b4) (by have := Y1.lt; omega)) hg2 (by omega)
        refine bodyPost_ret (v := .tuple #[.agg #[.int .i64 0, .slice la L.length lc, .slice ra R.length rc], .int .i64 0]) (by simp [results, Tryd.results15, go_sem, e0, e1, e2]) rfl ⟨_, _, rfl, Owns.lies q1 FL.out, Owns.lies q2 FR.out, hbm⟩
      · rw [if_neg hE, if_neg hE]
        generalize chk 0 L R = E at hck hE ⊢
        have z1 : ((E : Int) == 0) = false := by simp only [beq_eq_false_iff_ne]; omega
        have z2 : ¬ (E : Int) = 0 := by omega
        clear hl hr hE
        go_enter Tryd.func15, Tryd.ntmps15
        go_wp2_with (first
          | (go_at_call 45; refine (h1 _).mono ?_; clear h1; rintro e w1 ⟨la, lc, lj, rfl, o1, b1⟩; have D1 := HB.out.trans (b1.mono HB.out.size); have Y1 := HY.out.on b1 HY.out.lt)
          | (go_at_call 45; refine (h2 _).mono ?_; clear h2; rintro e w2 ⟨ra, rc, rj, rfl, o2, b2⟩; have D2 := D1.trans (b2.mono D1.size); have Y2 := Y1.on b2 Y1.lt; have o3 := own_below o1 b2; have A2 : Below w2.heap.size w2 (w2.alloc (.cells #[.int .i64 0, .slice la L.length lc, .slice ra R.length rc] 25)) := (Below.refl _ w2).alloc (Nat.le_refl _) _; have D3 := D2.trans (A2.mono D2.size); have Y3 := Y2.on A2 Y2.lt; have X3 := Blk.made w2 #[.int .i64 0, .slice la L.length lc, .slice ra R.length rc] 25; have p1 := own_base (own_below o3 A2) (Nat.zero_le _); have p2 := own_base (own_below o2 A2) (Nat.zero_le _))
          | (go_at_call 12; refine (hck _ _ _ p1 p2).mono ?_; rintro e w4 ⟨rfl, b4⟩; have Y4 := Y3.on b4 Y3.lt; have d0 := Y4.cell (i := 0) rfl; have d1 := Y4.cell (i := 1) rfl; have d2 := Y4.cell (i := 2) rfl; have f0 := Y4.free 0; have f1 := Y4.free 1; have f2 := Y4.free 2; have D4 := D3.trans (b4.mono D3.size)))
        obtain ⟨hD, hg2⟩ := set3 Y4 (.int .i64 0) (.slice none 0 0) (.slice none 0 0)
        generalize ((w4.setCell ⟨w.heap.size, 0, none⟩ (.int .i64 0)).setCell ⟨w.heap.size, 1, none⟩ (.slice none 0 0)).setCell ⟨w.heap.size, 2, none⟩ (.slice none 0 0) = w5 at hD hg2 ⊢
        have e0 := hD.cell (i := 0) rfl
        have e1 := hD.cell (i := 1) rfl
        have e2 := hD.cell (i := 2) rfl
        have hbm := D4.grown hg2 D4.size (fun k hk => by cases hk; exact Nat.le_refl _)
        refine bodyPost_ret (v := .tuple #[.agg #[.int .i64 0, .slice none 0 0, .slice none 0 0], .int .i64 (E : Nat)]) (by simp [results, Tryd.results15, go_sem, e0, e1, e2]) rfl ⟨_, _, rfl, nil_lies _, nil_lies _, hbm⟩
    · have hz : rdE l r ≠ 0 := by rw [rd_2 hl hr]; exact hr
      rw [if_neg hz, if_neg hz, rd_2 hl hr]
      generalize prE r = E at h2 hr ⊢
      have z1 : ((E : Int) == 0) = false := by simp only [beq_eq_false_iff_ne]; omega
      have z2 : ¬ (E : Int) = 0 := by omega
      clear hl hr hz
      go_enter Tryd.func15, Tryd.ntmps15
      go_wp2_with (first
        | (go_at_call 45; refine (h1 _).mono ?_; clear h1; rintro e w1 ⟨la, lc, lj, rfl, o1, b1⟩; have D1 := HB.out.trans (b1.mono HB.out.size); have Y1 := HY.out.on b1 HY.out.lt)
        | (go_at_call 45; refine (h2 _).mono ?_; clear h2; rintro e w2 ⟨ra, rc, rj, rfl, o2, b2⟩; have D2 := D1.trans (b2.mono D1.size); have Y2 := Y1.on b2 Y1.lt; have d0 := Y2.cell (i := 0) rfl; have d1 := Y2.cell (i := 1) rfl; have d2 := Y2.cell (i := 2) rfl; have f0 := Y2.free 0; have f1 := Y2.free 1; have f2 := Y2.free 2))
      obtain ⟨hD, hg2⟩ := set3 Y2 (.int .i64 0) (.slice none 0 0) (.slice none 0 0)
      generalize ((w2.setCell ⟨w.heap.size, 0, none⟩ (.int .i64 0)).setCell ⟨w.heap.size, 1, none⟩ (.slice none 0 0)).setCell ⟨w.heap.size, 2, none⟩ (.slice none 0 0) = w5 at hD hg2 ⊢
      have e0 := hD.cell (i := 0) rfl
      have e1 := hD.cell (i := 1) rfl
      have e2 := hD.cell (i := 2) rfl
      have hbm := D2.grown hg2 D2.size (fun k hk => by cases hk; exact Nat.le_refl _)
      refine bodyPost_ret (v := .tuple #[.agg #[.int .i64 0, .slice none 0 0, .slice none 0 0], .int .i64 (E : Nat)]) (by simp [results, Tryd.results15, go_sem, e0, e1, e2]) rfl ⟨_, _, rfl, nil_lies _, nil_lies _, hbm⟩
  · have hz : rdE l r ≠ 0 := by rw [rd_1 hl]; exact hl
    rw [if_neg hz, if_neg hz, rd_1 hl]
    generalize prE l = E at h1 hl ⊢
    have z1 : ((E : Int) == 0) = false := by simp only [beq_eq_false_iff_ne]; omega
    have z2 : ¬ (E : Int) = 0 := by omega
    clear hl hz h2
    go_enter Tryd.func15, Tryd.ntmps15
    go_wp2_with (first
      | (go_at_call 45; refine (h1 _).mono ?_; clear h1; rintro e w1 ⟨la, lc, lj, rfl, o1, b1⟩; have D1 := HB.out.trans (b1.mono HB.out.size); have Y1 := HY.out.on b1 HY.out.lt; have d0 := Y1.cell (i := 0) rfl; have d1 := Y1.cell (i := 1) rfl; have d2 := Y1.cell (i := 2) rfl; have f0 := Y1.free 0; have f1 := Y1.free 1; have f2 := Y1.free 2))
    obtain ⟨hD, hg2⟩ := set3 Y1 (.int .i64 0) (.slice none 0 0) (.slice none 0 0)
    generalize ((w1.setCell ⟨w.heap.size, 0, none⟩ (.int .i64 0)).setCell ⟨w.heap.size, 1, none⟩ (.slice none 0 0)).setCell ⟨w.heap.size, 2, none⟩ (.slice none 0 0) = w5 at hD hg2 ⊢
    have e0 := hD.cell (i := 0) rfl
    have e1 := hD.cell (i := 1) rfl
    have e2 := hD.cell (i := 2) rfl
    have hbm := D1.grown hg2 D1.size (fun k hk => by cases hk; exact Nat.le_refl _)
    refine bodyPost_ret (v := .tuple #[.agg #[.int .i64 0, .slice none 0 0, .slice none 0 0], .int .i64 (E : Nat)]) (by simp [results, Tryd.results15, go_sem, e0, e1, e2]) rfl ⟨_, _, rfl, nil_lies _, nil_lies _, hbm⟩

end Go.Proofs.YtjpmlnigjbdnnaaDoor
