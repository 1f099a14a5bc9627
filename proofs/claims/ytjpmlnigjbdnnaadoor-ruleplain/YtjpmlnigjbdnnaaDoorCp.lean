/-
  The document's Copy and Same of rules.
-/
import Derived.Test.YtjpmlnigjbdnnaaDoorRp2
import Derived.Test.YtjpmlnigjbdnnaaDoorWake
import Derived.Deep.RegionHeld3
namespace Go.Proofs.YtjpmlnigjbdnnaaDoor
open Go.RowKit
set_option linter.unusedVariables false
set_option linter.unusedSimpArgs false
set_option maxRecDepth 100000

set_option maxHeartbeats 4000000 in
theorem rCopy_any (w : World) (id : Int) (lv rv : Value) (L R : List Cl) (hl : Lies w lv L) (hr : Lies w rv R) (zl : L.length * 24 ≤ 140737488355328) (zr : R.length * 24 ≤ 140737488355328) :
    Calls Tryd.prog 11 #[.agg #[.int .i64 id, lv, rv]] w fun e w' => ∃ lv' rv', e = .returned (.agg #[.int .i64 id, lv', rv']) ∧ Owns w' w.heap.size lv' L ∧ Owns w' w.heap.size rv' R ∧ Below w.heap.size w w' := by
  have hcL : ∀ w1, Below w.heap.size w w1 → _ := fun w1 h => copy_any w1 lv L (hl.on h) zl
  have hcR : ∀ w1, Below w.heap.size w w1 → _ := fun w1 h => copy_any w1 rv R (hr.on h) zr
  have hx : Blk ((w.alloc (.cells #[.int .i64 id, lv, rv] 25)).alloc (.cells #[.int .i64 0, .slice none 0 0, .slice none 0 0] 25)) w.heap.size #[.int .i64 id, lv, rv] 25 := (Blk.made w _ 25).alloc _
  have hy : Blk ((w.alloc (.cells #[.int .i64 id, lv, rv] 25)).alloc (.cells #[.int .i64 0, .slice none 0 0, .slice none 0 0] 25)) (w.heap.size + 1) #[.int .i64 0, .slice none 0 0, .slice none 0 0] 25 := Blk.madeAt _ _ _ (by simp)
  have hb : Below w.heap.size w ((w.alloc (.cells #[.int .i64 id, lv, rv] 25)).alloc (.cells #[.int .i64 0, .slice none 0 0, .slice none 0 0] 25)) := ((Below.refl _ w).alloc (Nat.le_refl _) _).alloc (by simp) _
  obtain ⟨la, lc, rfl, _⟩ := hl
  obtain ⟨ra, rc, rfl, _⟩ := hr
  go_enter Tryd.func11, Tryd.ntmps11
  go_wp2_with fail
  generalize (w.alloc (.cells #[.int .i64 id, .slice la L.length lc, .slice ra R.length rc] 25)).alloc (.cells #[.int .i64 0, .slice none 0 0, .slice none 0 0] 25) = wr at hx hy hb ⊢
  have hbd : Below w.heap.size w wr.drew := hb.drew
  have hX : Blk wr.drew w.heap.size #[.int .i64 id, .slice la L.length lc, .slice ra R.length rc] 25 := hx
  have hY : Blk wr.drew (w.heap.size + 1) #[.int .i64 0, .slice none 0 0, .slice none 0 0] 25 := hy
  have HS0 : wr.drew.cell? ⟨w.heap.size, 0, none⟩ = some (.int .i64 id) ∧ wr.drew.cell? ⟨w.heap.size, 1, none⟩ = some (.slice la L.length lc) ∧ wr.drew.cell? ⟨w.heap.size, 2, none⟩ = some (.slice ra R.length rc) := ⟨hX.cell rfl, hX.cell rfl, hX.cell rfl⟩
  have hXl := hX.lt
  have hYl := hY.lt
  have HXX : Hid (Blk wr.drew w.heap.size #[.int .i64 id, .slice la L.length lc, .slice ra R.length rc] 25) := hX
  have HYY : Hid (Blk wr.drew (w.heap.size + 1) #[.int .i64 0, .slice none 0 0, .slice none 0 0] 25) := hY
  clear hx hy hb hX hY
  go_region_held3 (fun w' => w'.cell? ⟨w.heap.size, 0, none⟩ = some (.int .i64 id) ∧ w'.cell? ⟨w.heap.size, 1, none⟩ = some (.slice la L.length lc) ∧ w'.cell? ⟨w.heap.size, 2, none⟩ = some (.slice ra R.length rc)) (first | exact HS0 | exact HS8 | exact HS9 | exact HS10 _ _ _)
    (first
      | (go_at_call 22; refine (hcL _ hbd).mono ?_; clear hcL; rintro e w8 ⟨v8, rfl, o8, b8⟩; obtain ⟨xa, xc, hxv, _⟩ := own_cells o8; subst hxv; have hX8 := HXX.out.on b8 hXl; have hY8 := HYY.out.on b8 hYl; have HS8 : w8.cell? ⟨w.heap.size, 0, none⟩ = some (.int .i64 id) ∧ w8.cell? ⟨w.heap.size, 1, none⟩ = some (.slice la L.length lc) ∧ w8.cell? ⟨w.heap.size, 2, none⟩ = some (.slice ra R.length rc) := ⟨hX8.cell rfl, hX8.cell rfl, hX8.cell rfl⟩; have hb8 := hbd.trans (b8.mono hbd.size))
      | (go_at_call 22; refine (hcR _ hb8).mono ?_; clear hcR; rintro e w9 ⟨v9, rfl, o9, b9⟩; obtain ⟨ya, yc, hyv, _⟩ := own_cells o9; subst hyv; have hX9 := hX8.on b9 hX8.lt; have hY9 := hY8.on b9 hY8.lt; have HS9 : w9.cell? ⟨w.heap.size, 0, none⟩ = some (.int .i64 id) ∧ w9.cell? ⟨w.heap.size, 1, none⟩ = some (.slice la L.length lc) ∧ w9.cell? ⟨w.heap.size, 2, none⟩ = some (.slice ra R.length rc) := ⟨hX9.cell rfl, hX9.cell rfl, hX9.cell rfl⟩; have f0 := hY9.free 0; have f1 := hY9.free 1; have f2 := hY9.free 2; have c0 := hY9.cell (i := 0) rfl; have c1 := hY9.cell (i := 1) rfl; have c2 := hY9.cell (i := 2) rfl; have hb9 := hb8.trans (b9.mono hb8.size); have o8b := own_below o8 b9; have HS10 : ∀ x y z, (((w9.setCell ⟨w.heap.size + 1, 0, none⟩ x).setCell ⟨w.heap.size + 1, 1, none⟩ y).setCell ⟨w.heap.size + 1, 2, none⟩ z).cell? ⟨w.heap.size, 0, none⟩ = some (.int .i64 id) ∧ (((w9.setCell ⟨w.heap.size + 1, 0, none⟩ x).setCell ⟨w.heap.size + 1, 1, none⟩ y).setCell ⟨w.heap.size + 1, 2, none⟩ z).cell? ⟨w.heap.size, 1, none⟩ = some (.slice la L.length lc) ∧ (((w9.setCell ⟨w.heap.size + 1, 0, none⟩ x).setCell ⟨w.heap.size + 1, 1, none⟩ y).setCell ⟨w.heap.size + 1, 2, none⟩ z).cell? ⟨w.heap.size, 2, none⟩ = some (.slice ra R.length rc) := (fun x y z => by { have h := ((hX9.other (p := w.heap.size + 1) (i := 0) (by omega) x).other (p := w.heap.size + 1) (i := 1) (by omega) y).other (p := w.heap.size + 1) (i := 2) (by omega) z; exact ⟨h.cell rfl, h.cell rfl, h.cell rfl⟩ })))
  obtain ⟨hD, hg2⟩ := set3 hY9 (.int .i64 id) (.slice xa L.length xc) (.slice ya R.length yc)
  clear HS0 HS8 HS9 HS10 f0 f1 f2 c0 c1 c2
  generalize ((w9.setCell ⟨w.heap.size + 1, 0, none⟩ (.int .i64 id)).setCell ⟨w.heap.size + 1, 1, none⟩ (.slice xa L.length xc)).setCell ⟨w.heap.size + 1, 2, none⟩ (.slice ya R.length yc) = w4 at hD hg2 ⊢
  go_wp2_with fail
  have e0 := hD.cell (i := 0) rfl
  have e1 := hD.cell (i := 1) rfl
  have e2 := hD.cell (i := 2) rfl
  refine bodyPost_ret (v := .agg #[.int .i64 id, .slice xa L.length xc, .slice ya R.length yc]) (by simp [results, Tryd.results11, go_sem, e0, e1, e2]) rfl ⟨_, _, rfl, ?_, ?_, ?_⟩
  · exact own_base (own_apart o8b hg2 (by omega)) hbd.size
  · exact own_base (own_apart o9 hg2 (by have := b8.size; omega)) hb8.size
  · exact hb9.grown hg2 hb9.size (fun k hk => by cases hk; omega)

theorem rSame_rule (w : World) (i j : Int) (l1 r1 l2 r2 : Value) (L R M N : List Cl) (h1 : Lies w l1 L) (h2 : Lies w r1 R) (h3 : Lies w l2 M) (h4 : Lies w r2 N) :
    Calls Tryd.prog 16 #[.agg #[.int .i64 i, l1, r1], .agg #[.int .i64 j, l2, r2]] w fun e w' => e = .returned (.bool (decide (i = j ∧ L = M ∧ R = N))) ∧ Below w.heap.size w w' := by
  have hs1 : ∀ w1, Below w.heap.size w w1 → _ := fun w1 h => same_any w1 l1 l2 L M (h1.on h) (h3.on h)
  have hs2 : ∀ w1, Below w.heap.size w w1 → _ := fun w1 h => same_any w1 r1 r2 R N (h2.on h) (h4.on h)
  have hx : Blk ((w.alloc (.cells #[.int .i64 i, l1, r1] 25)).alloc (.cells #[.int .i64 j, l2, r2] 25)) w.heap.size #[.int .i64 i, l1, r1] 25 := (Blk.made w _ 25).alloc _
  have hy : Blk ((w.alloc (.cells #[.int .i64 i, l1, r1] 25)).alloc (.cells #[.int .i64 j, l2, r2] 25)) (w.heap.size + 1) #[.int .i64 j, l2, r2] 25 := Blk.madeAt _ _ _ (by simp)
  have hb : Below w.heap.size w ((w.alloc (.cells #[.int .i64 i, l1, r1] 25)).alloc (.cells #[.int .i64 j, l2, r2] 25)) := ((Below.refl _ w).alloc (Nat.le_refl _) _).alloc (by simp) _
  obtain ⟨la, lc, rfl, _⟩ := h1
  obtain ⟨ra, rc, rfl, _⟩ := h2
  obtain ⟨ma, mc, rfl, _⟩ := h3
  obtain ⟨na, nc, rfl, _⟩ := h4
  have HX : Hid (Blk ((w.alloc (.cells #[.int .i64 i, .slice la L.length lc, .slice ra R.length rc] 25)).alloc (.cells #[.int .i64 j, .slice ma M.length mc, .slice na N.length nc] 25)) w.heap.size #[.int .i64 i, .slice la L.length lc, .slice ra R.length rc] 25) := hx
  have HY : Hid (Blk ((w.alloc (.cells #[.int .i64 i, .slice la L.length lc, .slice ra R.length rc] 25)).alloc (.cells #[.int .i64 j, .slice ma M.length mc, .slice na N.length nc] 25)) (w.heap.size + 1) #[.int .i64 j, .slice ma M.length mc, .slice na N.length nc] 25) := hy
  have HB : Hid (Below w.heap.size w ((w.alloc (.cells #[.int .i64 i, .slice la L.length lc, .slice ra R.length rc] 25)).alloc (.cells #[.int .i64 j, .slice ma M.length mc, .slice na N.length nc] 25))) := hb
  clear hx hy hb
  by_cases hij : i = j
  · have q : (i == j) = true := by simpa using hij
    by_cases hLM : L = M
    · have e : decide (i = j ∧ L = M ∧ R = N) = decide (R = N) := by simp [hij, hLM]
      rw [e]
      rw [decide_eq_true hLM] at hs1
      generalize decide (R = N) = d at hs2 ⊢
      clear hLM e hij
      go_enter Tryd.func16, Tryd.ntmps16
      go_wp2_with (first | (go_at_call 24; refine (hs1 _ HB.out).mono ?_; clear hs1; rintro e w1 ⟨rfl, b1⟩; have hbw := HB.out.trans (b1.mono HB.out.size); have c1 := (HX.out.on b1 HX.out.lt).cell (i := 2) rfl; have c2 := (HY.out.on b1 HY.out.lt).cell (i := 2) rfl) | (go_at_call 24; refine (hs2 _ hbw).mono ?_; rintro e w2 ⟨rfl, b2⟩))
      go_ret
      exact ⟨rfl, hbw.trans (b2.mono hbw.size)⟩
    · have e : decide (i = j ∧ L = M ∧ R = N) = false := by simp [hLM]
      rw [e]
      rw [decide_eq_false hLM] at hs1
      clear hLM e hs2 hij
      go_enter Tryd.func16, Tryd.ntmps16
      go_wp2_with (first | (go_at_call 24; refine (hs1 _ HB.out).mono ?_; clear hs1; rintro e w1 ⟨rfl, b1⟩; have hbw := HB.out.trans (b1.mono HB.out.size)))
      go_ret
      exact ⟨rfl, hbw⟩
  · have q : (i == j) = false := by simpa using hij
    have e : decide (i = j ∧ L = M ∧ R = N) = false := by simp [hij]
    rw [e]
    clear e hs1 hs2
    go_enter Tryd.func16, Tryd.ntmps16
    go_wp2_with fail
    go_ret
    exact ⟨rfl, HB.out⟩

theorem nil_lies (w : World) : Lies w (.slice none 0 0) [] := ⟨none, 0, rfl, Nat.le_refl _, Nat.zero_le _, (fun c hc => by cases hc), (fun k c hc => by simp at hc)⟩

end Go.Proofs.YtjpmlnigjbdnnaaDoor
