/-
  The document's Text and Plain of a right rule.
-/
import Derived.Test.YtjpmlnigjbdnnaaDoorNm
import Derived.Test.YtjpmlnigjbdnnaaDoorRc
import Derived.Test.YtjpmlnigjbdnnaaDoorRq
import Derived.Test.YtjpmlnigjbdnnaaDoorRText
namespace Go.Proofs.YtjpmlnigjbdnnaaDoor
open Go.RowKit
set_option linter.unusedVariables false
set_option linter.unusedSimpArgs false
set_option maxRecDepth 100000

set_option maxHeartbeats 4000000 in
theorem rRuleText_any (w : World) (id : Int) (lv rv : Value) (n1 n2 : ByteArray) (k1 k2 : Fo) (hl : Lies w lv (Fo.cons n1 k1 .nil).flat) (hr : Lies w rv (Fo.cons n2 k2 .nil).flat) (hL : check (Fo.cons n1 k1 .nil).flat = 0) (hR : check (Fo.cons n2 k2 .nil).flat = 0) :
    Calls Tryd.prog 19 #[.agg #[.int .i64 id, lv, rv]] w fun e w' => e = .returned (.string (txt n1 k1 ++ (⟨#[32, 45, 62, 32]⟩ : ByteArray) ++ txt n2 k2)) ∧ Below w.heap.size w w' := by
  have hcL : ∀ w1, Below w.heap.size w w1 → Calls Tryd.prog 56 #[lv] w1 fun e w' => e = .returned (.string (txt n1 k1)) ∧ Below w1.heap.size w1 w' := fun w1 h => rText_any (k1.size + 1) w1 lv n1 k1 (Nat.lt_succ_self _) (hl.on h) hL
  have hcR : ∀ w1, Below w.heap.size w w1 → Calls Tryd.prog 56 #[rv] w1 fun e w' => e = .returned (.string (txt n2 k2)) ∧ Below w1.heap.size w1 w' := fun w1 h => rText_any (k2.size + 1) w1 rv n2 k2 (Nat.lt_succ_self _) (hr.on h) hR
  have z1 := txt_len hL
  have z2 := txt_len hR
  have hx := Blk.made w #[.int .i64 id, lv, rv] 25
  have hb : Below w.heap.size w (w.alloc (.cells #[.int .i64 id, lv, rv] 25)) := (Below.refl _ w).alloc (Nat.le_refl _) _
  obtain ⟨la, lc, rfl, _⟩ := hl
  obtain ⟨ra, rc, rfl, _⟩ := hr
  generalize txt n1 k1 = t1 at *
  generalize txt n2 k2 = t2 at *
  clear hL hR
  generalize (Fo.cons n1 k1 .nil).flat.length = a1 at *
  generalize (Fo.cons n2 k2 .nil).flat.length = a2 at *
  have y1 : ¬ 9223372036854775807 < t1.size + 4 := by omega
  have y2 : ¬ 9223372036854775807 < t1.size + 4 + t2.size := by omega
  go_enter Tryd.func19, Tryd.ntmps19
  go_wp2_with fail
  generalize w.alloc (.cells #[.int .i64 id, .slice la a1 lc, .slice ra a2 rc] 25) = wr at hx hb ⊢
  have hbd : Below w.heap.size w wr.drew := hb.drew
  have X0 : Blk wr.drew w.heap.size #[.int .i64 id, .slice la a1 lc, .slice ra a2 rc] 25 := hx
  have S0 : wr.drew.cell? ⟨w.heap.size, 1, none⟩ = some (.slice la a1 lc) ∧ wr.drew.cell? ⟨w.heap.size, 2, none⟩ = some (.slice ra a2 rc) := ⟨X0.cell rfl, X0.cell rfl⟩
  clear hx hb
  go_region_held3 (fun w' => w'.cell? ⟨w.heap.size, 1, none⟩ = some (.slice la a1 lc) ∧ w'.cell? ⟨w.heap.size, 2, none⟩ = some (.slice ra a2 rc)) (first | exact S0 | exact S8 | exact S9)
    (first
      | (go_at_call 56; refine (hcL _ hbd).mono ?_; clear hcL; rintro e w8 ⟨rfl, b8⟩; have X8 := X0.on b8 X0.lt; have S8 : w8.cell? ⟨w.heap.size, 1, none⟩ = some (.slice la a1 lc) ∧ w8.cell? ⟨w.heap.size, 2, none⟩ = some (.slice ra a2 rc) := ⟨X8.cell rfl, X8.cell rfl⟩; have D8 := hbd.trans (b8.mono hbd.size))
      | (go_at_call 56; refine (hcR _ D8).mono ?_; clear hcR; rintro e w9 ⟨rfl, b9⟩; have X9 := X8.on b9 X8.lt; have S9 : w9.cell? ⟨w.heap.size, 1, none⟩ = some (.slice la a1 lc) ∧ w9.cell? ⟨w.heap.size, 2, none⟩ = some (.slice ra a2 rc) := ⟨X9.cell rfl, X9.cell rfl⟩; have D9 := D8.trans (b9.mono D8.size)))
  clear S0 S8 S9
  go_wp2_with fail
  go_ret
  exact ⟨rfl, D9⟩

set_option maxHeartbeats 4000000 in
theorem rRulePlain_any (w : World) (id : Int) (lv rv : Value) (L R : List Cl) (hl : Lies w lv L) (hr : Lies w rv R) (hE : chk id L R = 0) :
    Calls Tryd.prog 20 #[.agg #[.int .i64 id, lv, rv]] w fun e w' => ∃ lv' rv', e = .returned (.agg #[.int .i64 id, lv', rv']) ∧ Owns w' w.heap.size lv' (L.map (ren (varsOf L))) ∧ Owns w' w.heap.size rv' (R.map (ren (varsOf L))) ∧ Below w.heap.size w w' := by
  obtain ⟨_, hL, hR, h8, _, _⟩ := chk_zero hE
  have hVs := vs_of h8.1
  have hva : ∀ w1, Below w.heap.size w w1 → _ := fun w1 h => rVars_ok w1 lv L (hl.on h) hL
  have hcL : ∀ w1 v, Below w.heap.size w w1 → LiesS w1 v (varsOf L) → _ := fun w1 v h h2 => named_any w1 lv v L (varsOf L) (hl.on h) h2 (by omega) hVs
  have hcR : ∀ w1 v, Below w.heap.size w w1 → LiesS w1 v (varsOf L) → _ := fun w1 v h h2 => named_any w1 rv v R (varsOf L) (hr.on h) h2 (by omega) hVs
  have hx : Blk ((w.alloc (.cells #[.int .i64 id, lv, rv] 25)).alloc (.cells #[.int .i64 0, .slice none 0 0, .slice none 0 0] 25)) w.heap.size #[.int .i64 id, lv, rv] 25 := (Blk.made w _ 25).alloc _
  have hy : Blk ((w.alloc (.cells #[.int .i64 id, lv, rv] 25)).alloc (.cells #[.int .i64 0, .slice none 0 0, .slice none 0 0] 25)) (w.heap.size + 1) #[.int .i64 0, .slice none 0 0, .slice none 0 0] 25 := Blk.madeAt _ _ _ (by simp)
  have hb : Below w.heap.size w ((w.alloc (.cells #[.int .i64 id, lv, rv] 25)).alloc (.cells #[.int .i64 0, .slice none 0 0, .slice none 0 0] 25)) := ((Below.refl _ w).alloc (Nat.le_refl _) _).alloc (by simp) _
  generalize varsOf L = V at *
  generalize L.map (ren V) = M at *
  generalize R.map (ren V) = N at *
  clear hE hL hR h8 hVs
  obtain ⟨la, lc, rfl, _⟩ := hl
  obtain ⟨ra, rc, rfl, _⟩ := hr
  have HX : Hid (Blk ((w.alloc (.cells #[.int .i64 id, .slice la L.length lc, .slice ra R.length rc] 25)).alloc (.cells #[.int .i64 0, .slice none 0 0, .slice none 0 0] 25)) w.heap.size #[.int .i64 id, .slice la L.length lc, .slice ra R.length rc] 25) := hx
  have HY : Hid (Blk ((w.alloc (.cells #[.int .i64 id, .slice la L.length lc, .slice ra R.length rc] 25)).alloc (.cells #[.int .i64 0, .slice none 0 0, .slice none 0 0] 25)) (w.heap.size + 1) #[.int .i64 0, .slice none 0 0, .slice none 0 0] 25) := hy
  have HB : Hid (Below w.heap.size w ((w.alloc (.cells #[.int .i64 id, .slice la L.length lc, .slice ra R.length rc] 25)).alloc (.cells #[.int .i64 0, .slice none 0 0, .slice none 0 0] 25))) := hb
  clear hx hy hb
  go_enter Tryd.func20, Tryd.ntmps20
  go_wp2_with (first | (go_at_call 38; refine (hva _ HB.out).mono ?_; clear hva; rintro e wr ⟨v1, rfl, o1, b1⟩; have s1 := o1.lies; obtain ⟨va, vc, hvv, _⟩ := o1.lies; subst hvv; have X1 := HX.out.on b1 HX.out.lt; have Y1 := HY.out.on b1 HY.out.lt; have D1 := HB.out.trans (b1.mono HB.out.size)))
  have hdr : Below wr.heap.size wr wr.drew := (Below.refl _ wr).drew
  have D2 : Below w.heap.size w wr.drew := D1.drew
  have X2 : Blk wr.drew w.heap.size #[.int .i64 id, .slice la L.length lc, .slice ra R.length rc] 25 := X1
  have Y2 : Blk wr.drew (w.heap.size + 1) #[.int .i64 0, .slice none 0 0, .slice none 0 0] 25 := Y1
  have s2 := s1.on hdr
  have S2 : wr.drew.cell? ⟨w.heap.size, 0, none⟩ = some (.int .i64 id) ∧ wr.drew.cell? ⟨w.heap.size, 1, none⟩ = some (.slice la L.length lc) ∧ wr.drew.cell? ⟨w.heap.size, 2, none⟩ = some (.slice ra R.length rc) := ⟨X2.cell rfl, X2.cell rfl, X2.cell rfl⟩
  have hXl := X2.lt
  have hYl := Y2.lt
  clear HX HY HB X1 Y1 D1 s1 b1 o1 hdr
  go_region_held3 (fun w' => w'.cell? ⟨w.heap.size, 0, none⟩ = some (.int .i64 id) ∧ w'.cell? ⟨w.heap.size, 1, none⟩ = some (.slice la L.length lc) ∧ w'.cell? ⟨w.heap.size, 2, none⟩ = some (.slice ra R.length rc)) (first | exact S2 | exact S8 | exact S9 | exact S10 _ _ _)
    (first
      | (go_at_call 57; refine (hcL _ _ D2 s2).mono ?_; clear hcL; rintro e w8 ⟨v8, rfl, o8, b8⟩; obtain ⟨xa, xc, hxv, _⟩ := own_cells o8; subst hxv; have X8 := X2.on b8 hXl; have Y8 := Y2.on b8 hYl; have s8 := s2.on b8; have S8 : w8.cell? ⟨w.heap.size, 0, none⟩ = some (.int .i64 id) ∧ w8.cell? ⟨w.heap.size, 1, none⟩ = some (.slice la L.length lc) ∧ w8.cell? ⟨w.heap.size, 2, none⟩ = some (.slice ra R.length rc) := ⟨X8.cell rfl, X8.cell rfl, X8.cell rfl⟩; have D8 := D2.trans (b8.mono D2.size))
      | (go_at_call 57; refine (hcR _ _ D8 s8).mono ?_; clear hcR; rintro e w9 ⟨v9, rfl, o9, b9⟩; obtain ⟨ya, yc, hyv, _⟩ := own_cells o9; subst hyv; have X9 := X8.on b9 X8.lt; have Y9 := Y8.on b9 Y8.lt; have S9 : w9.cell? ⟨w.heap.size, 0, none⟩ = some (.int .i64 id) ∧ w9.cell? ⟨w.heap.size, 1, none⟩ = some (.slice la L.length lc) ∧ w9.cell? ⟨w.heap.size, 2, none⟩ = some (.slice ra R.length rc) := ⟨X9.cell rfl, X9.cell rfl, X9.cell rfl⟩; have f0 := Y9.free 0; have f1 := Y9.free 1; have f2 := Y9.free 2; have c0 := Y9.cell (i := 0) rfl; have c1 := Y9.cell (i := 1) rfl; have c2 := Y9.cell (i := 2) rfl; have D9 := D8.trans (b9.mono D8.size); have o8b := own_below o8 b9; have S10 : ∀ x y z, (((w9.setCell ⟨w.heap.size + 1, 0, none⟩ x).setCell ⟨w.heap.size + 1, 1, none⟩ y).setCell ⟨w.heap.size + 1, 2, none⟩ z).cell? ⟨w.heap.size, 0, none⟩ = some (.int .i64 id) ∧ (((w9.setCell ⟨w.heap.size + 1, 0, none⟩ x).setCell ⟨w.heap.size + 1, 1, none⟩ y).setCell ⟨w.heap.size + 1, 2, none⟩ z).cell? ⟨w.heap.size, 1, none⟩ = some (.slice la L.length lc) ∧ (((w9.setCell ⟨w.heap.size + 1, 0, none⟩ x).setCell ⟨w.heap.size + 1, 1, none⟩ y).setCell ⟨w.heap.size + 1, 2, none⟩ z).cell? ⟨w.heap.size, 2, none⟩ = some (.slice ra R.length rc) := (fun x y z => by { have h := ((X9.other (p := w.heap.size + 1) (i := 0) (by omega) x).other (p := w.heap.size + 1) (i := 1) (by omega) y).other (p := w.heap.size + 1) (i := 2) (by omega) z; exact ⟨h.cell rfl, h.cell rfl, h.cell rfl⟩ })))
  obtain ⟨hD, hg2⟩ := set3 Y9 (.int .i64 id) (.slice xa M.length xc) (.slice ya N.length yc)
  clear S2 S8 S9 S10 f0 f1 f2 c0 c1 c2
  generalize ((w9.setCell ⟨w.heap.size + 1, 0, none⟩ (.int .i64 id)).setCell ⟨w.heap.size + 1, 1, none⟩ (.slice xa M.length xc)).setCell ⟨w.heap.size + 1, 2, none⟩ (.slice ya N.length yc) = w4 at hD hg2 ⊢
  go_wp2_with fail
  have e0 := hD.cell (i := 0) rfl
  have e1 := hD.cell (i := 1) rfl
  have e2 := hD.cell (i := 2) rfl
  refine bodyPost_ret (v := .agg #[.int .i64 id, .slice xa M.length xc, .slice ya N.length yc]) (by simp [results, Tryd.results20, go_sem, e0, e1, e2]) rfl ⟨_, _, rfl, ?_, ?_, ?_⟩
  · exact own_base (own_apart o8b hg2 (by omega)) D2.size
  · exact own_base (own_apart o9 hg2 (by have := b8.size; omega)) D8.size
  · exact D9.grown hg2 D9.size (fun k hk => by cases hk; omega)

end Go.Proofs.YtjpmlnigjbdnnaaDoor
