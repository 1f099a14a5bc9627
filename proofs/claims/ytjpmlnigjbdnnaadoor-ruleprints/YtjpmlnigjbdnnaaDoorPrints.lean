/-
  Proved: RulePrints returns true for every rule, and its argument reads behind the call as before.
-/
import Derived.Test.YtjpmlnigjbdnnaaDoorCards
import Derived.Test.YtjpmlnigjbdnnaaDoorTie
import Derived.Test.YtjpmlnigjbdnnaaDoorWk
import Derived.Test.YtjpmlnigjbdnnaaDoorRx
import Derived.Test.YtjpmlnigjbdnnaaDoorOpenR
import Derived.ProofKit
import Derived.OpenShut
import Derived.ShutString
import Derived.ChangeOld
import Derived.Below
import Derived.SizedLaws
import Derived.Lib.SmallJoins
import Derived.SevenTiedAt
import Derived.Deep.DeepHandedRow
import Derived.LaidMore
import Derived.Lay
namespace Go.Proofs.YtjpmlnigjbdnnaaDoor
open Go.ChangeShapes Go.WideShapes Go.ChangeAt Go.RowKit Go.Joins
open Go.ChangeMaps (open_string shut_string)
set_option linter.unusedVariables false
set_option linter.unusedSimpArgs false
set_option maxRecDepth 100000

theorem rulePrints_no (id : Int) (lv rv : Value) (L R : List Cl) (w : World) (hl : Lies w lv L) (hr : Lies w rv R) (zl : L.length * 24 ≤ 140737488355328) (zr : R.length * 24 ≤ 140737488355328) (hE : chk id L R ≠ 0) :
    Calls Tryd.prog 5 #[.agg #[.int .i64 id, lv, rv]] w fun e w' => e = .returned (.bool true) ∧ Below w.heap.size w w' := by
  have hcp : ∀ w1, Below w.heap.size w w1 → _ := fun w1 h => rCopy_any w1 id lv rv L R (hl.on h) (hr.on h) zl zr
  have HFL : Hid (Fine L) := by obtain ⟨_, _, _, _, _, hf, _⟩ := hl; exact hf
  have HFR : Hid (Fine R) := by obtain ⟨_, _, _, _, _, hf, _⟩ := hr; exact hf
  have hpr : ∀ w1 a b, Lies w1 a L → Lies w1 b R → _ := fun w1 a b h1 h2 => rulePrint_bad w1 id a b L R h1 h2 hE
  have hpl : ∀ w1 a b, Lies w1 a L → Lies w1 b R → _ := fun w1 a b h1 h2 => rulePlain_bad w1 id a b L R h1 h2 hE
  have hrc : ∀ w1, Below w.heap.size w w1 → _ := fun w1 h => rChk_any w1 id lv rv L R (hl.on h) (hr.on h)
  have hs : ∀ w1, Calls Tryd.prog 16 #[.agg #[.int .i64 0, .slice none 0 0, .slice none 0 0], .agg #[.int .i64 0, .slice none 0 0, .slice none 0 0]] w1 fun e w' => e = .returned (.bool true) ∧ Below w1.heap.size w1 w' := fun w1 => by
    have := rSame_rule w1 0 0 _ _ _ _ _ _ _ _ (nil_lies w1) (nil_lies w1) (nil_lies w1) (nil_lies w1)
    rwa [decide_eq_true ⟨rfl, rfl, rfl⟩] at this
  have hb : Below w.heap.size w (w.alloc (.cells #[.int .i64 id, lv, rv] 25)) := (Below.refl _ w).alloc (Nat.le_refl _) _
  have hx := Blk.made w #[.int .i64 id, lv, rv] 25
  generalize chk id L R = E at *
  have z1 : ((E : Int) == 0) = false := by simp only [beq_eq_false_iff_ne]; omega
  have z2 : ¬ (E : Int) = 0 := by omega
  obtain ⟨la, lc, rfl, _⟩ := hl
  obtain ⟨ra, rc, rfl, _⟩ := hr
  have hwk := wakes_any (w.alloc (.cells #[.int .i64 id, .slice la L.length lc, .slice ra R.length rc] 25))
  have HB : Hid (Below w.heap.size w (w.alloc (.cells #[.int .i64 id, .slice la L.length lc, .slice ra R.length rc] 25))) := hb
  have HX : Hid (Blk (w.alloc (.cells #[.int .i64 id, .slice la L.length lc, .slice ra R.length rc] 25)) w.heap.size #[.int .i64 id, .slice la L.length lc, .slice ra R.length rc] 25) := hx
  clear hb hx hE
  go_enter Tryd.func5, Tryd.ntmps5
  go_wp2_with (first
    | (go_at_call 9; refine hwk.mono ?_; clear hwk; rintro e w1 ⟨rfl, b1⟩; have X1 := HX.out.on b1 HX.out.lt; have D1 := HB.out.trans (b1.mono HB.out.size); have c0 := X1.cell (i := 0) rfl; have c1 := X1.cell (i := 1) rfl; have c2 := X1.cell (i := 2) rfl)
    | (go_at_call 11; refine (hcp _ D1).mono ?_; rintro e w2 ⟨u2, v2, rfl, o2, p2, b2⟩; have l2 := Owns.lies o2 HFL.out; have m2 := Owns.lies p2 HFR.out; obtain ⟨xa, xc, hh1, _⟩ := own_cells o2; obtain ⟨ya, yc, hh2, _⟩ := own_cells p2; subst hh1; subst hh2; have X2 := X1.on b2 X1.lt; have D2 := D1.trans (b2.mono D1.size); clear D1)
    | (go_at_call 17; refine (hpr _ _ _ l2 m2).mono ?_; clear hpr; rintro e w3 ⟨rfl, b3⟩; have X3 := X2.on b3 X2.lt; have D3 := D2.trans (b3.mono D2.size); have k0 := X3.cell (i := 0) rfl; have k1 := X3.cell (i := 1) rfl; have k2 := X3.cell (i := 2) rfl)
    | (go_at_call 11; refine (hcp _ D3).mono ?_; clear hcp; rintro e w4 ⟨u4, v4, rfl, o4, p4, b4⟩; have l4 := Owns.lies o4 HFL.out; have m4 := Owns.lies p4 HFR.out; obtain ⟨za, zc, hh1, _⟩ := own_cells o4; obtain ⟨wa, wc, hh2, _⟩ := own_cells p4; subst hh1; subst hh2; have X4 := X3.on b4 X3.lt; have D4 := D3.trans (b4.mono D3.size))
    | (go_at_call 18; refine (hpl _ _ _ l4 m4).mono ?_; clear hpl; rintro e w5 ⟨rfl, b5⟩; have A5 : Below w5.heap.size w5 (w5.alloc (.cells #[.int .i64 0, .slice none 0 0, .slice none 0 0] 25)) := (Below.refl _ w5).alloc (Nat.le_refl _) _; have P5 := Blk.made w5 #[.int .i64 0, .slice none 0 0, .slice none 0 0] 25; have X5 := (X4.on b5 X4.lt).on A5 (X4.on b5 X4.lt).lt; have D5 := (D4.trans (b5.mono D4.size)).trans (A5.mono (D4.trans (b5.mono D4.size)).size); have t0 := X5.cell (i := 0) rfl; have t1 := X5.cell (i := 1) rfl; have t2 := X5.cell (i := 2) rfl)
    | (go_at_call 12; refine (hrc _ D5).mono ?_; clear hrc; rintro e w6 ⟨rfl, b6⟩; have P6 := P5.on b6 P5.lt; have D6 := D5.trans (b6.mono D5.size); have s0 := P6.cell (i := 0) rfl; have s1 := P6.cell (i := 1) rfl; have s2 := P6.cell (i := 2) rfl)
    | (go_at_call 16; refine (hs _).mono ?_; rintro e w7 ⟨rfl, b7⟩))
  go_ret
  exact ⟨by simp, D6.trans (b7.mono D6.size)⟩

set_option maxHeartbeats 8000000 in
theorem rulePrints_yes (id : Int) (lv rv : Value) (L R : List Cl) (w : World) (hl : Lies w lv L) (hr : Lies w rv R) (zl : L.length * 24 ≤ 140737488355328) (zr : R.length * 24 ≤ 140737488355328) (hE : chk id L R = 0) :
    Calls Tryd.prog 5 #[.agg #[.int .i64 id, lv, rv]] w fun e w' => e = .returned (.bool true) ∧ Below w.heap.size w w' := by
  have hp := chk_plain hE
  obtain ⟨n1, k1, hLt⟩ := check_term (chk_zero hE).2.1
  obtain ⟨n2, k2, hRt⟩ := check_term (chk_zero hE).2.2.1
  have hcp : ∀ w1, Below w.heap.size w w1 → _ := fun w1 h => rCopy_any w1 id lv rv L R (hl.on h) (hr.on h) zl zr
  have HFL : Hid (Fine L) := by obtain ⟨_, _, _, _, _, hf, _⟩ := hl; exact hf
  have HFR : Hid (Fine R) := by obtain ⟨_, _, _, _, _, hf, _⟩ := hr; exact hf
  have HFM : Hid (Fine (L.map (ren (varsOf L)))) := fine_check (chk_zero hp).2.1
  have HFN : Hid (Fine (R.map (ren (varsOf L)))) := fine_check (chk_zero hp).2.2.1
  have hpr : ∀ w1 a b, Lies w1 a L → Lies w1 b R → Calls Tryd.prog 17 #[.agg #[.int .i64 id, a, b]] w1 fun e w' => e = .returned (.tuple #[.string (txt n1 k1 ++ (⟨#[32, 45, 62, 32]⟩ : ByteArray) ++ txt n2 k2), .int .i64 0]) ∧ Below w1.heap.size w1 w' := fun w1 a b h1 h2 => by
    rw [hLt] at h1 hE
    rw [hRt] at h2 hE
    exact rulePrint_ok w1 id a b n1 n2 k1 k2 h1 h2 hE
  have htx : ∀ w1, Below w.heap.size w w1 → Calls Tryd.prog 19 #[.agg #[.int .i64 id, lv, rv]] w1 fun e w' => e = .returned (.string (txt n1 k1 ++ (⟨#[32, 45, 62, 32]⟩ : ByteArray) ++ txt n2 k2)) ∧ Below w1.heap.size w1 w' := fun w1 h => by
    have h1 := hl.on h
    have h2 := hr.on h
    obtain ⟨_, g1, g2, _⟩ := chk_zero hE
    rw [hLt] at h1 g1
    rw [hRt] at h2 g2
    exact rRuleText_any w1 id lv rv n1 n2 k1 k2 h1 h2 g1 g2
  have hpl : ∀ w1 a b, Lies w1 a L → Lies w1 b R → _ := fun w1 a b h1 h2 => rulePlain_ok w1 id a b L R h1 h2 hE
  have hrp : ∀ w1, Below w.heap.size w w1 → _ := fun w1 h => rRulePlain_any w1 id lv rv L R (hl.on h) (hr.on h) hE
  have hrc : ∀ w1, Below w.heap.size w w1 → _ := fun w1 h => rChk_any w1 id lv rv L R (hl.on h) (hr.on h)
  rw [hE] at hrc
  have hb : Below w.heap.size w (w.alloc (.cells #[.int .i64 id, lv, rv] 25)) := (Below.refl _ w).alloc (Nat.le_refl _) _
  have hx := Blk.made w #[.int .i64 id, lv, rv] 25
  generalize txt n1 k1 ++ (⟨#[32, 45, 62, 32]⟩ : ByteArray) ++ txt n2 k2 = tt at *
  clear hLt hRt hp hE
  generalize L.map (ren (varsOf L)) = M at *
  generalize R.map (ren (varsOf L)) = N at *
  have hst : (tt.toList == tt.toList) = true := by simp
  have hs : ∀ w1 a b c d, Lies w1 a M → Lies w1 b N → Lies w1 c M → Lies w1 d N → Calls Tryd.prog 16 #[.agg #[.int .i64 id, a, b], .agg #[.int .i64 id, c, d]] w1 fun e w' => e = .returned (.bool true) ∧ Below w1.heap.size w1 w' := fun w1 a b c d h1 h2 h3 h4 => by
    have := rSame_rule w1 id id a b c d _ _ _ _ h1 h2 h3 h4
    rwa [decide_eq_true ⟨rfl, rfl, rfl⟩] at this
  obtain ⟨la, lc, rfl, _⟩ := hl
  obtain ⟨ra, rc, rfl, _⟩ := hr
  have hwk := wakes_any (w.alloc (.cells #[.int .i64 id, .slice la L.length lc, .slice ra R.length rc] 25))
  have HB : Hid (Below w.heap.size w (w.alloc (.cells #[.int .i64 id, .slice la L.length lc, .slice ra R.length rc] 25))) := hb
  have HX : Hid (Blk (w.alloc (.cells #[.int .i64 id, .slice la L.length lc, .slice ra R.length rc] 25)) w.heap.size #[.int .i64 id, .slice la L.length lc, .slice ra R.length rc] 25) := hx
  clear hb hx
  go_enter Tryd.func5, Tryd.ntmps5
  go_wp2_with (first
    | (go_at_call 9; refine hwk.mono ?_; clear hwk; rintro e w1 ⟨rfl, b1⟩; have X1 := HX.out.on b1 HX.out.lt; have D1 := HB.out.trans (b1.mono HB.out.size); have c0 := X1.cell (i := 0) rfl; have c1 := X1.cell (i := 1) rfl; have c2 := X1.cell (i := 2) rfl)
    | (go_at_call 11; refine (hcp _ D1).mono ?_; rintro e w2 ⟨u2, v2, rfl, o2, p2, b2⟩; have l2 := Owns.lies o2 HFL.out; have m2 := Owns.lies p2 HFR.out; obtain ⟨xa, xc, hh1, _⟩ := own_cells o2; obtain ⟨ya, yc, hh2, _⟩ := own_cells p2; subst hh1; subst hh2; have X2 := X1.on b2 X1.lt; have D2 := D1.trans (b2.mono D1.size); clear D1)
    | (go_at_call 17; refine (hpr _ _ _ l2 m2).mono ?_; clear hpr; rintro e w3 ⟨rfl, b3⟩; have X3 := X2.on b3 X2.lt; have D3 := D2.trans (b3.mono D2.size); have k0 := X3.cell (i := 0) rfl; have k1 := X3.cell (i := 1) rfl; have k2 := X3.cell (i := 2) rfl; clear D2 l2 m2)
    | (go_at_call 11; refine (hcp _ D3).mono ?_; clear hcp; rintro e w4 ⟨u4, v4, rfl, o4, p4, b4⟩; have l4 := Owns.lies o4 HFL.out; have m4 := Owns.lies p4 HFR.out; obtain ⟨za, zc, hh1, _⟩ := own_cells o4; obtain ⟨wa, wc, hh2, _⟩ := own_cells p4; subst hh1; subst hh2; have X4 := X3.on b4 X3.lt; have D4 := D3.trans (b4.mono D3.size))
    | (go_at_call 18; refine (hpl _ _ _ l4 m4).mono ?_; clear hpl; rintro e w5 ⟨u5, v5, rfl, o5, p5, b5⟩; have l5 := Owns.lies o5 HFM.out; have m5 := Owns.lies p5 HFN.out; obtain ⟨pa, pc, hh1, _⟩ := own_cells o5; obtain ⟨qa, qc, hh2, _⟩ := own_cells p5; subst hh1; subst hh2; have A5 : Below w5.heap.size w5 (w5.alloc (.cells #[.int .i64 id, .slice pa M.length pc, .slice qa N.length qc] 25)) := (Below.refl _ w5).alloc (Nat.le_refl _) _; have P5 := Blk.made w5 #[.int .i64 id, .slice pa M.length pc, .slice qa N.length qc] 25; have X5 := (X4.on b5 X4.lt).on A5 (X4.on b5 X4.lt).lt; have D5 := (D4.trans (b5.mono D4.size)).trans (A5.mono (D4.trans (b5.mono D4.size)).size); have l6 := l5.on A5; have m6 := m5.on A5; have t0 := X5.cell (i := 0) rfl; have t1 := X5.cell (i := 1) rfl; have t2 := X5.cell (i := 2) rfl)
    | (go_at_call 12; refine (hrc _ D5).mono ?_; clear hrc; rintro e w6 ⟨rfl, b6⟩; have P6 := P5.on b6 P5.lt; have X6 := X5.on b6 X5.lt; have D6 := D5.trans (b6.mono D5.size); have l7 := l6.on b6; have m7 := m6.on b6))
  clear o2 p2 b2 b3 o4 p4 b4 o5 p5 b5 A5 X1 X2 X3 X4 X5 c0 c1 c2 k0 k1 k2 t0 t1 t2 b1 HB HX D3 D4 D5 l4 m4 l5 m5 l6 m6 P5 b6
  have hdr : Below w6.heap.size w6 w6.drew := (Below.refl _ w6).drew
  have D7 : Below w.heap.size w w6.drew := D6.drew
  have X7 : Blk w6.drew w.heap.size #[.int .i64 id, .slice la L.length lc, .slice ra R.length rc] 25 := X6
  have P7 : Blk w6.drew w5.heap.size #[.int .i64 id, .slice pa M.length pc, .slice qa N.length qc] 25 := P6
  have l8 := l7.on hdr
  have m8 := m7.on hdr
  have S7 : (w6.drew.cell? ⟨w.heap.size, 0, none⟩ = some (.int .i64 id) ∧ w6.drew.cell? ⟨w.heap.size, 1, none⟩ = some (.slice la L.length lc) ∧ w6.drew.cell? ⟨w.heap.size, 2, none⟩ = some (.slice ra R.length rc)) ∧ (w6.drew.cell? ⟨w5.heap.size, 0, none⟩ = some (.int .i64 id) ∧ w6.drew.cell? ⟨w5.heap.size, 1, none⟩ = some (.slice pa M.length pc) ∧ w6.drew.cell? ⟨w5.heap.size, 2, none⟩ = some (.slice qa N.length qc)) := ⟨⟨X7.cell rfl, X7.cell rfl, X7.cell rfl⟩, ⟨P7.cell rfl, P7.cell rfl, P7.cell rfl⟩⟩
  clear D6 X6 P6 l7 m7
  go_region_held3 (fun w' => (w'.cell? ⟨w.heap.size, 0, none⟩ = some (.int .i64 id) ∧ w'.cell? ⟨w.heap.size, 1, none⟩ = some (.slice la L.length lc) ∧ w'.cell? ⟨w.heap.size, 2, none⟩ = some (.slice ra R.length rc)) ∧ (w'.cell? ⟨w5.heap.size, 0, none⟩ = some (.int .i64 id) ∧ w'.cell? ⟨w5.heap.size, 1, none⟩ = some (.slice pa M.length pc) ∧ w'.cell? ⟨w5.heap.size, 2, none⟩ = some (.slice qa N.length qc))) (first | exact S7 | exact S8 | exact S9 | exact S10)
    (first
      | (go_at_call 19; refine (htx _ D7).mono ?_; clear htx; rintro e w8 ⟨rfl, b8⟩; have X8 := X7.on b8 X7.lt; have P8 := P7.on b8 P7.lt; have S8 : (w8.cell? ⟨w.heap.size, 0, none⟩ = some (.int .i64 id) ∧ w8.cell? ⟨w.heap.size, 1, none⟩ = some (.slice la L.length lc) ∧ w8.cell? ⟨w.heap.size, 2, none⟩ = some (.slice ra R.length rc)) ∧ (w8.cell? ⟨w5.heap.size, 0, none⟩ = some (.int .i64 id) ∧ w8.cell? ⟨w5.heap.size, 1, none⟩ = some (.slice pa M.length pc) ∧ w8.cell? ⟨w5.heap.size, 2, none⟩ = some (.slice qa N.length qc)) := ⟨⟨X8.cell rfl, X8.cell rfl, X8.cell rfl⟩, ⟨P8.cell rfl, P8.cell rfl, P8.cell rfl⟩⟩; have D8 := D7.trans (b8.mono D7.size); have l9 := l8.on b8; have m9 := m8.on b8)
      | (go_at_call 20; refine (hrp _ D8).mono ?_; clear hrp; rintro e w9 ⟨u9, v9, rfl, o9, p9, b9⟩; have r9 := Owns.lies o9 HFM.out; have s9 := Owns.lies p9 HFN.out; obtain ⟨ja, jc, hh1, _⟩ := own_cells o9; obtain ⟨ia, ic, hh2, _⟩ := own_cells p9; subst hh1; subst hh2; have X9 := X8.on b9 X8.lt; have P9 := P8.on b9 P8.lt; have S9 : (w9.cell? ⟨w.heap.size, 0, none⟩ = some (.int .i64 id) ∧ w9.cell? ⟨w.heap.size, 1, none⟩ = some (.slice la L.length lc) ∧ w9.cell? ⟨w.heap.size, 2, none⟩ = some (.slice ra R.length rc)) ∧ (w9.cell? ⟨w5.heap.size, 0, none⟩ = some (.int .i64 id) ∧ w9.cell? ⟨w5.heap.size, 1, none⟩ = some (.slice pa M.length pc) ∧ w9.cell? ⟨w5.heap.size, 2, none⟩ = some (.slice qa N.length qc)) := ⟨⟨X9.cell rfl, X9.cell rfl, X9.cell rfl⟩, ⟨P9.cell rfl, P9.cell rfl, P9.cell rfl⟩⟩; have D9 := D8.trans (b9.mono D8.size); have l10 := l9.on b9; have m10 := m9.on b9)
      | (go_at_call 16; refine (hs _ _ _ _ _ l10 m10 r9 s9).mono ?_; rintro e w10 ⟨rfl, b10⟩; have X10 := X9.on b10 X9.lt; have P10 := P9.on b10 P9.lt; have S10 : (w10.cell? ⟨w.heap.size, 0, none⟩ = some (.int .i64 id) ∧ w10.cell? ⟨w.heap.size, 1, none⟩ = some (.slice la L.length lc) ∧ w10.cell? ⟨w.heap.size, 2, none⟩ = some (.slice ra R.length rc)) ∧ (w10.cell? ⟨w5.heap.size, 0, none⟩ = some (.int .i64 id) ∧ w10.cell? ⟨w5.heap.size, 1, none⟩ = some (.slice pa M.length pc) ∧ w10.cell? ⟨w5.heap.size, 2, none⟩ = some (.slice qa N.length qc)) := ⟨⟨X10.cell rfl, X10.cell rfl, X10.cell rfl⟩, ⟨P10.cell rfl, P10.cell rfl, P10.cell rfl⟩⟩; have D10 := D9.trans (b10.mono D9.size)))
  clear S7 S8 S9 S10
  go_wp2_with fail
  go_ret
  exact ⟨by simp, D10⟩

theorem rulePrints_walk (id : Int) (lv rv : Value) (L R : List Cl) (w : World) (hl : Lies w lv L) (hr : Lies w rv R) (zl : L.length * 24 ≤ 140737488355328) (zr : R.length * 24 ≤ 140737488355328) :
    Calls Tryd.prog 5 #[.agg #[.int .i64 id, lv, rv]] w fun e w' => e = .returned (.bool true) ∧ Below w.heap.size w w' := by
  by_cases hE : chk id L R = 0
  · exact rulePrints_yes id lv rv L R w hl hr zl zr hE
  · exact rulePrints_no id lv rv L R w hl hr zl zr hE

theorem rulePrints_own : ownKnob Tryd.prog.godebug = none := by kernel_rfl
theorem rulePrints_laidOut : laidOutB Tryd.prog = true := by kernel_rfl
theorem rulePrints_met (os : Os) : laidMetH Tryd.prog Rows.rulePrintsRow.laid ((World.laidAll Tryd.prog os Rows.rulePrintsRow.laid).forCall (fun _ _ => 0) ⟨#[], #[.agg #[.int .i64 0, .slice none 0 0, .slice none 0 0]], []⟩).memory := by
  rw [MakeChecks.laidMetH_plain _ _ _ (by kernel_rfl)]; exact laidMet_laidAll _ (by kernel_rfl) (by kernel_rfl)
theorem rulePrints_reads (os : Os) {H : Type} (enc : TypeId × Value → H) : DataW.whole enc Tryd.prog ((World.laidAll Tryd.prog os Rows.rulePrintsRow.laid).forCall (fun _ _ => 0) ⟨#[], #[.agg #[.int .i64 0, .slice none 0 0, .slice none 0 0]], []⟩).memory Tryd.f5.params.toList Rows.rulePrintsSpec.vars false #[(.agg #[.int .i64 0, .slice none 0 0, .slice none 0 0] : Value)].toList 8 = some ([.agg [.lit (.int .i64 0), .nil, .nil]], [], []) := by kernel_rfl
theorem rulePrints_okIn (os : Os) : Input.okWideB Tryd.prog ((World.laidAll Tryd.prog os Rows.rulePrintsRow.laid).forCall (fun _ _ => 0) ⟨#[], #[.agg #[.int .i64 0, .slice none 0 0, .slice none 0 0]], []⟩) 5 ⟨#[], #[.agg #[.int .i64 0, .slice none 0 0, .slice none 0 0]], []⟩ = true := by kernel_rfl

set_option maxRecDepth 100000 in
theorem rulePrints_lifted (os : Os) (started : os.Started) (H : Type) (enc : TypeId × Value → H) (F : Stop.Interp) :
    ReturnsInHanded {} Tryd.checked os 5 .any ((OpenSpec.ofChange Rows.rulePrintsSpec).preRow enc Tryd.prog Tryd.f5 Rows.rulePrintsRow.domain false Rows.rulePrintsRow.laid) (((OpenSpec.ofChange Rows.rulePrintsSpec).at F).post enc Tryd.prog Tryd.f5 false true false false) := by
  refine returnsInHanded_of_row (C := Tryd.checked) (s := (OpenSpec.ofChange Rows.rulePrintsSpec)) rulePrints_own started (by kernel_rfl) Tryd.func5
    ⟨World.laidAll Tryd.prog os Rows.rulePrintsRow.laid, fun _ _ => 0, ⟨#[], #[.agg #[.int .i64 0, .slice none 0 0, .slice none 0 0]], []⟩, World.laidAll_os _ _ _, World.shaped_of_ZipB (by kernel_rfl) (by kernel_rfl), (Input.okWide_of_okWideB (base := 0) (rulePrints_okIn os)).1, (Input.okWide_of_okWideB (rulePrints_okIn os)).2,
      OpenSpec.preRow_of_cond 8 (rulePrints_reads os enc) (by kernel_rfl) (fun k hk => by cases hk) (by kernel_rfl) (rulePrints_met os), by simp only [Assume.holds]; exact ⟨by simp, by simp, fun _ => Modest.zero, by simp, by simp⟩⟩ ?_
  intro W base args ds gs before hval0 hW hcnd hcond hsz0 hL hsh _
  have hsz : (DataW.weightsEach Tryd.prog (Tryd.f5.params.toList ++ Rows.rulePrintsSpec.plain.varTypes Tryd.prog) (ds ++ gs)).all (· ≤ reachBytes) = true := hsz0
  have hval : ∀ (j : Nat) t v, Tryd.f5.params[j]? = some t → args[j]? = some v → Value.okWide Tryd.prog W .any base t v := hval0
  have hW' := hW
  obtain ⟨p, q, hA0, hV, rfl, hfz, hnd⟩ := hW
  have hA : DataW.TrodAll enc Tryd.prog W 0 (fun _ => true) true Tryd.f5.params.toList args.toList ds p := hA0
  rw [Tryd.params5] at hA hval hsz
  obtain ⟨v0, vs0, d0, ds0, p0, q0, hargs, rfl, rfl, h0, r0⟩ := trodAll_cons hA
  obtain ⟨rfl, rfl, rfl⟩ := trodAll_nil r0
  obtain rfl : args = #[v0] := by cases args; simp_all
  obtain ⟨rfl, rfl⟩ := trodVars_none hV
  have k0 := h0
  have lt0 : ∀ x ∈ p0, x.block < W.heap.size := by obtain ⟨m, hm⟩ := k0; exact DataW.trod_lt m _ _ _ hm
  obtain ⟨id0, lv0, rv0, L0, R0, rfl, hl0, hr0, zl0, zr0⟩ := open_rule (hval 0 25 v0 rfl rfl) h0 (fun n hn => by simpa using List.all_eq_true.1 hsz n (DataW.weights_mem_each (j := 0) (t := 25) rfl rfl n hn))
  clear hA0 hval0
  refine (rulePrints_walk id0 lv0 rv0 L0 R0 W hl0 hr0 zl0 zr0).mono fun e W' ⟨he, bel⟩ => ?_
  subst he
  exact ⟨_, rfl, _, _, _, [], _, [], hW', trodAll_mk1 (shut_bool Tryd.underlying4 _), (trodAll_cons_mk (Below.trod rulePrints_laidOut (by kernel_rfl) (of_decide_eq_true (by kernel_rfl)) k0 bel lt0) trodAll_mk0), rfl, bel.frame _, fun h => by cases h⟩

theorem rulePrints_said : Rows.RulePrintsSaid :=
  OpenClaim.holds_of_cond 5 Tryd.f5 rfl rfl rfl rfl rfl rfl rfl ⟨rfl, rfl, rfl, rfl, rfl⟩ rfl rfl rfl rfl rfl (by kernel_rfl) Tryd.func5 (by kernel_rfl)
    (of_decide_eq_true (by kernel_rfl)) (by unfold Func.isWrapper; first | (rw [if_pos (by decide +kernel)]; kernel_rfl) | (rw [if_neg (by decide +kernel)]; exact ⟨rfl, rfl⟩))
    (fun os started H enc _ F => by rw [OpenClaim.pre_eq_preRow]; exact rulePrints_lifted os started H enc F)

theorem rulePrints_plain (f : FuncId) (fn : Func) (hf : Tryd.pinned.checked.prog.funcNamed Rows.rulePrintsRow.func = some f) (hfn : Tryd.pinned.checked.prog.funcs[f]? = some fn) :
    true = Tryd.pinned.checked.prog.looks [] ∧ ∀ (j : Nat) t, fn.params[j]? = some t → Tryd.pinned.checked.prog.wantsStandIn t = false := by
  obtain rfl : f = 5 := Option.some.inj ((show Tryd.prog.funcNamed Rows.rulePrintsRow.func = some 5 by kernel_rfl).symm.trans hf) |>.symm
  obtain rfl : fn = Tryd.f5 := (Option.some.inj (Tryd.func5.symm.trans hfn)).symm
  refine ⟨by kernel_rfl, fun j t ht => ?_⟩
  rw [Tryd.params5] at ht
  have hm : t ∈ [25] := by simpa using Array.mem_of_getElem? ht
  have hall : ([25].all fun u => !Tryd.prog.wantsStandIn u) = true := by kernel_rfl
  have := List.all_eq_true.1 hall t hm
  exact (show Tryd.prog.wantsStandIn t = false by simpa using this)

theorem rulePrints_holds : Rows.RulePrintsCardSaid :=
  Claim7.holds_tied_plain_at .later [] _ _ _ _ rulePrints_said (fun _ h => by cases h) (by kernel_rfl) (fun _ h => by cases h) rulePrints_row_tie rfl ⟨rfl, rfl⟩ (by kernel_rfl) rfl rulePrints_plain (by kernel_rfl)

#print axioms rulePrints_holds

end Go.Proofs.YtjpmlnigjbdnnaaDoor
