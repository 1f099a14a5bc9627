/-
  Proved: RulePlain returns true for every rule and every term, and its arguments read behind the call as before.
-/
import Derived.Test.YtjpmlnigjbdnnaaDoorCards
import Derived.Test.YtjpmlnigjbdnnaaDoorTie
import Derived.Test.YtjpmlnigjbdnnaaDoorWk
import Derived.Test.YtjpmlnigjbdnnaaDoorRa
import Derived.Test.YtjpmlnigjbdnnaaDoorOpenR
import Derived.ProofKit
import Derived.OpenShut
import Derived.ShutString
import Derived.ChangeOld
import Derived.Below
import Derived.SizedLaws
import Derived.Lib.SmallJoins
import Derived.SevenTiedAt
import Derived.Deep.DeepHandedRow
import Derived.LaidMore
import Derived.Lay
namespace Go.Proofs.YtjpmlnigjbdnnaaDoor
open Go.ChangeShapes Go.WideShapes Go.ChangeAt Go.RowKit Go.Joins
open Go.ChangeMaps (open_string shut_string)
set_option linter.unusedVariables false
set_option linter.unusedSimpArgs false
set_option maxRecDepth 100000

theorem fill_fine (R : List Cl) (l : List Bd) : Fine (fillM R l) := by
  by_cases h : fillE R l = 0
  · exact fine_check (filled h).1
  · unfold fillM; rw [if_neg h]; exact fun c hc => by cases hc
theorem ap_fine (id : Int) (L R T : List Cl) : Fine (apM id L R T) := by
  unfold apM
  by_cases h : chk id L R = 0
  · rw [if_pos h]
    cases mt L T with
    | none => exact fun c hc => by cases hc
    | some acc => exact fill_fine R acc
  · rw [if_neg h]; exact fun c hc => by cases hc


theorem hd_plain {id : Int} {L R : List Cl} (h : chk id L R = 0) : hd (L.map (ren (varsOf L))) = hd L := by
  obtain ⟨_, _, _, h4, h5, _⟩ := chk_zero h
  have hV := vs_of h4.1
  cases L with
  | nil => rfl
  | cons c r =>
    show (ren _ c).nm = c.nm
    rw [ren_none (c := c) (fun hm => h5 (hV.var _ hm))]
theorem plain_fix {id : Int} {L R : List Cl} (h : chk id L R = 0) :
    (L.map (ren (varsOf L))).map (ren (varsOf (L.map (ren (varsOf L))))) = L.map (ren (varsOf L)) ∧ (R.map (ren (varsOf L))).map (ren (varsOf (L.map (ren (varsOf L))))) = R.map (ren (varsOf L)) := by
  obtain ⟨_, _, _, h4, _, h6⟩ := chk_zero h
  have hV := vs_of h4.1
  rw [vars_ren hV vars_self]
  exact ⟨plain_twice hV vars_self, plain_twice hV (unb_false h6)⟩
theorem ap_plain {id : Int} {L R T : List Cl} (h : chk id L R = 0) : apM id (L.map (ren (varsOf L))) (R.map (ren (varsOf L))) T = apM id L R T ∧ apE id (L.map (ren (varsOf L))) (R.map (ren (varsOf L))) T = apE id L R T ∧ apB id (L.map (ren (varsOf L))) (R.map (ren (varsOf L))) T = apB id L R T := by
  obtain ⟨h1, h2, h3⟩ := same_plain (T := T) h
  have hp := chk_plain h
  unfold apM apE apB
  rw [if_pos hp, if_pos hp, if_pos h, if_pos h, h1, h2, decide_eq_true hp, decide_eq_true h]
  cases hm : mt L T with
  | none => exact ⟨rfl, rfl, rfl⟩
  | some acc =>
    obtain ⟨g1, g2⟩ := h3 acc hm
    simp only [Option.map_some]
    rw [g1, g2]
    exact ⟨rfl, rfl, rfl⟩

theorem rulePlain_no (id : Int) (lv rv : Value) (L R : List Cl) (tv : Value) (T : List Cl) (w : World) (hl : Lies w lv L) (hr : Lies w rv R) (zl : L.length * 24 ≤ 140737488355328) (zr : R.length * 24 ≤ 140737488355328) (ht : Lies w tv T) (hE : chk id L R ≠ 0) :
    Calls Tryd.prog 8 #[.agg #[.int .i64 id, lv, rv], tv] w fun e w' => e = .returned (.bool true) ∧ Below w.heap.size w w' := by
  have hcp : ∀ w1, Below w.heap.size w w1 → _ := fun w1 h => rCopy_any w1 id lv rv L R (hl.on h) (hr.on h) zl zr
  have HFL : Hid (Fine L) := by obtain ⟨_, _, _, _, _, hf, _⟩ := hl; exact hf
  have HFR : Hid (Fine R) := by obtain ⟨_, _, _, _, _, hf, _⟩ := hr; exact hf
  have hpl : ∀ w1 a b, Lies w1 a L → Lies w1 b R → _ := fun w1 a b h1 h2 => rulePlain_bad w1 id a b L R h1 h2 hE
  have hck : ∀ w1 a b, Lies w1 a L → Lies w1 b R → _ := fun w1 a b h1 h2 => chk_any w1 id a b L R h1 h2
  have hb : Below w.heap.size w (w.alloc (.cells #[.int .i64 id, lv, rv] 25)) := (Below.refl _ w).alloc (Nat.le_refl _) _
  have hx := Blk.made w #[.int .i64 id, lv, rv] 25
  generalize chk id L R = E at *
  have z1 : ((E : Int) == 0) = false := by simp only [beq_eq_false_iff_ne]; omega
  have z2 : ¬ (E : Int) = 0 := by omega
  obtain ⟨la, lc, rfl, _⟩ := hl
  obtain ⟨ra, rc, rfl, _⟩ := hr
  obtain ⟨ta, tc, rfl, _⟩ := ht
  have hwk := wakes_any (w.alloc (.cells #[.int .i64 id, .slice la L.length lc, .slice ra R.length rc] 25))
  have HB : Hid (Below w.heap.size w (w.alloc (.cells #[.int .i64 id, .slice la L.length lc, .slice ra R.length rc] 25))) := hb
  have HX : Hid (Blk (w.alloc (.cells #[.int .i64 id, .slice la L.length lc, .slice ra R.length rc] 25)) w.heap.size #[.int .i64 id, .slice la L.length lc, .slice ra R.length rc] 25) := hx
  clear hb hx hE
  go_enter Tryd.func8, Tryd.ntmps8
  go_wp2_with (first
    | (go_at_call 9; refine hwk.mono ?_; clear hwk; rintro e w1 ⟨rfl, b1⟩; have X1 := HX.out.on b1 HX.out.lt; have D1 := HB.out.trans (b1.mono HB.out.size); have c0 := X1.cell (i := 0) rfl; have c1 := X1.cell (i := 1) rfl; have c2 := X1.cell (i := 2) rfl)
    | (go_at_call 11; refine (hcp _ D1).mono ?_; rintro e w2 ⟨u2, v2, rfl, o2, p2, b2⟩; have l2 := Owns.lies o2 HFL.out; have m2 := Owns.lies p2 HFR.out; obtain ⟨xa, xc, hh1, _⟩ := own_cells o2; obtain ⟨ya, yc, hh2, _⟩ := own_cells p2; subst hh1; subst hh2; have X2 := X1.on b2 X1.lt; have D2 := D1.trans (b2.mono D1.size); clear D1)
    | (go_at_call 18; refine (hpl _ _ _ l2 m2).mono ?_; clear hpl; rintro e w3 ⟨rfl, b3⟩; have A3 : Below w3.heap.size w3 (w3.alloc (.cells #[.int .i64 0, .slice none 0 0, .slice none 0 0] 25)) := (Below.refl _ w3).alloc (Nat.le_refl _) _; have X3 := (X2.on b3 X2.lt).on A3 (X2.on b3 X2.lt).lt; have D3 := (D2.trans (b3.mono D2.size)).trans (A3.mono (D2.trans (b3.mono D2.size)).size); have k0 := X3.cell (i := 0) rfl; have k1 := X3.cell (i := 1) rfl; have k2 := X3.cell (i := 2) rfl)
    | (go_at_call 11; refine (hcp _ D3).mono ?_; clear hcp; rintro e w4 ⟨u4, v4, rfl, o4, p4, b4⟩; have l4 := Owns.lies o4 HFL.out; have m4 := Owns.lies p4 HFR.out; obtain ⟨za, zc, hh1, _⟩ := own_cells o4; obtain ⟨wa, wc, hh2, _⟩ := own_cells p4; subst hh1; subst hh2; have D4 := D3.trans (b4.mono D3.size))
    | (go_at_call 10; refine (hck _ _ _ l4 m4).mono ?_; rintro e w5 ⟨rfl, b5⟩))
  go_ret
  exact ⟨by simp, D4.trans (b5.mono D4.size)⟩

set_option maxHeartbeats 8000000 in
theorem rulePlain_yes (id : Int) (lv rv : Value) (L R : List Cl) (tv : Value) (T : List Cl) (w : World) (hl : Lies w lv L) (hr : Lies w rv R) (zl : L.length * 24 ≤ 140737488355328) (zr : R.length * 24 ≤ 140737488355328) (ht : Lies w tv T) (zt : T.length * 24 ≤ 140737488355328) (hE : chk id L R = 0) :
    Calls Tryd.prog 8 #[.agg #[.int .i64 id, lv, rv], tv] w fun e w' => e = .returned (.bool true) ∧ Below w.heap.size w w' := by
  have hp := chk_plain hE
  obtain ⟨g1, g2⟩ := plain_fix hE
  obtain ⟨a1, a2, a3⟩ := ap_plain (T := T) hE
  have hhp := hd_plain hE
  have h8 := (chk_zero hE).2.2.2.1
  have zM : (L.map (ren (varsOf L))).length * 24 ≤ 140737488355328 := by rw [List.length_map]; exact zl
  have zN : (R.map (ren (varsOf L))).length * 24 ≤ 140737488355328 := by rw [List.length_map]; exact zr
  have hcp : ∀ w1, Below w.heap.size w w1 → _ := fun w1 h => rCopy_any w1 id lv rv L R (hl.on h) (hr.on h) zl zr
  have hct : ∀ w1, Below w.heap.size w w1 → _ := fun w1 h => copy_any w1 tv T (ht.on h) zt
  have HFL : Hid (Fine L) := by obtain ⟨_, _, _, _, _, hf, _⟩ := hl; exact hf
  have HFR : Hid (Fine R) := by obtain ⟨_, _, _, _, _, hf, _⟩ := hr; exact hf
  have HFT : Hid (Fine T) := by obtain ⟨_, _, _, _, _, hf, _⟩ := ht; exact hf
  have HFM : Hid (Fine (L.map (ren (varsOf L)))) := fine_check (chk_zero hp).2.1
  have HFN : Hid (Fine (R.map (ren (varsOf L)))) := fine_check (chk_zero hp).2.2.1
  have hpl : ∀ w1 a b, Lies w1 a L → Lies w1 b R → _ := fun w1 a b h1 h2 => rulePlain_ok w1 id a b L R h1 h2 hE
  have hpl2 : ∀ w1 a b, Lies w1 a (L.map (ren (varsOf L))) → Lies w1 b (R.map (ren (varsOf L))) → _ := fun w1 a b h1 h2 => rulePlain_ok w1 id a b (L.map (ren (varsOf L))) (R.map (ren (varsOf L))) h1 h2 hp
  have hcp2 : ∀ w1 a b, Lies w1 a (L.map (ren (varsOf L))) → Lies w1 b (R.map (ren (varsOf L))) → _ := fun w1 a b h1 h2 => rCopy_any w1 id a b (L.map (ren (varsOf L))) (R.map (ren (varsOf L))) h1 h2 zM zN
  have hh1 : ∀ w1 a b, Lies w1 a (L.map (ren (varsOf L))) → Lies w1 b (R.map (ren (varsOf L))) → _ := fun w1 a b h1 h2 => head_ok w1 id a b (L.map (ren (varsOf L))) (R.map (ren (varsOf L))) h1 h2 hp
  have hh2 : ∀ w1, Below w.heap.size w w1 → _ := fun w1 h => head_ok w1 id lv rv L R (hl.on h) (hr.on h) hE
  have hap : ∀ w1 a b t, Lies w1 a L → Lies w1 b R → Lies w1 t T → _ := fun w1 a b t h1 h2 h3 => apply_any w1 id a b t L R T h1 h2 h3
  have hap2 : ∀ w1 a b t, Lies w1 a (L.map (ren (varsOf L))) → Lies w1 b (R.map (ren (varsOf L))) → Lies w1 t T → _ := fun w1 a b t h1 h2 h3 => apply_any w1 id a b t (L.map (ren (varsOf L))) (R.map (ren (varsOf L))) T h1 h2 h3
  have HFA : Hid (Fine (apM id L R T)) := ap_fine id L R T
  rw [g1, g2] at hpl2
  rw [a1, a2, a3] at hap2
  rw [hhp] at hh1
  have hb : Below w.heap.size w (w.alloc (.cells #[.int .i64 id, lv, rv] 25)) := (Below.refl _ w).alloc (Nat.le_refl _) _
  have hx := Blk.made w #[.int .i64 id, lv, rv] 25
  generalize L.map (ren (varsOf L)) = M at *
  generalize R.map (ren (varsOf L)) = N at *
  generalize apM id L R T = AM at *
  generalize apE id L R T = AE at *
  generalize apB id L R T = AB at *
  generalize hd L = nm at *
  have hsr : ∀ w1 a b c d, Lies w1 a M → Lies w1 b N → Lies w1 c M → Lies w1 d N → Calls Tryd.prog 16 #[.agg #[.int .i64 id, a, b], .agg #[.int .i64 id, c, d]] w1 fun e w' => e = .returned (.bool true) ∧ Below w1.heap.size w1 w' := fun w1 a b c d h1 h2 h3 h4 => by
    have := rSame_rule w1 id id a b c d _ _ _ _ h1 h2 h3 h4
    rwa [decide_eq_true ⟨rfl, rfl, rfl⟩] at this
  have hsm : ∀ w1 a b, Lies w1 a AM → Lies w1 b AM → Calls Tryd.prog 24 #[a, b] w1 fun e w' => e = .returned (.bool true) ∧ Below w1.heap.size w1 w' := fun w1 a b h1 h2 => by
    have := same_any w1 a b AM AM h1 h2
    rwa [decide_eq_true rfl] at this
  clear hp g1 g2 a1 a2 a3 hhp hE h8 zM zN
  obtain ⟨la, lc, rfl, _⟩ := hl
  obtain ⟨ra, rc, rfl, _⟩ := hr
  obtain ⟨ga, gc, rfl, _⟩ := ht
  have hwk := wakes_any (w.alloc (.cells #[.int .i64 id, .slice la L.length lc, .slice ra R.length rc] 25))
  have HB : Hid (Below w.heap.size w (w.alloc (.cells #[.int .i64 id, .slice la L.length lc, .slice ra R.length rc] 25))) := hb
  have HX : Hid (Blk (w.alloc (.cells #[.int .i64 id, .slice la L.length lc, .slice ra R.length rc] 25)) w.heap.size #[.int .i64 id, .slice la L.length lc, .slice ra R.length rc] 25) := hx
  clear hb hx
  go_enter Tryd.func8, Tryd.ntmps8
  go_wp2_with (first
    | (go_at_call 9; refine hwk.mono ?_; clear hwk; rintro e w1 ⟨rfl, b1⟩; have X1 := HX.out.on b1 HX.out.lt; have D1 := HB.out.trans (b1.mono HB.out.size); have c0 := X1.cell (i := 0) rfl; have c1 := X1.cell (i := 1) rfl; have c2 := X1.cell (i := 2) rfl)
    | (go_at_call 11; refine (hcp _ D1).mono ?_; rintro e w2 ⟨u2, v2, rfl, o2, p2, b2⟩; have l2 := Owns.lies o2 HFL.out; have m2 := Owns.lies p2 HFR.out; obtain ⟨xa, xc, hh1, _⟩ := own_cells o2; obtain ⟨ya, yc, hh2, _⟩ := own_cells p2; subst hh1; subst hh2; have X2 := X1.on b2 X1.lt; have D2 := D1.trans (b2.mono D1.size); clear D1)
    | (go_at_call 18; refine (hpl _ _ _ l2 m2).mono ?_; clear hpl l2 m2; rintro e w3 ⟨u3, v3, rfl, o3, p3, b3⟩; have l3 := Owns.lies o3 HFM.out; have m3 := Owns.lies p3 HFN.out; obtain ⟨pa, pc, hh1, _⟩ := own_cells o3; obtain ⟨qa, qc, hh2, _⟩ := own_cells p3; subst hh1; subst hh2; have A3 : Below w3.heap.size w3 (w3.alloc (.cells #[.int .i64 id, .slice pa M.length pc, .slice qa N.length qc] 25)) := (Below.refl _ w3).alloc (Nat.le_refl _) _; have P3 := Blk.made w3 #[.int .i64 id, .slice pa M.length pc, .slice qa N.length qc] 25; have X3 := (X2.on b3 X2.lt).on A3 (X2.on b3 X2.lt).lt; have D3 := (D2.trans (b3.mono D2.size)).trans (A3.mono (D2.trans (b3.mono D2.size)).size); have l4 := l3.on A3; have m4 := m3.on A3; clear D2 X2 l3 m3)
    | (go_at_call 11; refine (hcp2 _ _ _ l4 m4).mono ?_; clear hcp2; rintro e w4 ⟨u4, v4, rfl, o4, p4, b4⟩; have r4 := Owns.lies o4 HFM.out; have s4 := Owns.lies p4 HFN.out; obtain ⟨ka, kc, hh1, _⟩ := own_cells o4; obtain ⟨ja, jc, hh2, _⟩ := own_cells p4; subst hh1; subst hh2; have X4 := X3.on b4 X3.lt; have P4 := P3.on b4 P3.lt; have D4 := D3.trans (b4.mono D3.size); have l5 := l4.on b4; have m5 := m4.on b4; clear D3 X3 P3 l4 m4)
    | (go_at_call 18; refine (hpl2 _ _ _ r4 s4).mono ?_; clear hpl2 r4 s4; rintro e w5 ⟨u5, v5, rfl, o5, p5, b5⟩; have r5 := Owns.lies o5 HFM.out; have s5 := Owns.lies p5 HFN.out; obtain ⟨sa, sc, hh1, _⟩ := own_cells o5; obtain ⟨ta, tc, hh2, _⟩ := own_cells p5; subst hh1; subst hh2; have A5 : Below w5.heap.size w5 (w5.alloc (.cells #[.int .i64 id, .slice sa M.length sc, .slice ta N.length tc] 25)) := (Below.refl _ w5).alloc (Nat.le_refl _) _; have Q5 := Blk.made w5 #[.int .i64 id, .slice sa M.length sc, .slice ta N.length tc] 25; have X5 := (X4.on b5 X4.lt).on A5 (X4.on b5 X4.lt).lt; have P5 := (P4.on b5 P4.lt).on A5 (P4.on b5 P4.lt).lt; have D5 := (D4.trans (b5.mono D4.size)).trans (A5.mono (D4.trans (b5.mono D4.size)).size); have l6 := (l5.on b5).on A5; have m6 := (m5.on b5).on A5; have r6 := r5.on A5; have s6 := s5.on A5; clear D4 X4 P4 l5 m5 r5 s5))
  clear o2 p2 b2 o3 p3 b3 o4 p4 b4 o5 p5 b5 A3 A5 X1 c0 c1 c2 b1 HB HX
  generalize w5.alloc (.cells #[.int .i64 id, .slice sa M.length sc, .slice ta N.length tc] 25) = wr at Q5 X5 P5 D5 l6 m6 r6 s6 ⊢
  have D6 : Below w.heap.size w wr.drew := D5.drew
  have X6 : Blk wr.drew w.heap.size #[.int .i64 id, .slice la L.length lc, .slice ra R.length rc] 25 := X5
  have P6 : Blk wr.drew w3.heap.size #[.int .i64 id, .slice pa M.length pc, .slice qa N.length qc] 25 := P5
  have Q6 : Blk wr.drew w5.heap.size #[.int .i64 id, .slice sa M.length sc, .slice ta N.length tc] 25 := Q5
  have hdr : Below wr.heap.size wr wr.drew := (Below.refl _ wr).drew
  have l7 := l6.on hdr
  have m7 := m6.on hdr
  have r7 := r6.on hdr
  have s7 := s6.on hdr
  have S6 : (wr.drew.cell? ⟨w.heap.size, 0, none⟩ = some (.int .i64 id) ∧ wr.drew.cell? ⟨w.heap.size, 1, none⟩ = some (.slice la L.length lc) ∧ wr.drew.cell? ⟨w.heap.size, 2, none⟩ = some (.slice ra R.length rc)) ∧ (wr.drew.cell? ⟨w3.heap.size, 0, none⟩ = some (.int .i64 id) ∧ wr.drew.cell? ⟨w3.heap.size, 1, none⟩ = some (.slice pa M.length pc) ∧ wr.drew.cell? ⟨w3.heap.size, 2, none⟩ = some (.slice qa N.length qc)) ∧ (wr.drew.cell? ⟨w5.heap.size, 0, none⟩ = some (.int .i64 id) ∧ wr.drew.cell? ⟨w5.heap.size, 1, none⟩ = some (.slice sa M.length sc) ∧ wr.drew.cell? ⟨w5.heap.size, 2, none⟩ = some (.slice ta N.length tc)) := ⟨⟨X6.cell rfl, X6.cell rfl, X6.cell rfl⟩, ⟨P6.cell rfl, P6.cell rfl, P6.cell rfl⟩, ⟨Q6.cell rfl, Q6.cell rfl, Q6.cell rfl⟩⟩
  clear D5 X5 P5 Q5 l6 m6 r6 s6
  go_region_held3 (fun w' => (w'.cell? ⟨w.heap.size, 0, none⟩ = some (.int .i64 id) ∧ w'.cell? ⟨w.heap.size, 1, none⟩ = some (.slice la L.length lc) ∧ w'.cell? ⟨w.heap.size, 2, none⟩ = some (.slice ra R.length rc)) ∧ (w'.cell? ⟨w3.heap.size, 0, none⟩ = some (.int .i64 id) ∧ w'.cell? ⟨w3.heap.size, 1, none⟩ = some (.slice pa M.length pc) ∧ w'.cell? ⟨w3.heap.size, 2, none⟩ = some (.slice qa N.length qc)) ∧ (w'.cell? ⟨w5.heap.size, 0, none⟩ = some (.int .i64 id) ∧ w'.cell? ⟨w5.heap.size, 1, none⟩ = some (.slice sa M.length sc) ∧ w'.cell? ⟨w5.heap.size, 2, none⟩ = some (.slice ta N.length tc))) (first | exact S6 | exact S7 | exact S8 | exact S9)
    (first
      | (go_at_call 16; refine (hsr _ _ _ _ _ l7 m7 r7 s7).mono ?_; rintro e w7 ⟨rfl, b7⟩; have X7 := X6.on b7 X6.lt; have P7 := P6.on b7 P6.lt; have Q7 := Q6.on b7 Q6.lt; have S7 : (w7.cell? ⟨w.heap.size, 0, none⟩ = some (.int .i64 id) ∧ w7.cell? ⟨w.heap.size, 1, none⟩ = some (.slice la L.length lc) ∧ w7.cell? ⟨w.heap.size, 2, none⟩ = some (.slice ra R.length rc)) ∧ (w7.cell? ⟨w3.heap.size, 0, none⟩ = some (.int .i64 id) ∧ w7.cell? ⟨w3.heap.size, 1, none⟩ = some (.slice pa M.length pc) ∧ w7.cell? ⟨w3.heap.size, 2, none⟩ = some (.slice qa N.length qc)) ∧ (w7.cell? ⟨w5.heap.size, 0, none⟩ = some (.int .i64 id) ∧ w7.cell? ⟨w5.heap.size, 1, none⟩ = some (.slice sa M.length sc) ∧ w7.cell? ⟨w5.heap.size, 2, none⟩ = some (.slice ta N.length tc)) := ⟨⟨X7.cell rfl, X7.cell rfl, X7.cell rfl⟩, ⟨P7.cell rfl, P7.cell rfl, P7.cell rfl⟩, ⟨Q7.cell rfl, Q7.cell rfl, Q7.cell rfl⟩⟩; have D7 := D6.trans (b7.mono D6.size); have l8 := l7.on b7; have m8 := m7.on b7)
      | (go_at_call 13; refine (hh1 _ _ _ l8 m8).mono ?_; clear hh1; rintro e w8 ⟨rfl, b8⟩; have X8 := X7.on b8 X7.lt; have P8 := P7.on b8 P7.lt; have Q8 := Q7.on b8 Q7.lt; have S8 : (w8.cell? ⟨w.heap.size, 0, none⟩ = some (.int .i64 id) ∧ w8.cell? ⟨w.heap.size, 1, none⟩ = some (.slice la L.length lc) ∧ w8.cell? ⟨w.heap.size, 2, none⟩ = some (.slice ra R.length rc)) ∧ (w8.cell? ⟨w3.heap.size, 0, none⟩ = some (.int .i64 id) ∧ w8.cell? ⟨w3.heap.size, 1, none⟩ = some (.slice pa M.length pc) ∧ w8.cell? ⟨w3.heap.size, 2, none⟩ = some (.slice qa N.length qc)) ∧ (w8.cell? ⟨w5.heap.size, 0, none⟩ = some (.int .i64 id) ∧ w8.cell? ⟨w5.heap.size, 1, none⟩ = some (.slice sa M.length sc) ∧ w8.cell? ⟨w5.heap.size, 2, none⟩ = some (.slice ta N.length tc)) := ⟨⟨X8.cell rfl, X8.cell rfl, X8.cell rfl⟩, ⟨P8.cell rfl, P8.cell rfl, P8.cell rfl⟩, ⟨Q8.cell rfl, Q8.cell rfl, Q8.cell rfl⟩⟩; have D8 := D7.trans (b8.mono D7.size); have l9 := l8.on b8; have m9 := m8.on b8)
      | (go_at_call 13; refine (hh2 _ D8).mono ?_; clear hh2; rintro e w9 ⟨rfl, b9⟩; have X9 := X8.on b9 X8.lt; have P9 := P8.on b9 P8.lt; have Q9 := Q8.on b9 Q8.lt; have S9 : (w9.cell? ⟨w.heap.size, 0, none⟩ = some (.int .i64 id) ∧ w9.cell? ⟨w.heap.size, 1, none⟩ = some (.slice la L.length lc) ∧ w9.cell? ⟨w.heap.size, 2, none⟩ = some (.slice ra R.length rc)) ∧ (w9.cell? ⟨w3.heap.size, 0, none⟩ = some (.int .i64 id) ∧ w9.cell? ⟨w3.heap.size, 1, none⟩ = some (.slice pa M.length pc) ∧ w9.cell? ⟨w3.heap.size, 2, none⟩ = some (.slice qa N.length qc)) ∧ (w9.cell? ⟨w5.heap.size, 0, none⟩ = some (.int .i64 id) ∧ w9.cell? ⟨w5.heap.size, 1, none⟩ = some (.slice sa M.length sc) ∧ w9.cell? ⟨w5.heap.size, 2, none⟩ = some (.slice ta N.length tc)) := ⟨⟨X9.cell rfl, X9.cell rfl, X9.cell rfl⟩, ⟨P9.cell rfl, P9.cell rfl, P9.cell rfl⟩, ⟨Q9.cell rfl, Q9.cell rfl, Q9.cell rfl⟩⟩; have D9 := D8.trans (b9.mono D8.size); have l10 := l9.on b9; have m10 := m9.on b9))
  have T0 := X9.cell (i := 0) rfl
  have T1 := X9.cell (i := 1) rfl
  have T2 := X9.cell (i := 2) rfl
  clear S6 S7 S8 S9 X6 X7 X8 P6 P7 P8 Q6 Q7 Q8 Q9 D6 D7 D8 l7 l8 l9 m7 m8 m9 r7 s7 b7 b8 b9 hdr hsr X9
  go_wp2_with (first
    | (go_at_call 11; refine (hcp _ D9).mono ?_; clear hcp; rintro e w10 ⟨u, v, rfl, o10, p10, b10⟩; have r10 := Owns.lies o10 HFL.out; have s10 := Owns.lies p10 HFR.out; obtain ⟨xx, xy, hh1, _⟩ := own_cells o10; obtain ⟨yx, yy, hh2, _⟩ := own_cells p10; subst hh1; subst hh2; have P10 := P9.on b10 P9.lt; have D10 := D9.trans (b10.mono D9.size); have l11 := l10.on b10; have m11 := m10.on b10)
    | (go_at_call 22; refine (hct _ D10).mono ?_; rintro e w11 ⟨u, rfl, o11, b11⟩; have t11 := Owns.lies o11 HFT.out; obtain ⟨zx, zy, hz1, _⟩ := own_cells o11; subst hz1; have r11 := r10.on b11; have s11 := s10.on b11; have P11 := P10.on b11 P10.lt; have D11 := D10.trans (b11.mono D10.size); have l12 := l11.on b11; have m12 := m11.on b11; clear D10)
    | (go_at_call 21; refine (hap _ _ _ _ r11 s11 t11).mono ?_; clear hap; rintro e w12 ⟨u, rfl, o12, b12⟩; have n12 := Owns.lies o12 HFA.out; obtain ⟨nx, ny, hn1, _⟩ := own_cells o12; subst hn1; have P12 := P11.on b12 P11.lt; have D12 := D11.trans (b12.mono D11.size); have l13 := l12.on b12; have m13 := m12.on b12))
  clear o10 p10 b10 o11 b11 o12 b12 r10 s10 r11 s11 t11 l10 l11 l12 m10 m11 m12 P9 P10 P11 D9 D11 T0 T1 T2
  have hdr : Below w12.heap.size w12 w12.drew := (Below.refl _ w12).drew
  have P13 : Blk w12.drew w3.heap.size #[.int .i64 id, .slice pa M.length pc, .slice qa N.length qc] 25 := P12
  have D13 : Below w.heap.size w w12.drew := D12.drew
  have l14 := l13.on hdr
  have m14 := m13.on hdr
  have n14 := n12.on hdr
  have S13 : w12.drew.cell? ⟨w3.heap.size, 0, none⟩ = some (.int .i64 id) ∧ w12.drew.cell? ⟨w3.heap.size, 1, none⟩ = some (.slice pa M.length pc) ∧ w12.drew.cell? ⟨w3.heap.size, 2, none⟩ = some (.slice qa N.length qc) := ⟨P13.cell rfl, P13.cell rfl, P13.cell rfl⟩
  clear P12 D12 l13 m13 n12 hdr
  go_region_held3 (fun w' => w'.cell? ⟨w3.heap.size, 0, none⟩ = some (.int .i64 id) ∧ w'.cell? ⟨w3.heap.size, 1, none⟩ = some (.slice pa M.length pc) ∧ w'.cell? ⟨w3.heap.size, 2, none⟩ = some (.slice qa N.length qc)) (first | exact S13 | exact S14 | exact S15)
    (first
      | (go_at_call 22; refine (hct _ D13).mono ?_; clear hct; rintro e w14 ⟨u, rfl, o14, b14⟩; have t14 := Owns.lies o14 HFT.out; obtain ⟨vx, vy, hv1, _⟩ := own_cells o14; subst hv1; have P14 := P13.on b14 P13.lt; have D14 := D13.trans (b14.mono D13.size); have l15 := l14.on b14; have m15 := m14.on b14; have n15 := n14.on b14; have S14 : w14.cell? ⟨w3.heap.size, 0, none⟩ = some (.int .i64 id) ∧ w14.cell? ⟨w3.heap.size, 1, none⟩ = some (.slice pa M.length pc) ∧ w14.cell? ⟨w3.heap.size, 2, none⟩ = some (.slice qa N.length qc) := ⟨P14.cell rfl, P14.cell rfl, P14.cell rfl⟩)
      | (go_at_call 21; refine (hap2 _ _ _ _ l15 m15 t14).mono ?_; clear hap2; rintro e w15 ⟨u, rfl, o15, b15⟩; have n16 := Owns.lies o15 HFA.out; obtain ⟨ux, uy, hu1, _⟩ := own_cells o15; subst hu1; have P15 := P14.on b15 P14.lt; have D15 := D14.trans (b15.mono D14.size); have n17 := n15.on b15; have S15 : w15.cell? ⟨w3.heap.size, 0, none⟩ = some (.int .i64 id) ∧ w15.cell? ⟨w3.heap.size, 1, none⟩ = some (.slice pa M.length pc) ∧ w15.cell? ⟨w3.heap.size, 2, none⟩ = some (.slice qa N.length qc) := ⟨P15.cell rfl, P15.cell rfl, P15.cell rfl⟩))
  clear S13 S14 S15 P13 P14 P15 D13 D14 l14 l15 m14 m15 n14 n15 t14 o14 b14 o15 b15
  go_wp2_with (first
    | (go_at_call 24; refine (hsm _ _ _ n17 n16).mono ?_; rintro e w16 ⟨rfl, b16⟩)
    | (go_at_call 24; trace_state; fail))
  go_ret
  exact ⟨by simp, D15.trans (b16.mono D15.size)⟩

theorem rulePlain_walk (id : Int) (lv rv : Value) (L R : List Cl) (tv : Value) (T : List Cl) (w : World) (hl : Lies w lv L) (hr : Lies w rv R) (zl : L.length * 24 ≤ 140737488355328) (zr : R.length * 24 ≤ 140737488355328) (ht : Lies w tv T) (zt : T.length * 24 ≤ 140737488355328) :
    Calls Tryd.prog 8 #[.agg #[.int .i64 id, lv, rv], tv] w fun e w' => e = .returned (.bool true) ∧ Below w.heap.size w w' := by
  by_cases hE : chk id L R = 0
  · exact rulePlain_yes id lv rv L R tv T w hl hr zl zr ht zt hE
  · exact rulePlain_no id lv rv L R tv T w hl hr zl zr ht hE

theorem rulePlain_own : ownKnob Tryd.prog.godebug = none := by kernel_rfl
theorem rulePlain_laidOut : laidOutB Tryd.prog = true := by kernel_rfl
theorem rulePlain_met (os : Os) : laidMetH Tryd.prog Rows.rulePlainRow.laid ((World.laidAll Tryd.prog os Rows.rulePlainRow.laid).forCall (fun _ _ => 0) ⟨#[], #[.agg #[.int .i64 0, .slice none 0 0, .slice none 0 0], .slice none 0 0], []⟩).memory := by
  rw [MakeChecks.laidMetH_plain _ _ _ (by kernel_rfl)]; exact laidMet_laidAll _ (by kernel_rfl) (by kernel_rfl)
theorem rulePlain_reads (os : Os) {H : Type} (enc : TypeId × Value → H) : DataW.whole enc Tryd.prog ((World.laidAll Tryd.prog os Rows.rulePlainRow.laid).forCall (fun _ _ => 0) ⟨#[], #[.agg #[.int .i64 0, .slice none 0 0, .slice none 0 0], .slice none 0 0], []⟩).memory Tryd.f8.params.toList Rows.rulePlainSpec.vars false #[(.agg #[.int .i64 0, .slice none 0 0, .slice none 0 0] : Value), (.slice none 0 0 : Value)].toList 8 = some ([.agg [.lit (.int .i64 0), .nil, .nil], .nil], [], []) := by kernel_rfl
theorem rulePlain_okIn (os : Os) : Input.okWideB Tryd.prog ((World.laidAll Tryd.prog os Rows.rulePlainRow.laid).forCall (fun _ _ => 0) ⟨#[], #[.agg #[.int .i64 0, .slice none 0 0, .slice none 0 0], .slice none 0 0], []⟩) 8 ⟨#[], #[.agg #[.int .i64 0, .slice none 0 0, .slice none 0 0], .slice none 0 0], []⟩ = true := by kernel_rfl

set_option maxRecDepth 100000 in
theorem rulePlain_lifted (os : Os) (started : os.Started) (H : Type) (enc : TypeId × Value → H) (F : Stop.Interp) :
    ReturnsInHanded {} Tryd.checked os 8 .any ((OpenSpec.ofChange Rows.rulePlainSpec).preRow enc Tryd.prog Tryd.f8 Rows.rulePlainRow.domain false Rows.rulePlainRow.laid) (((OpenSpec.ofChange Rows.rulePlainSpec).at F).post enc Tryd.prog Tryd.f8 false true false false) := by
  refine returnsInHanded_of_row (C := Tryd.checked) (s := (OpenSpec.ofChange Rows.rulePlainSpec)) rulePlain_own started (by kernel_rfl) Tryd.func8
    ⟨World.laidAll Tryd.prog os Rows.rulePlainRow.laid, fun _ _ => 0, ⟨#[], #[.agg #[.int .i64 0, .slice none 0 0, .slice none 0 0], .slice none 0 0], []⟩, World.laidAll_os _ _ _, World.shaped_of_ZipB (by kernel_rfl) (by kernel_rfl), (Input.okWide_of_okWideB (base := 0) (rulePlain_okIn os)).1, (Input.okWide_of_okWideB (rulePlain_okIn os)).2,
      OpenSpec.preRow_of_cond 8 (rulePlain_reads os enc) (by kernel_rfl) (fun k hk => by cases hk) (by kernel_rfl) (rulePlain_met os), by simp only [Assume.holds]; exact ⟨by simp, by simp, fun _ => Modest.zero, by simp, by simp⟩⟩ ?_
  intro W base args ds gs before hval0 hW hcnd hcond hsz0 hL hsh _
  have hsz : (DataW.weightsEach Tryd.prog (Tryd.f8.params.toList ++ Rows.rulePlainSpec.plain.varTypes Tryd.prog) (ds ++ gs)).all (· ≤ reachBytes) = true := hsz0
  have hval : ∀ (j : Nat) t v, Tryd.f8.params[j]? = some t → args[j]? = some v → Value.okWide Tryd.prog W .any base t v := hval0
  have hW' := hW
  obtain ⟨p, q, hA0, hV, rfl, hfz, hnd⟩ := hW
  have hA : DataW.TrodAll enc Tryd.prog W 0 (fun _ => true) true Tryd.f8.params.toList args.toList ds p := hA0
  rw [Tryd.params8] at hA hval hsz
  obtain ⟨v0, vs0, d0, ds0, p0, q0, hargs, rfl, rfl, h0, r0⟩ := trodAll_cons hA
  obtain ⟨v1, vs1, d1, ds1, p1, q1, rfl, rfl, rfl, h1, r1⟩ := trodAll_cons r0
  obtain ⟨rfl, rfl, rfl⟩ := trodAll_nil r1
  obtain rfl : args = #[v0, v1] := by cases args; simp_all
  obtain ⟨rfl, rfl⟩ := trodVars_none hV
  have k0 := h0
  have lt0 : ∀ x ∈ p0, x.block < W.heap.size := by obtain ⟨m, hm⟩ := k0; exact DataW.trod_lt m _ _ _ hm
  have k1 := h1
  have lt1 : ∀ x ∈ p1, x.block < W.heap.size := by obtain ⟨m, hm⟩ := k1; exact DataW.trod_lt m _ _ _ hm
  obtain ⟨id0, lv0, rv0, L0, R0, rfl, hl0, hr0, zl0, zr0⟩ := open_rule (hval 0 25 v0 rfl rfl) h0 (fun n hn => by simpa using List.all_eq_true.1 hsz n (DataW.weights_mem_each (j := 0) (t := 25) rfl rfl n hn))
  obtain ⟨L1, l1, z1⟩ := open_cells (hval 1 23 v1 rfl rfl) h1 (fun n hn => by simpa using List.all_eq_true.1 hsz n (DataW.weights_mem_each (j := 1) (t := 23) rfl rfl n hn))
  clear hA0 hval0
  refine (rulePlain_walk id0 lv0 rv0 L0 R0 v1 L1 W hl0 hr0 zl0 zr0 l1 z1).mono fun e W' ⟨he, bel⟩ => ?_
  subst he
  exact ⟨_, rfl, _, _, _, [], _, [], hW', trodAll_mk1 (shut_bool Tryd.underlying4 _), (trodAll_cons_mk (Below.trod rulePlain_laidOut (by kernel_rfl) (of_decide_eq_true (by kernel_rfl)) k0 bel lt0) (trodAll_cons_mk (Below.trod rulePlain_laidOut (by kernel_rfl) (of_decide_eq_true (by kernel_rfl)) k1 bel lt1) trodAll_mk0)), rfl, bel.frame _, fun h => by cases h⟩

theorem rulePlain_said : Rows.RulePlainSaid :=
  OpenClaim.holds_of_cond 8 Tryd.f8 rfl rfl rfl rfl rfl rfl rfl ⟨rfl, rfl, rfl, rfl, rfl⟩ rfl rfl rfl rfl rfl (by kernel_rfl) Tryd.func8 (by kernel_rfl)
    (of_decide_eq_true (by kernel_rfl)) (by unfold Func.isWrapper; first | (rw [if_pos (by decide +kernel)]; kernel_rfl) | (rw [if_neg (by decide +kernel)]; exact ⟨rfl, rfl⟩))
    (fun os started H enc _ F => by rw [OpenClaim.pre_eq_preRow]; exact rulePlain_lifted os started H enc F)

theorem rulePlain_plain (f : FuncId) (fn : Func) (hf : Tryd.pinned.checked.prog.funcNamed Rows.rulePlainRow.func = some f) (hfn : Tryd.pinned.checked.prog.funcs[f]? = some fn) :
    true = Tryd.pinned.checked.prog.looks [] ∧ ∀ (j : Nat) t, fn.params[j]? = some t → Tryd.pinned.checked.prog.wantsStandIn t = false := by
  obtain rfl : f = 8 := Option.some.inj ((show Tryd.prog.funcNamed Rows.rulePlainRow.func = some 8 by kernel_rfl).symm.trans hf) |>.symm
  obtain rfl : fn = Tryd.f8 := (Option.some.inj (Tryd.func8.symm.trans hfn)).symm
  refine ⟨by kernel_rfl, fun j t ht => ?_⟩
  rw [Tryd.params8] at ht
  have hm : t ∈ [25, 23] := by simpa using Array.mem_of_getElem? ht
  have hall : ([25, 23].all fun u => !Tryd.prog.wantsStandIn u) = true := by kernel_rfl
  have := List.all_eq_true.1 hall t hm
  exact (show Tryd.prog.wantsStandIn t = false by simpa using this)

theorem rulePlain_holds : Rows.RulePlainCardSaid :=
  Claim7.holds_tied_plain_at .later [] _ _ _ _ rulePlain_said (fun _ h => by cases h) (by kernel_rfl) (fun _ h => by cases h) rulePlain_row_tie rfl ⟨rfl, rfl⟩ (by kernel_rfl) rfl rulePlain_plain (by kernel_rfl)

#print axioms rulePlain_holds

end Go.Proofs.YtjpmlnigjbdnnaaDoor
