/-
  Proved: RuleChecks returns true for every rule, and its argument reads behind the call as before.
-/
import Derived.Test.YtjpmlnigjbdnnaaDoorCards
import Derived.Test.YtjpmlnigjbdnnaaDoorTie
import Derived.Test.YtjpmlnigjbdnnaaDoorWk
import Derived.Test.YtjpmlnigjbdnnaaDoorRc
import Derived.Test.YtjpmlnigjbdnnaaDoorOpenR
import Derived.ProofKit
import Derived.OpenShut
import Derived.ShutString
import Derived.ChangeOld
import Derived.Below
import Derived.SizedLaws
import Derived.Lib.SmallJoins
import Derived.SevenTiedAt
import Derived.Deep.DeepHandedRow
import Derived.LaidMore
import Derived.Lay
namespace Go.Proofs.YtjpmlnigjbdnnaaDoor
open Go.ChangeShapes Go.WideShapes Go.ChangeAt Go.RowKit Go.Joins
open Go.ChangeMaps (open_string shut_string)
set_option linter.unusedVariables false
set_option linter.unusedSimpArgs false
set_option maxRecDepth 100000

set_option maxHeartbeats 4000000 in
theorem ruleChecks_walk (id : Int) (lv rv : Value) (L R : List Cl) (w : World) (hl : Lies w lv L) (hr : Lies w rv R) (zl : L.length * 24 ≤ 140737488355328) (zr : R.length * 24 ≤ 140737488355328) :
    Calls Tryd.prog 3 #[.agg #[.int .i64 id, lv, rv]] w fun e w' => e = .returned (.bool true) ∧ Below w.heap.size w w' := by
  have hcp : ∀ w1, Below w.heap.size w w1 → _ := fun w1 h => rCopy_any w1 id lv rv L R (hl.on h) (hr.on h) zl zr
  have hrc : ∀ w1, Below w.heap.size w w1 → _ := fun w1 h => rChk_any w1 id lv rv L R (hl.on h) (hr.on h)
  have HFL : Hid (Fine L) := by obtain ⟨_, _, _, _, _, hf, _⟩ := hl; exact hf
  have HFR : Hid (Fine R) := by obtain ⟨_, _, _, _, _, hf, _⟩ := hr; exact hf
  have hck : ∀ w1 a b, Owns w1 0 a L → Owns w1 0 b R → _ := fun w1 a b h1 h2 => chk_any w1 id a b L R (Owns.lies h1 HFL.out) (Owns.lies h2 HFR.out)
  have hb : Below w.heap.size w (w.alloc (.cells #[.int .i64 id, lv, rv] 25)) := (Below.refl _ w).alloc (Nat.le_refl _) _
  have hx := Blk.made w #[.int .i64 id, lv, rv] 25
  have HLL : Hid (Lies w lv L) := hl
  by_cases hE : chk id L R = 0
  · have hhd : ∀ w1 a b, Owns w1 0 a L → Owns w1 0 b R → _ := fun w1 a b h1 h2 => head_ok w1 id a b L R (Owns.lies h1 HFL.out) (Owns.lies h2 HFR.out) hE
    have hL := (chk_zero hE).2.1
    rw [hE] at hck hrc
    obtain ⟨nm, kd, hLt⟩ := check_term hL
    have HN : Hid (L[0]? = some ⟨nm, (kd.len : Nat)⟩) := by show _ = _; rw [hLt]; rfl
    have hhn : hd L = nm := by rw [hLt]; rfl
    rw [hhn] at hhd
    have hlen : 0 < L.length := by rw [hLt]; simp [Fo.flat]
    obtain ⟨g, off, hla, hgl, d1⟩ : ∃ g off, (∃ c, lv = .slice (some ⟨g, off, none⟩) L.length c) ∧ g < w.heap.size ∧ w.cell? ⟨g, off, none⟩ = some (.string nm) := by
      obtain ⟨a, c, h1, _, _, _, hC⟩ := HLL.out
      obtain ⟨g, off, h2, h3, h4, _⟩ := hC 0 _ HN.out
      subst h2
      exact ⟨g, off, ⟨c, h1⟩, h3, by simpa using h4⟩
    clear hLt hhn hL hE
    obtain ⟨la, lc, rfl, _⟩ := hl
    obtain ⟨ra, rc, rfl, _⟩ := hr
    have HB : Hid (Below w.heap.size w (w.alloc (.cells #[.int .i64 id, .slice la L.length lc, .slice ra R.length rc] 25))) := hb
    have HX : Hid (Blk (w.alloc (.cells #[.int .i64 id, .slice la L.length lc, .slice ra R.length rc] 25)) w.heap.size #[.int .i64 id, .slice la L.length lc, .slice ra R.length rc] 25) := hx
    clear hb hx
    go_enter Tryd.func3, Tryd.ntmps3
    go_wp2_with fail
    generalize w.alloc (.cells #[.int .i64 id, .slice la L.length lc, .slice ra R.length rc] 25) = wr at HB HX ⊢
    have D0 : Below w.heap.size w wr.drew := HB.out.drew
    have X0 : Blk wr.drew w.heap.size #[.int .i64 id, .slice la L.length lc, .slice ra R.length rc] 25 := HX.out
    have S0 : wr.drew.cell? ⟨w.heap.size, 0, none⟩ = some (.int .i64 id) ∧ wr.drew.cell? ⟨w.heap.size, 1, none⟩ = some (.slice la L.length lc) ∧ wr.drew.cell? ⟨w.heap.size, 2, none⟩ = some (.slice ra R.length rc) := ⟨X0.cell rfl, X0.cell rfl, X0.cell rfl⟩
    have hwk := wakes_any wr.drew
    clear HB HX
    go_region_held3 (fun w' => w'.cell? ⟨w.heap.size, 0, none⟩ = some (.int .i64 id) ∧ w'.cell? ⟨w.heap.size, 1, none⟩ = some (.slice la L.length lc) ∧ w'.cell? ⟨w.heap.size, 2, none⟩ = some (.slice ra R.length rc)) (first | exact S0 | exact S1 | exact S2 | exact S3 | exact S4)
      (first
        | (go_at_call 9; refine hwk.mono ?_; rintro e w1 ⟨rfl, b1⟩; have X1 := X0.on b1 X0.lt; have S1 : w1.cell? ⟨w.heap.size, 0, none⟩ = some (.int .i64 id) ∧ w1.cell? ⟨w.heap.size, 1, none⟩ = some (.slice la L.length lc) ∧ w1.cell? ⟨w.heap.size, 2, none⟩ = some (.slice ra R.length rc) := ⟨X1.cell rfl, X1.cell rfl, X1.cell rfl⟩; have D1 := D0.trans (b1.mono D0.size))
        | (go_at_call 11; refine (hcp _ D1).mono ?_; rintro e w2 ⟨a2, c2, rfl, oa2, oc2, b2⟩; have oa := own_base oa2 (Nat.zero_le _); have oc := own_base oc2 (Nat.zero_le _); obtain ⟨xa, xc, hxv, _⟩ := own_cells oa2; obtain ⟨ya, yc, hyv, _⟩ := own_cells oc2; subst hxv; subst hyv; have X2 := X1.on b2 X1.lt; have S2 : w2.cell? ⟨w.heap.size, 0, none⟩ = some (.int .i64 id) ∧ w2.cell? ⟨w.heap.size, 1, none⟩ = some (.slice la L.length lc) ∧ w2.cell? ⟨w.heap.size, 2, none⟩ = some (.slice ra R.length rc) := ⟨X2.cell rfl, X2.cell rfl, X2.cell rfl⟩; have D2 := D1.trans (b2.mono D1.size))
        | (go_at_call 10; refine (hck _ _ _ oa oc).mono ?_; rintro e w3 ⟨rfl, b3⟩; have X3 := X2.on b3 X2.lt; have S3 : w3.cell? ⟨w.heap.size, 0, none⟩ = some (.int .i64 id) ∧ w3.cell? ⟨w.heap.size, 1, none⟩ = some (.slice la L.length lc) ∧ w3.cell? ⟨w.heap.size, 2, none⟩ = some (.slice ra R.length rc) := ⟨X3.cell rfl, X3.cell rfl, X3.cell rfl⟩; have D3 := D2.trans (b3.mono D2.size))
        | (go_at_call 12; refine (hrc _ D3).mono ?_; rintro e w4 ⟨rfl, b4⟩; have X4 := X3.on b4 X3.lt; have S4 : w4.cell? ⟨w.heap.size, 0, none⟩ = some (.int .i64 id) ∧ w4.cell? ⟨w.heap.size, 1, none⟩ = some (.slice la L.length lc) ∧ w4.cell? ⟨w.heap.size, 2, none⟩ = some (.slice ra R.length rc) := ⟨X4.cell rfl, X4.cell rfl, X4.cell rfl⟩; have D4 := D3.trans (b4.mono D3.size)))
    clear S0 S1 S2 S3 hck hwk oa oc oa2 oc2 X0 X1 X2 X3 D0 D1 D2 D3
    obtain ⟨p4, q4, r4⟩ := S4
    obtain ⟨cc, hla⟩ := hla
    simp only [Value.slice.injEq] at hla
    have HLA : Hid (la = some ⟨g, off, none⟩) := hla.1
    clear hla
    go_wp2_with (first | (go_at_call 11; refine (hcp _ D4).mono ?_; clear hcp; rintro e w5 ⟨a5, c5, rfl, oa5, oc5, b5⟩; have oa := own_base oa5 (Nat.zero_le _); have oc := own_base oc5 (Nat.zero_le _); obtain ⟨ga, gc, hgv, _⟩ := own_cells oa5; obtain ⟨ha, hc, hhv, _⟩ := own_cells oc5; subst hgv; subst hhv; have X5 := X4.on b5 X4.lt; have S5 : w5.cell? ⟨w.heap.size, 0, none⟩ = some (.int .i64 id) ∧ w5.cell? ⟨w.heap.size, 1, none⟩ = some (.slice la L.length lc) ∧ w5.cell? ⟨w.heap.size, 2, none⟩ = some (.slice ra R.length rc) := ⟨X5.cell rfl, X5.cell rfl, X5.cell rfl⟩; have D5 := D4.trans (b5.mono D4.size)) | (go_at_call 13; refine (hhd _ _ _ oa oc).mono ?_; clear hhd; rintro e w6 ⟨rfl, b6⟩; have X6 := X5.on b6 X5.lt; have S6 : w6.cell? ⟨w.heap.size, 0, none⟩ = some (.int .i64 id) ∧ w6.cell? ⟨w.heap.size, 1, none⟩ = some (.slice la L.length lc) ∧ w6.cell? ⟨w.heap.size, 2, none⟩ = some (.slice ra R.length rc) := ⟨X6.cell rfl, X6.cell rfl, X6.cell rfl⟩; have D6 := D5.trans (b6.mono D5.size); have p6 := S6.1; have q6 := S6.2.1; have r6 := S6.2.2) | (go_at_call 12; refine (hrc _ D6).mono ?_; rintro e w7 ⟨rfl, b7⟩; clear D4 D5; have X7 := X6.on b7 X6.lt; have S7 : w7.cell? ⟨w.heap.size, 0, none⟩ = some (.int .i64 id) ∧ w7.cell? ⟨w.heap.size, 1, none⟩ = some (.slice la L.length lc) ∧ w7.cell? ⟨w.heap.size, 2, none⟩ = some (.slice ra R.length rc) := ⟨X7.cell rfl, X7.cell rfl, X7.cell rfl⟩; have D7 := D6.trans (b7.mono D6.size); have p7 := S7.1; have q7 := S7.2.1; have r7 := S7.2.2; clear D6) | (go_at_call 12; refine (hrc _ D7).mono ?_; rintro e w8 ⟨rfl, b8⟩; have X8 := X7.on b8 X7.lt; have S8 : w8.cell? ⟨w.heap.size, 0, none⟩ = some (.int .i64 id) ∧ w8.cell? ⟨w.heap.size, 1, none⟩ = some (.slice la L.length lc) ∧ w8.cell? ⟨w.heap.size, 2, none⟩ = some (.slice ra R.length rc) := ⟨X8.cell rfl, X8.cell rfl, X8.cell rfl⟩; have D8 := D7.trans (b8.mono D7.size); have p8 := S8.1; have q8 := S8.2.1; have r8 := S8.2.2; rw [HLA.out] at q8; clear S8; have d8 : w8.cell? ⟨g, off, none⟩ = some (.string nm) := (D8.cell (p := ⟨g, off, none⟩) hgl).trans d1))
    go_ret
    exact ⟨by simp, D8⟩
  · have hhd : ∀ w1 a b, Owns w1 0 a L → Owns w1 0 b R → _ := fun w1 a b h1 h2 => head_bad w1 id a b L R (Owns.lies h1 HFL.out) (Owns.lies h2 HFR.out) hE
    generalize chk id L R = E at hck hrc hE
    have e1 : ((E : Int) == 0) = false := by simp only [beq_eq_false_iff_ne]; omega
    have e2 : ¬ (E : Int) = 0 := by omega
    clear hE
    obtain ⟨la, lc, rfl, _⟩ := hl
    obtain ⟨ra, rc, rfl, _⟩ := hr
    have HB : Hid (Below w.heap.size w (w.alloc (.cells #[.int .i64 id, .slice la L.length lc, .slice ra R.length rc] 25))) := hb
    have HX : Hid (Blk (w.alloc (.cells #[.int .i64 id, .slice la L.length lc, .slice ra R.length rc] 25)) w.heap.size #[.int .i64 id, .slice la L.length lc, .slice ra R.length rc] 25) := hx
    clear hb hx
    go_enter Tryd.func3, Tryd.ntmps3
    go_wp2_with fail
    generalize w.alloc (.cells #[.int .i64 id, .slice la L.length lc, .slice ra R.length rc] 25) = wr at HB HX ⊢
    have D0 : Below w.heap.size w wr.drew := HB.out.drew
    have X0 : Blk wr.drew w.heap.size #[.int .i64 id, .slice la L.length lc, .slice ra R.length rc] 25 := HX.out
    have S0 : wr.drew.cell? ⟨w.heap.size, 0, none⟩ = some (.int .i64 id) ∧ wr.drew.cell? ⟨w.heap.size, 1, none⟩ = some (.slice la L.length lc) ∧ wr.drew.cell? ⟨w.heap.size, 2, none⟩ = some (.slice ra R.length rc) := ⟨X0.cell rfl, X0.cell rfl, X0.cell rfl⟩
    have hwk := wakes_any wr.drew
    clear HB HX
    go_region_held3 (fun w' => w'.cell? ⟨w.heap.size, 0, none⟩ = some (.int .i64 id) ∧ w'.cell? ⟨w.heap.size, 1, none⟩ = some (.slice la L.length lc) ∧ w'.cell? ⟨w.heap.size, 2, none⟩ = some (.slice ra R.length rc)) (first | exact S0 | exact S1 | exact S2 | exact S3 | exact S4)
      (first
        | (go_at_call 9; refine hwk.mono ?_; rintro e w1 ⟨rfl, b1⟩; have X1 := X0.on b1 X0.lt; have S1 : w1.cell? ⟨w.heap.size, 0, none⟩ = some (.int .i64 id) ∧ w1.cell? ⟨w.heap.size, 1, none⟩ = some (.slice la L.length lc) ∧ w1.cell? ⟨w.heap.size, 2, none⟩ = some (.slice ra R.length rc) := ⟨X1.cell rfl, X1.cell rfl, X1.cell rfl⟩; have D1 := D0.trans (b1.mono D0.size))
        | (go_at_call 11; refine (hcp _ D1).mono ?_; rintro e w2 ⟨a2, c2, rfl, oa2, oc2, b2⟩; have oa := own_base oa2 (Nat.zero_le _); have oc := own_base oc2 (Nat.zero_le _); obtain ⟨xa, xc, hxv, _⟩ := own_cells oa2; obtain ⟨ya, yc, hyv, _⟩ := own_cells oc2; subst hxv; subst hyv; have X2 := X1.on b2 X1.lt; have S2 : w2.cell? ⟨w.heap.size, 0, none⟩ = some (.int .i64 id) ∧ w2.cell? ⟨w.heap.size, 1, none⟩ = some (.slice la L.length lc) ∧ w2.cell? ⟨w.heap.size, 2, none⟩ = some (.slice ra R.length rc) := ⟨X2.cell rfl, X2.cell rfl, X2.cell rfl⟩; have D2 := D1.trans (b2.mono D1.size))
        | (go_at_call 10; refine (hck _ _ _ oa oc).mono ?_; rintro e w3 ⟨rfl, b3⟩; have X3 := X2.on b3 X2.lt; have S3 : w3.cell? ⟨w.heap.size, 0, none⟩ = some (.int .i64 id) ∧ w3.cell? ⟨w.heap.size, 1, none⟩ = some (.slice la L.length lc) ∧ w3.cell? ⟨w.heap.size, 2, none⟩ = some (.slice ra R.length rc) := ⟨X3.cell rfl, X3.cell rfl, X3.cell rfl⟩; have D3 := D2.trans (b3.mono D2.size))
        | (go_at_call 12; refine (hrc _ D3).mono ?_; rintro e w4 ⟨rfl, b4⟩; have X4 := X3.on b4 X3.lt; have S4 : w4.cell? ⟨w.heap.size, 0, none⟩ = some (.int .i64 id) ∧ w4.cell? ⟨w.heap.size, 1, none⟩ = some (.slice la L.length lc) ∧ w4.cell? ⟨w.heap.size, 2, none⟩ = some (.slice ra R.length rc) := ⟨X4.cell rfl, X4.cell rfl, X4.cell rfl⟩; have D4 := D3.trans (b4.mono D3.size)))
    clear S0 S1 S2 S3 hck hwk oa oc oa2 oc2 X0 X1 X2 X3 D0 D1 D2 D3
    obtain ⟨p4, q4, r4⟩ := S4
    go_wp2_with (first | (go_at_call 11; refine (hcp _ D4).mono ?_; clear hcp; rintro e w5 ⟨a5, c5, rfl, oa5, oc5, b5⟩; have oa := own_base oa5 (Nat.zero_le _); have oc := own_base oc5 (Nat.zero_le _); obtain ⟨ga, gc, hgv, _⟩ := own_cells oa5; obtain ⟨ha, hc, hhv, _⟩ := own_cells oc5; subst hgv; subst hhv; have X5 := X4.on b5 X4.lt; have S5 : w5.cell? ⟨w.heap.size, 0, none⟩ = some (.int .i64 id) ∧ w5.cell? ⟨w.heap.size, 1, none⟩ = some (.slice la L.length lc) ∧ w5.cell? ⟨w.heap.size, 2, none⟩ = some (.slice ra R.length rc) := ⟨X5.cell rfl, X5.cell rfl, X5.cell rfl⟩; have D5 := D4.trans (b5.mono D4.size)) | (go_at_call 13; refine (hhd _ _ _ oa oc).mono ?_; clear hhd; rintro e w6 ⟨rfl, b6⟩; have X6 := X5.on b6 X5.lt; have S6 : w6.cell? ⟨w.heap.size, 0, none⟩ = some (.int .i64 id) ∧ w6.cell? ⟨w.heap.size, 1, none⟩ = some (.slice la L.length lc) ∧ w6.cell? ⟨w.heap.size, 2, none⟩ = some (.slice ra R.length rc) := ⟨X6.cell rfl, X6.cell rfl, X6.cell rfl⟩; have D6 := D5.trans (b6.mono D5.size); have p6 := S6.1; have q6 := S6.2.1; have r6 := S6.2.2) | (go_at_call 12; refine (hrc _ D6).mono ?_; rintro e w7 ⟨rfl, b7⟩; have X7 := X6.on b7 X6.lt; have S7 : w7.cell? ⟨w.heap.size, 0, none⟩ = some (.int .i64 id) ∧ w7.cell? ⟨w.heap.size, 1, none⟩ = some (.slice la L.length lc) ∧ w7.cell? ⟨w.heap.size, 2, none⟩ = some (.slice ra R.length rc) := ⟨X7.cell rfl, X7.cell rfl, X7.cell rfl⟩; have D7 := D6.trans (b7.mono D6.size)))
    go_ret
    exact ⟨by simp, D7⟩

theorem ruleChecks_own : ownKnob Tryd.prog.godebug = none := by kernel_rfl
theorem ruleChecks_laidOut : laidOutB Tryd.prog = true := by kernel_rfl
theorem ruleChecks_met (os : Os) : laidMetH Tryd.prog Rows.ruleChecksRow.laid ((World.laidAll Tryd.prog os Rows.ruleChecksRow.laid).forCall (fun _ _ => 0) ⟨#[], #[.agg #[.int .i64 0, .slice none 0 0, .slice none 0 0]], []⟩).memory := by
  rw [MakeChecks.laidMetH_plain _ _ _ (by kernel_rfl)]; exact laidMet_laidAll _ (by kernel_rfl) (by kernel_rfl)
theorem ruleChecks_reads (os : Os) {H : Type} (enc : TypeId × Value → H) : DataW.whole enc Tryd.prog ((World.laidAll Tryd.prog os Rows.ruleChecksRow.laid).forCall (fun _ _ => 0) ⟨#[], #[.agg #[.int .i64 0, .slice none 0 0, .slice none 0 0]], []⟩).memory Tryd.f3.params.toList Rows.ruleChecksSpec.vars false #[(.agg #[.int .i64 0, .slice none 0 0, .slice none 0 0] : Value)].toList 8 = some ([.agg [.lit (.int .i64 0), .nil, .nil]], [], []) := by kernel_rfl
theorem ruleChecks_ok (os : Os) : Input.okWideB Tryd.prog ((World.laidAll Tryd.prog os Rows.ruleChecksRow.laid).forCall (fun _ _ => 0) ⟨#[], #[.agg #[.int .i64 0, .slice none 0 0, .slice none 0 0]], []⟩) 3 ⟨#[], #[.agg #[.int .i64 0, .slice none 0 0, .slice none 0 0]], []⟩ = true := by kernel_rfl

set_option maxRecDepth 100000 in
theorem ruleChecks_lifted (os : Os) (started : os.Started) (H : Type) (enc : TypeId × Value → H) (F : Stop.Interp) :
    ReturnsInHanded {} Tryd.checked os 3 .any ((OpenSpec.ofChange Rows.ruleChecksSpec).preRow enc Tryd.prog Tryd.f3 Rows.ruleChecksRow.domain false Rows.ruleChecksRow.laid) (((OpenSpec.ofChange Rows.ruleChecksSpec).at F).post enc Tryd.prog Tryd.f3 false true false false) := by
  refine returnsInHanded_of_row (C := Tryd.checked) (s := (OpenSpec.ofChange Rows.ruleChecksSpec)) ruleChecks_own started (by kernel_rfl) Tryd.func3
    ⟨World.laidAll Tryd.prog os Rows.ruleChecksRow.laid, fun _ _ => 0, ⟨#[], #[.agg #[.int .i64 0, .slice none 0 0, .slice none 0 0]], []⟩, World.laidAll_os _ _ _, World.shaped_of_ZipB (by kernel_rfl) (by kernel_rfl), (Input.okWide_of_okWideB (base := 0) (ruleChecks_ok os)).1, (Input.okWide_of_okWideB (ruleChecks_ok os)).2,
      OpenSpec.preRow_of_cond 8 (ruleChecks_reads os enc) (by kernel_rfl) (fun k hk => by cases hk) (by kernel_rfl) (ruleChecks_met os), by simp only [Assume.holds]; exact ⟨by simp, by simp, fun _ => Modest.zero, by simp, by simp⟩⟩ ?_
  intro W base args ds gs before hval0 hW hcnd hcond hsz0 hL hsh _
  have hsz : (DataW.weightsEach Tryd.prog (Tryd.f3.params.toList ++ Rows.ruleChecksSpec.plain.varTypes Tryd.prog) (ds ++ gs)).all (· ≤ reachBytes) = true := hsz0
  have hval : ∀ (j : Nat) t v, Tryd.f3.params[j]? = some t → args[j]? = some v → Value.okWide Tryd.prog W .any base t v := hval0
  have hW' := hW
  obtain ⟨p, q, hA0, hV, rfl, hfz, hnd⟩ := hW
  have hA : DataW.TrodAll enc Tryd.prog W 0 (fun _ => true) true Tryd.f3.params.toList args.toList ds p := hA0
  rw [Tryd.params3] at hA hval hsz
  obtain ⟨v0, vs0, d0, ds0, p0, q0, hargs, rfl, rfl, h0, r0⟩ := trodAll_cons hA
  obtain ⟨rfl, rfl, rfl⟩ := trodAll_nil r0
  obtain rfl : args = #[v0] := by cases args; simp_all
  obtain ⟨rfl, rfl⟩ := trodVars_none hV
  have k0 := h0
  have lt0 : ∀ x ∈ p0, x.block < W.heap.size := by obtain ⟨m, hm⟩ := k0; exact DataW.trod_lt m _ _ _ hm
  obtain ⟨id0, lv0, rv0, L0, R0, rfl, hl0, hr0, zl0, zr0⟩ := open_rule (hval 0 25 v0 rfl rfl) h0 (fun n hn => by simpa using List.all_eq_true.1 hsz n (DataW.weights_mem_each (j := 0) (t := 25) rfl rfl n hn))
  clear hA0 hval0
  refine (ruleChecks_walk id0 lv0 rv0 L0 R0 W hl0 hr0 zl0 zr0).mono fun e W' ⟨he, bel⟩ => ?_
  subst he
  exact ⟨_, rfl, _, _, _, [], _, [], hW', trodAll_mk1 (shut_bool Tryd.underlying4 _), (trodAll_cons_mk (Below.trod ruleChecks_laidOut (by kernel_rfl) (of_decide_eq_true (by kernel_rfl)) k0 bel lt0) trodAll_mk0), rfl, bel.frame _, fun h => by cases h⟩

theorem ruleChecks_said : Rows.RuleChecksSaid :=
  OpenClaim.holds_of_cond 3 Tryd.f3 rfl rfl rfl rfl rfl rfl rfl ⟨rfl, rfl, rfl, rfl, rfl⟩ rfl rfl rfl rfl rfl (by kernel_rfl) Tryd.func3 (by kernel_rfl)
    (of_decide_eq_true (by kernel_rfl)) (by unfold Func.isWrapper; first | (rw [if_pos (by decide +kernel)]; kernel_rfl) | (rw [if_neg (by decide +kernel)]; exact ⟨rfl, rfl⟩))
    (fun os started H enc _ F => by rw [OpenClaim.pre_eq_preRow]; exact ruleChecks_lifted os started H enc F)

theorem ruleChecks_plain (f : FuncId) (fn : Func) (hf : Tryd.pinned.checked.prog.funcNamed Rows.ruleChecksRow.func = some f) (hfn : Tryd.pinned.checked.prog.funcs[f]? = some fn) :
    true = Tryd.pinned.checked.prog.looks [] ∧ ∀ (j : Nat) t, fn.params[j]? = some t → Tryd.pinned.checked.prog.wantsStandIn t = false := by
  obtain rfl : f = 3 := Option.some.inj ((show Tryd.prog.funcNamed Rows.ruleChecksRow.func = some 3 by kernel_rfl).symm.trans hf) |>.symm
  obtain rfl : fn = Tryd.f3 := (Option.some.inj (Tryd.func3.symm.trans hfn)).symm
  refine ⟨by kernel_rfl, fun j t ht => ?_⟩
  rw [Tryd.params3] at ht
  have hm : t ∈ [25] := by simpa using Array.mem_of_getElem? ht
  have hall : ([25].all fun u => !Tryd.prog.wantsStandIn u) = true := by kernel_rfl
  have := List.all_eq_true.1 hall t hm
  exact (show Tryd.prog.wantsStandIn t = false by simpa using this)

theorem ruleChecks_holds : Rows.RuleChecksCardSaid :=
  Claim7.holds_tied_plain_at .later [] _ _ _ _ ruleChecks_said (fun _ h => by cases h) (by kernel_rfl) (fun _ h => by cases h) ruleChecks_row_tie rfl ⟨rfl, rfl⟩ (by kernel_rfl) rfl ruleChecks_plain (by kernel_rfl)

#print axioms ruleChecks_holds

end Go.Proofs.YtjpmlnigjbdnnaaDoor
