/-
  Proved: RuleOwn returns true for every rule and every term, and its arguments read behind the call as before.
-/
import Derived.Test.YtjpmlnigjbdnnabDoorCards
import Derived.Test.YtjpmlnigjbdnnabDoorTie
import Derived.Test.YtjpmlnigjbdnnabDoorRoom
import Derived.Test.YtjpmlnigjbdnnabDoorWk
import Derived.Test.YtjpmlnigjbdnnabDoorOpenR
import Derived.Test.YtjpmlnigjbdnnabDoorOpenS
import Derived.ProofKit
import Derived.OpenShut
import Derived.ShutString
import Derived.ChangeOld
import Derived.Below
import Derived.SizedLaws
import Derived.Lib.SmallJoins
import Derived.SevenTiedAt
import Derived.Deep.DeepHandedRow
import Derived.LaidMore
import Derived.Lay
namespace Go.Proofs.YtjpmlnigjbdnnabDoor
open Go.ChangeShapes Go.WideShapes Go.ChangeAt Go.RowKit Go.Joins
open Go.ChangeMaps (open_string shut_string)
set_option linter.unusedVariables false
set_option linter.unusedSimpArgs false
set_option maxRecDepth 100000

set_option maxHeartbeats 8000000 in
theorem ruleOwn_walk (id : Int) (lv rv : Value) (L R : List Cl) (tv : Value) (T : List Cl) (w : World) (hl : Lies w lv L) (hr : Lies w rv R) (zl : L.length * 24 ≤ 140737488355328) (zr : R.length * 24 ≤ 140737488355328) (ht : Lies w tv T) (zt : T.length * 24 ≤ 140737488351232) :
    Calls Tryd.prog 3 #[.agg #[.int .i64 id, lv, rv], tv] w fun e w' => e = .returned (.bool true) ∧ Below w.heap.size w w' := by
  obtain ⟨i0, hi, hz0, hz1, hz2⟩ := info_parts info59
  have hcp : ∀ w1, Below w.heap.size w w1 → _ := fun w1 h => rCopy_any w1 id lv rv L R (hl.on h) (hr.on h) zl zr
  have hct : ∀ w1, Below w.heap.size w w1 → _ := fun w1 h => copy_any w1 tv T (ht.on h) (by omega)
  have HFL : Hid (Fine L) := by obtain ⟨_, _, _, _, _, hf, _⟩ := hl; exact hf
  have HFR : Hid (Fine R) := by obtain ⟨_, _, _, _, _, hf, _⟩ := hr; exact hf
  have HFT : Hid (Fine T) := by obtain ⟨_, _, _, _, _, hf, _⟩ := ht; exact hf
  have HLL : Hid (Lies w lv L) := hl
  have HLR : Hid (Lies w rv R) := hr
  have HLT : Hid (Lies w tv T) := ht
  have hap : ∀ w1 a b t, Lies w1 a L → Lies w1 b R → Lies w1 t T → _ := fun w1 a b t h1 h2 h3 => apply_any w1 id a b t L R T h1 h2 h3
  have hpl : ∀ w1 a b, Lies w1 a L → Lies w1 b R → _ := fun w1 a b h1 h2 => plain_own w1 id a b L R h1 h2
  have hb : Below w.heap.size w (w.alloc (.cells #[.int .i64 id, lv, rv] 25)) := (Below.refl _ w).alloc (Nat.le_refl _) _
  have hx := Blk.made w #[.int .i64 id, lv, rv] 25
  generalize apM id L R T = AM at *
  generalize apE id L R T = AE at *
  generalize apB id L R T = AB at *
  have hsr : ∀ w1 a b c d, Lies w1 a L → Lies w1 b R → Lies w1 c L → Lies w1 d R → Calls Tryd.prog 9 #[.agg #[.int .i64 id, a, b], .agg #[.int .i64 id, c, d]] w1 fun e w' => e = .returned (.bool true) ∧ Below w1.heap.size w1 w' := fun w1 a b c d h1 h2 h3 h4 => by
    have := rSame_rule w1 id id a b c d _ _ _ _ h1 h2 h3 h4
    rwa [decide_eq_true ⟨rfl, rfl, rfl⟩] at this
  have hsm : ∀ w1 a b, Lies w1 a T → Lies w1 b T → Calls Tryd.prog 10 #[a, b] w1 fun e w' => e = .returned (.bool true) ∧ Below w1.heap.size w1 w' := fun w1 a b h1 h2 => by
    have := same_any w1 a b T T h1 h2
    rwa [decide_eq_true rfl] at this
  obtain ⟨la, lc, rfl, _⟩ := hl
  obtain ⟨ra, rc, rfl, _⟩ := hr
  obtain ⟨ga, gc, rfl, ht1, ht2, _⟩ := ht
  have hwk := wakes_any (w.alloc (.cells #[.int .i64 id, .slice la L.length lc, .slice ra R.length rc] 25))
  have HB : Hid (Below w.heap.size w (w.alloc (.cells #[.int .i64 id, .slice la L.length lc, .slice ra R.length rc] 25))) := hb
  have HX : Hid (Blk (w.alloc (.cells #[.int .i64 id, .slice la L.length lc, .slice ra R.length rc] 25)) w.heap.size #[.int .i64 id, .slice la L.length lc, .slice ra R.length rc] 25) := hx
  clear hb hx
  go_enter Tryd.func3, Tryd.ntmps3
  go_wp2_with (first
    | (go_at_call 4; refine hwk.mono ?_; clear hwk; rintro e w1 ⟨rfl, b1⟩; have X1 := HX.out.on b1 HX.out.lt; have D1 := HB.out.trans (b1.mono HB.out.size); have c0 := X1.cell (i := 0) rfl; have c1 := X1.cell (i := 1) rfl; have c2 := X1.cell (i := 2) rfl)
    | (go_at_call 5; refine (hcp _ D1).mono ?_; clear hcp; rintro e w2 ⟨u2, v2, rfl, o2, p2, b2⟩; have l2 := Owns.lies o2 HFL.out; have m2 := Owns.lies p2 HFR.out; obtain ⟨xa, xc, hh1, _⟩ := own_cells o2; obtain ⟨ya, yc, hh2, _⟩ := own_cells p2; subst hh1; subst hh2; have X2 := X1.on b2 X1.lt; have D2 := D1.trans (b2.mono D1.size); clear o2 p2)
    | (go_at_call 6; refine (hct _ D2).mono ?_; clear hct; rintro e w3 ⟨u3, rfl, o3, b3⟩; obtain ⟨ka, kc, hh3, _⟩ := own_cells o3; subst hh3; have hrow3 : w3.ownsRow w2.heap.size 30 2 (.slice ka T.length kc) T.length (flatC T) := o3; have hs23 := b3.size; have D3 := D2.trans (b3.mono D2.size); have X3 := X2.on b3 X2.lt; have l3 := l2.on b3; have m3 := m2.on b3; have hs2 := D2.size; clear o3)
    | (at_builtin; refine wpList_append_own _ rfl _ _ 23 rfl w2.heap.size 30 i0 (.agg #[.string ⟨#[]⟩, .int .i64 0]) 2 24 Tryd.underlying23 hi hz0 hz1 hz2 rfl (by decide) _ T.length (flatC T) rfl (hrow3.alloc _) ⟨w3.heap.size, 0, none⟩ 1 1 [.string ⟨#[107, 101, 101, 112]⟩, .int .i64 0] rfl rfl ?c1 ?c2 ?c3 ?c4 ?c5 ?_))
  case c1 => exact two_cells _ _ _ _
  case c2 => intro u hu; simp at hu; rcases hu with rfl | rfl <;> rfl
  case c3 => unfold maxLen; omega
  case c4 => omega
  case c5 => simp; omega
  intro v4 w4 hown' hgrow _
  obtain ⟨gx, cx, hvx, _, hgx, hcx1, hcx2, lx4, kx4⟩ := kept_of (more_keep hown') HFT.out
  subst hvx
  have h24 : Below w2.heap.size w2 w4 := ((b3).alloc b3.size _).grown hgrow (by have := b3.size; simp; omega) (fun k hk => (hrow3.lt k hk).1)
  have D4 : Below w.heap.size w w4 := D2.trans (h24.mono D2.size)
  have l4 := l2.on h24
  have m4 := m2.on h24
  have X4 := X2.on h24 X2.lt
  clear hown' hgrow hrow3 D3 X3 l3 m3 b3 l2 m2 X2 D2 h24 X1 D1 c0 c1 c2 b1 b2
  have A4 : Below w4.heap.size w4 (w4.alloc (.cells #[.int .i64 id, .slice xa L.length xc, .slice ya R.length yc] 25)) := (Below.refl _ w4).alloc (Nat.le_refl _) _
  have I5 := Blk.made w4 #[.int .i64 id, .slice xa L.length xc, .slice ya R.length yc] 25
  have X5 := X4.on A4 X4.lt
  have D5 := D4.trans (A4.mono D4.size)
  have l5 := l4.on A4
  have m5 := m4.on A4
  have lx5 := lx4.on A4
  have kx5 := (A4.cell (p := ⟨gx, T.length * 2, none⟩) hgx).trans kx4
  have hgx5 : gx < (w4.alloc (.cells #[.int .i64 id, .slice xa L.length xc, .slice ya R.length yc] 25)).heap.size := Nat.lt_of_lt_of_le hgx A4.size
  have I5l := I5.lt
  clear X4 D4 l4 m4 lx4 kx4 A4
  obtain ⟨pi, PE, M, N, hplc⟩ := hpl _ _ _ l5 m5
  clear hpl
  have HI5 : Hid (Blk (w4.alloc (.cells #[.int .i64 id, .slice xa L.length xc, .slice ya R.length yc] 25)) w4.heap.size #[.int .i64 id, .slice xa L.length xc, .slice ya R.length yc] 25) := I5
  go_wp2_with (first
    | (go_at_call 7; refine hplc.mono ?_; clear hplc; rintro e w6 ⟨u6, v6, rfl, o6, p6, b6⟩; obtain ⟨pa, pc, hh4, q61, q62, _⟩ := own_cells o6; obtain ⟨qa, qc, hh5, q63, q64, _⟩ := own_cells p6; subst hh4; subst hh5))
  generalize w4.alloc (.cells #[.int .i64 id, .slice xa L.length xc, .slice ya R.length yc] 25) = v0 at *
  have W1 : WOk w6 v0.heap.size pa M.length := wok_of o6 rfl
  have W2 : WOk w6 v0.heap.size qa N.length := wok_of p6 rfl
  have A6 : Below w6.heap.size w6 (w6.alloc (.cells #[.int .i64 pi, .slice pa M.length pc, .slice qa N.length qc] 25)) := (Below.refl _ w6).alloc (Nat.le_refl _) _
  have P7 := Blk.made w6 #[.int .i64 pi, .slice pa M.length pc, .slice qa N.length qc] 25
  have E7 : Below v0.heap.size v0 (w6.alloc (.cells #[.int .i64 pi, .slice pa M.length pc, .slice qa N.length qc] 25)) := b6.trans (A6.mono b6.size)
  have V1 := W1.on A6
  have V2 := W2.on A6
  clear o6 p6 W1 W2 A6 b6
  generalize w6.alloc (.cells #[.int .i64 pi, .slice pa M.length pc, .slice qa N.length qc] 25) = v1 at *
  have bx1 : (T.length : Int) ≤ (cx : Int) := by omega
  have bx2 : T.length ≤ cx := by omega
  have bx3 : ¬ cx < T.length := by omega
  have bx4 : (0 : Int) ≤ (T.length : Int) := by omega
  have E8 : Below v0.heap.size v0 v1.drew := E7.drew
  have l8 := l5.on E8
  have m8 := m5.on E8
  have lx8 := lx5.on E8
  have I8 : Blk v1.drew w4.heap.size #[.int .i64 id, .slice xa L.length xc, .slice ya R.length yc] 25 := HI5.out.on E8 I5l
  have S8 : v1.drew.cell? ⟨w4.heap.size, 0, none⟩ = some (.int .i64 id) ∧ v1.drew.cell? ⟨w4.heap.size, 1, none⟩ = some (.slice xa L.length xc) ∧ v1.drew.cell? ⟨w4.heap.size, 2, none⟩ = some (.slice ya R.length yc) := ⟨I8.cell rfl, I8.cell rfl, I8.cell rfl⟩
  have hdr : Below v1.heap.size v1 v1.drew := (Below.refl _ v1).drew
  have Z1 := V1.on hdr
  have Z2 := V2.on hdr
  have P8 := P7.on hdr P7.lt
  have hs8 := E8.size
  clear V1 V2 P7 hdr
  go_region_held3 (fun w' => w'.cell? ⟨w4.heap.size, 0, none⟩ = some (.int .i64 id) ∧ w'.cell? ⟨w4.heap.size, 1, none⟩ = some (.slice xa L.length xc) ∧ w'.cell? ⟨w4.heap.size, 2, none⟩ = some (.slice ya R.length yc)) (first | exact S8 | exact S9)
    (first
      | (go_at_call 8; refine (hap _ _ _ _ l8 m8 lx8).mono ?_; clear hap; rintro e w9 ⟨u9, rfl, o9, b9⟩; obtain ⟨na, nc, hh6, q91, q92, _⟩ := own_cells o9; subst hh6; have I9 := I8.on b9 I8.lt; have S9 : w9.cell? ⟨w4.heap.size, 0, none⟩ = some (.int .i64 id) ∧ w9.cell? ⟨w4.heap.size, 1, none⟩ = some (.slice xa L.length xc) ∧ w9.cell? ⟨w4.heap.size, 2, none⟩ = some (.slice ya R.length yc) := ⟨I9.cell rfl, I9.cell rfl, I9.cell rfl⟩))
  have E9 : Below v0.heap.size v0 w9 := E8.trans (b9.mono hs8)
  have HSC : Hid (Scr v0 w9 w6.heap.size #[.int .i64 pi, .slice pa M.length pc, .slice qa N.length qc] pa qa na M.length N.length AM.length) := ⟨E9, P8.on b9 P8.lt, Z1.on b9, Z2.on b9, (wok_of o9 rfl).base hs8⟩
  have hM63 : M.length ≤ 9223372036854775807 := by unfold maxLen at q62; omega
  have hN63 : N.length ≤ 9223372036854775807 := by unfold maxLen at q64; omega
  have hA63 : AM.length ≤ 9223372036854775807 := by unfold maxLen at q92; omega
  have hP9 := (P8.on b9 P8.lt)
  have p91 := hP9.cell (i := 1) rfl
  clear S8 S9 I8 I9 E8 E9 Z1 Z2 P8 o9 b9 l8 m8 lx8 E7 hP9
  go_wp2_with fail
  clear p91
  go_loopw [42] (fun i wr => ∃ j : Nat, j ≤ M.length ∧ i = .int .i64 (j : Nat) ∧ Scr v0 wr w6.heap.size #[.int .i64 pi, .slice pa M.length pc, .slice qa N.length qc] pa qa na M.length N.length AM.length) (fun i _ => M.length - (intOf i).toNat)
  case atStart => exact ⟨0, Nat.zero_le _, rfl, HSC.out⟩
  case round =>
    obtain ⟨j, hj, rfl, hsc⟩ := hrel
    clear HSC
    have p1 := hsc.box.cell (i := 1) rfl
    have p2 := hsc.box.cell (i := 2) rfl
    by_cases hlt : j < M.length
    · obtain ⟨g, rfl, hg1, _, hbk⟩ := hsc.s1 j hlt
      obtain ⟨⟨u, hu⟩, hfz⟩ := hbk.at hlt
      have hji : (j : Int) < (M.length : Int) := by omega
      have HN : Hid (Scr v0 (wr.setCell ⟨g, j * 2, none⟩ (.string ⟨#[120]⟩)) w6.heap.size #[.int .i64 pi, .slice (some ⟨g, 0, none⟩) M.length pc, .slice qa N.length qc] (some ⟨g, 0, none⟩) qa na M.length N.length AM.length) := hsc.store hg1 hbk _ _
      clear hsc hbk
      go_wp2_with fail
      go_roundw
      case rel => exact ⟨j + 1, by omega, by go_num, HN.out⟩
      case measure => simp [intOf]; omega
    · have hji : ¬ (j : Int) < (M.length : Int) := by omega
      have HSC : Hid (Scr v0 wr w6.heap.size #[.int .i64 pi, .slice pa M.length pc, .slice qa N.length qc] pa qa na M.length N.length AM.length) := hsc
      clear hsc
      go_wp2_with fail
      clear p1 p2
      go_loopw [54] (fun i wr => ∃ j : Nat, j ≤ N.length ∧ i = .int .i64 (j : Nat) ∧ Scr v0 wr w6.heap.size #[.int .i64 pi, .slice pa M.length pc, .slice qa N.length qc] pa qa na M.length N.length AM.length) (fun i _ => N.length - (intOf i).toNat)
      case atStart => exact ⟨0, Nat.zero_le _, rfl, HSC.out⟩
      case round =>
        obtain ⟨j2, hj2, rfl, hsc⟩ := hrel
        clear HSC
        have p2 := hsc.box.cell (i := 2) rfl
        by_cases hlt2 : j2 < N.length
        · obtain ⟨g, rfl, hg1, _, hbk⟩ := hsc.s2 j2 hlt2
          obtain ⟨⟨u, hu⟩, hfz⟩ := hbk.at hlt2
          have hji2 : (j2 : Int) < (N.length : Int) := by omega
          have HN : Hid (Scr v0 (wr.setCell ⟨g, j2 * 2, none⟩ (.string ⟨#[120]⟩)) w6.heap.size #[.int .i64 pi, .slice pa M.length pc, .slice (some ⟨g, 0, none⟩) N.length qc] pa (some ⟨g, 0, none⟩) na M.length N.length AM.length) := hsc.store hg1 hbk _ _
          clear hsc hbk
          go_wp2_with fail
          go_roundw
          case rel => exact ⟨j2 + 1, by omega, by go_num, HN.out⟩
          case measure => simp [intOf]; omega
        · have hji2 : ¬ (j2 : Int) < (N.length : Int) := by omega
          have HSC : Hid (Scr v0 wr w6.heap.size #[.int .i64 pi, .slice pa M.length pc, .slice qa N.length qc] pa qa na M.length N.length AM.length) := hsc
          clear hsc p2
          go_wp2_with fail
          go_loopw [65] (fun i wr => ∃ j : Nat, j ≤ AM.length ∧ i = .int .i64 (j : Nat) ∧ Scr v0 wr w6.heap.size #[.int .i64 pi, .slice pa M.length pc, .slice qa N.length qc] pa qa na M.length N.length AM.length) (fun i _ => AM.length - (intOf i).toNat)
          case atStart => exact ⟨0, Nat.zero_le _, rfl, HSC.out⟩
          case round =>
            obtain ⟨j3, hj3, rfl, hsc⟩ := hrel
            clear HSC
            by_cases hlt3 : j3 < AM.length
            · obtain ⟨g, rfl, hg1, _, hbk⟩ := hsc.s3 j3 hlt3
              obtain ⟨⟨u, hu⟩, hfz⟩ := hbk.at hlt3
              have hji3 : (j3 : Int) < (AM.length : Int) := by omega
              have HN : Hid (Scr v0 (wr.setCell ⟨g, j3 * 2, none⟩ (.string ⟨#[120]⟩)) w6.heap.size #[.int .i64 pi, .slice pa M.length pc, .slice qa N.length qc] pa qa (some ⟨g, 0, none⟩) M.length N.length AM.length) := hsc.store hg1 hbk _ _
              clear hsc hbk
              go_wp2_with fail
              go_roundw
              case rel => exact ⟨j3 + 1, by omega, by go_num, HN.out⟩
              case measure => simp [intOf]; omega
            · have hji3 : ¬ (j3 : Int) < (AM.length : Int) := by omega
              have hlow := hsc.low
              have IF := HI5.out.on hlow I5l
              have XF := X5.on hlow X5.lt
              have DF := D5.trans (hlow.mono D5.size)
              have lF := l5.on hlow
              have mF := m5.on hlow
              have lxF := lx5.on hlow
              have kxF := (hlow.cell (p := ⟨gx, T.length * 2, none⟩) hgx5).trans kx5
              have hgxF : gx < wr.heap.size := Nat.lt_of_lt_of_le hgx5 hlow.size
              have i0' := IF.cell (i := 0) rfl
              have i1' := IF.cell (i := 1) rfl
              have i2' := IF.cell (i := 2) rfl
              have x0' := XF.cell (i := 0) rfl
              have x1' := XF.cell (i := 1) rfl
              have x2' := XF.cell (i := 2) rfl
              have ipx : (T.length : Int) < ((T.length + 1 : Nat) : Int) := by omega
              clear hsc hlow
              go_wp2_with (first
                | (go_at_call 9; refine (hsr _ _ _ _ _ lF mF (HLL.out.on DF) (HLR.out.on DF)).mono ?_; rintro e wA ⟨rfl, bA⟩; have lxA := lxF.on bA; have DA := DF.trans (bA.mono DF.size); have kxA := (bA.cell (p := ⟨gx, T.length * 2, none⟩) hgxF).trans kxF; have hgxA : gx < wA.heap.size := Nat.lt_of_lt_of_le hgxF bA.size)
                | (go_at_call 10; refine (hsm _ _ _ lxA (HLT.out.on DA)).mono ?_; rintro e wB ⟨rfl, bB⟩; have kxB := (bB.cell (p := ⟨gx, T.length * 2, none⟩) hgxA).trans kxA))
              go_ret
              exact ⟨by simp, DA.trans (bB.mono DA.size)⟩

theorem ruleOwn_own : ownKnob Tryd.prog.godebug = none := by kernel_rfl
theorem ruleOwn_laidOut : laidOutB Tryd.prog = true := by kernel_rfl
theorem ruleOwn_met (os : Os) : laidMetH Tryd.prog Rows.ruleOwnRow.laid ((World.laidAll Tryd.prog os Rows.ruleOwnRow.laid).forCall (fun _ _ => 0) ⟨#[], #[.agg #[.int .i64 0, .slice none 0 0, .slice none 0 0], .slice none 0 0], []⟩).memory := by
  rw [MakeChecks.laidMetH_plain _ _ _ (by kernel_rfl)]; exact laidMet_laidAll _ (by kernel_rfl) (by kernel_rfl)
theorem ruleOwn_reads (os : Os) {H : Type} (enc : TypeId × Value → H) : DataW.whole enc Tryd.prog ((World.laidAll Tryd.prog os Rows.ruleOwnRow.laid).forCall (fun _ _ => 0) ⟨#[], #[.agg #[.int .i64 0, .slice none 0 0, .slice none 0 0], .slice none 0 0], []⟩).memory Tryd.f3.params.toList Rows.ruleOwnSpec.vars false #[(.agg #[.int .i64 0, .slice none 0 0, .slice none 0 0] : Value), (.slice none 0 0 : Value)].toList 8 = some ([.agg [.lit (.int .i64 0), .nil, .nil], .nil], [], []) := by kernel_rfl
theorem ruleOwn_okIn (os : Os) : Input.okWideB Tryd.prog ((World.laidAll Tryd.prog os Rows.ruleOwnRow.laid).forCall (fun _ _ => 0) ⟨#[], #[.agg #[.int .i64 0, .slice none 0 0, .slice none 0 0], .slice none 0 0], []⟩) 3 ⟨#[], #[.agg #[.int .i64 0, .slice none 0 0, .slice none 0 0], .slice none 0 0], []⟩ = true := by kernel_rfl

set_option maxRecDepth 100000 in
theorem ruleOwn_lifted (os : Os) (started : os.Started) (H : Type) (enc : TypeId × Value → H) (F : Stop.Interp) :
    ReturnsInHanded {} Tryd.checked os 3 .any ((OpenSpec.ofChange Rows.ruleOwnSpec).preRow enc Tryd.prog Tryd.f3 Rows.ruleOwnRow.domain false Rows.ruleOwnRow.laid) (((OpenSpec.ofChange Rows.ruleOwnSpec).at F).post enc Tryd.prog Tryd.f3 false true false false) := by
  refine returnsInHanded_of_row (C := Tryd.checked) (s := (OpenSpec.ofChange Rows.ruleOwnSpec)) ruleOwn_own started (by kernel_rfl) Tryd.func3
    ⟨World.laidAll Tryd.prog os Rows.ruleOwnRow.laid, fun _ _ => 0, ⟨#[], #[.agg #[.int .i64 0, .slice none 0 0, .slice none 0 0], .slice none 0 0], []⟩, World.laidAll_os _ _ _, World.shaped_of_ZipB (by kernel_rfl) (by kernel_rfl), (Input.okWide_of_okWideB (base := 0) (ruleOwn_okIn os)).1, (Input.okWide_of_okWideB (ruleOwn_okIn os)).2,
      OpenSpec.preRow_of_cond 8 (ruleOwn_reads os enc) (by kernel_rfl) (fun k hk => by cases hk) (by kernel_rfl) (ruleOwn_met os), by simp only [Assume.holds]; exact ⟨by simp, by simp, fun _ => Modest.zero, by simp, by simp⟩⟩ ?_
  intro W base args ds gs before hval0 hW hcnd hcond hsz0 hL hsh _
  have hsz : (DataW.weightsEach Tryd.prog (Tryd.f3.params.toList ++ Rows.ruleOwnSpec.plain.varTypes Tryd.prog) (ds ++ gs)).all (· ≤ reachBytes) = true := hsz0
  have hval : ∀ (j : Nat) t v, Tryd.f3.params[j]? = some t → args[j]? = some v → Value.okWide Tryd.prog W .any base t v := hval0
  have hW' := hW
  obtain ⟨p, q, hA0, hV, rfl, hfz, hnd⟩ := hW
  have hA : DataW.TrodAll enc Tryd.prog W 0 (fun _ => true) true Tryd.f3.params.toList args.toList ds p := hA0
  rw [Tryd.params3] at hA hval hsz
  obtain ⟨v0, vs0, d0, ds0, p0, q0, hargs, rfl, rfl, h0, r0⟩ := trodAll_cons hA
  obtain ⟨v1, vs1, d1, ds1, p1, q1, rfl, rfl, rfl, h1, r1⟩ := trodAll_cons r0
  obtain ⟨rfl, rfl, rfl⟩ := trodAll_nil r1
  obtain rfl : args = #[v0, v1] := by cases args; simp_all
  obtain ⟨rfl, rfl⟩ := trodVars_none hV
  have k0 := h0
  have lt0 : ∀ x ∈ p0, x.block < W.heap.size := by obtain ⟨m, hm⟩ := k0; exact DataW.trod_lt m _ _ _ hm
  have k1 := h1
  have lt1 : ∀ x ∈ p1, x.block < W.heap.size := by obtain ⟨m, hm⟩ := k1; exact DataW.trod_lt m _ _ _ hm
  obtain ⟨id0, lv0, rv0, L0, R0, rfl, hl0, hr0, zl0, zr0⟩ := open_rule (hval 0 25 v0 rfl rfl) h0 (fun n hn => by simpa using List.all_eq_true.1 hsz n (DataW.weights_mem_each (j := 0) (t := 25) rfl rfl n hn))
  obtain ⟨L1, l1, z1⟩ := open_cellsS (hval 1 23 v1 rfl rfl) h1 (fun n hn => by simpa using List.all_eq_true.1 hsz n (DataW.weights_mem_each (j := 1) (t := 23) rfl rfl n hn))
  clear hA0 hval0
  refine (ruleOwn_walk id0 lv0 rv0 L0 R0 v1 L1 W hl0 hr0 zl0 zr0 l1 z1).mono fun e W' ⟨he, bel⟩ => ?_
  subst he
  exact ⟨_, rfl, _, _, _, [], _, [], hW', trodAll_mk1 (shut_bool Tryd.underlying4 _), (trodAll_cons_mk (Below.trod ruleOwn_laidOut (by kernel_rfl) (of_decide_eq_true (by kernel_rfl)) k0 bel lt0) (trodAll_cons_mk (Below.trod ruleOwn_laidOut (by kernel_rfl) (of_decide_eq_true (by kernel_rfl)) k1 bel lt1) trodAll_mk0)), rfl, bel.frame _, fun h => by cases h⟩

theorem ruleOwn_said : Rows.RuleOwnSaid :=
  OpenClaim.holds_of_cond 3 Tryd.f3 rfl rfl rfl rfl rfl rfl rfl ⟨rfl, rfl, rfl, rfl, rfl⟩ rfl rfl rfl rfl rfl (by kernel_rfl) Tryd.func3 (by kernel_rfl)
    (of_decide_eq_true (by kernel_rfl)) (by unfold Func.isWrapper; first | (rw [if_pos (by decide +kernel)]; kernel_rfl) | (rw [if_neg (by decide +kernel)]; exact ⟨rfl, rfl⟩))
    (fun os started H enc _ F => by rw [OpenClaim.pre_eq_preRow]; exact ruleOwn_lifted os started H enc F)

theorem ruleOwn_plain (f : FuncId) (fn : Func) (hf : Tryd.pinned.checked.prog.funcNamed Rows.ruleOwnRow.func = some f) (hfn : Tryd.pinned.checked.prog.funcs[f]? = some fn) :
    true = Tryd.pinned.checked.prog.looks [] ∧ ∀ (j : Nat) t, fn.params[j]? = some t → Tryd.pinned.checked.prog.wantsStandIn t = false := by
  obtain rfl : f = 3 := Option.some.inj ((show Tryd.prog.funcNamed Rows.ruleOwnRow.func = some 3 by kernel_rfl).symm.trans hf) |>.symm
  obtain rfl : fn = Tryd.f3 := (Option.some.inj (Tryd.func3.symm.trans hfn)).symm
  refine ⟨by kernel_rfl, fun j t ht => ?_⟩
  rw [Tryd.params3] at ht
  have hm : t ∈ [25, 23] := by simpa using Array.mem_of_getElem? ht
  have hall : ([25, 23].all fun u => !Tryd.prog.wantsStandIn u) = true := by kernel_rfl
  have := List.all_eq_true.1 hall t hm
  exact (show Tryd.prog.wantsStandIn t = false by simpa using this)

theorem ruleOwn_holds : Rows.RuleOwnCardSaid :=
  Claim7.holds_tied_plain_at .later [] _ _ _ _ ruleOwn_said (fun _ h => by cases h) (by kernel_rfl) (fun _ h => by cases h) ruleOwn_row_tie rfl ⟨rfl, rfl⟩ (by kernel_rfl) rfl ruleOwn_plain (by kernel_rfl)

#print axioms ruleOwn_holds

end Go.Proofs.YtjpmlnigjbdnnabDoor
