/-
  Layer 6's fixed facts: wakes answers true.
-/
import Derived.Test.YtjpmlnigjbdnnabDoorHd
namespace Go.Proofs.YtjpmlnigjbdnnabDoor
open Go.RowKit
set_option linter.unusedVariables false
set_option linter.unusedSimpArgs false
set_option maxRecDepth 100000

def ka : ByteArray := ⟨#[103, 40, 66, 44, 65, 41]⟩
def kb : ByteArray := ⟨#[65]⟩
def kc : ByteArray := ⟨#[88]⟩
def kd : ByteArray := ⟨#[97]⟩
def kL : List Cl := [⟨⟨#[103]⟩, 2⟩, ⟨⟨#[66]⟩, 0⟩, ⟨⟨#[65]⟩, 0⟩]
def kR : List Cl := [⟨⟨#[65]⟩, 0⟩]
theorem k1 : rdE ka kb = 0 := by kernel_rfl
theorem k2 : rdL ka kb = kL := by kernel_rfl
theorem k3 : rdR ka kb = kR := by kernel_rfl
theorem k4 : rdE kc kd = 20 := by kernel_rfl
theorem k5 : chk 0 kL kR = 0 := by kernel_rfl
def kf1 : Fo := .cons ⟨#[88, 48]⟩ .nil (.cons ⟨#[88, 49]⟩ .nil .nil)
theorem k6 : kL.map (ren (varsOf kL)) = (Fo.cons ⟨#[103]⟩ kf1 .nil).flat := by decide +kernel
theorem k7 : kR.map (ren (varsOf kL)) = (Fo.cons ⟨#[88, 49]⟩ .nil .nil).flat := by decide +kernel
theorem k8 : txt ⟨#[103]⟩ kf1 ++ arrow ++ txt ⟨#[88, 49]⟩ .nil = ⟨#[103, 40, 88, 48, 44, 88, 49, 41, 32, 45, 62, 32, 88, 49]⟩ := by decide +kernel
theorem k9 : chk 0 (Fo.cons ⟨#[103]⟩ kf1 .nil).flat (Fo.cons ⟨#[88, 49]⟩ .nil .nil).flat = 0 := by kernel_rfl

set_option maxHeartbeats 1000000 in
theorem wakes_any (w : World) : Calls Tryd.prog 4 #[] w fun e w' => e = .returned (.bool true) ∧ Below w.heap.size w w' := by
  have h1 : ∀ w, Calls Tryd.prog 11 #[.string ⟨#[103, 40, 66, 44, 65, 41]⟩, .string ⟨#[65]⟩] w fun e w' => ∃ lv rv, e = .returned (.tuple #[.agg #[.int .i64 0, lv, rv], .int .i64 0]) ∧ Owns w' w.heap.size lv kL ∧ Owns w' w.heap.size rv kR ∧ Below w.heap.size w w' := fun w => by
    have := ruleParse_any ka kb w
    rw [k1, k2, k3] at this
    exact this
  have h2 : ∀ w lv rv, Lies w lv kL → Lies w rv kR → Calls Tryd.prog 7 #[.agg #[.int .i64 0, lv, rv]] w fun e w' => ∃ lv' rv', e = .returned (.tuple #[.agg #[.int .i64 0, lv', rv'], .int .i64 0]) ∧ Owns w' w.heap.size lv' (Fo.cons ⟨#[103]⟩ kf1 .nil).flat ∧ Owns w' w.heap.size rv' (Fo.cons ⟨#[88, 49]⟩ .nil .nil).flat ∧ Below w.heap.size w w' := fun w lv rv a b => by
    have := rulePlain_ok w 0 lv rv kL kR a b k5
    rw [k6, k7] at this
    exact this
  have h3 : ∀ w lv rv, Lies w lv (Fo.cons ⟨#[103]⟩ kf1 .nil).flat → Lies w rv (Fo.cons ⟨#[88, 49]⟩ .nil .nil).flat → Calls Tryd.prog 12 #[.agg #[.int .i64 0, lv, rv]] w fun e w' => e = .returned (.tuple #[.string ⟨#[103, 40, 88, 48, 44, 88, 49, 41, 32, 45, 62, 32, 88, 49]⟩, .int .i64 0]) ∧ Below w.heap.size w w' := fun w lv rv a b => by
    have := rulePrint_ok w 0 lv rv _ _ _ _ a b k9
    rw [k8] at this
    exact this
  have h4 : ∀ w, Calls Tryd.prog 11 #[.string ⟨#[88]⟩, .string ⟨#[97]⟩] w fun e w' => ∃ lv rv, e = .returned (.tuple #[.agg #[.int .i64 0, lv, rv], .int .i64 20]) ∧ Owns w' w.heap.size lv (rdL kc kd) ∧ Owns w' w.heap.size rv (rdR kc kd) ∧ Below w.heap.size w w' := fun w => by
    have := ruleParse_any kc kd w
    rw [k4] at this
    exact this
  have h5 : ∀ w lv rv, Lies w lv kL → Lies w rv kR → Calls Tryd.prog 13 #[.agg #[.int .i64 0, lv, rv]] w fun e w' => e = .returned (.string ⟨#[103]⟩) ∧ Below w.heap.size w w' := fun w lv rv a b => head_ok w 0 lv rv kL kR a b k5
  have fL : Fine kL := fine_check (chk_zero k5).2.1
  have fR : Fine kR := fine_check (chk_zero k5).2.2.1
  have gL : Fine (Fo.cons ⟨#[103]⟩ kf1 .nil).flat := fine_check (chk_zero k9).2.1
  have gR : Fine (Fo.cons ⟨#[88, 49]⟩ .nil .nil).flat := fine_check (chk_zero k9).2.2.1
  have al : ∀ (w : World) (o : Obj), Below w.heap.size w (w.alloc o) := fun w o => (Below.refl _ w).alloc (Nat.le_refl _) o
  have AL : Hid (∀ (w : World) (o : Obj), Below w.heap.size w (w.alloc o)) := al
  have FL : Hid (Fine kL) := fL
  have FR : Hid (Fine kR) := fR
  have GL : Hid (Fine (Fo.cons ⟨#[103]⟩ kf1 .nil).flat) := gL
  have GR : Hid (Fine (Fo.cons ⟨#[88, 49]⟩ .nil .nil).flat) := gR
  clear al fL fR gL gR
  generalize (Fo.cons ⟨#[103]⟩ kf1 .nil).flat = ML at *
  generalize (Fo.cons ⟨#[88, 49]⟩ .nil .nil).flat = MR at *
  generalize kL = KL at *
  generalize kR = KR at *
  go_enter Tryd.func4, Tryd.ntmps4
  go_wp2_with (first
    | (go_at_call 11; refine (h1 _).mono ?_; clear h1; rintro e w1 ⟨lv, rv, rfl, ol, or, b1⟩; have Ll := Owns.lies ol FL.out; have Lr := Owns.lies or FR.out; obtain ⟨xa, xc, hxv, _⟩ := own_cells ol; obtain ⟨ya, yc, hyv, _⟩ := own_cells or; subst hxv; subst hyv; have B1 := Blk.made w1 #[.int .i64 0, .slice xa KL.length xc, .slice ya KR.length yc] 25; have A1 := AL.out w1 (.cells #[.int .i64 0, .slice xa KL.length xc, .slice ya KR.length yc] 25); have Ll1 := Ll.on A1; have Lr1 := Lr.on A1; have D1 := b1.trans (A1.mono b1.size); clear Ll Lr A1)
    | (go_at_call 7; refine (h2 _ _ _ Ll1 Lr1).mono ?_; clear h2; rintro e w2 ⟨lv2, rv2, rfl, ol2, or2, b2⟩; have Pl := Owns.lies ol2 GL.out; have Pr := Owns.lies or2 GR.out; obtain ⟨pa, pc, hpv, _⟩ := own_cells ol2; obtain ⟨qa, qc, hqv, _⟩ := own_cells or2; subst hpv; subst hqv; have A2 := AL.out w2 (.cells #[.int .i64 0, .slice pa ML.length pc, .slice qa MR.length qc] 25); have Pl1 := Pl.on A2; have Pr1 := Pr.on A2; have B2 := (B1.on b2 B1.lt).alloc (.cells #[.int .i64 0, .slice pa ML.length pc, .slice qa MR.length qc] 25); have D2 := (D1.trans (b2.mono D1.size)).trans (A2.mono (D1.trans (b2.mono D1.size)).size); have Ll2 := (Ll1.on b2).on A2; have Lr2 := (Lr1.on b2).on A2; clear Ll1 Lr1 B1 D1 A2 Pl Pr)
    | (go_at_call 12; refine (h3 _ _ _ Pl1 Pr1).mono ?_; clear h3; rintro e w3 ⟨rfl, b3⟩; have B3 := B2.on b3 B2.lt; have D3 := D2.trans (b3.mono D2.size); have Ll3 := Ll2.on b3; have Lr3 := Lr2.on b3; clear B2 D2 Ll2 Lr2)
    | (go_at_call 11; refine (h4 _).mono ?_; clear h4; rintro e w4 ⟨lv4, rv4, rfl, ol4, or4, b4⟩; obtain ⟨sa, sc, hsv, _⟩ := own_cells ol4; obtain ⟨ta, tc, htv, _⟩ := own_cells or4; subst hsv; subst htv; have A4 := AL.out w4 (.cells #[.int .i64 0, .slice sa (rdL kc kd).length sc, .slice ta (rdR kc kd).length tc] 25); have B4 := (B3.on b4 B3.lt).alloc (.cells #[.int .i64 0, .slice sa (rdL kc kd).length sc, .slice ta (rdR kc kd).length tc] 25); have D4 := (D3.trans (b4.mono D3.size)).trans (A4.mono (D3.trans (b4.mono D3.size)).size); have Ll4 := (Ll3.on b4).on A4; have Lr4 := (Lr3.on b4).on A4; have c0 := B4.cell (i := 0) rfl; have c1 := B4.cell (i := 1) rfl; have c2 := B4.cell (i := 2) rfl)
    | (go_at_call 13; refine (h5 _ _ _ Ll4 Lr4).mono ?_; rintro e w5 ⟨rfl, b5⟩))
  go_ret
  exact ⟨rfl, D4.trans (b5.mono D4.size)⟩

end Go.Proofs.YtjpmlnigjbdnnabDoor
