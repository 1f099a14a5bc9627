/-
  A disk made since; a fixed group is written on it.
-/
import Derived.Test.YthinhlmefifffaaSx
import Derived.Test.YthinhlmefifffaaRw
namespace Go.Proofs.Ythinhlmefifffaa
open Go.RowKit Go.Shelf
set_option linter.unusedVariables false
set_option linter.unusedSimpArgs false
set_option maxRecDepth 100000

/-- a disk made since w0 -/
def Dw (w0 w : World) (k : Nat) (d : Ds) : Prop := ∃ S, Dk w S k d ∧ (∀ j, S j → w0.heap.size ≤ j) ∧ Below w0.heap.size w0 w
theorem Dw.below {w0 w : World} {k : Nat} {d : Ds} (h : Dw w0 w k d) : Below w0.heap.size w0 w := by obtain ⟨_, _, _, h⟩ := h; exact h
theorem Dw.on {w0 w w' : World} {k : Nat} {d : Ds} (h : Dw w0 w k d) (hb : Below w.heap.size w w') : Dw w0 w' k d := by
  obtain ⟨S, h1, h2, h3⟩ := h
  exact ⟨S, h1.on hb, h2, h3.trans (hb.mono h3.size)⟩
theorem Dw.ok {w0 w : World} {k : Nat} {d : Ds} (h : Dw w0 w k d) : d.Ok := by obtain ⟨_, h, _⟩ := h; exact h.1
theorem Dw.wm {w0 w w' : World} {k : Nat} {d d' : Ds} {S : Nat → Prop} (h2 : ∀ j, S j → w0.heap.size ≤ j) (h3 : Below w0.heap.size w0 w) (h : Wm w S k d' w') : Dw w0 w' k d' := by
  obtain ⟨S', g1, g2⟩ := h.disk
  exact ⟨S', g1, fun j hj => (g2 j hj).elim (h2 j) (fun h' => Nat.le_trans h3.size h'), h3.trans (h.keep.below h2 h3.size)⟩
theorem new_dw (w0 w : World) (n : Nat) (h1 : 64 ≤ n) (h2 : n ≤ 2048) (hb : Below w0.heap.size w0 w) : Calls Try.prog 31 #[.int .i64 (n : Nat)] w fun e w' => ∃ k, e = .returned (.tuple #[.pointer (some ⟨k, 0, none⟩), .int .i64 0]) ∧ Dw w0 w' k (nw n) :=
  (new_any n h1 h2 w).mono fun e w' ⟨k, he, hd, hb2⟩ => ⟨k, he, _, hd, fun j hj => Nat.le_trans hb.size hj.1, hb.trans (hb2.mono hb.size)⟩
/-- pages that lie outside whatever was there at w -/
def LiesN (w w1 : World) (v : Value) (L : List Pg) : Prop := ∀ S : Nat → Prop, (∀ j, S j → j < w.heap.size) → LiesO w1 S v L
theorem commit_dw (w0 w w1 : World) (k : Nat) (d : Ds) (v : Value) (L : List Pg) (h : Dw w0 w k d) (hb : Below w.heap.size w w1) (hl : LiesN w w1 v L) (hz : Fit (d.lg.length + 5000)) :
    Calls Try.prog 18 #[.pointer (some ⟨k, 0, none⟩), v] w1 fun e w' => e = .returned (.int .i64 ((cmt d L).1 : Nat)) ∧ Dw w0 w' k (cmt d L).2 := by
  obtain ⟨S, h1, h2, h3⟩ := h
  exact (commit_any w1 S k d (h1.on hb) v L (hl S h1.lt) hz).mono fun e w' ⟨he, hw⟩ => ⟨he, Dw.wm (d := d) h2 (h3.trans (hb.mono h3.size)) hw⟩
theorem recover_dw (w0 w : World) (k : Nat) (d : Ds) (h : Dw w0 w k d) (hz : Fit (d.lg.length + 1500)) :
    Calls Try.prog 25 #[.pointer (some ⟨k, 0, none⟩)] w fun e w' => e = .returned (.tuple #[.int .i64 ((recv d).1 : Nat), .int .i64 ((recv d).2.1 : Nat)]) ∧ Dw w0 w' k (recv d).2.2 := by
  obtain ⟨S, h1, h2, h3⟩ := h
  exact (recover_any w S k d h1 hz).mono fun e w' ⟨he, hw⟩ => ⟨he, Dw.wm (d := d) h2 h3 hw⟩
theorem read_dw (a : Int) (w0 w : World) (k : Nat) (d : Ds) (h : Dw w0 w k d) : Calls Try.prog 33 #[.pointer (some ⟨k, 0, none⟩), .int .i64 a] w fun e w' => e = .returned (.tuple #[.string (d.rdS a), .int .i64 (d.rdE a : Nat)]) ∧ Dw w0 w' k d := by
  obtain ⟨S, h1, h2, h3⟩ := id h
  exact (read_any a w S k d h1).mono fun e w' ⟨he, hb⟩ => ⟨he, h.on hb⟩
theorem log_dw (w0 w : World) (k : Nat) (d : Ds) (h : Dw w0 w k d) (hz : Fit d.lg.length) : Calls Try.prog 21 #[.pointer (some ⟨k, 0, none⟩)] w fun e w' => ∃ v', e = .returned v' ∧ RowP w' w.heap.size v' d.lg ∧ Dw w0 w' k d ∧ Below w.heap.size w w' := by
  obtain ⟨S, h1, h2, h3⟩ := id h
  exact (log_any w S k d h1 hz).mono fun e w' ⟨v', he, hr, hb⟩ => ⟨v', he, hr, h.on hb, hb⟩

/-- a list of two pages, written out -/
theorem lies_two (w w1 : World) (hw : w.heap.size ≤ w1.heap.size) (a b : Int) (s t : ByteArray) (ha : -9223372036854775808 ≤ a ∧ a ≤ 9223372036854775807) (hb : -9223372036854775808 ≤ b ∧ b ≤ 9223372036854775807) (hs : s.size ≤ maxLen) (ht : t.size ≤ maxLen) :
    LiesN w (w1.alloc (.cells #[.int .i64 a, .string s, .int .i64 b, .string t] 54)) (.slice (some ⟨w1.heap.size, 0, none⟩) 2 2) [⟨a, s⟩, ⟨b, t⟩] := by
  intro S hS
  have hX := Blk.made w1 #[.int .i64 a, .string s, .int .i64 b, .string t] 54
  refine ⟨_, 2, rfl, Nat.le_refl _, by decide, fun k p hp => ?_⟩
  have hn : ¬ S w1.heap.size := fun h => by have := hS _ h; omega
  match k, hp with
  | 0, hp => cases hp; exact ⟨_, 0, rfl, hX.lt, hn, hX.cell rfl, hX.cell rfl, ha, hs⟩
  | 1, hp => cases hp; exact ⟨_, 0, rfl, hX.lt, hn, hX.cell rfl, hX.cell rfl, hb, ht⟩
  | k + 2, hp => simp at hp

theorem fit_small {n : Nat} (h : n ≤ 1000000) : Fit n := by unfold Fit; omega

set_option maxHeartbeats 4000000 in
theorem wakes_any (w : World) : Calls Try.prog 9 #[] w fun e w' => e = .returned (.bool true) ∧ Below w.heap.size w w' := by
  have hnw : Calls Try.prog 31 #[.int .i64 64] w fun e w' => ∃ k, e = .returned (.tuple #[.pointer (some ⟨k, 0, none⟩), .int .i64 0]) ∧ Dw w w' k (nw 64) := new_dw w w 64 (by omega) (by omega) (Below.refl _ _)
  have hpg : ∀ w1, Calls Try.prog 10 #[.int .i64 64] w1 fun e w' => e = .returned (.int .i64 31) ∧ w1 = w' := fun w1 => pages_any 64 (by omega) (by omega) w1
  have hfr : ∀ w1, Calls Try.prog 11 #[.int .i64 64] w1 fun e w' => e = .returned (.int .i64 34) ∧ w1 = w' := fun w1 => first_any 64 (by omega) (by omega) w1
  have hbx : ∀ w1, Calls Try.prog 32 #[.string ⟨#[120]⟩] w1 fun e w' => e = .returned (.string (blk ⟨#[120]⟩)) ∧ Below w1.heap.size w1 w' := fun w1 => lBlock_any _ (by decide) w1
  have hby : ∀ w1, Calls Try.prog 32 #[.string ⟨#[121]⟩] w1 fun e w' => e = .returned (.string (blk ⟨#[121]⟩)) ∧ Below w1.heap.size w1 w' := fun w1 => lBlock_any _ (by decide) w1
  obtain ⟨d1, g1, g2, g3, g4, g5, g6⟩ := fx_done
  have HCM : Hid (∀ w1 w2 k, Dw w w1 k (nw 64) → Below w1.heap.size w1 w2 → Calls Try.prog 18 #[.pointer (some ⟨k, 0, none⟩), .slice (some ⟨w2.heap.size, 0, none⟩) 2 2] (w2.alloc (.cells #[.int .i64 34, .string (blk ⟨#[120]⟩), .int .i64 0, .string (blk ⟨#[121]⟩)] 54)) fun e w' => e = .returned (.int .i64 0) ∧ Dw w w' k d1) := fun w1 w2 k h hb => by
    have := commit_dw w w1 (w2.alloc (.cells #[.int .i64 34, .string (blk ⟨#[120]⟩), .int .i64 0, .string (blk ⟨#[121]⟩)] 54)) k (nw 64) (.slice (some ⟨w2.heap.size, 0, none⟩) 2 2) fx h (hb.alloc hb.size _) (lies_two w1 w2 hb.size 34 0 _ _ (by omega) (by omega) (by rw [blk_size]; decide) (by rw [blk_size]; decide)) (fit_small (by simp [nw]))
    rw [g1] at this
    exact this
  have hE : d1.rdE 34 = 0 ∧ d1.rdS 34 = blk ⟨#[120]⟩ := Ds.rd_in (n := 34) g2 g5
  have HRD : Hid (∀ w1 k, Dw w w1 k d1 → Calls Try.prog 33 #[.pointer (some ⟨k, 0, none⟩), .int .i64 34] w1 fun e w' => e = .returned (.tuple #[.string (blk ⟨#[120]⟩), .int .i64 0]) ∧ Dw w w' k d1) := fun w1 k h => by
    have := read_dw 34 w w1 k d1 h
    rw [hE.1, hE.2] at this
    exact this
  have HRC : Hid (∀ w1 k, Dw w w1 k d1 → Calls Try.prog 25 #[.pointer (some ⟨k, 0, none⟩)] w1 fun e w' => e = .returned (.tuple #[.int .i64 0, .int .i64 0]) ∧ Dw w w' k d1) := fun w1 k h => by
    have := recover_dw w w1 k d1 h (fit_small (by omega))
    rw [recv_old g2 g6] at this
    exact this
  have HLG : Hid (∀ w1 k, Dw w w1 k d1 → Calls Try.prog 21 #[.pointer (some ⟨k, 0, none⟩)] w1 fun e w' => ∃ a c, e = .returned (.slice a 7 c) ∧ Dw w w' k d1) := fun w1 k h => (log_dw w w1 k d1 h (fit_small (by omega))).mono fun e w' ⟨v', he, hr, hd, _⟩ => by
    obtain ⟨a, c, hv⟩ := hr.form
    rw [g3] at hv
    exact ⟨a, c, by rw [he, hv], hd⟩
  clear g1 g2 g3 g4 g5 g6 hE
  have hxx : ((blk ⟨#[120]⟩).toList == (blk ⟨#[120]⟩).toList) = true := by simp
  generalize blk ⟨#[120]⟩ = X at *
  generalize blk ⟨#[121]⟩ = Y at *
  have HBX := hid hbx
  go_enter Try.func9, Try.ntmps9
  go_wp2_with (first
    | (go_at_call 31; refine hnw.mono ?_; clear hnw; rintro e w1 ⟨k, rfl, hd1⟩; have H1 := hid hd1; clear hd1)
    | (go_at_call 10; refine (hpg _).mono ?_; clear hpg; rintro e w2 ⟨rfl, rfl⟩)
    | (go_at_call 11; refine (hfr _).mono ?_; clear hfr; rintro e w2 ⟨rfl, rfl⟩)
    | (go_at_call 32; refine (hbx _).mono ?_; clear hbx; rintro e w2 ⟨rfl, hb2⟩; have HB2 := hid hb2; clear hb2)
    | (go_at_call 32; refine ((fun (h : Hid (Below w1.heap.size w1 w2)) => hby _) HB2).mono ?_; clear hby; rintro e w3 ⟨rfl, hb3⟩; have HB3 := hid (HB2.out.trans (hb3.mono HB2.out.size)); clear hb3 HB2)
    | (go_at_call 18; refine (HCM.out _ _ _ H1.out HB3.out).mono ?_; clear HCM; rintro e w4 ⟨rfl, hd4⟩; have H4 := hid hd4; clear hd4 HB3 H1)
    | (go_at_call 33; refine (HRD.out _ _ H4.out).mono ?_; clear HRD; rintro e w5 ⟨rfl, hd5⟩; have H5 := hid hd5; clear hd5 H4)
    | (go_at_call 25; refine (HRC.out _ _ H5.out).mono ?_; clear HRC; rintro e w6 ⟨rfl, hd6⟩; have H6 := hid hd6; clear hd6 H5)
    | (go_at_call 32; refine ((fun (h : Hid (Dw w w6 k d1)) => HBX.out _) H6).mono ?_; clear HBX; rintro e w7 ⟨rfl, hb7⟩; have H7 := hid (H6.out.on hb7); clear hb7 H6)
    | (go_at_call 21; refine (HLG.out _ _ H7.out).mono ?_; clear HLG; rintro e w8 ⟨la, lc, rfl, hd8⟩; have H8 := hid hd8; clear hd8 H7))
  go_ret
  exact ⟨rfl, H8.out.below⟩

end Go.Proofs.Ythinhlmefifffaa
