/-
  What wakes answers.
-/
import Derived.Test.YtoecopmbaoklkaaPx
namespace Go.Proofs.Ytoecopmbaoklkaa
open Go.RowKit
set_option linter.unusedVariables false
set_option linter.unusedSimpArgs false
set_option maxRecDepth 100000

theorem nw_len (n : Nat) : (nw n).bs.length = n := by simp [nw]
theorem nw_rdE {n : Nat} {a : Int} (h : 0 ≤ a ∧ a < n) : (nw n).rdE a = 0 := by
  unfold Ds.rdE
  rw [if_neg (by simp [nw]), if_neg (by unfold Ds.out; rw [nw_len]; omega)]
theorem pg64 (a : Int) (h : 34 ≤ a ∧ a < 64) : isPg 64 a := .inr (by show ((34 : Nat) : Int) ≤ a ∧ a < ((64 : Nat) : Int); omega)
section
variable {p : Pp} {a : Int}
theorem Pp.ld_no (h : ¬ isPg p.d.bs.length a) : p.ldE a = 1 ∧ p.ldS a = ⟨#[]⟩ ∧ p.ld a = p := by
  unfold Pp.ldE Pp.ldS Pp.ld
  refine ⟨?_, ?_, ?_⟩ <;> rw [if_pos h]
theorem Pp.ld_ch1 (h : isPg p.d.bs.length a) {c : Pg} (hc : fndC p.ch a = some c) : p.ldE a = 0 ∧ p.ldS a = c.data ∧ p.ld a = p := by
  unfold Pp.ldE Pp.ldS Pp.ld
  refine ⟨?_, ?_, ?_⟩ <;> rw [if_neg (fun x => x h), hc] <;> rfl
theorem Pp.ld_hs1 (h : isPg p.d.bs.length a) (hc : fndC p.ch a = none) {x : Hp} (hx : fndH p.hs a = some x) : p.ldE a = 0 ∧ p.ldS a = x.data ∧ p.ld a = ⟨p.d, p.room, remH p.hs a ++ [x], p.ch, p.rd⟩ := by
  unfold Pp.ldE Pp.ldS Pp.ld
  refine ⟨?_, ?_, ?_⟩ <;> rw [if_neg (fun x => x h), hc, hx] <;> rfl
theorem Pp.ld_rd1 (h : isPg p.d.bs.length a) (hc : fndC p.ch a = none) (hx : fndH p.hs a = none) (hr : p.d.rdE a = 0) : p.ldE a = 0 ∧ p.ldS a = p.d.rdS a ∧ p.ld a = ⟨p.d, p.room, holdH p.room p.hs a (p.d.rdS a), p.ch, p.rd + 1⟩ := by
  unfold Pp.ldE Pp.ldS Pp.ld
  refine ⟨?_, ?_, ?_⟩ <;> rw [if_neg (fun x => x h), hc, hx]
  · exact hr
  · simp only [hr, if_true]
theorem Pp.st_ok (h : isPg p.d.bs.length a) {s : ByteArray} (hs : s.size = 256) (hp : pinned p.hs a = false) : p.stE a s = 0 ∧ p.st a s = ⟨p.d, p.room, remH p.hs a, insC p.ch a s, p.rd⟩ := by
  have : p.stE a s = 0 := by unfold Pp.stE; rw [if_neg (fun x => x h), if_neg (fun x => x hs), hp]; rfl
  refine ⟨this, ?_⟩
  unfold Pp.st
  rw [if_pos this]
end
/-- the pager of wakes, behind Store and behind Load -/
def wk1 (s : ByteArray) : Pp := ⟨nw 64, 2, [], [⟨36, s⟩], 0⟩
def wk2 (s t : ByteArray) : Pp := ⟨nw 64, 2, [⟨34, 0, t⟩], [⟨36, s⟩], 1⟩
theorem wake_store (s : ByteArray) (hs : s.size = 256) : (pw (nw 64) 2).stE 36 s = 0 ∧ (pw (nw 64) 2).st 36 s = wk1 s :=
  Pp.st_ok (by show isPg (nw 64).bs.length 36; rw [nw_len]; exact pg64 36 (by decide)) hs rfl
theorem wake_load (s : ByteArray) : (wk1 s).ldE 36 = 0 ∧ (wk1 s).ldS 36 = s ∧ (wk1 s).ld 36 = wk1 s :=
  Pp.ld_ch1 (c := ⟨36, s⟩) (by show isPg (nw 64).bs.length 36; rw [nw_len]; exact pg64 36 (by decide)) (by simp [wk1, fndC])
theorem wake_load2 (s : ByteArray) : ∃ t, (wk1 s).ld 34 = wk2 s t :=
  ⟨(nw 64).rdS 34, (Pp.ld_rd1 (p := wk1 s) (a := 34) (by show isPg (nw 64).bs.length 34; rw [nw_len]; exact pg64 34 (by decide)) (by simp [wk1, fndC]) rfl (nw_rdE (by omega))).2.2⟩

set_option maxHeartbeats 1000000 in
theorem wakes_any (w : World) : Calls Try.prog 7 #[] w fun e w' => e = .returned (.bool true) ∧ Below w.heap.size w w' := by
  have hnew := new_dz 64 (by decide) (by decide) w w (Below.refl _ _)
  have HPN : Hid (∀ w1 k, Dz w w1 k (nw 64) → Calls Try.prog 9 #[.pointer (some ⟨k, 0, none⟩), .int .i64 2] w1 fun e w' => ∃ q, e = .returned (.tuple #[.pointer (some ⟨q, 0, none⟩), .int .i64 0]) ∧ Px w w' k q (pw (nw 64) 2) (.slice none 0 0) []) := fun w1 k h => pnew_dz 2 (by decide) h
  have HBL : Hid (∀ w1, Calls Try.prog 14 #[.string ⟨#[120]⟩] w1 fun e w' => e = .returned (.string (blk ⟨#[120]⟩)) ∧ Below w1.heap.size w1 w') := fun w1 => lBlock_any ⟨#[120]⟩ (by decide) w1
  have hbs := blk_size ⟨#[120]⟩
  have hok0 : (pw (nw 64) 2).Ok 0 := pw_ok (nw_ok (by decide) (by decide)) (by decide)
  generalize blk ⟨#[120]⟩ = s at *
  obtain ⟨s1, s2⟩ := wake_store s hbs
  obtain ⟨l1, l2, l3⟩ := wake_load s
  obtain ⟨t, l4⟩ := wake_load2 s
  have hok1 : (wk1 s).Ok 0 := by rw [← s2]; exact hok0.st 36 s
  have hok2 : (wk2 s t).Ok 1 := by rw [← l4]; exact hok1.ld 34
  have HST : Hid (∀ w1 k q, Px w w1 k q (pw (nw 64) 2) (.slice none 0 0) [] → Calls Try.prog 13 #[.pointer (some ⟨q, 0, none⟩), .int .i64 36, .string s] w1 fun e w' => e = .returned (.int .i64 0) ∧ Px w w' k q (wk1 s) (.slice none 0 0) []) := fun w1 k q h => by
    have := store_px 0 36 (by unfold I64; omega) s (by rw [hbs]; decide) hok0 h
    rw [s1, s2] at this
    exact this
  have HL1 : Hid (∀ w1 k q, Px w w1 k q (wk1 s) (.slice none 0 0) [] → Calls Try.prog 11 #[.pointer (some ⟨q, 0, none⟩), .int .i64 36] w1 fun e w' => e = .returned (.tuple #[.string s, .int .i64 0]) ∧ Px w w' k q (wk1 s) (.slice none 0 0) []) := fun w1 k q h => by
    have := load_px 0 (by decide) 36 hok1 h
    rw [l1, l2, l3] at this
    exact this
  have HL2 : Hid (∀ w1 k q, Px w w1 k q (wk1 s) (.slice none 0 0) [] → Calls Try.prog 11 #[.pointer (some ⟨q, 0, none⟩), .int .i64 34] w1 fun e w' => ∃ x : ByteArray × Int, e = .returned (.tuple #[.string x.1, .int .i64 x.2]) ∧ Px w w' k q (wk2 s t) (.slice none 0 0) []) := fun w1 k q h => by
    have := load_px 0 (by decide) 34 hok1 h
    rw [l4] at this
    exact this.mono fun e w' hh => ⟨(_, _), hh.1, hh.2⟩
  have HDI : Hid (∀ w1 k q, Px w w1 k q (wk2 s t) (.slice none 0 0) [] → Calls Try.prog 18 #[.pointer (some ⟨q, 0, none⟩)] w1 fun e w' => (∃ a c, e = .returned (.slice a 1 c)) ∧ Below w1.heap.size w1 w') := fun w1 k q h => (dirty_px hok2 h).mono fun e w' hh => by
    obtain ⟨v', e1, r, b⟩ := hh
    obtain ⟨a, c, e2⟩ := r.form
    exact ⟨⟨a, c, by rw [e1, e2]; rfl⟩, b⟩
  have HHE : Hid (∀ w1 k q, Px w w1 k q (wk2 s t) (.slice none 0 0) [] → Calls Try.prog 19 #[.pointer (some ⟨q, 0, none⟩)] w1 fun e w' => (∃ a c, e = .returned (.slice a 1 c)) ∧ Below w1.heap.size w1 w') := fun w1 k q h => (held_px hok2 h).mono fun e w' hh => by
    obtain ⟨v', e1, r, b⟩ := hh
    obtain ⟨a, c, e2⟩ := r.form
    exact ⟨⟨a, c, by rw [e1, e2]; rfl⟩, b⟩
  have HRE : Hid (∀ w1 k q, Px w w1 k q (wk2 s t) (.slice none 0 0) [] → Calls Try.prog 20 #[.pointer (some ⟨q, 0, none⟩)] w1 fun e w' => e = .returned (.int .i64 1) ∧ w1 = w') := fun w1 k q h => reads_px h
  clear s1 s2 l1 l2 l3 l4 hok0 hok1 hok2 hbs
  generalize wk2 s t = p2 at *
  generalize wk1 s = p1 at *
  generalize pw (nw 64) 2 = p0 at *
  go_enter Try.func7, Try.ntmps7
  go_wp2_with (first
    | (go_at_call 8; refine hnew.mono ?_; clear hnew; rintro e w1 ⟨k, rfl, hd1⟩; have HD1 := hid hd1; clear hd1)
    | (go_at_call 9; refine (HPN.out _ _ HD1.out).mono ?_; clear HPN; rintro e w2 ⟨q, rfl, hp2⟩; have HP2 := hid hp2; clear hp2)
    | (go_at_call 14; refine (HBL.out _).mono ?_; rintro e w3 ⟨rfl, hb3⟩; have HP3 := hid (HP2.out.on hb3); clear hb3 HP2)
    | (go_at_call 13; refine (HST.out _ _ _ HP3.out).mono ?_; clear HST; rintro e w4 ⟨rfl, hp4⟩; have HP4 := hid hp4; clear hp4)
    | (go_at_call 11; refine (HL1.out _ _ _ HP4.out).mono ?_; clear HL1; rintro e w5 ⟨rfl, hp5⟩; have HP5 := hid hp5; clear hp5)
    | (go_at_call 11; refine (HL2.out _ _ _ HP5.out).mono ?_; clear HL2; rintro e w6 ⟨⟨x1, x2⟩, rfl, hp6⟩; have HP6 := hid hp6; clear hp6)
    | (go_at_call 14; refine (HBL.out _).mono ?_; clear HBL; rintro e w7 ⟨rfl, hb7⟩; have HP7 := hid (HP6.out.on hb7); clear hb7)
    | (go_at_call 18; refine (HDI.out _ _ _ HP7.out).mono ?_; clear HDI; rintro e w8 ⟨⟨da, dc, rfl⟩, hb8⟩; have HP8 := hid (HP7.out.on hb8); clear hb8)
    | (go_at_call 19; refine (HHE.out _ _ _ HP8.out).mono ?_; clear HHE; rintro e w9 ⟨⟨ea, ec, rfl⟩, hb9⟩; have HP9 := hid (HP8.out.on hb9); clear hb9)
    | (go_at_call 20; refine (HRE.out _ _ _ HP9.out).mono ?_; clear HRE; rintro e w10 ⟨rfl, rfl⟩))
  go_ret
  exact ⟨rfl, HP9.out.below⟩

end Go.Proofs.Ytoecopmbaoklkaa
