/-
  What wakes answers.
-/
import Derived.Test.YtoecopmbaoklkaaGreatPq
namespace Go.Proofs.YtoecopmbaoklkaaGreat
open Go.RowKit
set_option linter.unusedVariables false
set_option linter.unusedSimpArgs false
set_option maxRecDepth 100000

def Px (w0 w : World) (k q : Nat) (p : Pp) (v : Value) (L : List ByteArray) : Prop :=
  ∃ S, Pk w S k q p ∧ (∀ j, S j → w0.heap.size ≤ j) ∧ Below w0.heap.size w0 w ∧ RowS w 0 v L ∧ (∀ g, v.ownBlock = some g → ¬ S g ∧ w0.heap.size ≤ g)
section
variable {w0 w w' : World} {k q : Nat} {p p' : Pp} {v : Value} {L : List ByteArray}
theorem Px.below (h : Px w0 w k q p v L) : Below w0.heap.size w0 w := by obtain ⟨_, _, _, h, _⟩ := h; exact h
theorem Px.row (h : Px w0 w k q p v L) : RowS w 0 v L := by obtain ⟨_, _, _, _, h, _⟩ := h; exact h
theorem Px.on (h : Px w0 w k q p v L) (hb : Below w.heap.size w w') : Px w0 w' k q p v L := by
  obtain ⟨S, h1, h2, h3, h4, h5⟩ := h
  exact ⟨S, h1.on hb, h2, h3.trans (hb.mono h3.size), h4.on hb, h5⟩
theorem Px.step {S : Nat → Prop} (h2 : ∀ j, S j → w0.heap.size ≤ j) (h3 : Below w0.heap.size w0 w) (h4 : RowS w 0 v L) (h5 : ∀ g, v.ownBlock = some g → ¬ S g ∧ w0.heap.size ≤ g) (h : Pm w S k q p' w') : Px w0 w' k q p' v L := by
  obtain ⟨S', h6, h7⟩ := h.pk
  refine ⟨S', h6, fun j hj => ?_, h3.trans (h.keep.below h2 h3.size), h.keep.row h4 (fun g e => (h5 g e).1), fun g e => ⟨fun hj => ?_, (h5 g e).2⟩⟩
  · rcases h7 j hj with t | t
    · exact h2 j t
    · exact Nat.le_trans h3.size t
  · rcases h7 g hj with t | t
    · exact (h5 g e).1 t
    · have := (World.ownsRow.lt h4 g e).2
      omega
/-- another row in its place -/
theorem Px.take {u : Value} {M : List ByteArray} (h : Px w0 w k q p v L) (hb : Below w.heap.size w w') (hr : RowS w' w.heap.size u M) : Px w0 w' k q p u M := by
  obtain ⟨S, h1, h2, h3, h4, h5⟩ := h
  refine ⟨S, h1.on hb, h2, h3.trans (hb.mono h3.size), own_base hr (Nat.zero_le _), fun g e => ?_⟩
  have := (World.ownsRow.lt hr g e).1
  exact ⟨fun hj => by have := h1.lt g hj; omega, Nat.le_trans h3.size this⟩
theorem Px.drop (h : Px w0 w k q p v L) : Px w0 w k q p (.slice none 0 0) [] := by
  obtain ⟨S, h1, h2, h3, h4, h5⟩ := h
  exact ⟨S, h1, h2, h3, World.ownsRow_nil _ _ _ _, fun g e => by simp [Value.ownBlock] at e⟩
/-- the row written into -/
theorem Px.set {g n c i : Nat} {s : ByteArray} (h : Px w0 w k q p (.slice (some ⟨g, 0, none⟩) n c) L) (hn : L.length = n) : Px w0 (w.setCell ⟨g, i, none⟩ (.string s)) k q p (.slice (some ⟨g, 0, none⟩) n c) (L.set i s) := by
  obtain ⟨S, h1, h2, h3, h4, h5⟩ := h
  have hk : Keep (fun j => j = g) w (w.setCell ⟨g, i, none⟩ (.string s)) := Keep.set (S := fun j => j = g) w rfl i _
  subst hn
  have r := own_set h4 i (.string s)
  rw [flatS_set] at r
  refine ⟨S, hk.pk h1 (fun j hj e => (h5 g rfl).1 (e ▸ hj)), h2, h3.trans (hk.below (fun j e => by subst e; exact (h5 j rfl).2) h3.size), ?_, h5⟩
  unfold RowS
  rw [List.length_set]
  exact r

theorem load_px (N : Nat) (hN : N < 4611686018427387904) (a : Int) (hok : p.Ok N) (h : Px w0 w k q p v L) : Calls Tryz.prog 21 #[.pointer (some ⟨q, 0, none⟩), .int .i64 a] w fun e w' => e = .returned (.tuple #[.string (p.ldS a), .int .i64 (p.ldE a : Nat)]) ∧ Px w0 w' k q (p.ld a) v L := by
  obtain ⟨S, h1, h2, h3, h4, h5⟩ := h
  exact (load_any N hN a hok h1).mono fun e w' hh => ⟨hh.1, Px.step h2 h3 h4 h5 hh.2⟩
theorem store_px (N : Nat) (a : Int) (ha : I64 a) (s : ByteArray) (hs : s.size ≤ maxLen) (hok : p.Ok N) (h : Px w0 w k q p v L) : Calls Tryz.prog 19 #[.pointer (some ⟨q, 0, none⟩), .int .i64 a, .string s] w fun e w' => e = .returned (.int .i64 (p.stE a s : Nat)) ∧ Px w0 w' k q (p.st a s) v L := by
  obtain ⟨S, h1, h2, h3, h4, h5⟩ := h
  exact (store_any N a ha s hs hok h1).mono fun e w' hh => ⟨hh.1, Px.step h2 h3 h4 h5 hh.2⟩
theorem pin_px (N : Nat) (hN : N < 4611686018427386000) (a : Int) (hok : p.Ok N) (h : Px w0 w k q p v L) : Calls Tryz.prog 29 #[.pointer (some ⟨q, 0, none⟩), .int .i64 a] w fun e w' => e = .returned (.int .i64 (p.piE a : Nat)) ∧ Px w0 w' k q (p.pi a) v L := by
  obtain ⟨S, h1, h2, h3, h4, h5⟩ := h
  exact (ppin_any N hN a hok h1).mono fun e w' hh => ⟨hh.1, Px.step h2 h3 h4 h5 hh.2⟩
theorem unpin_px (N : Nat) (hN : N < 4611686018427387904) (a : Int) (ha : I64 a) (hok : p.Ok N) (h : Px w0 w k q p v L) : Calls Tryz.prog 31 #[.pointer (some ⟨q, 0, none⟩), .int .i64 a] w fun e w' => e = .returned (.int .i64 (p.unE a : Nat)) ∧ Px w0 w' k q (p.un a) v L := by
  obtain ⟨S, h1, h2, h3, h4, h5⟩ := h
  exact (unpin_any N hN a ha hok h1).mono fun e w' hh => ⟨hh.1, Px.step h2 h3 h4 h5 hh.2⟩
theorem commit_px (N : Nat) (hok : p.Ok N) (hz : Fit (p.d.lg.length + 5000)) (h : Px w0 w k q p v L) : Calls Tryz.prog 33 #[.pointer (some ⟨q, 0, none⟩)] w fun e w' => e = .returned (.int .i64 (p.cmE : Nat)) ∧ Px w0 w' k q p.cm v L := by
  obtain ⟨S, h1, h2, h3, h4, h5⟩ := h
  exact (pcommit_any N hok hz h1).mono fun e w' hh => ⟨hh.1, Px.step h2 h3 h4 h5 hh.2⟩
theorem undo_px (h : Px w0 w k q p v L) : Calls Tryz.prog 35 #[.pointer (some ⟨q, 0, none⟩)] w fun e w' => e = .returned (.tuple #[]) ∧ Px w0 w' k q p.undo v L := by
  obtain ⟨S, h1, h2, h3, h4, h5⟩ := h
  exact (undo_any h1).mono fun e w' hh => ⟨hh.1, Px.step h2 h3 h4 h5 hh.2⟩
theorem reads_px (h : Px w0 w k q p v L) : Calls Tryz.prog 14 #[.pointer (some ⟨q, 0, none⟩)] w fun e w' => e = .returned (.int .i64 (p.rd : Nat)) ∧ w = w' := by
  obtain ⟨S, h1, _⟩ := h
  exact reads_any h1
theorem held_px {N : Nat} (hok : p.Ok N) (h : Px w0 w k q p v L) : Calls Tryz.prog 12 #[.pointer (some ⟨q, 0, none⟩)] w fun e w' => ∃ v', e = .returned v' ∧ RowI w' w.heap.size v' (p.hs.map Hp.pl) ∧ Below w.heap.size w w' := by
  obtain ⟨S, h1, _⟩ := h
  exact held_any (by have := hok.len; have := hok.room; omega) h1
theorem dirty_px {N : Nat} (hok : p.Ok N) (h : Px w0 w k q p v L) : Calls Tryz.prog 10 #[.pointer (some ⟨q, 0, none⟩)] w fun e w' => ∃ v', e = .returned v' ∧ RowI w' w.heap.size v' (p.ch.map Pg.pl) ∧ Below w.heap.size w w' := by
  obtain ⟨S, h1, _⟩ := h
  exact dirty_any (by have := hok.few; omega) h1
theorem image_px (h : Px w0 w k q p v L) : Calls Tryz.prog 16 #[.pointer (some ⟨k, 0, none⟩)] w fun e w' => ∃ v', e = .returned v' ∧ RowS w' w.heap.size v' p.d.bs ∧ Below w.heap.size w w' := by
  obtain ⟨S, ⟨D, T, _, _, h3, _⟩, _⟩ := h
  exact image_any w D k p.d h3
end

/-- a disk made since w0 -/
def Dz (w0 w : World) (k : Nat) (d : Ds) : Prop := ∃ S, Dk w S k d ∧ (∀ j, S j → w0.heap.size ≤ j) ∧ Below w0.heap.size w0 w
theorem new_dz (n : Nat) (h1 : 64 ≤ n) (h2 : n ≤ 2048) (w0 w : World) (hb : Below w0.heap.size w0 w) : Calls Tryz.prog 5 #[.int .i64 (n : Nat)] w fun e w' => ∃ k, e = .returned (.tuple #[.pointer (some ⟨k, 0, none⟩), .int .i64 0]) ∧ Dz w0 w' k (nw n) :=
  (new_any n h1 h2 w).mono fun e w' hh => by
    obtain ⟨k, e1, hd, hb2⟩ := hh
    exact ⟨k, e1, _, hd, fun j hj => Nat.le_trans hb.size hj.1, hb.trans (hb2.mono hb.size)⟩
theorem pnew_dz {w0 w : World} {k : Nat} {d : Ds} (r : Nat) (hr : 1 ≤ r ∧ r ≤ 1024) (h : Dz w0 w k d) : Calls Tryz.prog 7 #[.pointer (some ⟨k, 0, none⟩), .int .i64 (r : Nat)] w fun e w' => ∃ q, e = .returned (.tuple #[.pointer (some ⟨q, 0, none⟩), .int .i64 0]) ∧ Px w0 w' k q (pw d r) (.slice none 0 0) [] := by
  obtain ⟨S, h1, h2, h3⟩ := h
  refine (pnew_any S k d r hr w h1).mono fun e w' hh => ?_
  obtain ⟨q, e1, ⟨S', h4, h5⟩, h6⟩ := hh
  refine ⟨q, e1, S', h4, fun j hj => ?_, h3.trans (h6.mono h3.size), World.ownsRow_nil _ _ _ _, fun g e => by simp [Value.ownBlock] at e⟩
  rcases h5 j hj with t | t
  · exact h2 j t
  · exact Nat.le_trans h3.size t
theorem pw_ok {d : Ds} (hd : d.Ok) {r : Nat} (hr : 1 ≤ r ∧ r ≤ 1024) : (pw d r).Ok 0 :=
  ⟨hd, hr, Nat.zero_le _, List.Pairwise.nil, List.Pairwise.nil, fun _ h => (by cases h), fun _ h => (by cases h), fun _ h => (by cases h), Nat.le_refl _⟩

theorem nw_len (n : Nat) : (nw n).bs.length = n := by simp [nw]
theorem nw_rdE {n : Nat} {a : Int} (h : 0 ≤ a ∧ a < n) : (nw n).rdE a = 0 := by
  unfold Ds.rdE
  rw [if_neg (by simp [nw]), if_neg (by unfold Ds.out; rw [nw_len]; omega)]
theorem pg64 (a : Int) (h : 34 ≤ a ∧ a < 64) : isPg 64 a := .inr (by show ((34 : Nat) : Int) ≤ a ∧ a < ((64 : Nat) : Int); omega)
section
variable {p : Pp} {a : Int}
theorem Pp.ld_no (h : ¬ isPg p.d.bs.length a) : p.ldE a = 1 ∧ p.ldS a = ⟨#[]⟩ ∧ p.ld a = p := by
  unfold Pp.ldE Pp.ldS Pp.ld
  refine ⟨?_, ?_, ?_⟩ <;> rw [if_pos h]
theorem Pp.ld_ch1 (h : isPg p.d.bs.length a) {c : Pg} (hc : fndC p.ch a = some c) : p.ldE a = 0 ∧ p.ldS a = c.data ∧ p.ld a = p := by
  unfold Pp.ldE Pp.ldS Pp.ld
  refine ⟨?_, ?_, ?_⟩ <;> rw [if_neg (fun x => x h), hc] <;> rfl
theorem Pp.ld_hs1 (h : isPg p.d.bs.length a) (hc : fndC p.ch a = none) {x : Hp} (hx : fndH p.hs a = some x) : p.ldE a = 0 ∧ p.ldS a = x.data ∧ p.ld a = ⟨p.d, p.room, remH p.hs a ++ [x], p.ch, p.rd⟩ := by
  unfold Pp.ldE Pp.ldS Pp.ld
  refine ⟨?_, ?_, ?_⟩ <;> rw [if_neg (fun x => x h), hc, hx] <;> rfl
theorem Pp.ld_rd1 (h : isPg p.d.bs.length a) (hc : fndC p.ch a = none) (hx : fndH p.hs a = none) (hr : p.d.rdE a = 0) : p.ldE a = 0 ∧ p.ldS a = p.d.rdS a ∧ p.ld a = ⟨p.d, p.room, holdH p.room p.hs a (p.d.rdS a), p.ch, p.rd + 1⟩ := by
  unfold Pp.ldE Pp.ldS Pp.ld
  refine ⟨?_, ?_, ?_⟩ <;> rw [if_neg (fun x => x h), hc, hx]
  · exact hr
  · simp only [hr, if_true]
theorem Pp.st_ok (h : isPg p.d.bs.length a) {s : ByteArray} (hs : s.size = 256) (hp : pinned p.hs a = false) : p.stE a s = 0 ∧ p.st a s = ⟨p.d, p.room, remH p.hs a, insC p.ch a s, p.rd⟩ := by
  have : p.stE a s = 0 := by unfold Pp.stE; rw [if_neg (fun x => x h), if_neg (fun x => x hs), hp]; rfl
  refine ⟨this, ?_⟩
  unfold Pp.st
  rw [if_pos this]
end
/-- the pager of wakes, behind Store and behind Load -/
def wk1 (s : ByteArray) : Pp := ⟨nw 64, 2, [], [⟨36, s⟩], 0⟩
def wk2 (s t : ByteArray) : Pp := ⟨nw 64, 2, [⟨34, 0, t⟩], [⟨36, s⟩], 1⟩
theorem wake_store (s : ByteArray) (hs : s.size = 256) : (pw (nw 64) 2).stE 36 s = 0 ∧ (pw (nw 64) 2).st 36 s = wk1 s :=
  Pp.st_ok (by show isPg (nw 64).bs.length 36; rw [nw_len]; exact pg64 36 (by decide)) hs rfl
theorem wake_load (s : ByteArray) : (wk1 s).ldE 36 = 0 ∧ (wk1 s).ldS 36 = s ∧ (wk1 s).ld 36 = wk1 s :=
  Pp.ld_ch1 (c := ⟨36, s⟩) (by show isPg (nw 64).bs.length 36; rw [nw_len]; exact pg64 36 (by decide)) (by simp [wk1, fndC])
theorem wake_load2 (s : ByteArray) : ∃ t, (wk1 s).ld 34 = wk2 s t :=
  ⟨(nw 64).rdS 34, (Pp.ld_rd1 (p := wk1 s) (a := 34) (by show isPg (nw 64).bs.length 34; rw [nw_len]; exact pg64 34 (by decide)) (by simp [wk1, fndC]) rfl (nw_rdE (by omega))).2.2⟩

set_option maxHeartbeats 1000000 in
theorem wakes_any (w : World) : Calls Tryz.prog 4 #[] w fun e w' => e = .returned (.bool true) ∧ Below w.heap.size w w' := by
  have hnew := new_dz 64 (by decide) (by decide) w w (Below.refl _ _)
  have HPN : Hid (∀ w1 k, Dz w w1 k (nw 64) → Calls Tryz.prog 7 #[.pointer (some ⟨k, 0, none⟩), .int .i64 2] w1 fun e w' => ∃ q, e = .returned (.tuple #[.pointer (some ⟨q, 0, none⟩), .int .i64 0]) ∧ Px w w' k q (pw (nw 64) 2) (.slice none 0 0) []) := fun w1 k h => pnew_dz 2 (by decide) h
  have HBL : Hid (∀ w1, Calls Tryz.prog 20 #[.string ⟨#[120]⟩] w1 fun e w' => e = .returned (.string (blk ⟨#[120]⟩)) ∧ Below w1.heap.size w1 w') := fun w1 => lBlock_any ⟨#[120]⟩ (by decide) w1
  have hbs := blk_size ⟨#[120]⟩
  have hok0 : (pw (nw 64) 2).Ok 0 := pw_ok (nw_ok (by decide) (by decide)) (by decide)
  generalize blk ⟨#[120]⟩ = s at *
  obtain ⟨s1, s2⟩ := wake_store s hbs
  obtain ⟨l1, l2, l3⟩ := wake_load s
  obtain ⟨t, l4⟩ := wake_load2 s
  have hok1 : (wk1 s).Ok 0 := by rw [← s2]; exact hok0.st 36 s
  have hok2 : (wk2 s t).Ok 1 := by rw [← l4]; exact hok1.ld 34
  have HST : Hid (∀ w1 k q, Px w w1 k q (pw (nw 64) 2) (.slice none 0 0) [] → Calls Tryz.prog 19 #[.pointer (some ⟨q, 0, none⟩), .int .i64 36, .string s] w1 fun e w' => e = .returned (.int .i64 0) ∧ Px w w' k q (wk1 s) (.slice none 0 0) []) := fun w1 k q h => by
    have := store_px 0 36 (by unfold I64; omega) s (by rw [hbs]; decide) hok0 h
    rw [s1, s2] at this
    exact this
  have HL1 : Hid (∀ w1 k q, Px w w1 k q (wk1 s) (.slice none 0 0) [] → Calls Tryz.prog 21 #[.pointer (some ⟨q, 0, none⟩), .int .i64 36] w1 fun e w' => e = .returned (.tuple #[.string s, .int .i64 0]) ∧ Px w w' k q (wk1 s) (.slice none 0 0) []) := fun w1 k q h => by
    have := load_px 0 (by decide) 36 hok1 h
    rw [l1, l2, l3] at this
    exact this
  have HL2 : Hid (∀ w1 k q, Px w w1 k q (wk1 s) (.slice none 0 0) [] → Calls Tryz.prog 21 #[.pointer (some ⟨q, 0, none⟩), .int .i64 34] w1 fun e w' => ∃ x : ByteArray × Int, e = .returned (.tuple #[.string x.1, .int .i64 x.2]) ∧ Px w w' k q (wk2 s t) (.slice none 0 0) []) := fun w1 k q h => by
    have := load_px 0 (by decide) 34 hok1 h
    rw [l4] at this
    exact this.mono fun e w' hh => ⟨(_, _), hh.1, hh.2⟩
  have HDI : Hid (∀ w1 k q, Px w w1 k q (wk2 s t) (.slice none 0 0) [] → Calls Tryz.prog 10 #[.pointer (some ⟨q, 0, none⟩)] w1 fun e w' => (∃ a c, e = .returned (.slice a 1 c)) ∧ Below w1.heap.size w1 w') := fun w1 k q h => (dirty_px hok2 h).mono fun e w' hh => by
    obtain ⟨v', e1, r, b⟩ := hh
    obtain ⟨a, c, e2⟩ := r.form
    exact ⟨⟨a, c, by rw [e1, e2]; rfl⟩, b⟩
  have HHE : Hid (∀ w1 k q, Px w w1 k q (wk2 s t) (.slice none 0 0) [] → Calls Tryz.prog 12 #[.pointer (some ⟨q, 0, none⟩)] w1 fun e w' => (∃ a c, e = .returned (.slice a 1 c)) ∧ Below w1.heap.size w1 w') := fun w1 k q h => (held_px hok2 h).mono fun e w' hh => by
    obtain ⟨v', e1, r, b⟩ := hh
    obtain ⟨a, c, e2⟩ := r.form
    exact ⟨⟨a, c, by rw [e1, e2]; rfl⟩, b⟩
  have HRE : Hid (∀ w1 k q, Px w w1 k q (wk2 s t) (.slice none 0 0) [] → Calls Tryz.prog 14 #[.pointer (some ⟨q, 0, none⟩)] w1 fun e w' => e = .returned (.int .i64 1) ∧ w1 = w') := fun w1 k q h => reads_px h
  clear s1 s2 l1 l2 l3 l4 hok0 hok1 hok2 hbs
  generalize wk2 s t = p2 at *
  generalize wk1 s = p1 at *
  generalize pw (nw 64) 2 = p0 at *
  go_enter Tryz.func4, Tryz.ntmps4
  go_wp2_with (first
    | (go_at_call 5; refine hnew.mono ?_; clear hnew; rintro e w1 ⟨k, rfl, hd1⟩; have HD1 := hid hd1; clear hd1)
    | (go_at_call 7; refine (HPN.out _ _ HD1.out).mono ?_; clear HPN; rintro e w2 ⟨q, rfl, hp2⟩; have HP2 := hid hp2; clear hp2)
    | (go_at_call 20; refine (HBL.out _).mono ?_; rintro e w3 ⟨rfl, hb3⟩; have HP3 := hid (HP2.out.on hb3); clear hb3 HP2)
    | (go_at_call 19; refine (HST.out _ _ _ HP3.out).mono ?_; clear HST; rintro e w4 ⟨rfl, hp4⟩; have HP4 := hid hp4; clear hp4)
    | (go_at_call 21; refine (HL1.out _ _ _ HP4.out).mono ?_; clear HL1; rintro e w5 ⟨rfl, hp5⟩; have HP5 := hid hp5; clear hp5)
    | (go_at_call 21; refine (HL2.out _ _ _ HP5.out).mono ?_; clear HL2; rintro e w6 ⟨⟨x1, x2⟩, rfl, hp6⟩; have HP6 := hid hp6; clear hp6)
    | (go_at_call 20; refine (HBL.out _).mono ?_; clear HBL; rintro e w7 ⟨rfl, hb7⟩; have HP7 := hid (HP6.out.on hb7); clear hb7)
    | (go_at_call 10; refine (HDI.out _ _ _ HP7.out).mono ?_; clear HDI; rintro e w8 ⟨⟨da, dc, rfl⟩, hb8⟩; have HP8 := hid (HP7.out.on hb8); clear hb8)
    | (go_at_call 12; refine (HHE.out _ _ _ HP8.out).mono ?_; clear HHE; rintro e w9 ⟨⟨ea, ec, rfl⟩, hb9⟩; have HP9 := hid (HP8.out.on hb9); clear hb9)
    | (go_at_call 14; refine (HRE.out _ _ _ HP9.out).mono ?_; clear HRE; rintro e w10 ⟨rfl, rfl⟩))
  go_ret
  exact ⟨rfl, HP9.out.below⟩

end Go.Proofs.YtoecopmbaoklkaaGreat
