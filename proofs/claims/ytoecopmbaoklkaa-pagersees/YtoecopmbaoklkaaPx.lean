/-
  A pager made since w0, beside a row of texts that is not its own; what wakes answers.
-/
import Derived.Test.YtoecopmbaoklkaaPq
namespace Go.Proofs.Ytoecopmbaoklkaa
open Go.RowKit
set_option linter.unusedVariables false
set_option linter.unusedSimpArgs false
set_option maxRecDepth 100000

def Px (w0 w : World) (k q : Nat) (p : Pp) (v : Value) (L : List ByteArray) : Prop :=
  ∃ S, Pk w S k q p ∧ (∀ j, S j → w0.heap.size ≤ j) ∧ Below w0.heap.size w0 w ∧ RowS w 0 v L ∧ (∀ g, v.ownBlock = some g → ¬ S g ∧ w0.heap.size ≤ g)
section
variable {w0 w w' : World} {k q : Nat} {p p' : Pp} {v : Value} {L : List ByteArray}
theorem Px.below (h : Px w0 w k q p v L) : Below w0.heap.size w0 w := by obtain ⟨_, _, _, h, _⟩ := h; exact h
theorem Px.row (h : Px w0 w k q p v L) : RowS w 0 v L := by obtain ⟨_, _, _, _, h, _⟩ := h; exact h
theorem Px.on (h : Px w0 w k q p v L) (hb : Below w.heap.size w w') : Px w0 w' k q p v L := by
  obtain ⟨S, h1, h2, h3, h4, h5⟩ := h
  exact ⟨S, h1.on hb, h2, h3.trans (hb.mono h3.size), h4.on hb, h5⟩
theorem Px.step {S : Nat → Prop} (h2 : ∀ j, S j → w0.heap.size ≤ j) (h3 : Below w0.heap.size w0 w) (h4 : RowS w 0 v L) (h5 : ∀ g, v.ownBlock = some g → ¬ S g ∧ w0.heap.size ≤ g) (h : Pm w S k q p' w') : Px w0 w' k q p' v L := by
  obtain ⟨S', h6, h7⟩ := h.pk
  refine ⟨S', h6, fun j hj => ?_, h3.trans (h.keep.below h2 h3.size), h.keep.row h4 (fun g e => (h5 g e).1), fun g e => ⟨fun hj => ?_, (h5 g e).2⟩⟩
  · rcases h7 j hj with t | t
    · exact h2 j t
    · exact Nat.le_trans h3.size t
  · rcases h7 g hj with t | t
    · exact (h5 g e).1 t
    · have := (World.ownsRow.lt h4 g e).2
      omega
/-- another row in its place -/
theorem Px.take {u : Value} {M : List ByteArray} (h : Px w0 w k q p v L) (hb : Below w.heap.size w w') (hr : RowS w' w.heap.size u M) : Px w0 w' k q p u M := by
  obtain ⟨S, h1, h2, h3, h4, h5⟩ := h
  refine ⟨S, h1.on hb, h2, h3.trans (hb.mono h3.size), own_base hr (Nat.zero_le _), fun g e => ?_⟩
  have := (World.ownsRow.lt hr g e).1
  exact ⟨fun hj => by have := h1.lt g hj; omega, Nat.le_trans h3.size this⟩
theorem Px.drop (h : Px w0 w k q p v L) : Px w0 w k q p (.slice none 0 0) [] := by
  obtain ⟨S, h1, h2, h3, h4, h5⟩ := h
  exact ⟨S, h1, h2, h3, World.ownsRow_nil _ _ _ _, fun g e => by simp [Value.ownBlock] at e⟩
/-- the row written into -/
theorem Px.set {g n c i : Nat} {s : ByteArray} (h : Px w0 w k q p (.slice (some ⟨g, 0, none⟩) n c) L) (hn : L.length = n) : Px w0 (w.setCell ⟨g, i, none⟩ (.string s)) k q p (.slice (some ⟨g, 0, none⟩) n c) (L.set i s) := by
  obtain ⟨S, h1, h2, h3, h4, h5⟩ := h
  have hk : Keep (fun j => j = g) w (w.setCell ⟨g, i, none⟩ (.string s)) := Keep.set (S := fun j => j = g) w rfl i _
  subst hn
  have r := own_set h4 i (.string s)
  rw [flatS_set] at r
  refine ⟨S, hk.pk h1 (fun j hj e => (h5 g rfl).1 (e ▸ hj)), h2, h3.trans (hk.below (fun j e => by subst e; exact (h5 j rfl).2) h3.size), ?_, h5⟩
  unfold RowS
  rw [List.length_set]
  exact r

theorem load_px (N : Nat) (hN : N < 4611686018427387904) (a : Int) (hok : p.Ok N) (h : Px w0 w k q p v L) : Calls Try.prog 11 #[.pointer (some ⟨q, 0, none⟩), .int .i64 a] w fun e w' => e = .returned (.tuple #[.string (p.ldS a), .int .i64 (p.ldE a : Nat)]) ∧ Px w0 w' k q (p.ld a) v L := by
  obtain ⟨S, h1, h2, h3, h4, h5⟩ := h
  exact (load_any N hN a hok h1).mono fun e w' hh => ⟨hh.1, Px.step h2 h3 h4 h5 hh.2⟩
theorem store_px (N : Nat) (a : Int) (ha : I64 a) (s : ByteArray) (hs : s.size ≤ maxLen) (hok : p.Ok N) (h : Px w0 w k q p v L) : Calls Try.prog 13 #[.pointer (some ⟨q, 0, none⟩), .int .i64 a, .string s] w fun e w' => e = .returned (.int .i64 (p.stE a s : Nat)) ∧ Px w0 w' k q (p.st a s) v L := by
  obtain ⟨S, h1, h2, h3, h4, h5⟩ := h
  exact (store_any N a ha s hs hok h1).mono fun e w' hh => ⟨hh.1, Px.step h2 h3 h4 h5 hh.2⟩
theorem pin_px (N : Nat) (hN : N < 4611686018427386000) (a : Int) (hok : p.Ok N) (h : Px w0 w k q p v L) : Calls Try.prog 15 #[.pointer (some ⟨q, 0, none⟩), .int .i64 a] w fun e w' => e = .returned (.int .i64 (p.piE a : Nat)) ∧ Px w0 w' k q (p.pi a) v L := by
  obtain ⟨S, h1, h2, h3, h4, h5⟩ := h
  exact (ppin_any N hN a hok h1).mono fun e w' hh => ⟨hh.1, Px.step h2 h3 h4 h5 hh.2⟩
theorem unpin_px (N : Nat) (hN : N < 4611686018427387904) (a : Int) (ha : I64 a) (hok : p.Ok N) (h : Px w0 w k q p v L) : Calls Try.prog 16 #[.pointer (some ⟨q, 0, none⟩), .int .i64 a] w fun e w' => e = .returned (.int .i64 (p.unE a : Nat)) ∧ Px w0 w' k q (p.un a) v L := by
  obtain ⟨S, h1, h2, h3, h4, h5⟩ := h
  exact (unpin_any N hN a ha hok h1).mono fun e w' hh => ⟨hh.1, Px.step h2 h3 h4 h5 hh.2⟩
theorem commit_px (N : Nat) (hok : p.Ok N) (hz : Fit (p.d.lg.length + 5000)) (h : Px w0 w k q p v L) : Calls Try.prog 17 #[.pointer (some ⟨q, 0, none⟩)] w fun e w' => e = .returned (.int .i64 (p.cmE : Nat)) ∧ Px w0 w' k q p.cm v L := by
  obtain ⟨S, h1, h2, h3, h4, h5⟩ := h
  exact (pcommit_any N hok hz h1).mono fun e w' hh => ⟨hh.1, Px.step h2 h3 h4 h5 hh.2⟩
theorem undo_px (h : Px w0 w k q p v L) : Calls Try.prog 21 #[.pointer (some ⟨q, 0, none⟩)] w fun e w' => e = .returned (.tuple #[]) ∧ Px w0 w' k q p.undo v L := by
  obtain ⟨S, h1, h2, h3, h4, h5⟩ := h
  exact (undo_any h1).mono fun e w' hh => ⟨hh.1, Px.step h2 h3 h4 h5 hh.2⟩
theorem reads_px (h : Px w0 w k q p v L) : Calls Try.prog 20 #[.pointer (some ⟨q, 0, none⟩)] w fun e w' => e = .returned (.int .i64 (p.rd : Nat)) ∧ w = w' := by
  obtain ⟨S, h1, _⟩ := h
  exact reads_any h1
theorem held_px {N : Nat} (hok : p.Ok N) (h : Px w0 w k q p v L) : Calls Try.prog 19 #[.pointer (some ⟨q, 0, none⟩)] w fun e w' => ∃ v', e = .returned v' ∧ RowI w' w.heap.size v' (p.hs.map Hp.pl) ∧ Below w.heap.size w w' := by
  obtain ⟨S, h1, _⟩ := h
  exact held_any (by have := hok.len; have := hok.room; omega) h1
theorem dirty_px {N : Nat} (hok : p.Ok N) (h : Px w0 w k q p v L) : Calls Try.prog 18 #[.pointer (some ⟨q, 0, none⟩)] w fun e w' => ∃ v', e = .returned v' ∧ RowI w' w.heap.size v' (p.ch.map Pg.pl) ∧ Below w.heap.size w w' := by
  obtain ⟨S, h1, _⟩ := h
  exact dirty_any (by have := hok.few; omega) h1
theorem image_px (h : Px w0 w k q p v L) : Calls Try.prog 12 #[.pointer (some ⟨k, 0, none⟩)] w fun e w' => ∃ v', e = .returned v' ∧ RowS w' w.heap.size v' p.d.bs ∧ Below w.heap.size w w' := by
  obtain ⟨S, ⟨D, T, _, _, h3, _⟩, _⟩ := h
  exact image_any w D k p.d h3
end

/-- a disk made since w0 -/
def Dz (w0 w : World) (k : Nat) (d : Ds) : Prop := ∃ S, Dk w S k d ∧ (∀ j, S j → w0.heap.size ≤ j) ∧ Below w0.heap.size w0 w
theorem new_dz (n : Nat) (h1 : 64 ≤ n) (h2 : n ≤ 2048) (w0 w : World) (hb : Below w0.heap.size w0 w) : Calls Try.prog 8 #[.int .i64 (n : Nat)] w fun e w' => ∃ k, e = .returned (.tuple #[.pointer (some ⟨k, 0, none⟩), .int .i64 0]) ∧ Dz w0 w' k (nw n) :=
  (new_any n h1 h2 w).mono fun e w' hh => by
    obtain ⟨k, e1, hd, hb2⟩ := hh
    exact ⟨k, e1, _, hd, fun j hj => Nat.le_trans hb.size hj.1, hb.trans (hb2.mono hb.size)⟩
theorem pnew_dz {w0 w : World} {k : Nat} {d : Ds} (r : Nat) (hr : 1 ≤ r ∧ r ≤ 1024) (h : Dz w0 w k d) : Calls Try.prog 9 #[.pointer (some ⟨k, 0, none⟩), .int .i64 (r : Nat)] w fun e w' => ∃ q, e = .returned (.tuple #[.pointer (some ⟨q, 0, none⟩), .int .i64 0]) ∧ Px w0 w' k q (pw d r) (.slice none 0 0) [] := by
  obtain ⟨S, h1, h2, h3⟩ := h
  refine (pnew_any S k d r hr w h1).mono fun e w' hh => ?_
  obtain ⟨q, e1, ⟨S', h4, h5⟩, h6⟩ := hh
  refine ⟨q, e1, S', h4, fun j hj => ?_, h3.trans (h6.mono h3.size), World.ownsRow_nil _ _ _ _, fun g e => by simp [Value.ownBlock] at e⟩
  rcases h5 j hj with t | t
  · exact h2 j t
  · exact Nat.le_trans h3.size t
theorem pw_ok {d : Ds} (hd : d.Ok) {r : Nat} (hr : 1 ≤ r ∧ r ≤ 1024) : (pw d r).Ok 0 :=
  ⟨hd, hr, Nat.zero_le _, List.Pairwise.nil, List.Pairwise.nil, fun _ h => (by cases h), fun _ h => (by cases h), fun _ h => (by cases h), Nat.le_refl _⟩

end Go.Proofs.Ytoecopmbaoklkaa
