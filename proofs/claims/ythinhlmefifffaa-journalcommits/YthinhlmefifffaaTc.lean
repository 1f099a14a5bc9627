/-
  Two disks side by side, with a row of pages that is neither's.
-/
import Derived.Test.YthinhlmefifffaaRm
import Derived.Test.YthinhlmefifffaaLc
namespace Go.Proofs.Ythinhlmefifffaa
open Go.RowKit
set_option linter.unusedVariables false
set_option linter.unusedSimpArgs false
set_option maxRecDepth 100000

/-- the program's disk, the document's, and a row that is neither's, made since w0 -/
def Tx (w0 w : World) (k k' : Nat) (d e : Ds) (v : Value) (L : List Pg) : Prop :=
  ∃ S R, Dk w S k d ∧ Rk w R k' e ∧ (∀ j, S j → ¬ R j) ∧ (∀ j, S j → w0.heap.size ≤ j) ∧ (∀ j, R j → w0.heap.size ≤ j) ∧ Below w0.heap.size w0 w ∧ RowP w 0 v L ∧ ∀ g, v.ownBlock = some g → ¬ S g ∧ ¬ R g ∧ w0.heap.size ≤ g
theorem Tx.below {w0 w : World} {k k' : Nat} {d e : Ds} {v : Value} {L : List Pg} (h : Tx w0 w k k' d e v L) : Below w0.heap.size w0 w := by obtain ⟨S, R, _, _, _, _, _, h, _⟩ := h; exact h
theorem Tx.on {w0 w w' : World} {k k' : Nat} {d e : Ds} {v : Value} {L : List Pg} (h : Tx w0 w k k' d e v L) (hb : Below w.heap.size w w') : Tx w0 w' k k' d e v L := by
  obtain ⟨S, R, h1, h2, h3, h4, h5, h6, h7, h8⟩ := h
  exact ⟨S, R, h1.on hb, h2.on hb, h3, h4, h5, h6.trans (hb.mono h6.size), h7.on hb, h8⟩
theorem Tw.tx {w0 w w' : World} {k k' : Nat} {d e : Ds} {v : Value} {L : List Pg} (h : Tw w0 w k k' d e) (hb : Below w.heap.size w w') (hr : RowP w' w.heap.size v L) : Tx w0 w' k k' d e v L := by
  obtain ⟨S, R, h1, h2, h3, h4, h5, h6⟩ := h
  refine ⟨S, R, h1.on hb, h2.on hb, h3, h4, h5, h6.trans (hb.mono h6.size), own_base hr (Nat.zero_le _), fun g hg => ?_⟩
  have := ((hr : w'.ownsRow _ 54 2 _ _ _).lt g hg).1
  exact ⟨fun hs => by have := h1.2.1 g hs; omega, fun hs => by have := h2.2.1 g hs; omega, Nat.le_trans h6.size this⟩
theorem RowP.none (w : World) (B : Nat) : RowP w B (.slice none 0 0) [] := World.ownsRow_nil _ _ _ _
theorem Tw.tx0 {w0 w : World} {k k' : Nat} {d e : Ds} (h : Tw w0 w k k' d e) : Tx w0 w k k' d e (.slice none 0 0) [] := h.tx (Below.refl _ _) (RowP.none _ _)
/-- the program's disk is written on -/
theorem Tx.left {w0 w w' : World} {k k' : Nat} {d d' e : Ds} {v : Value} {L : List Pg} {S R : Nat → Prop} (h2 : Rk w R k' e) (hl : ∀ j, S j → j < w.heap.size) (h3 : ∀ j, S j → ¬ R j) (h4 : ∀ j, S j → w0.heap.size ≤ j) (h5 : ∀ j, R j → w0.heap.size ≤ j) (h6 : Below w0.heap.size w0 w) (h7 : RowP w 0 v L) (h8 : ∀ g, v.ownBlock = some g → ¬ S g ∧ ¬ R g ∧ w0.heap.size ≤ g) (h : Wm w S k d' w') : Tx w0 w' k k' d' e v L := by
  obtain ⟨S', g1, g2⟩ := h.disk
  refine ⟨S', R, g1, h.keep.rk h2 (fun j hj hs => h3 j hs hj), fun j hj hr => ?_, fun j hj => (g2 j hj).elim (h4 j) (fun h' => Nat.le_trans h6.size h'), h5, h6.trans (h.keep.below h4 h6.size), h.keep.row h7 (fun g hg => (h8 g hg).1), fun g hg => ⟨fun hs => ?_, (h8 g hg).2⟩⟩
  · rcases g2 j hj with h' | h'
    · exact h3 j h' hr
    · have := h2.2.1 j hr; omega
  · rcases g2 g hs with h' | h'
    · exact (h8 g hg).1 h'
    · have := ((h7 : w.ownsRow 0 54 2 _ _ _).lt g hg).2; omega
/-- the document's disk is written on -/
theorem Tx.right {w0 w w' : World} {k k' : Nat} {d e e' : Ds} {v : Value} {L : List Pg} {S R : Nat → Prop} (h1 : Dk w S k d) (h3 : ∀ j, S j → ¬ R j) (h4 : ∀ j, S j → w0.heap.size ≤ j) (h5 : ∀ j, R j → w0.heap.size ≤ j) (h6 : Below w0.heap.size w0 w) (h7 : RowP w 0 v L) (h8 : ∀ g, v.ownBlock = some g → ¬ S g ∧ ¬ R g ∧ w0.heap.size ≤ g) (h : Wr w R k' e' w') : Tx w0 w' k k' d e' v L := by
  obtain ⟨R', g1, kp, g2⟩ := h
  refine ⟨S, R', kp.dk h1 (fun j hj hs => h3 j hj hs), g1, fun j hj hr => ?_, h4, fun j hj => (g2 j hj).elim (h5 j) (fun h' => Nat.le_trans h6.size h'), h6.trans (kp.below h5 h6.size), kp.row h7 (fun g hg => (h8 g hg).2.1), fun g hg => ⟨(h8 g hg).1, fun hs => ?_, (h8 g hg).2.2⟩⟩
  · rcases g2 j hr with h' | h'
    · exact h3 j hj h'
    · have := h1.2.1 j hj; omega
  · rcases g2 g hs with h' | h'
    · exact (h8 g hg).2.1 h'
    · have := ((h7 : w.ownsRow 0 54 2 _ _ _).lt g hg).2; omega
section
variable (w0 w : World) (k k' : Nat) (d e : Ds) (v : Value) (L : List Pg)
theorem cut_tx (n : Int) (hn : -9223372036854775808 ≤ n ∧ n ≤ 9223372036854775807) (h : Tx w0 w k k' d e v L) : Calls Try.prog 15 #[.pointer (some ⟨k, 0, none⟩), .int .i64 n] w fun x w' => x = .returned (.tuple #[]) ∧ Tx w0 w' k k' (d.cut n) e v L := by
  obtain ⟨S, R, h1, h2, h3, h4, h5, h6, h7, h8⟩ := h
  exact (cut_any n hn w S k d h1).mono fun x w' hh => ⟨hh.1, Tx.left (d := d) h2 h1.2.1 h3 h4 h5 h6 h7 h8 ⟨⟨S, hh.2.1, Grows.refl _ _⟩, hh.2.2⟩⟩
theorem rCut_tx (n : Int) (hn : -9223372036854775808 ≤ n ∧ n ≤ 9223372036854775807) (h : Tx w0 w k k' d e v L) : Calls Try.prog 16 #[.pointer (some ⟨k', 0, none⟩), .int .i64 n] w fun x w' => x = .returned (.tuple #[]) ∧ Tx w0 w' k k' d (e.cut n) v L := by
  obtain ⟨S, R, h1, h2, h3, h4, h5, h6, h7, h8⟩ := h
  exact (rCut_any n hn w R k' e h2).mono fun x w' hh => ⟨hh.1, Tx.right (e := e) h1 h3 h4 h5 h6 h7 h8 ⟨R, hh.2.1, hh.2.2, Grows.refl _ _⟩⟩
theorem commit_tx (hf : ∀ p ∈ L, (-9223372036854775808 ≤ p.pl ∧ p.pl ≤ 9223372036854775807) ∧ p.data.size ≤ maxLen) (h : Tx w0 w k k' d e v L) (hz : Fit (d.lg.length + 5000)) : Calls Try.prog 18 #[.pointer (some ⟨k, 0, none⟩), v] w fun x w' => x = .returned (.int .i64 ((cmt d L).1 : Nat)) ∧ Tx w0 w' k k' (cmt d L).2 e v L := by
  obtain ⟨S, R, h1, h2, h3, h4, h5, h6, h7, h8⟩ := h
  exact (commit_any w S k d h1 v L (h7.lies (fun g hg => (h8 g hg).1) hf) hz).mono fun x w' hh => ⟨hh.1, Tx.left (d := d) h2 h1.2.1 h3 h4 h5 h6 h7 h8 hh.2⟩
theorem rCommit_tx (u : Value) (M : List Pg) (hl : LiesO w0 (fun _ => False) u M) (h : Tx w0 w k k' d e v L) (hz : Fit (e.lg.length + 5000)) : Calls Try.prog 19 #[.pointer (some ⟨k', 0, none⟩), u] w fun x w' => x = .returned (.int .i64 ((cmt e M).1 : Nat)) ∧ Tx w0 w' k k' d (cmt e M).2 v L := by
  obtain ⟨S, R, h1, h2, h3, h4, h5, h6, h7, h8⟩ := h
  have hl2 : LiesO w R u M := by
    obtain ⟨a, c, e1, e2, e3, e4⟩ := hl
    refine ⟨a, c, e1, e2, e3, fun i p hp => ?_⟩
    obtain ⟨b, off, f1, f2, _, f4, f5, f6⟩ := e4 i p hp
    exact ⟨b, off, f1, Nat.lt_of_lt_of_le f2 h6.size, fun hr => by have := h5 b hr; omega, (h6.cell (p := ⟨b, off + i * 2, none⟩) f2).trans f4, (h6.cell (p := ⟨b, off + i * 2 + 1, none⟩) f2).trans f5, f6⟩
  exact (rCommit_any w R k' e h2 u M hl2 hz).mono fun x w' hh => ⟨hh.1, Tx.right (e := e) h1 h3 h4 h5 h6 h7 h8 hh.2⟩
theorem recover_tx (h : Tx w0 w k k' d e v L) (hz : Fit (d.lg.length + 1500)) : Calls Try.prog 25 #[.pointer (some ⟨k, 0, none⟩)] w fun x w' => x = .returned (.tuple #[.int .i64 ((recv d).1 : Nat), .int .i64 ((recv d).2.1 : Nat)]) ∧ Tx w0 w' k k' (recv d).2.2 e v L := by
  obtain ⟨S, R, h1, h2, h3, h4, h5, h6, h7, h8⟩ := h
  exact (recover_any w S k d h1 hz).mono fun x w' hh => ⟨hh.1, Tx.left (d := d) h2 h1.2.1 h3 h4 h5 h6 h7 h8 hh.2⟩
theorem log_tx (h : Tx w0 w k k' d e v L) (hz : Fit d.lg.length) : Calls Try.prog 21 #[.pointer (some ⟨k, 0, none⟩)] w fun x w' => ∃ v', x = .returned v' ∧ RowP w' w.heap.size v' d.lg ∧ Below w.heap.size w w' := by
  obtain ⟨S, R, h1, h2, h3, h4, h5, h6, h7, h8⟩ := h
  exact log_any w S k d h1 hz
theorem image_tx (h : Tx w0 w k k' d e v L) : Calls Try.prog 23 #[.pointer (some ⟨k, 0, none⟩)] w fun x w' => ∃ v', x = .returned v' ∧ RowS w' w.heap.size v' d.bs ∧ Below w.heap.size w w' := by
  obtain ⟨S, R, h1, h2, h3, h4, h5, h6, h7, h8⟩ := h
  exact image_any w S k d h1
theorem down_tx (h : Tx w0 w k k' d e v L) : Calls Try.prog 24 #[.pointer (some ⟨k, 0, none⟩)] w fun x w' => x = .returned (.bool d.dn) ∧ w = w' := by
  obtain ⟨S, R, h1, h2, h3, h4, h5, h6, h7, h8⟩ := h
  exact down_any w S k d h1
end
theorem Tw.base {w0 w1 w : World} {k k' : Nat} {d e : Ds} (h : Tw w1 w k k' d e) (hb : Below w0.heap.size w0 w1) : Tw w0 w k k' d e := by
  obtain ⟨S, R, h1, h2, h3, h4, h5, h6⟩ := h
  exact ⟨S, R, h1, h2, h3, fun j hj => Nat.le_trans hb.size (h4 j hj), fun j hj => Nat.le_trans hb.size (h5 j hj), hb.trans (h6.mono hb.size)⟩
theorem Tx.tw {w0 w : World} {k k' : Nat} {d e : Ds} {v : Value} {L : List Pg} (h : Tx w0 w k k' d e v L) : Tw w0 w k k' d e := by
  obtain ⟨S, R, h1, h2, h3, h4, h5, h6, _⟩ := h
  exact ⟨S, R, h1, h2, h3, h4, h5, h6⟩
theorem Tw.below {w0 w : World} {k k' : Nat} {d e : Ds} (h : Tw w0 w k k' d e) : Below w0.heap.size w0 w := by obtain ⟨S, R, _, _, _, _, _, h⟩ := h; exact h
/-- the cells and rows of the document's disk -/
theorem Tx.rows {w0 w : World} {k k' : Nat} {d e : Ds} {v : Value} {L : List Pg} (h : Tx w0 w k k' d e v L) : ∃ ba bc la lc, w.cell? ⟨k', 0, none⟩ = some (.slice ba e.bs.length bc) ∧ w.cell? ⟨k', 1, none⟩ = some (.slice la e.lg.length lc) ∧ w.cell? ⟨k', 4, none⟩ = some (.bool e.dn) ∧ RowS w 0 (.slice ba e.bs.length bc) e.bs ∧ RowP w 0 (.slice la e.lg.length lc) e.lg ∧ k' < w.heap.size ∧ e.bs.length ≤ 2048 := by
  obtain ⟨S, R, h1, ⟨o1, o2, o3, bv, lv, told, left, o4, _, _, o5, o6, _⟩, _⟩ := h
  obtain ⟨ba, bc, e1⟩ := o5.form
  obtain ⟨la, lc, e2⟩ := o6.form
  subst e1
  subst e2
  exact ⟨ba, bc, la, lc, o4.cell rfl, o4.cell rfl, o4.cell rfl, o5, o6, o4.lt, o1.hi⟩
theorem Tx.row {w0 w : World} {k k' : Nat} {d e : Ds} {v : Value} {L : List Pg} (h : Tx w0 w k k' d e v L) : RowP w 0 v L := by obtain ⟨S, R, _, _, _, _, _, _, h, _⟩ := h; exact h

end Go.Proofs.Ythinhlmefifffaa
