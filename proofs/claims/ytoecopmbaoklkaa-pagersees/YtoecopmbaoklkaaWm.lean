/-
  What the journal's write does with blocks that are handed out one by one.
-/
import Derived.Test.YtoecopmbaoklkaaIs
namespace Go.Proofs.Ytoecopmbaoklkaa
open Go.RowKit Go.Shelf
attribute [local go_sem] Oper.semAt_some
set_option linter.unusedVariables false
set_option linter.unusedSimpArgs false
set_option maxRecDepth 100000

theorem Dk.foot_cells {W : World} {S : Nat → Prop} {k : Nat} {d : Ds} (h : Dk W S k d) {g : Nat} (hg : Go.Proofs.Ytoecopmbaoklkaa.foot k W g) : ∃ o : Obj, W.heap[g]? = some o ∧ o.isCells = true := by
  obtain ⟨h1, h2, h3, bv, lv, h4, h5, h6, h7, h8⟩ := h
  have c0 : W.cell? ⟨k, 0, none⟩ = some bv := h4.cell rfl
  have c1 : W.cell? ⟨k, 1, none⟩ = some lv := h4.cell rfl
  rcases hg with rfl | ⟨v, hv, hb⟩ | ⟨v, hv, hb⟩
  · exact ⟨_, h4, rfl⟩
  · rw [c0] at hv
    cases hv
    rcases (h5 : W.ownsRow 0 9 1 bv _ _).2 with ⟨e, _⟩ | ⟨g', cap, cur, e, _, hgg, _⟩
    · rw [e] at hb; simp [Value.ownBlock] at hb
    · rw [e] at hb; simp [Value.ownBlock] at hb; subst hb; exact ⟨_, hgg, rfl⟩
  · rw [c1] at hv
    cases hv
    rcases (h6 : W.ownsRow 0 64 2 lv _ _).2 with ⟨e, _⟩ | ⟨g', cap, cur, e, _, hgg, _⟩
    · rw [e] at hb; simp [Value.ownBlock] at hb
    · rw [e] at hb; simp [Value.ownBlock] at hb; subst hb; exact ⟨_, hgg, rfl⟩
/-- a disk where some block that is no cells is turned -/
theorem Dk.turned {A B : World} {S : Nat → Prop} {k : Nat} {d : Ds} {row : Option Nat} (h : Dk A S k d) (hg : A.grownBy B row) (hr : ∀ r, row = some r → ∃ o : Obj, A.heap[r]? = some o ∧ o.isCells = false) : Dk B S k d := by
  obtain ⟨h1, h2, h3, bv, lv, h4, h5, h6, h7, h8⟩ := h
  have hne : ∀ (j : Nat) cs t, A.heap[j]? = some (Obj.cells cs t (0, 0)) → B.heap[j]? = A.heap[j]? := fun j cs t hj => hg.block j (lt_of_block hj) (fun e => by
    obtain ⟨o, ho, hc⟩ := hr j e.symm
    rw [hj] at ho; cases ho; cases hc)
  refine ⟨h1, fun j hj => Nat.lt_of_lt_of_le (h2 j hj) hg.size, h3, bv, lv, (hne k _ _ h4).trans h4, row_same' h5 (fun g hgv => ?_), row_same' h6 (fun g hgv => ?_), h7, h8⟩
  · rcases (h5 : A.ownsRow 0 9 1 bv _ _).2 with ⟨e, _⟩ | ⟨g', cap, cur, e, _, hgg, _⟩
    · rw [e] at hgv; simp [Value.ownBlock] at hgv
    · rw [e] at hgv; simp [Value.ownBlock] at hgv; subst hgv; exact hne _ _ _ hgg
  · rcases (h6 : A.ownsRow 0 64 2 lv _ _).2 with ⟨e, _⟩ | ⟨g', cap, cur, e, _, hgg, _⟩
    · rw [e] at hgv; simp [Value.ownBlock] at hgv
    · rw [e] at hgv; simp [Value.ownBlock] at hgv; subst hgv; exact hne _ _ _ hgg
theorem Keep.turned {S : Nat → Prop} {w A B : World} {row : Option Nat} (h : Keep S w A) (hg : A.grownBy B row) (hr : ∀ r, row = some r → w.heap.size ≤ r) : Keep S w B :=
  ⟨hg.os.trans h.os, hg.tape.trans h.tape, hg.output.trans h.output, Nat.le_trans h.size hg.size, fun j hj hn => (hg.block j (Nat.lt_of_lt_of_le hj h.size) (fun e => by have := hr j e.symm; omega)).trans (h.block j hj hn)⟩
theorem Keep.others {k : Nat} {W W' : World} {S : Nat → Prop} {d : Ds} (hd : Dk W S k d) (h : Keep (foot k W) W W') : KeepsOthers W W' := ⟨h.size, fun j o hj hc => (h.block j (lt_of_block hj) (fun hf => by
  obtain ⟨o', ho', hc'⟩ := hd.foot_cells hf
  rw [hj] at ho'; cases ho'; rw [hc] at hc'; cases hc')).trans hj⟩
theorem Ds.wrs_snoc {d : Ds} {pre : List Pg} (h : (d.wrs pre).1 = 0) (x : Pg) : d.wrs (pre ++ [x]) = ((d.wrs pre).2.wrE x.pl x.data, (d.wrs pre).2.wr x.pl x.data) := by
  rw [Ds.wrs_append, if_pos h, Ds.wrs_cons]
  split
  · rename_i h0; rw [h0]; rfl
  · rfl
theorem Ds.wrs_stop {d : Ds} {L : List Pg} {j : Nat} (h : ¬ (d.wrs (L.take j)).1 = 0) : d.wrs L = d.wrs (L.take j) := by
  conv => lhs; rw [← List.take_append_drop j L]
  rw [Ds.wrs_append, if_neg h]

/-- so many writes can be kept in mind -/
def Fit (n : Nat) : Prop := n * 24 ≤ 140737488355328
theorem Fit.le {a b : Nat} (h3 : Fit b) (h : a ≤ b) : Fit a := by unfold Fit at *; exact Nat.le_trans (Nat.mul_le_mul_right 24 h) h3
/-- between two writes -/
structure Wm (w : World) (S : Nat → Prop) (k : Nat) (d : Ds) (W : World) : Prop where
  disk : ∃ S', Dk W S' k d ∧ Grows S S' w
  keep : Keep S w W
theorem Wm.turned {w A B : World} {S : Nat → Prop} {k : Nat} {d : Ds} {row : Option Nat} (h : Wm w S k d A) (hg : A.grownBy B row) (hr : ∀ r, row = some r → w.heap.size ≤ r ∧ ∃ o : Obj, A.heap[r]? = some o ∧ o.isCells = false) : Wm w S k d B := by
  obtain ⟨S', h1, h2⟩ := h.disk
  exact ⟨⟨S', h1.turned hg (fun r e => (hr r e).2), h2⟩, h.keep.turned hg (fun r e => (hr r e).1)⟩
theorem Wm.on {w A B : World} {S : Nat → Prop} {k : Nat} {d : Ds} (h : Wm w S k d A) (hb : Below A.heap.size A B) : Wm w S k d B := h.turned (grown_of_below hb) (fun r e => by cases e)
theorem Wm.step {w A B : World} {S S' : Nat → Prop} {k : Nat} {d d' : Ds} (h : Wm w S k d A) (hd : Dk B S' k d') (hk : Keep (foot k A) A B) (hg : Grows (foot k A) S' A) : Wm w S k d' B := by
  obtain ⟨S1, h1, h2⟩ := h.disk
  obtain ⟨_, f2, _⟩ := h1.foot
  refine ⟨⟨S', hd, fun j hj => ?_⟩, h.keep.trans hk (fun j hj hf => ?_)⟩
  · rcases hg j hj with h' | h'
    · exact h2 j (f2 j h')
    · exact .inr (Nat.le_trans h.keep.size h')
  · rcases h2 j (f2 j hf) with h' | h'
    · exact h'
    · omega
/-- a block of another type is outside the disk -/
theorem Dk.box_out {W : World} {S : Nat → Prop} {k : Nat} {d : Ds} (h1 : Dk W S k d) {b : Nat} {cs : Array Value} {t : TypeId} (hb : Blk W b cs t) (ht : t ≠ 72 ∧ t ≠ 9 ∧ t ≠ 64) : ¬ Go.Proofs.Ytoecopmbaoklkaa.foot k W b := by
  intro hf
  obtain ⟨g1, g2, g3, bv, lv, g4, g5, g6, g7, g8⟩ := h1
  rcases hf with rfl | ⟨v, hv, hbb⟩ | ⟨v, hv, hbb⟩
  · unfold Blk at g4 hb
    rw [g4] at hb
    simp only [Option.some.injEq, Obj.cells.injEq] at hb
    exact ht.1 hb.2.1.symm
  · rw [show W.cell? ⟨k, 0, none⟩ = some bv from g4.cell rfl] at hv
    cases hv
    exact hb.ne g5 ht.2.1 hbb rfl
  · rw [show W.cell? ⟨k, 1, none⟩ = some lv from g4.cell rfl] at hv
    cases hv
    exact hb.ne g6 ht.2.2 hbb rfl
theorem Wm.set {w W : World} {S : Nat → Prop} {k : Nat} {d : Ds} (h : Wm w S k d W) {b : Nat} {cs : Array Value} {t : TypeId} (hb : Blk W b cs t) (ht : t = 25) (hw : w.heap.size ≤ b) (v : Value) : Wm w S k d (W.setCell ⟨b, 0, none⟩ v) := by
  subst ht
  obtain ⟨S1, h1, h2⟩ := h.disk
  obtain ⟨f1, f2, _⟩ := h1.foot
  have hn : ¬ foot k W b := h1.box_out hb (by decide)
  have hk : Keep (fun j => j = b) W (W.setCell ⟨b, 0, none⟩ v) := Keep.set (S := fun j => j = b) W rfl 0 v
  refine ⟨⟨foot k W, hk.dk f1 (fun j hj e => hn (e ▸ hj)), fun j hj => h2 j (f2 j hj)⟩, ?_⟩
  exact h.keep.trans hk (fun j hj e => by subst e; omega)

end Go.Proofs.Ytoecopmbaoklkaa
