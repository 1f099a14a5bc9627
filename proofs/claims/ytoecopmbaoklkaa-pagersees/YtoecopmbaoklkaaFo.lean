/-
  What a disk's block reaches; what a write leaves alone; the blocks that settle a group, handed out one by one.
-/
import Derived.RangeFuncNested
import Derived.RangeFuncBound
import Derived.RangeFuncCalls
import Derived.RangeFuncLeaves
import Derived.Shelf.Abstract
import Derived.Shelf.RegionOpen
import Derived.OwnWalkIn
import Derived.TacticsInMore
import Derived.LoopNIn
import Derived.LoopIn
import Derived.Test.YtoecopmbaoklkaaHo
import Derived.Test.YtoecopmbaoklkaaRi
namespace Go.Proofs.Ytoecopmbaoklkaa
open Go.RowKit Go.Shelf
attribute [local go_sem] Oper.semAt_some
set_option linter.unusedVariables false
set_option linter.unusedSimpArgs false
set_option maxRecDepth 100000

/-- the blocks of the disk at k -/
def foot (k : Nat) (W : World) (g : Nat) : Prop := g = k ∨ (∃ v, W.cell? ⟨k, 0, none⟩ = some v ∧ v.ownBlock = some g) ∨ (∃ v, W.cell? ⟨k, 1, none⟩ = some v ∧ v.ownBlock = some g)
def footOk (k : Nat) (W : World) : Prop := ∀ g, foot k W g → g < W.heap.size
theorem foot_same {k : Nat} {W W' : World} (h : W'.heap[k]? = W.heap[k]?) (g : Nat) : foot k W' g ↔ foot k W g := by
  unfold foot
  rw [World.cell?_of_block (a := ⟨k, 0, none⟩) h, World.cell?_of_block (a := ⟨k, 1, none⟩) h]
theorem Dk.foot {W : World} {S : Nat → Prop} {k : Nat} {d : Ds} (h : Dk W S k d) : Dk W (foot k W) k d ∧ (∀ g, foot k W g → S g) ∧ footOk k W := by
  obtain ⟨h1, h2, h3, bv, lv, h4, h5, h6, h7, h8⟩ := h
  have c0 : W.cell? ⟨k, 0, none⟩ = some bv := h4.cell rfl
  have c1 : W.cell? ⟨k, 1, none⟩ = some lv := h4.cell rfl
  have hs : ∀ g, Go.Proofs.Ytoecopmbaoklkaa.foot k W g → S g := by
    intro g hg
    rcases hg with rfl | ⟨v, hv, hb⟩ | ⟨v, hv, hb⟩
    · exact h3
    · rw [c0] at hv; cases hv; exact h7 g hb
    · rw [c1] at hv; cases hv; exact h8 g hb
  exact ⟨⟨h1, fun j hj => h2 j (hs j hj), .inl rfl, bv, lv, h4, h5, h6, fun g hg => .inr (.inl ⟨bv, c0, hg⟩), fun g hg => .inr (.inr ⟨lv, c1, hg⟩)⟩, hs, fun g hg => h2 g (hs g hg)⟩
/-- cells outside the disk -/
def Pr (k : Nat) (W : World) (g : Nat) : Prop := (∃ o : Obj, W.heap[g]? = some o ∧ o.isCells = true) ∧ ¬ foot k W g
/-- such cells stand, and are outside the disk still -/
structure Kj (k : Nat) (W W' : World) : Prop where
  size : W.heap.size ≤ W'.heap.size
  keep : ∀ g, Pr k W g → W'.heap[g]? = W.heap[g]? ∧ ¬ foot k W' g
  ok : footOk k W → footOk k W'
theorem Kj.pr {k : Nat} {W W' : World} (h : Kj k W W') {g : Nat} (hp : Pr k W g) : Pr k W' g := by
  obtain ⟨⟨o, ho, hc⟩, _⟩ := id hp
  obtain ⟨h1, h2⟩ := h.keep g hp
  exact ⟨⟨o, h1.trans ho, hc⟩, h2⟩
theorem Kj.trans {k : Nat} {A B C : World} (h : Kj k A B) (h' : Kj k B C) : Kj k A C :=
  ⟨Nat.le_trans h.size h'.size, fun g hg => ⟨(h'.keep g (h.pr hg)).1.trans (h.keep g hg).1, (h'.keep g (h.pr hg)).2⟩, fun h0 => h'.ok (h.ok h0)⟩
theorem Kj.of_below {k : Nat} {W W' : World} (h : Below W.heap.size W W') (hk : k < W.heap.size) : Kj k W W' := by
  have hs := foot_same (h.block k hk)
  refine ⟨h.size, fun g hg => ?_, fun h0 g hg => Nat.lt_of_lt_of_le (h0 g ((hs g).1 hg)) h.size⟩
  obtain ⟨⟨o, ho, _⟩, hn⟩ := hg
  exact ⟨h.block g (lt_of_block ho), fun h' => hn ((hs g).1 h')⟩
theorem Kj.put {k : Nat} (W : World) (l : Nat) (o o' : Obj) (hl : k < l) (h : W.heap[l]? = some o) (hc : o.isCells = false) : Kj k W (W.putObj l o') := by
  have hs := foot_same (k := k) (W := W) (W' := W.putObj l o') (World.putObj_heap_other (by omega))
  have hz : (W.putObj l o').heap.size = W.heap.size := by simp [World.putObj]
  refine ⟨by rw [hz]; exact Nat.le_refl _, fun g hg => ?_, fun h0 g hg => by rw [hz]; exact h0 g ((hs g).1 hg)⟩
  obtain ⟨⟨o2, ho, h1⟩, hn⟩ := hg
  refine ⟨World.putObj_heap_other (fun e => ?_), fun h' => hn ((hs g).1 h')⟩
  subst e
  rw [h] at ho
  cases ho
  rw [hc] at h1
  cases h1
/-- a call that leaves all outside the disk alone -/
theorem Kj.of_keep {k : Nat} {W W' : World} {S' : Nat → Prop} {d' : Ds} (h : Keep (foot k W) W W') (hd : Dk W' S' k d') (hg : Grows (foot k W) S' W) : Kj k W W' := by
  obtain ⟨_, f2, f3⟩ := hd.foot
  refine ⟨h.size, fun g hp => ?_, fun _ => f3⟩
  obtain ⟨⟨o, ho, _⟩, hn⟩ := hp
  exact ⟨h.block g (lt_of_block ho) hn, fun h' => (hg g (f2 g h')).elim hn (fun h'' => by have := lt_of_block ho; omega)⟩
theorem cells_of_cell {W : World} {g i : Nat} {v : Value} (h : W.cell? ⟨g, i, none⟩ = some v) : ∃ o : Obj, W.heap[g]? = some o ∧ o.isCells = true := by
  have hlt := World.block_lt_of_cell? W _ h
  refine ⟨W.heap[g], Array.getElem?_eq_getElem hlt, ?_⟩
  unfold World.cell? at h
  simp only [Array.getElem?_eq_getElem hlt] at h
  cases ho : W.heap[g] <;> simp_all [Obj.isCells]
/-- what was outside the disk when the loop began, and what is new -/
theorem Pr.of_cell {k : Nat} {W : World} {g i : Nat} {v : Value} (h : W.cell? ⟨g, i, none⟩ = some v) (hn : ¬ foot k W g) : Pr k W g := ⟨cells_of_cell h, hn⟩

/-- a page, as it is handed on -/
def encP (p : Pg) : Array Value := #[.agg #[.int .i64 p.pl, .string p.data]]

end Go.Proofs.Ytoecopmbaoklkaa
