/-
  What the layers below the seventh lean on: texts copied, rows of the call's own, blocks, cells alike.
-/
import Derived.Test.YtjpmlnigjbdnnaaDoorWake
import Derived.Test.YtjpmlnigjbdnnaaDoorTerm
import Derived.RegionTactic
import Derived.BigQuiet
import Derived.Deep.QuietTactic
import Derived.Deep.RegionLaw
import Derived.Deep.LoopGhost
import Derived.Deep.RegionWith
import Derived.Laws.StructEq
import Derived.Deep.RegionHeld3
import Derived.Shelf.Abstract
namespace Go.Proofs.YtjpmlnigjbdnnaaDoor
open Go.RowKit
set_option linter.unusedVariables false
set_option linter.unusedSimpArgs false
set_option maxRecDepth 100000

theorem set_grown (w : World) (g i : Nat) (u : Value) : w.grownBy (w.setCell ⟨g, i, none⟩ u) (some g) :=
  ⟨rfl, rfl, rfl, by simp [World.setCell], fun k _ hk => Below.heap_setCell _ _ _ _ (fun e => hk (by rw [e]))⟩

/-- a block of just these cells -/
def Blk (w : World) (k : Nat) (cs : Array Value) (t : TypeId) : Prop := w.heap[k]? = some (.cells cs t (0, 0))

theorem Blk.lt {w : World} {k : Nat} {cs : Array Value} {t : TypeId} (h : Blk w k cs t) : k < w.heap.size := lt_of_block h

theorem Blk.cell {w : World} {k : Nat} {cs : Array Value} {t : TypeId} (h : Blk w k cs t) {i : Nat} {v : Value} (hi : cs[i]? = some v) : w.cell? ⟨k, i, none⟩ = some v := by
  unfold Blk at h
  simp [World.cell?, h, hi]

theorem Blk.free {w : World} {k : Nat} {cs : Array Value} {t : TypeId} (h : Blk w k cs t) (i : Nat) : w.frozen? ⟨k, i, none⟩ = false := Lib.frozen_of_heap h _

theorem Blk.on {w w' : World} {B k : Nat} {cs : Array Value} {t : TypeId} (h : Blk w k cs t) (hb : Below B w w') (hk : k < B) : Blk w' k cs t := (hb.block k hk).trans h

theorem Blk.made (w : World) (cs : Array Value) (t : TypeId) : Blk (w.alloc (.cells cs t)) w.heap.size cs t := by
  unfold Blk World.alloc
  show (w.heap.push _)[w.heap.size]? = _
  rw [Array.getElem?_push_size]

theorem Blk.alloc {w : World} {k : Nat} {cs : Array Value} {t : TypeId} (h : Blk w k cs t) (o : Obj) : Blk (w.alloc o) k cs t := (Below.heap_alloc w o k h.lt).trans h

theorem Blk.other {w : World} {k p i : Nat} {cs : Array Value} {t : TypeId} (h : Blk w k cs t) (hk : k ≠ p) (v : Value) : Blk (w.setCell ⟨p, i, none⟩ v) k cs t := (Below.heap_setCell _ _ _ _ hk).trans h

theorem Blk.set {w : World} {k : Nat} {cs : Array Value} {t : TypeId} (h : Blk w k cs t) (i : Nat) (v : Value) : Blk (w.setCell ⟨k, i, none⟩ v) k (cs.setIfInBounds i v) t := by
  unfold Blk at h ⊢
  have hk := lt_of_block h
  have hg : w.heap[k] = .cells cs t (0, 0) := (Array.getElem?_eq_some_iff.1 h).2
  unfold World.setCell
  simp only [Array.getElem?_modify, if_pos, h, Option.map_some]
  rfl

theorem Blk.kept {w w' : World} {k p : Nat} {cs : Array Value} {t : TypeId} (h : Blk w k cs t) (hg : w.grownBy w' (some p)) (hk : k ≠ p) : Blk w' k cs t := (hg.block k h.lt (fun e => hk (Option.some.inj e))).trans h

theorem grown_on {w0 w w' : World} {r : Option Nat} (h : w0.grownBy w r) (hb : Below w.heap.size w w') : w0.grownBy w' r :=
  ⟨hb.os.trans h.os, hb.tape.trans h.tape, hb.output.trans h.output, Nat.le_trans h.size hb.size, fun k hk hr => (hb.block k (Nat.lt_of_lt_of_le hk h.size)).trans (h.block k hk hr)⟩

theorem Blk.madeAt (w : World) (cs : Array Value) (t : TypeId) {k : Nat} (h : w.heap.size = k) : Blk (w.alloc (.cells cs t)) k cs t := h ▸ Blk.made w cs t

theorem set3 {w : World} {k : Nat} {a b c : Value} {t : TypeId} (h : Blk w k #[a, b, c] t) (x y z : Value) : Blk (((w.setCell ⟨k, 0, none⟩ x).setCell ⟨k, 1, none⟩ y).setCell ⟨k, 2, none⟩ z) k #[x, y, z] t ∧ w.grownBy (((w.setCell ⟨k, 0, none⟩ x).setCell ⟨k, 1, none⟩ y).setCell ⟨k, 2, none⟩ z) (some k) :=
  ⟨((h.set 0 x).set 1 y).set 2 z, ((set_grown w k 0 x).trans (set_grown _ k 1 y)).trans (set_grown _ k 2 z)⟩

theorem own_apart {w w' : World} {B : Nat} {v : Value} {L : List Cl} {p : Nat} (h : Owns w B v L) (hg : w.grownBy w' (some p)) (hp : p < B) : Owns w' B v L :=
  World.ownsRow.kept h hg (by
    cases e : v.ownBlock with
    | none => exact .inl rfl
    | some k =>
      right
      intro e2
      have := (World.ownsRow.lt h k e).1
      cases e2
      omega)

end Go.Proofs.YtjpmlnigjbdnnaaDoor
