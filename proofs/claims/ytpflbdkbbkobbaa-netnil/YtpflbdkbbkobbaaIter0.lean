/-
  The places that a term leads to, and the sides there, as the net's iterator hands them out.
-/
import Derived.Test.YtpflbdkbbkobbaaBuild1
import Derived.RangeFuncNested
import Derived.RangeFuncBound
import Derived.RangeFuncCalls
import Derived.RangeFuncLeaves
import Derived.Shelf.Abstract
import Derived.Shelf.RegionOpen
import Derived.OwnWalkIn
import Derived.TacticsInMore
import Derived.LoopNIn
import Derived.LoopIn
namespace Go.Proofs.Ytpflbdkbbkobbaa
open Go.RowKit Go.Maps Go.Shelf
set_option linter.unusedVariables false
set_option maxRecDepth 100000
set_option linter.unusedSimpArgs false

/-- the places of the rules that may fit -/
def plcs (rs : List Rl) (t : List Cl) : List (Fin rs.length) := (List.finRange rs.length).filter fun j => may (keysR rs) [] t j.val
def plcsC (rs : List Rl) (t : List Cl) : List (Fin rs.length) := if check t = 0 then plcs rs t else []
theorem fin_range (n : Nat) : (List.finRange n).map (·.val) = List.range n := by
  apply List.ext_getElem
  · simp
  · intro i h1 h2; simp
theorem plcs_cand (rs : List Rl) (t : List Cl) : (plcs rs t).map (·.val) = cand (keysR rs) [] t := by
  unfold plcs cand
  have e : (keysR rs).length = rs.length := by unfold keysR; simp
  rw [e, ← fin_range, List.filter_map]
  rfl
/-- a side, as it is handed out -/
def elS (rs : List Rl) (la : Fin rs.length → Option Addr) (lc : Fin rs.length → Nat) (x : Fin rs.length) : Array Value := #[.agg #[.int .i64 (rs.get x).id, .slice (la x) (rs.get x).l.length (lc x)]]
/-- the sides, cell by cell -/
structure SidesF (w : World) (B : Nat) (a : Option Addr) (rs : List Rl) (la : Fin rs.length → Option Addr) (lc : Fin rs.length → Nat) : Prop where
  cells : ∀ x : Fin rs.length, ∃ g, a = some ⟨g, 0, none⟩ ∧ g < w.heap.size ∧ w.cell? ⟨g, x.val * 2, none⟩ = some (.int .i64 (rs.get x).id) ∧ w.cell? ⟨g, x.val * 2 + 1, none⟩ = some (.slice (la x) (rs.get x).l.length (lc x))
  lefts : ∀ x : Fin rs.length, Owns w B (.slice (la x) (rs.get x).l.length (lc x)) (rs.get x).l
theorem SidesF.on {w w' : World} {B : Nat} {a : Option Addr} {rs : List Rl} {la : Fin rs.length → Option Addr} {lc : Fin rs.length → Nat} (h : SidesF w B a rs la lc) (hb : Below w.heap.size w w') : SidesF w' B a rs la lc :=
  ⟨fun x => by
    obtain ⟨g, ha, hg, h1, h2⟩ := h.cells x
    exact ⟨g, ha, Nat.lt_of_lt_of_le hg hb.size, (hb.cell (p := ⟨g, x.val * 2, none⟩) hg).trans h1, (hb.cell (p := ⟨g, x.val * 2 + 1, none⟩) hg).trans h2⟩, fun x => own_below (h.lefts x) hb⟩
theorem SidesAt.take {w : World} {B : Nat} {sv : Value} {rs : List Rl} (h : SidesAt w B sv rs) : ∃ a cap la lc, sv = .slice a rs.length cap ∧ rs.length ≤ cap ∧ cap ≤ maxLen ∧ SidesF w B a rs la lc := by
  obtain ⟨ps, hpl, hrow, hel⟩ := h
  obtain ⟨a, cap, hv, h1, h2, h3⟩ := own_cells hrow
  have hx : ∀ x : Fin rs.length, ∃ q : Option Addr × Nat, ps[x.val]? = some ((rs.get x).id, .slice q.1 (rs.get x).l.length q.2) ∧ Owns w B (.slice q.1 (rs.get x).l.length q.2) (rs.get x).l := fun x => by
    obtain ⟨y, e1, e2⟩ := hel x.val (rs.get x) (List.getElem?_eq_getElem x.isLt)
    obtain ⟨ya, yc, hy, _⟩ := own_cells e2
    subst hy
    exact ⟨(ya, yc), e1, e2⟩
  refine ⟨a, cap, fun x => (hx x).choose.1, fun x => (hx x).choose.2, hv, h1, h2, fun x => ?_, fun x => (hx x).choose_spec.2⟩
  have e1 := (hx x).choose_spec.1
  obtain ⟨f0, f1⟩ := flatS_at ps x.val _ e1
  obtain ⟨g, ha, _, hg, q0⟩ := h3 _ _ f0
  obtain ⟨g', ha', _, _, q1⟩ := h3 _ _ f1
  rw [ha] at ha'
  cases ha'
  exact ⟨g, ha, hg, q0, q1⟩

/-- what the rounds of a loop over a net leave alone: old memory but for one block, and what is guarded -/
structure Keeps (w0 : World) (ex : Option Nat) (Kp : World → World → Prop) (Pr : World → Nat → Prop) : Prop where
  old : ∀ {W W'}, Kp W W' → ∀ g, g < w0.heap.size → some g ≠ ex → W'.heap[g]? = W.heap[g]?
  row : ∀ {W W' g}, Kp W W' → Pr W g → W'.heap[g]? = W.heap[g]? ∧ Pr W' g
  new : ∀ {W g cur t}, Below w0.heap.size w0 W → w0.heap.size ≤ g → W.heap[g]? = some (.cells cur t (0, 0)) → Pr W g

end Go.Proofs.Ytpflbdkbbkobbaa
