/-
  Blocks of cells that are written into, and what stays beside them.
-/
import Derived.Test.YtgnllemihbemfaaRFit
namespace Go.Proofs.Ytgnllemihbemfaa
open Go.RowKit
set_option linter.unusedVariables false
set_option maxRecDepth 100000
set_option linter.unusedSimpArgs false

/-- a block of at least n cells of terms -/
def BlockOk (w : World) (g n : Nat) : Prop := ∃ cur, w.heap[g]? = some (.cells cur 47 (0, 0)) ∧ n * 2 ≤ cur.size
theorem heap_set_self {w : World} {g i : Nat} {u : Value} {cur : Array Value} {t : TypeId} (h : w.heap[g]? = some (.cells cur t (0, 0))) : (w.setCell ⟨g, i, none⟩ u).heap[g]? = some (.cells (cur.setIfInBounds i u) t (0, 0)) := by
  simp only [World.setCell, Array.getElem?_modify, h, if_true]
  rfl
theorem heap_set_other {w : World} {g k i : Nat} {u : Value} (h : k ≠ g) : (w.setCell ⟨g, i, none⟩ u).heap[k]? = w.heap[k]? := Below.heap_setCell _ _ _ _ h
theorem heap_set_size (w : World) (p : Addr) (u : Value) : (w.setCell p u).heap.size = w.heap.size := by simp [World.setCell]
theorem BlockOk.set {w : World} {g n : Nat} (h : BlockOk w g n) (g' i : Nat) (u : Value) : BlockOk (w.setCell ⟨g', i, none⟩ u) g n := by
  obtain ⟨cur, h1, h2⟩ := h
  by_cases e : g = g'
  · subst e
    exact ⟨_, heap_set_self h1, by rw [Array.size_setIfInBounds]; exact h2⟩
  · exact ⟨cur, (heap_set_other e).trans h1, h2⟩
theorem BlockOk.at {w : World} {g n j : Nat} (h : BlockOk w g n) (hj : j < n) : (∃ u, w.cell? ⟨g, j * 2, none⟩ = some u) ∧ w.frozen? ⟨g, j * 2, none⟩ = false := by
  obtain ⟨cur, h1, h2⟩ := h
  refine ⟨⟨cur[j * 2]'(by omega), ?_⟩, Lib.frozen_of_heap h1 _⟩
  rw [Lib.cell_of_heap h1]
  simp
theorem own_block {w : World} {B : Nat} {x : Value} {l : List Cl} (h : Owns w B x l) (hl : l ≠ []) : ∃ g cap, x = .slice (some ⟨g, 0, none⟩) l.length cap ∧ B ≤ g ∧ g < w.heap.size ∧ l.length ≤ cap ∧ cap ≤ maxLen ∧ BlockOk w g l.length := by
  rcases h.2 with ⟨_, h0⟩ | ⟨g, cap, cur, hv, hB, hg, h1, h2, h3, _⟩
  · exact absurd (List.eq_nil_of_length_eq_zero h0) hl
  · exact ⟨g, cap, hv, hB, (Array.getElem?_eq_some_iff.1 hg).1, h1, h2, cur, hg, by rw [h3]; exact Nat.mul_le_mul_right 2 h1⟩

theorem row_kept {w w' : World} {B : Nat} {e : TypeId} {size : Nat} {v : Value} {n : Nat} {xs : List Value} (h : w.ownsRow B e size v n xs) (he : ∀ k, B ≤ k → k < w.heap.size → w'.heap[k]? = w.heap[k]?) : w'.ownsRow B e size v n xs := by
  refine ⟨h.1, ?_⟩
  rcases h.2 with hn | ⟨g, cap, cur, hv, hB, hg, rest⟩
  · exact .inl hn
  · exact .inr ⟨g, cap, cur, hv, hB, (he g hB (Array.getElem?_eq_some_iff.1 hg).1).trans hg, rest⟩

/-- while the values of binds are written into: what stays as it was in w0, and where one may write -/
structure Mid (w0 wr : World) (lo hi : Nat) (la : Option Addr) (A : List Bd) : Prop where
  low : Below lo w0 wr
  high : ∀ k : Nat, hi ≤ k → wr.heap[k]? = w0.heap[k]?
  room : ∀ (i : Nat) b, A[i]? = some b → ∃ gr g cap cr, la = some ⟨gr, 0, none⟩ ∧ wr.heap[gr]? = some (.cells cr 44 (0, 0)) ∧ wr.cell? ⟨gr, i * 2 + 1, none⟩ = some (.slice (some ⟨g, 0, none⟩) b.val.length cap) ∧ lo ≤ g ∧ g < hi ∧ b.val.length ≤ cap ∧ cap ≤ maxLen ∧ BlockOk wr g b.val.length
theorem Mid.store {w0 wr : World} {lo hi : Nat} {la : Option Addr} {A : List Bd} (h : Mid w0 wr lo hi la A) {g i n : Nat} (hlo : lo ≤ g) (hhi : g < hi) (hb : BlockOk wr g n) (u : Value) : Mid w0 (wr.setCell ⟨g, i, none⟩ u) lo hi la A := by
  refine ⟨h.low.setCell hlo u, fun k hk => (heap_set_other (by omega)).trans (h.high k hk), fun j l hj => ?_⟩
  obtain ⟨gr, g2, cap, cr, h1, h2, h3, h4, h5, h6, h7, h8⟩ := h.room j l hj
  have hne : gr ≠ g := by
    intro e
    subst e
    obtain ⟨cur, hc, _⟩ := hb
    rw [h2] at hc
    cases hc
  exact ⟨gr, g2, cap, cr, h1, (heap_set_other hne).trans h2, (World.cell?_of_block (a := ⟨gr, j * 2 + 1, none⟩) (heap_set_other hne)).trans h3, h4, h5, h6, h7, h8.set _ _ _⟩
/-- a list of binds that a call made: it may be written into -/
theorem mid_of {w5 w7 : World} {lo hi n kc : Nat} {ka : Option Addr} {A : List Bd} (h : OwnsB w5 lo (.slice ka n kc) A) (hK : ∀ b ∈ A, b.val ≠ []) (hhi : w5.heap.size = hi) (hb : Below hi w5 w7) : Mid w7 w7 lo hi ka A := by
  subst hhi
  refine ⟨Below.refl _ _, fun _ _ => rfl, fun i bd hi => ?_⟩
  obtain ⟨ps, hpl, hrow5, hel5⟩ := h
  obtain ⟨x, hx, ho⟩ := hel5 i bd hi
  obtain ⟨g, cap, rfl, q1, q2, q3, q4, q5⟩ := own_block ho (hK bd (List.mem_of_getElem? hi))
  obtain ⟨a', cap', hv', _, _, hc⟩ := own_cells hrow5
  injection hv' with e1 _ _
  subst e1
  obtain ⟨gr, ha, _, hgl, hcx⟩ := hc (i * 2 + 1) _ (by rw [flatP_odd, hx]; rfl)
  obtain ⟨cr, hcr⟩ : ∃ cr, w5.heap[gr]? = some (.cells cr 44 (0, 0)) := by
    rcases hrow5.2 with ⟨e, _⟩ | ⟨g', cap2, cur, e, _, hg, _⟩
    · injection e with e1 _ _; rw [e1] at ha; cases ha
    · injection e with e1 _ _; rw [ha] at e1; cases e1; exact ⟨cur, hg⟩
  obtain ⟨cur, hcu, hsz⟩ := q5
  exact ⟨gr, g, cap, cr, ha, (hb.block gr hgl).trans hcr, (hb.cell (p := ⟨gr, i * 2 + 1, none⟩) hgl).trans hcx, q1, q2, q3, q4, cur, (hb.block g q2).trans hcu, hsz⟩

end Go.Proofs.Ytgnllemihbemfaa
