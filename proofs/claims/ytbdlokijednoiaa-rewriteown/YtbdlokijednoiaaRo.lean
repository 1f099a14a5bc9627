/-
  A state that was answered, while it is written into: which blocks keep their shape.
-/
import Derived.Test.YtbdlokijednoiaaW8
namespace Go.Proofs.Ytbdlokijednoiaa
open Go.RowKit
set_option linter.unusedVariables false
set_option linter.unusedSimpArgs false
set_option maxRecDepth 100000

/-- what may be written into: cells of terms, texts, an op's kind -/
def Wt (t : TypeId) (j : Nat) : Prop := t = 49 ∨ t = 9 ∨ (t = 51 ∧ j % 4 = 0)
/-- what lies below B stands; each block keeps its sort, its size, and what may not be written into -/
structure Shp (B : Nat) (w0 wr : World) : Prop where
  low : Below B w0 wr
  shp : ∀ (k : Nat) (cur : Array Value) (t : TypeId), Blk w0 k cur t → ∃ cur', Blk wr k cur' t ∧ cur'.size = cur.size ∧ ∀ j, ¬ Wt t j → cur'[j]? = cur[j]?
theorem Shp.refl (B : Nat) (w : World) : Shp B w w := ⟨Below.refl _ _, fun k cur t h => ⟨cur, h, rfl, fun _ _ => rfl⟩⟩
theorem Shp.cell {B : Nat} {w0 wr : World} (h : Shp B w0 wr) {k : Nat} {cur : Array Value} {t : TypeId} (hk : Blk w0 k cur t) {j : Nat} {u : Value} (hj : ¬ Wt t j) (hu : cur[j]? = some u) : wr.cell? ⟨k, j, none⟩ = some u := by
  obtain ⟨cur', h1, h2, h3⟩ := h.shp k cur t hk
  exact h1.cell ((h3 j hj).trans hu)
theorem Shp.blk {B : Nat} {w0 wr : World} (h : Shp B w0 wr) {k : Nat} {cur : Array Value} {t : TypeId} (hk : Blk w0 k cur t) (ht : ∀ j, ¬ Wt t j) : Blk wr k cur t := by
  obtain ⟨cur', h1, h2, h3⟩ := h.shp k cur t hk
  have : cur' = cur := by
    apply Array.ext_getElem?
    intro j
    exact h3 j (ht j)
  rwa [this] at h1
theorem Shp.at {B : Nat} {w0 wr : World} (h : Shp B w0 wr) {k : Nat} {cur : Array Value} {t : TypeId} (hk : Blk w0 k cur t) {j : Nat} (hj : j < cur.size) : (∃ u, wr.cell? ⟨k, j, none⟩ = some u) ∧ wr.frozen? ⟨k, j, none⟩ = false := by
  obtain ⟨cur', h1, h2, h3⟩ := h.shp k cur t hk
  exact ⟨⟨cur'[j]'(by omega), h1.cell (Array.getElem?_eq_getElem (by omega))⟩, h1.free j⟩
theorem Shp.store {B : Nat} {w0 wr : World} (h : Shp B w0 wr) {k : Nat} {cur : Array Value} {t : TypeId} (hk : Blk w0 k cur t) {j : Nat} (hw : Wt t j) (hB : B ≤ k) (u : Value) : Shp B w0 (wr.setCell ⟨k, j, none⟩ u) := by
  refine ⟨h.low.setCell hB u, fun k' cur' t' hk' => ?_⟩
  obtain ⟨c, h1, h2, h3⟩ := h.shp k' cur' t' hk'
  by_cases e : k' = k
  · subst e
    have he : (Obj.cells cur t (0, 0)) = .cells cur' t' (0, 0) := by
      unfold Blk at hk hk'
      rw [hk] at hk'
      exact Option.some.inj hk'
    injection he with e1 e2 e3
    subst e1 e2
    refine ⟨_, h1.set j u, by rw [Array.size_setIfInBounds]; exact h2, fun i hi => ?_⟩
    have hne : j ≠ i := fun e => hi (e ▸ hw)
    rw [Array.getElem?_setIfInBounds_ne hne]
    exact h3 i hi
  · exact ⟨c, h1.other e u, h2, h3⟩

theorem row_at {w : World} {B : Nat} {e : TypeId} {sz : Nat} {a : Option Addr} {n n' c : Nat} {xs : List Value} (h : w.ownsRow B e sz (.slice a n c) n' xs) {i : Nat} (hi : i < n') :
    n = n' ∧ n' ≤ maxLen ∧ ∃ g cur, a = some ⟨g, 0, none⟩ ∧ B ≤ g ∧ Blk w g cur e ∧ n' * sz ≤ cur.size ∧ ∀ (j : Nat) (u : Value), xs[j]? = some u → cur[j]? = some u := by
  obtain ⟨hl, hn | ⟨g, cap, cur, hv, hB, hg, h1, h2, h3, h4⟩⟩ := h
  · obtain ⟨_, rfl⟩ := hn
    omega
  · injection hv with e1 e2 e3
    refine ⟨e2, by omega, g, cur, e1, hB, hg, by rw [h3]; exact Nat.mul_le_mul_right sz h1, fun j u hu => ?_⟩
    rw [← h4] at hu
    have hu2 : cur.toList[j]? = some u := by
      rw [List.getElem?_take] at hu
      split at hu
      · exact hu
      · cases hu
    simpa using hu2
/-- a list of m cells of its own -/
def TW (B : Nat) (w : World) (a : Option Addr) (m : Nat) : Prop := m ≤ 9223372036854775807 ∧ ∀ k, k < m → ∃ g cur, a = some ⟨g, 0, none⟩ ∧ B ≤ g ∧ Blk w g cur 49 ∧ k * 2 < cur.size
theorem tw_of {B : Nat} {w : World} {x : Value} {l : List Cl} (h : Owns w B x l) : ∃ a c, x = .slice a l.length c ∧ TW B w a l.length := by
  obtain ⟨a, c, e, h1, h2, _⟩ := own_cells h
  subst e
  refine ⟨a, c, rfl, by unfold maxLen at h2; omega, fun k hk => ?_⟩
  obtain ⟨_, _, g, cur, e, hB, hb, hs, _⟩ := row_at h hk
  exact ⟨g, cur, e, hB, hb, by omega⟩
structure XOk (B : Nat) (w : World) (oa : Option Addr) (no : Nat) (va : Option Addr) (nv : Nat) (ha : Option Addr) (nh : Nat) : Prop where
  lo : no ≤ 9223372036854775807
  lv : nv ≤ 9223372036854775807
  lh : nh ≤ 9223372036854775807
  vals : ∀ i, i < nv → ∃ g cur a m c, va = some ⟨g, 0, none⟩ ∧ Blk w g cur 24 ∧ cur[i]? = some (.slice a m c) ∧ TW B w a m
  ops : ∀ i, i < no → ∃ g cur a m c, oa = some ⟨g, 0, none⟩ ∧ B ≤ g ∧ Blk w g cur 51 ∧ i * 4 < cur.size ∧ cur[i * 4 + 3]? = some (.slice a m c) ∧ TW B w a m
  heads : ∀ i, i < nh → ∃ g cur, ha = some ⟨g, 0, none⟩ ∧ B ≤ g ∧ Blk w g cur 9 ∧ i < cur.size
theorem xok_of {B : Nat} {w : World} {oa va ha : Option Addr} {no oc nv vc nh hc : Nat} {s : Stt} (h : OutSt B w (.agg #[.slice oa no oc, .slice va nv vc, .int .i64 s.steps, .slice ha nh hc]) s) : no = s.ops.length ∧ nv = s.vals.length ∧ nh = s.heads.length ∧ XOk B w oa no va nv ha nh := by
  obtain ⟨ov, vv, hv, e, ⟨os, h0, h1, h2⟩, ⟨vs, h3, h4⟩, h5⟩ := h
  simp only [Value.agg.injEq, Array.mk.injEq, List.cons.injEq, and_true, true_and] at e
  obtain ⟨rfl, rfl, rfl⟩ := e
  have q1 : no = s.ops.length ∧ s.ops.length ≤ 9223372036854775807 := by
    obtain ⟨_, _, e, _, h, _⟩ := own_cells h1
    injection e with _ e2 _
    unfold maxLen at h; omega
  have q2 : nv = s.vals.length ∧ s.vals.length ≤ 9223372036854775807 := by
    obtain ⟨_, _, e, _, h, _⟩ := own_cells h3
    injection e with _ e2 _
    unfold maxLen at h; omega
  have q3 : nh = s.heads.length ∧ s.heads.length ≤ 9223372036854775807 := by
    obtain ⟨_, _, e, _, h, _⟩ := own_cells h5
    injection e with _ e2 _
    unfold maxLen at h; omega
  refine ⟨q1.1, q2.1, q3.1, by omega, by omega, by omega, fun i hi => ?_, fun i hi => ?_, fun i hi => ?_⟩
  · have hi' : i < s.vals.length := by omega
    obtain ⟨_, _, g, cur, e, hB, hb, hs, hx⟩ := row_at h3 hi'
    obtain ⟨x, a1, a2, a3⟩ := h4 i _ (List.getElem?_eq_getElem hi')
    obtain ⟨a, c, e2, ht⟩ := tw_of a3
    exact ⟨g, cur, a, _, c, e, hb, (hx i x a1).trans (by rw [e2]), ht⟩
  · have hi' : i < s.ops.length := by omega
    obtain ⟨_, _, g, cur, e, hB, hb, hs, hx⟩ := row_at h1 hi'
    obtain ⟨x, a1, a2, a3⟩ := h2 i _ (List.getElem?_eq_getElem hi')
    obtain ⟨a, c, e2, ht⟩ := tw_of a3
    exact ⟨g, cur, a, _, c, e, hB, hb, by omega, (hx (i * 4 + 3) x (flatO_at os i _ a1).2.2.2).trans (by rw [e2]), ht⟩
  · have hi' : i < s.heads.length := by omega
    obtain ⟨_, _, g, cur, e, hB, hb, hs, _⟩ := row_at h5 hi'
    exact ⟨g, cur, e, hB, hb, by omega⟩

end Go.Proofs.Ytbdlokijednoiaa
