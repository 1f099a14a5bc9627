/-
  Lists of terms in memory: a row of the call's own, and each term's cells.
-/
import Derived.Test.YtjpmlnigjbdnnaaDoorFresh
import Derived.Test.YtjpmlnigjbdnnaaDoorPrint
namespace Go.Proofs.YtjpmlnigjbdnnaaDoor
open Go.RowKit
set_option linter.unusedVariables false
set_option maxRecDepth 100000
set_option linter.unusedSimpArgs false

theorem info23 : (Tryd.prog.info? 23).map (fun i => (i.zero, i.size, i.bytes)) = some (some (.slice none 0 0), 1, 24) := by kernel_rfl

/-- a list of terms of the call's own -/
def OwnsT (w : World) (B : Nat) (v : Value) (K : List (List Cl)) : Prop :=
  ∃ vs : List Value, w.ownsRow B 23 1 v K.length vs ∧ ∀ (j : Nat) l, K[j]? = some l → ∃ x, vs[j]? = some x ∧ Owns w B x l
/-- a list of terms, as it lies in memory -/
def LiesT (w : World) (v : Value) (K : List (List Cl)) : Prop :=
  ∃ a cap, v = .slice a K.length cap ∧ K.length ≤ cap ∧ cap ≤ maxLen ∧ ∀ (j : Nat) l, K[j]? = some l → ∃ b off x, a = some ⟨b, off, none⟩ ∧ b < w.heap.size ∧ w.cell? ⟨b, off + j, none⟩ = some x ∧ Lies w x l

theorem unlike {w : World} {B B' : Nat} {x v : Value} {l : List Cl} {n : Nat} {xs : List Value} (h : Owns w B x l) (hv : w.ownsRow B' 23 1 v n xs) : x.ownBlock = none ∨ x.ownBlock ≠ v.ownBlock := by
  rcases h.2 with ⟨rfl, _⟩ | ⟨g, cap, cur, rfl, _, hg, _⟩
  · exact .inl rfl
  · right
    rcases hv.2 with ⟨rfl, _⟩ | ⟨g', cap', cur', rfl, _, hg', _⟩
    · simp [Value.ownBlock]
    · intro e
      simp only [Value.ownBlock, Option.some.injEq] at e
      subst e
      rw [hg] at hg'
      cases hg'

theorem OwnsT.nil (w : World) (B : Nat) : OwnsT w B (.slice none 0 0) [] := ⟨[], World.ownsRow_nil _ _ _ _, fun j l h => by simp at h⟩
theorem OwnsT.on {w w' : World} {B : Nat} {v : Value} {K : List (List Cl)} (h : OwnsT w B v K) (hb : Below w.heap.size w w') : OwnsT w' B v K := by
  obtain ⟨vs, h1, h2⟩ := h
  refine ⟨vs, own_below h1 hb, fun j l hj => ?_⟩
  obtain ⟨x, hx, ho⟩ := h2 j l hj
  exact ⟨x, hx, own_below ho hb⟩
theorem OwnsT.base {w : World} {B B' : Nat} {v : Value} {K : List (List Cl)} (h : OwnsT w B v K) (hB : B' ≤ B) : OwnsT w B' v K := by
  obtain ⟨vs, h1, h2⟩ := h
  refine ⟨vs, own_base h1 hB, fun j l hj => ?_⟩
  obtain ⟨x, hx, ho⟩ := h2 j l hj
  exact ⟨x, hx, own_base ho hB⟩
theorem OwnsT.lies {w : World} {B : Nat} {v : Value} {K : List (List Cl)} (h : OwnsT w B v K) (hf : ∀ l ∈ K, Fine l) : LiesT w v K := by
  obtain ⟨vs, h1, h2⟩ := h
  obtain ⟨a, cap, hv, c1, c2, c3⟩ := own_cells h1
  refine ⟨a, cap, hv, c1, c2, fun j l hj => ?_⟩
  obtain ⟨x, hx, ho⟩ := h2 j l hj
  obtain ⟨g, ha, _, hlt, hc⟩ := c3 j x hx
  exact ⟨g, 0, x, ha, hlt, by rw [Nat.zero_add]; exact hc, Owns.lies ho (hf l (List.mem_of_getElem? hj))⟩
theorem LiesT.on {w w' : World} {v : Value} {K : List (List Cl)} (h : LiesT w v K) (hb : Below w.heap.size w w') : LiesT w' v K := by
  obtain ⟨a, cap, hv, c1, c2, c3⟩ := h
  refine ⟨a, cap, hv, c1, c2, fun j l hj => ?_⟩
  obtain ⟨b, off, x, ha, hlt, hc, hl⟩ := c3 j l hj
  exact ⟨b, off, x, ha, Nat.lt_of_lt_of_le hlt hb.size, (hb.cell (p := ⟨b, off + j, none⟩) hlt).trans hc, hl.on hb⟩

theorem one_cell (W : World) (u : Value) (t : TypeId) : ∀ j x, [u][j]? = some x → (W.alloc (.cells #[u] t)).cell? ((⟨W.heap.size, 0, none⟩ : Addr).add j) = some x := by
  intro j x hj
  match j, hj with
  | 0, hj => simp at hj; subst hj; simp [Addr.add]
/-- one term more -/
theorem more_term {w W' : World} {B : Nat} {v v' x : Value} {K : List (List Cl)} {l : List Cl} {vs : List Value} {o : Obj} (hrow : w.ownsRow B 23 1 v K.length vs) (hel : ∀ (j : Nat) l, K[j]? = some l → ∃ x, vs[j]? = some x ∧ Owns w B x l)
    (hx : Owns w B x l) (hown' : W'.ownsRow B 23 1 v' (K.length + 1) (vs ++ [x])) (hgrow : (w.alloc o).grownBy W' v.ownBlock) : OwnsT W' B v' (K ++ [l]) := by
  have keep : ∀ y m, Owns w B y m → Owns W' B y m := fun y m hy => by
    have h1 : (w.alloc o).ownsRow B 33 2 y m.length (flatC m) := World.ownsRow.alloc hy o
    exact h1.kept hgrow (unlike (l := m) h1 (hrow.alloc o))
  have hvs : vs.length = K.length := by have := hrow.1; omega
  refine ⟨vs ++ [x], by rw [List.length_append]; exact hown', fun j m hj => ?_⟩
  by_cases hjl : j < K.length
  · rw [List.getElem?_append_left hjl] at hj
    obtain ⟨y, hy, ho⟩ := hel j m hj
    exact ⟨y, by rw [List.getElem?_append_left (by omega)]; exact hy, keep _ _ ho⟩
  · rw [List.getElem?_append_right (by omega)] at hj
    obtain hj0 : j - K.length = 0 := by
      rcases Nat.eq_zero_or_pos (j - K.length) with h | h
      · exact h
      · rw [List.getElem?_eq_none (by simp; omega)] at hj; cases hj
    rw [hj0] at hj
    simp only [List.getElem?_cons_zero, Option.some.injEq] at hj
    subst hj
    exact ⟨x, by rw [List.getElem?_append_right (by omega), hvs, hj0]; rfl, keep _ _ hx⟩

/-- a part of a list of cells -/
theorem Lies.part {w : World} {b off n cap : Nat} {L M R : List Cl} {i : Nat} (h : Lies w (.slice (some ⟨b, off, none⟩) n cap) L) (hd : L.drop i = M ++ R) (hi : i + M.length ≤ L.length) : Lies w (.slice (some ⟨b, off + i * 2, none⟩) M.length (cap - i)) M := by
  obtain ⟨a, cap', hv, c1, c2, hf, hc⟩ := h
  cases hv
  have hget : ∀ k c, M[k]? = some c → L[i + k]? = some c := fun k c hk => by
    rw [← List.getElem?_drop, hd, List.getElem?_append_left (List.getElem?_eq_some_iff.1 hk).1]; exact hk
  refine ⟨some ⟨b, off + i * 2, none⟩, cap - i, rfl, by omega, by omega, fun c hcm => ?_, fun k c hk => ?_⟩
  · obtain ⟨k, hk⟩ := List.getElem?_of_mem hcm
    exact hf c (List.mem_of_getElem? (hget k c hk))
  · obtain ⟨b', off', ha, hlt, d1, d2⟩ := hc _ c (hget k c hk)
    cases ha
    refine ⟨b, off + i * 2, rfl, hlt, ?_, ?_⟩
    · rw [show off + i * 2 + k * 2 = off + (i + k) * 2 by omega]; exact d1
    · rw [show off + i * 2 + k * 2 + 1 = off + (i + k) * 2 + 1 by omega]; exact d2

/-- the place behind the first term of what is left -/
theorem posN_at {L : List Cl} {i : Nat} {nm : ByteArray} {k r : Fo} (h : L.drop i = (Fo.cons nm k r).flat) (hi : i ≤ L.length) : posN L i = i + k.size + 1 ∧ i + k.size + 1 ≤ L.length ∧ L.drop (i + k.size + 1) = r.flat := by
  have h1 : fo 1 (L.drop i) = some r.flat := by
    have := fo_flat (.cons nm k .nil) r.flat
    rw [h, Fo.flat_cons]; exact this
  obtain ⟨d1, d2, d3⟩ := fo_drop h1 hi
  have hl := congrArg List.length h
  simp only [List.length_drop, Fo.flat_length, Fo.size] at hl
  have hr : r.flat.length = r.size := Fo.flat_length r
  have e : L.length - r.flat.length = i + k.size + 1 := by omega
  rw [e] at d1
  exact ⟨by rw [posN_some h1, e], by omega, d1⟩

end Go.Proofs.YtjpmlnigjbdnnaaDoor
