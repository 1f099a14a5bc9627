/-
  What the document's At, Copy and Same answer of lists of binds.
-/
import Derived.Test.YtjpmlnigjbdnnabDoorWakes
namespace Go.Proofs.YtjpmlnigjbdnnabDoor
open Go.RowKit
set_option linter.unusedVariables false
set_option maxRecDepth 100000
set_option linter.unusedSimpArgs false

/-- the place of a variable's bind; -1: there is none -/
def idx : List Bd → ByteArray → Option Nat
  | [], _ => none
  | b :: r, nm => if b.nm = nm then some 0 else (idx r nm).map (· + 1)
def atI (l : List Bd) (nm : ByteArray) : Int := match idx l nm with | some k => (k : Int) | none => -1
theorem idx_some : ∀ {l : List Bd} {nm : ByteArray} {k : Nat}, idx l nm = some k → ∃ v, l[k]? = some ⟨nm, v⟩ ∧ look l nm = some v
  | [], nm, k, h => by cases h
  | b :: r, nm, k, h => by
    simp only [idx] at h
    by_cases e : b.nm = nm
    · rw [if_pos e] at h
      cases h
      subst e
      exact ⟨b.val, rfl, by simp [look]⟩
    · rw [if_neg e] at h
      cases h1 : idx r nm with
      | none => rw [h1] at h; cases h
      | some j =>
        rw [h1] at h
        cases h
        obtain ⟨v, h2, h3⟩ := idx_some h1
        exact ⟨v, by rw [List.getElem?_cons_succ]; exact h2, by simp only [look]; rw [if_neg e]; exact h3⟩
theorem idx_none : ∀ {l : List Bd} {nm : ByteArray}, idx l nm = none ↔ look l nm = none
  | [], nm => by simp [idx, look]
  | b :: r, nm => by
    simp only [idx, look]
    by_cases e : b.nm = nm
    · simp [e]
    · rw [if_neg e, if_neg e, ← idx_none (l := r)]
      cases idx r nm <;> simp
theorem idx_first : ∀ {l : List Bd} {nm : ByteArray} {k : Nat} {b : Bd}, (∀ (j : Nat) (x : Bd), j < k → l[j]? = some x → x.nm ≠ nm) → l[k]? = some b → b.nm = nm → idx l nm = some k
  | [], nm, k, b, _, h, _ => by simp at h
  | a :: r, nm, 0, b, _, h, e => by simp at h; subst h; simp [idx, e]
  | a :: r, nm, k + 1, b, hn, h, e => by
    have h0 : a.nm ≠ nm := hn 0 a (by omega) rfl
    simp only [idx]
    rw [if_neg h0, idx_first (k := k) (b := b) (fun j x hj hx => hn (j + 1) x (by omega) (by rw [List.getElem?_cons_succ]; exact hx)) (by rw [List.getElem?_cons_succ] at h; exact h) e]
    rfl
theorem idx_not {l : List Bd} {nm : ByteArray} (h : ∀ (j : Nat) (x : Bd), l[j]? = some x → x.nm ≠ nm) : idx l nm = none := by
  cases h1 : idx l nm with
  | none => rfl
  | some k =>
    obtain ⟨v, h2, _⟩ := idx_some h1
    exact absurd rfl (h k _ h2)

/-- one bind more -/
theorem more_bind {w W' : World} {B : Nat} {v v' : Value} {l : List Bd} {nm : ByteArray} {x : Value} {val : List Cl} {ps : List (ByteArray × Value)} {o : Obj} (hpl : ps.length = l.length) (hrow : w.ownsRow B 67 2 v l.length (flatP ps)) (hel : ∀ (i : Nat) b, l[i]? = some b → ∃ x, ps[i]? = some (b.nm, x) ∧ Owns w B x b.val)
    (hx : Owns w B x val) (hown' : W'.ownsRow B 67 2 v' (l.length + 1) (flatP ps ++ [.string nm, x])) (hgrow : (w.alloc o).grownBy W' v.ownBlock) : OwnsB W' B v' (l ++ [⟨nm, val⟩]) := by
  have keep : ∀ y m, Owns w B y m → Owns W' B y m := fun y m hy => by
    have h1 : (w.alloc o).ownsRow B 30 2 y m.length (flatC m) := World.ownsRow.alloc hy o
    exact h1.kept hgrow (unlikeB (l := m) h1 (hrow.alloc o))
  refine ⟨ps ++ [(nm, x)], by simp [hpl], by rw [List.length_append, flatP_append]; exact hown', fun j b hj => ?_⟩
  by_cases hjl : j < l.length
  · rw [List.getElem?_append_left hjl] at hj
    obtain ⟨y, hy, ho⟩ := hel j b hj
    exact ⟨y, by rw [List.getElem?_append_left (by omega)]; exact hy, keep _ _ ho⟩
  · rw [List.getElem?_append_right (by omega)] at hj
    obtain hj0 : j - l.length = 0 := by
      rcases Nat.eq_zero_or_pos (j - l.length) with h | h
      · exact h
      · rw [List.getElem?_eq_none (by simp; omega)] at hj; cases hj
    rw [hj0] at hj
    simp only [List.getElem?_cons_zero, Option.some.injEq] at hj
    subst hj
    exact ⟨x, by rw [List.getElem?_append_right (by omega), hpl, hj0]; rfl, keep _ _ hx⟩

end Go.Proofs.YtjpmlnigjbdnnabDoor
