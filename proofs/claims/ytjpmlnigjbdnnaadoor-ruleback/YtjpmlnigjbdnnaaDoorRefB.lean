/-
  What the document's At, Copy and Same answer of lists of binds.
-/
import Derived.Test.YtjpmlnigjbdnnaaDoorWakes
namespace Go.Proofs.YtjpmlnigjbdnnaaDoor
open Go.RowKit
set_option linter.unusedVariables false
set_option maxRecDepth 100000
set_option linter.unusedSimpArgs false

/-- the place of a variable's bind; -1: there is none -/
def idx : List Bd → ByteArray → Option Nat
  | [], _ => none
  | b :: r, nm => if b.nm = nm then some 0 else (idx r nm).map (· + 1)
def atI (l : List Bd) (nm : ByteArray) : Int := match idx l nm with | some k => (k : Int) | none => -1
theorem idx_some : ∀ {l : List Bd} {nm : ByteArray} {k : Nat}, idx l nm = some k → ∃ v, l[k]? = some ⟨nm, v⟩ ∧ look l nm = some v
  | [], nm, k, h => by cases h
  | b :: r, nm, k, h => by
    simp only [idx] at h
    by_cases e : b.nm = nm
    · rw [if_pos e] at h
      cases h
      subst e
      exact ⟨b.val, rfl, by simp [look]⟩
    · rw [if_neg e] at h
      cases h1 : idx r nm with
      | none => rw [h1] at h; cases h
      | some j =>
        rw [h1] at h
        cases h
        obtain ⟨v, h2, h3⟩ := idx_some h1
        exact ⟨v, by rw [List.getElem?_cons_succ]; exact h2, by simp only [look]; rw [if_neg e]; exact h3⟩
theorem idx_none : ∀ {l : List Bd} {nm : ByteArray}, idx l nm = none ↔ look l nm = none
  | [], nm => by simp [idx, look]
  | b :: r, nm => by
    simp only [idx, look]
    by_cases e : b.nm = nm
    · simp [e]
    · rw [if_neg e, if_neg e, ← idx_none (l := r)]
      cases idx r nm <;> simp
theorem idx_first : ∀ {l : List Bd} {nm : ByteArray} {k : Nat} {b : Bd}, (∀ (j : Nat) (x : Bd), j < k → l[j]? = some x → x.nm ≠ nm) → l[k]? = some b → b.nm = nm → idx l nm = some k
  | [], nm, k, b, _, h, _ => by simp at h
  | a :: r, nm, 0, b, _, h, e => by simp at h; subst h; simp [idx, e]
  | a :: r, nm, k + 1, b, hn, h, e => by
    have h0 : a.nm ≠ nm := hn 0 a (by omega) rfl
    simp only [idx]
    rw [if_neg h0, idx_first (k := k) (b := b) (fun j x hj hx => hn (j + 1) x (by omega) (by rw [List.getElem?_cons_succ]; exact hx)) (by rw [List.getElem?_cons_succ] at h; exact h) e]
    rfl
theorem idx_not {l : List Bd} {nm : ByteArray} (h : ∀ (j : Nat) (x : Bd), l[j]? = some x → x.nm ≠ nm) : idx l nm = none := by
  cases h1 : idx l nm with
  | none => rfl
  | some k =>
    obtain ⟨v, h2, _⟩ := idx_some h1
    exact absurd rfl (h k _ h2)

theorem at_any (w : World) (v : Value) (l : List Bd) (x : ByteArray) (h : LiesB w v l) :
    Calls Tryd.prog 85 #[v, .string x] w fun e w' => e = .returned (.int .i64 (atI l x)) ∧ w = w' := by
  have HV : Hid (LiesB w v l) := h
  obtain ⟨a, cap, rfl, c1, c2, _⟩ := h
  have hm : l.length ≤ 9223372036854775807 := by unfold maxLen at c2; omega
  obtain ⟨d, hd⟩ : ∃ d, atI l x = d := ⟨_, rfl⟩
  have HD : Hid (atI l x = d) := hd
  rw [hd]
  clear hd
  go_enter Tryd.func85, Tryd.ntmps85
  go_wp2_with fail
  go_loop [8] (fun i => ∃ k : Nat, k ≤ l.length ∧ i = .int .i64 k ∧ Hid (∀ (j : Nat) y, j < k → l[j]? = some y → y.nm ≠ x)) (fun i => l.length - (intOf i).toNat)
  case atStart => exact ⟨0, Nat.zero_le _, rfl, fun j y hj => by omega⟩
  case round =>
    obtain ⟨k, hk, rfl, HK⟩ := hrel
    by_cases hlt : k < l.length
    · obtain ⟨b, hb⟩ : ∃ b, l[k]? = some b := ⟨l[k], List.getElem?_eq_getElem hlt⟩
      obtain ⟨g, off, y, ha, hgl, d1, _⟩ : ∃ g off y, a = some ⟨g, off, none⟩ ∧ g < w.heap.size ∧ w.cell? ⟨g, off + k * 2, none⟩ = some (.string b.nm) ∧ True := by
        obtain ⟨a', c', hv', _, _, HC'⟩ := HV.out
        cases hv'
        obtain ⟨g, off, y, h1, h2, h3, _⟩ := HC' k b hb
        exact ⟨g, off, y, h1, h2, h3, trivial⟩
      subst ha
      have hki : (k : Int) < (l.length : Int) := by omega
      by_cases hxy : b.nm = x
      · have HR : Hid (d = (k : Int)) := by show _ = _; rw [← HD.out]; unfold atI; rw [idx_first HK.out hb hxy]
        obtain ⟨nm, val⟩ := b
        simp only at hxy d1
        subst hxy
        have hst : (nm.toList == nm.toList) = true := by simp
        clear HK hb
        go_wp2_with fail
        go_ret
        exact ⟨by rw [HR.out]; rfl, rfl⟩
      · have HK2 : Hid (∀ (j : Nat) y, j < k + 1 → l[j]? = some y → y.nm ≠ x) := fun j y hj hy => by
          by_cases e : j = k
          · subst e; rw [hb] at hy; cases hy; exact hxy
          · exact HK.out j y (by omega) hy
        have hst := bytes_ne hxy
        have hst2 : ¬ b.nm.toList = x.toList := by simpa using hst
        clear HK hb hxy
        go_wp2_with fail
        go_round
        case rel => exact ⟨k + 1, by omega, by go_num, HK2⟩
        case measure => simp [intOf]; omega
    · have HR : Hid (d = -1) := by
        show _ = _
        rw [← HD.out]
        unfold atI
        rw [idx_not (fun j y hy => HK.out j y (by have := (List.getElem?_eq_some_iff.1 hy).1; omega) hy)]
      have hki : ¬ (k : Int) < (l.length : Int) := by omega
      clear HK
      go_wp2_with fail
      go_ret
      exact ⟨by rw [HR.out]; rfl, rfl⟩

/-- one bind more -/
theorem more_bind {w W' : World} {B : Nat} {v v' : Value} {l : List Bd} {nm : ByteArray} {x : Value} {val : List Cl} {ps : List (ByteArray × Value)} {o : Obj} (hpl : ps.length = l.length) (hrow : w.ownsRow B 102 2 v l.length (flatP ps)) (hel : ∀ (i : Nat) b, l[i]? = some b → ∃ x, ps[i]? = some (b.nm, x) ∧ Owns w B x b.val)
    (hx : Owns w B x val) (hown' : W'.ownsRow B 102 2 v' (l.length + 1) (flatP ps ++ [.string nm, x])) (hgrow : (w.alloc o).grownBy W' v.ownBlock) : OwnsB W' B v' (l ++ [⟨nm, val⟩]) := by
  have keep : ∀ y m, Owns w B y m → Owns W' B y m := fun y m hy => by
    have h1 : (w.alloc o).ownsRow B 33 2 y m.length (flatC m) := World.ownsRow.alloc hy o
    exact h1.kept hgrow (unlikeB (l := m) h1 (hrow.alloc o))
  refine ⟨ps ++ [(nm, x)], by simp [hpl], by rw [List.length_append, flatP_append]; exact hown', fun j b hj => ?_⟩
  by_cases hjl : j < l.length
  · rw [List.getElem?_append_left hjl] at hj
    obtain ⟨y, hy, ho⟩ := hel j b hj
    exact ⟨y, by rw [List.getElem?_append_left (by omega)]; exact hy, keep _ _ ho⟩
  · rw [List.getElem?_append_right (by omega)] at hj
    obtain hj0 : j - l.length = 0 := by
      rcases Nat.eq_zero_or_pos (j - l.length) with h | h
      · exact h
      · rw [List.getElem?_eq_none (by simp; omega)] at hj; cases hj
    rw [hj0] at hj
    simp only [List.getElem?_cons_zero, Option.some.injEq] at hj
    subst hj
    exact ⟨x, by rw [List.getElem?_append_right (by omega), hpl, hj0]; rfl, keep _ _ hx⟩

end Go.Proofs.YtjpmlnigjbdnnaaDoor
