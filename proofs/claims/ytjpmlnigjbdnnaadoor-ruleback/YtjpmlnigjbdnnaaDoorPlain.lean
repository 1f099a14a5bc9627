/-
  Layer 4 as plain functions of lists: cells, forests, whether a list of cells is a term, and the reader; and what is known of them.
-/
import Derived.Test.YtjpmlnigjbdnnaaDoorNames
namespace Go.Proofs.YtjpmlnigjbdnnaaDoor
open Go.Lib
set_option linter.unusedVariables false
set_option maxRecDepth 100000

/-- a cell -/
structure Cl where
  nm : ByteArray
  ar : Int
deriving DecidableEq

/-- a forest: a name, what stands below it, what stands behind it -/
inductive Fo where
  | nil
  | cons (nm : ByteArray) (kids rest : Fo)

def Fo.len : Fo → Nat
  | .nil => 0
  | .cons _ _ r => r.len + 1
def Fo.size : Fo → Nat
  | .nil => 0
  | .cons _ k r => k.size + r.size + 1
def Fo.flat : Fo → List Cl
  | .nil => []
  | .cons nm k r => ⟨nm, (k.len : Nat)⟩ :: (k.flat ++ r.flat)
def Fo.dep : Fo → Nat
  | .nil => 0
  | .cons _ k r => max (k.dep + 1) r.dep
/-- the terms of a forest, each as its cells -/
def Fo.trees : Fo → List (List Cl)
  | .nil => []
  | .cons nm k r => (⟨nm, (k.len : Nat)⟩ :: k.flat) :: r.trees
def wrapP (n : Nat) (l : List UInt8) : List UInt8 := if n = 0 then [] else 40 :: (l ++ [41])
def moreC (n : Nat) (l : List UInt8) : List UInt8 := if n = 0 then [] else 44 :: l
def Fo.text : Fo → List UInt8
  | .nil => []
  | .cons nm k r => nm.data.toList ++ wrapP k.len k.text ++ moreC r.len r.text

theorem Fo.flat_length : ∀ f : Fo, f.flat.length = f.size
  | .nil => rfl
  | .cons _ k r => by simp only [Fo.flat, Fo.size, List.length_cons, List.length_append, Fo.flat_length k, Fo.flat_length r]
theorem Fo.len_le : ∀ f : Fo, f.len ≤ f.size
  | .nil => Nat.le_refl _
  | .cons _ k r => by have := Fo.len_le r; simp only [Fo.len, Fo.size]; omega
theorem Fo.trees_length : ∀ f : Fo, f.trees.length = f.len
  | .nil => rfl
  | .cons _ k r => by simp only [Fo.trees, Fo.len, List.length_cons, Fo.trees_length r]
theorem Fo.trees_flatten : ∀ f : Fo, f.trees.flatten = f.flat
  | .nil => rfl
  | .cons _ k r => by simp only [Fo.trees, Fo.flat, List.flatten_cons, Fo.trees_flatten r, List.cons_append]
theorem Fo.len_zero : ∀ {f : Fo}, f.len = 0 → f = .nil
  | .nil, _ => rfl
  | .cons _ _ _, h => by simp [Fo.len] at h

/-- what is behind the first n terms of a list of cells -/
def fo : Nat → List Cl → Option (List Cl)
  | 0, l => some l
  | _ + 1, [] => none
  | n + 1, c :: r => fo (c.ar.toNat + n) r

theorem fo_zero (l : List Cl) : fo 0 l = some l := by cases l <;> rfl
theorem fo_nil (n : Nat) : fo (n + 1) [] = none := rfl
theorem fo_cons (n : Nat) (c : Cl) (r : List Cl) : fo (n + 1) (c :: r) = fo (c.ar.toNat + n) r := rfl
theorem fo_add (b : Nat) : ∀ (l : List Cl) (a : Nat), fo (a + b) l = (fo a l).bind (fo b)
  | [], 0 => by simp [fo_zero]
  | c :: r, 0 => by simp [fo_zero]
  | [], a + 1 => by
    rw [show a + 1 + b = (a + b) + 1 by omega]; rfl
  | c :: r, a + 1 => by
    rw [show a + 1 + b = (a + b) + 1 by omega, fo_cons, fo_cons, show c.ar.toNat + (a + b) = (c.ar.toNat + a) + b by omega]
    exact fo_add b r _
theorem fo_suffix : ∀ (l : List Cl) (n : Nat) (r : List Cl), fo n l = some r → ∃ a, l = a ++ r ∧ fo n a = some [] ∧ n ≤ a.length
  | l, 0, r, h => by rw [fo_zero] at h; cases h; exact ⟨[], rfl, rfl, Nat.zero_le _⟩
  | [], n + 1, r, h => by cases h
  | c :: l, n + 1, r, h => by
    rw [fo_cons] at h
    obtain ⟨a, rfl, h2, h3⟩ := fo_suffix l _ r h
    exact ⟨c :: a, rfl, by rw [fo_cons]; exact h2, by simp; omega⟩
theorem fo_app : ∀ (l : List Cl) (n : Nat) (r s : List Cl), fo n l = some r → fo n (l ++ s) = some (r ++ s)
  | l, 0, r, s, h => by rw [fo_zero] at h ⊢; cases h; rfl
  | [], n + 1, r, s, h => by cases h
  | c :: l, n + 1, r, s, h => by
    rw [fo_cons] at h
    rw [List.cons_append, fo_cons]
    exact fo_app l _ r s h
theorem fo_flat : ∀ (f : Fo) (r : List Cl), fo f.len (f.flat ++ r) = some r
  | .nil, r => fo_zero r
  | .cons nm k q, r => by
    show fo (q.len + 1) _ = _
    simp only [Fo.flat, List.cons_append, List.append_assoc]
    rw [fo_cons, show ((k.len : Nat) : Int).toNat = k.len by omega, fo_add, fo_flat k]
    exact fo_flat q r
/-- each list that is read through is a forest -/
theorem fo_forest : ∀ (n : Nat) (l : List Cl) (m : Nat), l.length ≤ n → (∀ c ∈ l, 0 ≤ c.ar) → fo m l = some [] → ∃ f : Fo, f.len = m ∧ f.flat = l := by
  intro n
  induction n with
  | zero =>
    intro l m hl _ h
    obtain rfl : l = [] := List.eq_nil_of_length_eq_zero (by omega)
    cases m with
    | zero => exact ⟨.nil, rfl, rfl⟩
    | succ m => cases h
  | succ n ih =>
    intro l m hl ha h
    cases m with
    | zero =>
      rw [fo_zero] at h; cases h
      exact ⟨.nil, rfl, rfl⟩
    | succ m =>
      cases l with
      | nil => cases h
      | cons c l =>
        rw [fo_cons, fo_add] at h
        cases h1 : fo c.ar.toNat l with
        | none => rw [h1] at h; cases h
        | some r =>
          rw [h1] at h
          obtain ⟨a, rfl, h2, h3⟩ := fo_suffix _ _ _ h1
          simp only [List.length_cons, List.length_append] at hl
          obtain ⟨k, k1, k2⟩ := ih a _ (by omega) (fun c hc => ha c (by simp [hc])) h2
          obtain ⟨q, q1, q2⟩ := ih r _ (by omega) (fun c hc => ha c (by simp [hc])) h
          refine ⟨.cons c.nm k q, by simp [Fo.len, q1], ?_⟩
          simp only [Fo.flat, k2, q2, k1]
          have : ((c.ar.toNat : Nat) : Int) = c.ar := by have := ha c (by simp); omega
          rw [this]
/-- at each place of what is read through a term begins -/
theorem fo_each : ∀ (a b : List Cl) (n : Nat), fo n (a ++ b) = some [] → b ≠ [] → ∃ r, fo 1 b = some r
  | [], b, 0, h, hb => by
    rw [List.nil_append, fo_zero] at h; simp at h; exact absurd h hb
  | [], b, n + 1, h, hb => by
    rw [List.nil_append, show n + 1 = 1 + n by omega, fo_add] at h
    cases h1 : fo 1 b with
    | none => rw [h1] at h; cases h
    | some r => exact ⟨r, rfl⟩
  | c :: a, b, 0, h, hb => by rw [fo_zero] at h; simp at h
  | c :: a, b, n + 1, h, hb => by
    rw [List.cons_append, fo_cons] at h
    exact fo_each a b _ h hb

/-- what is wrong with one cell -/
def cellErr (c : Cl) : Nat :=
  if kind c.nm.data.toList = 0 then 4 else if c.ar < 0 ∨ (if kind c.nm.data.toList = 2 then 0 else 4) < c.ar then 5 else 0
def cellsErr : List Cl → Nat
  | [] => 0
  | c :: r => if cellErr c = 0 then cellsErr r else cellErr c
/-- what is wrong with a list of cells -/
def check (L : List Cl) : Nat :=
  if 64 < L.length then 6 else if cellsErr L = 0 then (if fo 1 L = some [] then 0 else 3) else cellsErr L

theorem cellsErr_zero : ∀ {L : List Cl}, cellsErr L = 0 ↔ ∀ c ∈ L, cellErr c = 0
  | [] => by simp [cellsErr]
  | c :: r => by
    simp only [cellsErr, List.mem_cons, forall_eq_or_imp]
    split
    · rename_i h; rw [cellsErr_zero]; exact ⟨fun h2 => ⟨h, h2⟩, fun h2 => h2.2⟩
    · rename_i h; exact ⟨fun h2 => absurd h2 h, fun h2 => absurd h2.1 h⟩
theorem cellErr_ar {c : Cl} (h : cellErr c = 0) : 0 ≤ c.ar ∧ c.ar ≤ 4 := by
  unfold cellErr at h
  by_cases h1 : kind c.nm.data.toList = 0
  · rw [if_pos h1] at h; cases h
  · rw [if_neg h1] at h
    by_cases h2 : c.ar < 0 ∨ (if kind c.nm.data.toList = 2 then 0 else 4) < c.ar
    · rw [if_pos h2] at h; cases h
    · constructor
      · omega
      · split at h2 <;> omega
theorem cellErr_kind {c : Cl} (h : cellErr c = 0) : kind c.nm.data.toList ≠ 0 := by
  unfold cellErr at h
  split at h
  · cases h
  · assumption
theorem cellErr_le (c : Cl) : cellErr c ≤ 5 := by unfold cellErr; (repeat' split) <;> omega
theorem cellsErr_le : ∀ L, cellsErr L ≤ 5
  | [] => by decide
  | c :: r => by unfold cellsErr; split; exact cellsErr_le r; exact cellErr_le c
theorem check_le (L : List Cl) : check L ≤ 6 := by
  have := cellsErr_le L
  unfold check; (repeat' split) <;> omega
theorem check_zero {L : List Cl} (h : check L = 0) : L.length ≤ 64 ∧ cellsErr L = 0 ∧ fo 1 L = some [] := by
  unfold check at h
  split at h
  · cases h
  · split at h
    · split at h
      · rename_i h1 h2 h3; exact ⟨by omega, h2, h3⟩
      · cases h
    · rename_i h2; exact absurd h h2
theorem check_ok {L : List Cl} (h1 : L.length ≤ 64) (h2 : cellsErr L = 0) (h3 : fo 1 L = some []) : check L = 0 := by
  unfold check
  rw [if_neg (by omega), if_pos h2, if_pos h3]
/-- a right list of cells is a term -/
theorem check_term {L : List Cl} (h : check L = 0) : ∃ nm k, L = (Fo.cons nm k .nil).flat := by
  obtain ⟨h1, h2, h3⟩ := check_zero h
  obtain ⟨f, f1, f2⟩ := fo_forest _ L 1 (Nat.le_refl _) (fun c hc => (cellErr_ar (cellsErr_zero.1 h2 c hc)).1) h3
  cases f with
  | nil => cases f1
  | cons nm k r =>
    have : r = .nil := Fo.len_zero (by simp [Fo.len] at f1; omega)
    subst this
    exact ⟨nm, k, f2.symm⟩
theorem check_of {f : Fo} {nm : ByteArray} {k : Fo} (hf : f = .cons nm k .nil) (h1 : f.size ≤ 64) (h2 : cellsErr f.flat = 0) : check f.flat = 0 := by
  subst hf
  refine check_ok (by rw [Fo.flat_length]; exact h1) h2 ?_
  have := fo_flat (.cons nm k .nil) []
  rwa [List.append_nil] at this

end Go.Proofs.YtjpmlnigjbdnnaaDoor
