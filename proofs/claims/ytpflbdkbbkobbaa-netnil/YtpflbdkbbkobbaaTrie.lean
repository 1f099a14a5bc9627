/-
  A net as plain lists: the keys of a left side, where a term leads, and what is found there.
-/
import Derived.Test.YtpflbdkbbkobbaaMatch
namespace Go.Proofs.Ytpflbdkbbkobbaa
open Go.RowKit
set_option linter.unusedVariables false
set_option maxRecDepth 100000
set_option linter.unusedSimpArgs false

/-- the key of a whole term -/
def wh : Cl := ⟨⟨#[]⟩, 0⟩
/-- the key of a left side's cell -/
def keyC (c : Cl) : Cl := if isV c then wh else c
def keysL (L : List Cl) : List Cl := L.map keyC
/-- what is behind a term -/
def bh (R : List Cl) : List Cl := (fo 1 R).getD []
/-- does a rest of a term go the way of these keys? -/
def shp : List Cl → List Cl → Bool
  | [], R => R.isEmpty
  | k :: ks, [] => false
  | k :: ks, c :: R => if k = wh then shp ks (bh (c :: R)) else decide (c = k) && shp ks R

theorem wh_bad : cellErr wh ≠ 0 := by decide
theorem fit_shp : ∀ (P T : List Cl) (acc acc' : List Bd), (∀ c ∈ P, cellErr c = 0) → fitL P T acc = some acc' → shp (keysL P) T = true
  | [], [], acc, acc', _, h => rfl
  | [], _ :: _, acc, acc', _, h => by cases h
  | c :: p, t, acc, acc', hc, h => by
    rw [fitL.eq_def] at h
    simp only at h
    by_cases hv : isV c = true
    · rw [if_pos hv] at h
      cases h1 : fo 1 t with
      | none => rw [h1] at h; cases h
      | some r =>
        rw [h1] at h
        simp only at h
        cases t with
        | nil => cases h1
        | cons d t =>
          have e : keysL (c :: p) = wh :: keysL p := by simp [keysL, keyC, hv]
          rw [e]
          simp only [shp, if_pos]
          have eb : bh (d :: t) = r := by unfold bh; rw [h1]; rfl
          rw [eb]
          cases h2 : look acc c.nm with
          | none => rw [h2] at h; exact fit_shp p r _ _ (fun x hx => hc x (by simp [hx])) h
          | some v =>
            rw [h2] at h
            simp only at h
            split at h
            · exact fit_shp p r _ _ (fun x hx => hc x (by simp [hx])) h
            · cases h
    · rw [if_neg hv] at h
      cases t with
      | nil => cases h
      | cons d t =>
        simp only at h
        split at h
        · rename_i hd
          subst hd
          have e : keysL (d :: p) = d :: keysL p := by simp [keysL, keyC, hv]
          rw [e]
          have hne : ¬ d = wh := fun e => wh_bad (e ▸ hc d (by simp))
          simp only [shp, if_neg hne, decide_true, Bool.true_and]
          exact fit_shp p t _ _ (fun x hx => hc x (by simp [hx])) h
        · cases h

/-- may the rule at a place of these be led to, from a path on, by a rest of a term? -/
def may (Ls : List (List Cl)) (p R : List Cl) (j : Nat) : Bool :=
  match Ls[j]? with | some L => p.isPrefixOf L && shp (L.drop p.length) R | none => false
def cand (Ls : List (List Cl)) (p R : List Cl) : List Nat := (List.range Ls.length).filter (may Ls p R)
/-- the rules that end at a path -/
def endsAt (Ls : List (List Cl)) (p : List Cl) : List Nat := (List.range Ls.length).filter fun j => decide (Ls[j]? = some p)
/-- a path that some keys begin with -/
def hasP (Ls : List (List Cl)) (p : List Cl) : Prop := p = [] ∨ ∃ L ∈ Ls, p <+: L

theorem shp_nil (ks : List Cl) : shp ks [] = decide (ks = []) := by cases ks <;> simp [shp]
theorem prefix_drop {p L : List Cl} (h : p <+: L) : L = p ++ L.drop p.length := by
  obtain ⟨q, rfl⟩ := h
  rw [List.drop_left]
theorem cand_end (Ls : List (List Cl)) (p : List Cl) : cand Ls p [] = endsAt Ls p := by
  unfold cand endsAt
  apply List.filter_congr
  intro j _
  unfold may
  cases h : Ls[j]? with
  | none => simp
  | some L =>
    simp only [shp_nil]
    rw [Bool.eq_iff_iff]
    simp only [Bool.and_eq_true, List.isPrefixOf_iff_prefix, decide_eq_true_eq, Option.some.injEq]
    constructor
    · rintro ⟨h1, h2⟩
      have := prefix_drop h1
      rw [h2, List.append_nil] at this
      exact this
    · rintro rfl
      exact ⟨List.prefix_refl _, by simp⟩
theorem cand_none {Ls : List (List Cl)} {p R : List Cl} (h : ¬ ∃ L ∈ Ls, p <+: L) : cand Ls p R = [] := by
  unfold cand
  rw [List.filter_eq_nil_iff]
  intro j _ hm
  unfold may at hm
  cases hj : Ls[j]? with
  | none => rw [hj] at hm; cases hm
  | some L =>
    rw [hj] at hm
    simp only [Bool.and_eq_true, List.isPrefixOf_iff_prefix] at hm
    exact h ⟨L, List.mem_of_getElem? hj, hm.1⟩
theorem filter_two {α : Type} (f g h : α → Bool) : ∀ l : List α, (∀ x ∈ l, f x = (g x || h x) ∧ ¬ (g x = true ∧ h x = true)) → (l.filter f).Perm (l.filter g ++ l.filter h)
  | [], _ => by simp
  | x :: l, hl => by
    have ih := filter_two f g h l (fun y hy => hl y (by simp [hy]))
    obtain ⟨h1, h2⟩ := hl x (by simp)
    cases hg : g x <;> cases hh : h x
    · rw [List.filter_cons_of_neg (by simp [h1, hg, hh]), List.filter_cons_of_neg (by simp [hg]), List.filter_cons_of_neg (by simp [hh])]; exact ih
    · rw [List.filter_cons_of_pos (by simp [h1, hg, hh]), List.filter_cons_of_neg (by simp [hg]), List.filter_cons_of_pos (by simp [hh])]
      exact (ih.cons x).trans List.perm_middle.symm
    · rw [List.filter_cons_of_pos (by simp [h1, hg, hh]), List.filter_cons_of_pos (by simp [hg]), List.filter_cons_of_neg (by simp [hh])]
      exact ih.cons x
    · exact absurd ⟨hg, hh⟩ h2
theorem drop_key {p L : List Cl} (h : p <+: L) {k : Cl} {ks : List Cl} (e : L.drop p.length = k :: ks) : p ++ [k] <+: L ∧ L.drop (p ++ [k]).length = ks := by
  have := prefix_drop h
  rw [e] at this
  refine ⟨⟨ks, by rw [this]; simp⟩, ?_⟩
  rw [List.length_append, ← List.drop_drop, e]; rfl
theorem pre_key {p L : List Cl} {k : Cl} (h : p ++ [k] <+: L) : p <+: L ∧ L.drop p.length = k :: L.drop (p ++ [k]).length := by
  obtain ⟨q, rfl⟩ := h
  refine ⟨⟨[k] ++ q, by simp⟩, ?_⟩
  rw [List.drop_left, List.append_assoc, List.drop_left]; rfl
theorem cand_step (Ls : List (List Cl)) (p : List Cl) (c : Cl) (R : List Cl) (hc : c ≠ wh) :
    (cand Ls p (c :: R)).Perm (cand Ls (p ++ [c]) R ++ cand Ls (p ++ [wh]) (bh (c :: R))) := by
  unfold cand
  apply filter_two
  intro j _
  unfold may
  cases hj : Ls[j]? with
  | none => simp
  | some L =>
    simp only
    constructor
    · rw [Bool.eq_iff_iff]
      simp only [Bool.and_eq_true, Bool.or_eq_true, List.isPrefixOf_iff_prefix]
      constructor
      · rintro ⟨h1, h2⟩
        cases e : L.drop p.length with
        | nil => rw [e] at h2; cases h2
        | cons k ks =>
          rw [e] at h2
          obtain ⟨k1, k2⟩ := drop_key h1 e
          by_cases hk : k = wh
          · subst hk
            simp only [shp, if_pos] at h2
            exact .inr ⟨k1, by rw [k2]; exact h2⟩
          · simp only [shp, if_neg hk, Bool.and_eq_true, decide_eq_true_eq] at h2
            obtain ⟨rfl, h3⟩ := h2
            exact .inl ⟨k1, by rw [k2]; exact h3⟩
      · rintro (⟨h1, h2⟩ | ⟨h1, h2⟩)
        · obtain ⟨k1, k2⟩ := pre_key h1
          exact ⟨k1, by rw [k2]; simp only [shp, if_neg hc, decide_true, Bool.true_and]; exact h2⟩
        · obtain ⟨k1, k2⟩ := pre_key h1
          exact ⟨k1, by rw [k2]; simp only [shp, if_pos]; exact h2⟩
    · simp only [Bool.and_eq_true, List.isPrefixOf_iff_prefix]
      rintro ⟨⟨h1, _⟩, ⟨h2, _⟩⟩
      obtain ⟨_, k1⟩ := pre_key h1
      obtain ⟨_, k2⟩ := pre_key h2
      rw [k1] at k2
      injection k2 with k3
      exact hc k3

/-- a rising list is the only one of its members that rises -/
theorem sorted_one {l m : List Nat} (h : l.Perm m) (hm : m.Pairwise (· < ·)) (hl : l.Pairwise (· ≤ ·)) : l = m :=
  h.eq_of_pairwise (fun a b _ _ h1 h2 => Nat.le_antisymm h1 h2) hl (hm.imp (fun h => Nat.le_of_lt h))
theorem cand_rises (Ls : List (List Cl)) (p R : List Cl) : (cand Ls p R).Pairwise (· < ·) := (List.pairwise_lt_range).filter _
theorem cand_lt {Ls : List (List Cl)} {p R : List Cl} {j : Nat} (h : j ∈ cand Ls p R) : j < Ls.length := by
  unfold cand at h
  have := (List.mem_filter.1 h).1
  simpa using this
theorem mem_cand {Ls : List (List Cl)} {R L : List Cl} {j : Nat} (hj : Ls[j]? = some L) (h : shp L R = true) : j ∈ cand Ls [] R := by
  unfold cand
  refine List.mem_filter.2 ⟨by simpa using (List.getElem?_eq_some_iff.1 hj).1, ?_⟩
  unfold may
  rw [hj]
  simpa using h

end Go.Proofs.Ytpflbdkbbkobbaa
