/-
  What the reader's readTerm does.
-/
import Derived.Test.YthcjagfmhidbjaaName
import Derived.Deep.LoopGhost
namespace Go.Proofs.Ythcjagfmhidbjaa
open Go.RowKit
set_option linter.unusedVariables false

theorem flatC_setA (a : Int) : ∀ (L : List Cl) (i : Nat), flatC (setA L i a) = (flatC L).set (i * 2 + 1) (.int .i64 a)
  | [], i => by simp [setA, flatC]
  | c :: r, 0 => rfl
  | c :: r, i + 1 => by
    have := flatC_setA a r i
    unfold setA at this ⊢
    rw [List.modify_succ_cons, show (i + 1) * 2 + 1 = i * 2 + 1 + 1 + 1 by omega]
    simp only [flatC, List.set_cons_succ, this]

theorem own_set {w : World} {B : Nat} {e : TypeId} {size n cap g : Nat} {xs : List Value} (h : w.ownsRow B e size (.slice (some ⟨g, 0, none⟩) n cap) n xs) (i : Nat) (u : Value) :
    (w.setCell ⟨g, i, none⟩ u).ownsRow B e size (.slice (some ⟨g, 0, none⟩) n cap) n (xs.set i u) := by
  obtain ⟨hl, hn | ⟨g', cap', cur, hv, hB, hg, h1, h2, h3, h4⟩⟩ := h
  · cases hn.1
  · cases hv
    refine ⟨by rw [List.length_set]; exact hl, .inr ⟨g, cap, cur.setIfInBounds i u, rfl, hB, ?_, h1, h2, by rw [Array.size_setIfInBounds]; exact h3, ?_⟩⟩
    · simp only [World.setCell, Array.getElem?_modify, hg, if_true]
      rfl
    · rw [Array.toList_setIfInBounds, ← h4, List.take_set]

theorem rd_err {s : ByteArray} {f k : Nat} {L : List Cl} {e : Nat} (h : nameErr s k L = some e) : rd s (f + 1) k L = .bad k e := by
  rw [rd]
  unfold nameErr at h
  by_cases h1 : endw s.data.toList k = k
  · rw [if_pos h1] at h ⊢; cases h; rfl
  · rw [if_neg h1] at h ⊢
    by_cases h2 : kind (s.extract k (endw s.data.toList k)).data.toList = 0
    · rw [if_pos h2] at h ⊢; cases h; rfl
    · rw [if_neg h2] at h ⊢
      by_cases h3 : L.length = 64
      · rw [if_pos h3] at h ⊢; cases h; rfl
      · rw [if_neg h3] at h; cases h
theorem rd_go {s : ByteArray} {f k : Nat} {L : List Cl} (h : nameErr s k L = none) : L.length ≠ 64 ∧ rd s (f + 1) k L = (if stand s (endw s.data.toList k) 40 then
      (if kind (s.extract k (endw s.data.toList k)).data.toList = 2 then .bad (endw s.data.toList k) 5
       else args (rd s f) s.data.toList L.length 4 (endw s.data.toList k) (L ++ [⟨s.extract k (endw s.data.toList k), 0⟩]))
    else .ok (L ++ [⟨s.extract k (endw s.data.toList k), 0⟩]) (endw s.data.toList k)) := by
  unfold nameErr at h
  rw [rd]
  by_cases h1 : endw s.data.toList k = k
  · rw [if_pos h1] at h; cases h
  · rw [if_neg h1] at h ⊢
    by_cases h2 : kind (s.extract k (endw s.data.toList k)).data.toList = 0
    · rw [if_pos h2] at h; cases h
    · rw [if_neg h2] at h ⊢
      by_cases h3 : L.length = 64
      · rw [if_pos h3] at h; cases h
      · rw [if_neg h3]
        refine ⟨h3, ?_⟩
        unfold stand
        simp only [decide_eq_true_eq]
theorem args_next {f : Nat → List Cl → R} {s : ByteArray} {own m k : Nat} {L : List Cl} : args f s.data.toList own (m + 1) k L = match f (k + 1) L with
    | .bad j e => .bad j e
    | .ok M j => match behindArg s j ((4 - m : Nat) : Int) with
      | some e => .bad j e
      | none => if stand s j 41 then .ok (setA M own ((4 - m : Nat) : Int)) (j + 1) else args f s.data.toList own m j (setA M own ((4 - m : Nat) : Int)) := by
  rw [args]
  cases f (k + 1) L with
  | bad j e => rfl
  | ok M j =>
    simp only
    unfold behindArg stand
    generalize s.data.toList[j]? = o
    by_cases h41 : o = some 41
    · subst h41; simp
    · by_cases h44 : o = some 44
      · subst h44
        by_cases hm : m = 0
        · subst hm; simp
        · have : ¬ ((4 - m : Nat) : Int) = 4 := by omega
          simp [hm, this]
      · simp [h41, h44]

end Go.Proofs.Ythcjagfmhidbjaa
