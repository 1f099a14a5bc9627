/-
  What the document's Put and Fill answer.
-/
import Derived.Test.YtjpmlnigjbdnnabDoorRefB
import Derived.Test.YtjpmlnigjbdnnabDoorRVars
namespace Go.Proofs.YtjpmlnigjbdnnabDoor
open Go.RowKit
set_option linter.unusedVariables false
set_option maxRecDepth 100000
set_option linter.unusedSimpArgs false

theorem LiesB.at {w : World} {a : Option Addr} {n c : Nat} {l : List Bd} (h : LiesB w (.slice a n c) l) {i : Nat} {nm : ByteArray} {val : List Cl} (hi : l[i]? = some ⟨nm, val⟩) :
    ∃ g off x, a = some ⟨g, off, none⟩ ∧ g < w.heap.size ∧ w.cell? ⟨g, off + i * 2, none⟩ = some (.string nm) ∧ w.cell? ⟨g, off + i * 2 + 1, none⟩ = some x ∧ Lies w x val ∧ nm.size ≤ 9223372036854775807 := by
  obtain ⟨a', c', hv', _, _, HC'⟩ := h
  injection hv' with e1 _ _
  subst e1
  obtain ⟨g, off, x, h1, h2, h3, h4, h5, h6⟩ := HC' i _ hi
  exact ⟨g, off, x, h1, h2, h3, h4, h5, h6⟩
theorem idx_append : ∀ (a b : List Bd) (nm : ByteArray), idx (a ++ b) nm = match idx a nm with | some j => some j | none => (idx b nm).map (· + a.length)
  | [], b, nm => by simp [idx]
  | c :: a, b, nm => by
    simp only [List.cons_append, idx]
    by_cases e : c.nm = nm
    · simp [e]
    · rw [if_neg e, if_neg e, idx_append a b nm]
      cases idx a nm with
      | some j => rfl
      | none => cases idx b nm <;> simp; omega
theorem idx_lt {l : List Bd} {i : Nat} {nm : ByteArray} {v : List Cl} (h : l[i]? = some ⟨nm, v⟩) : ∃ j, idx l nm = some j ∧ (j < i ↔ inS nm ((l.take i).map (·.nm)) = true) := by
  by_cases hs : inS nm ((l.take i).map (·.nm)) = true
  · have h1 : idx (l.take i) nm ≠ none := by
      intro h2
      rw [idx_none, look_none, hs] at h2
      cases h2
    cases h3 : idx (l.take i) nm with
    | none => exact absurd h3 h1
    | some j =>
      refine ⟨j, ?_, ⟨fun _ => hs, fun _ => ?_⟩⟩
      · have := idx_append (l.take i) (l.drop i) nm
        rw [List.take_append_drop, h3] at this
        exact this
      · obtain ⟨u, hu, _⟩ := idx_some h3
        have := (List.getElem?_eq_some_iff.1 hu).1
        rw [List.length_take] at this
        omega
  · refine ⟨i, idx_first (b := ⟨nm, v⟩) (fun j x hj hx => ?_) h rfl, ⟨fun h2 => by omega, fun h2 => absurd h2 hs⟩⟩
    intro e
    apply hs
    rw [inS_iff]
    refine List.mem_map.2 ⟨x, ?_, e⟩
    have h4 : (l.take i)[j]? = some x := by rw [List.getElem?_take, if_pos hj]; exact hx
    exact List.mem_of_getElem? h4
theorem vars_has : ∀ (L : List Cl) (acc : List ByteArray) (nm : ByteArray), (nm ∈ acc ∨ ∃ c ∈ L, isV c = true ∧ c.nm = nm) → nm ∈ L.foldl varStep acc
  | [], acc, nm, h => by
    rcases h with h | ⟨c, hc, _⟩
    · exact h
    · simp at hc
  | c :: r, acc, nm, h => by
    rw [List.foldl_cons]
    apply vars_has r
    by_cases hin : nm ∈ varStep acc c
    · exact .inl hin
    · right
      rcases h with h | ⟨d, hd, hv, e⟩
      · exfalso
        apply hin
        unfold varStep
        split
        · exact List.mem_append.2 (.inl h)
        · exact h
      · rcases List.mem_cons.1 hd with rfl | hd
        · exfalso
          apply hin
          unfold varStep
          have hk : kind d.nm.data.toList = 2 := by unfold isV at hv; simpa using hv
          by_cases hs : inS d.nm acc = true
          · rw [if_neg (by rintro ⟨_, h2⟩; rw [hs] at h2; cases h2)]
            rw [← e]; exact inS_iff.1 hs
          · rw [if_pos ⟨hk, by simpa using hs⟩]
            rw [← e]; simp
        · exact ⟨d, hd, hv, e⟩
theorem told_vars {P : List Cl} {l : List Bd} : told P l = true ↔ ∀ nm ∈ varsOf P, (look l nm).isSome = true := by
  rw [told_iff]
  constructor
  · intro h nm hnm
    rcases vars_mem P [] nm hnm with h1 | ⟨c, hc, hv, e⟩
    · simp at h1
    · rw [← e]; exact h c hc hv
  · intro h c hc hv
    exact h c.nm (vars_has P [] c.nm (.inr ⟨c, hc, hv, rfl⟩))

end Go.Proofs.YtjpmlnigjbdnnabDoor
