/-
  Lists of texts in memory; what the program's Vars, and the document's, answer.
-/
import Derived.Test.YtjfkkabpfjcceabMany
import Derived.Test.YtjfkkabpfjcceabWake
namespace Go.Proofs.Ytjfkkabpfjcceab
open Go.RowKit
set_option linter.unusedVariables false
set_option maxRecDepth 100000
set_option linter.unusedSimpArgs false

theorem info9 : (Try.prog.info? 9).map (fun i => (i.zero, i.size, i.bytes)) = some (some (.string ⟨#[]⟩), 1, 16) := by kernel_rfl

/-- is a text one of a list? -/
def inS (x : ByteArray) (S : List ByteArray) : Bool := S.any fun y => decide (y = x)
theorem inS_iff {x : ByteArray} {S : List ByteArray} : inS x S = true ↔ x ∈ S := by
  unfold inS
  simp
/-- the variables of cells, each once -/
def varStep (acc : List ByteArray) (c : Cl) : List ByteArray := if kind c.nm.data.toList = 2 ∧ inS c.nm acc = false then acc ++ [c.nm] else acc
def varsOf (L : List Cl) : List ByteArray := L.foldl varStep []
theorem vars_next {L : List Cl} {k : Nat} {c : Cl} (h : L[k]? = some c) : varsOf (L.take (k + 1)) = varStep (varsOf (L.take k)) c := by
  unfold varsOf
  rw [List.take_add_one, h, List.foldl_append]
  rfl
theorem vars_len : ∀ (L : List Cl) (acc : List ByteArray), (L.foldl varStep acc).length ≤ acc.length + L.length
  | [], acc => by simp
  | c :: r, acc => by
    have := vars_len r (varStep acc c)
    have h2 : (varStep acc c).length ≤ acc.length + 1 := by unfold varStep; split <;> simp
    simp only [List.foldl_cons, List.length_cons]
    omega
theorem varsOf_len (L : List Cl) (k : Nat) : (varsOf (L.take k)).length ≤ k := by
  have := vars_len (L.take k) []
  simp only [List.length_nil, List.length_take] at this
  unfold varsOf
  omega

/-- a list of texts of the call's own, and one as it lies in memory -/
def OwnsS (w : World) (B : Nat) (v : Value) (S : List ByteArray) : Prop := w.ownsRow B 9 1 v S.length (S.map Value.string)
def LiesS (w : World) (v : Value) (S : List ByteArray) : Prop :=
  ∃ a cap, v = .slice a S.length cap ∧ S.length ≤ cap ∧ cap ≤ maxLen ∧ ∀ (j : Nat) x, S[j]? = some x → ∃ b off, a = some ⟨b, off, none⟩ ∧ b < w.heap.size ∧ w.cell? ⟨b, off + j, none⟩ = some (.string x)
theorem OwnsS.lies {w : World} {B : Nat} {v : Value} {S : List ByteArray} (h : OwnsS w B v S) : LiesS w v S := by
  obtain ⟨a, cap, hv, c1, c2, c3⟩ := own_cells h
  refine ⟨a, cap, hv, c1, c2, fun j x hj => ?_⟩
  obtain ⟨g, ha, _, hlt, hc⟩ := c3 j (.string x) (by rw [List.getElem?_map, hj]; rfl)
  exact ⟨g, 0, ha, hlt, by rw [Nat.zero_add]; exact hc⟩
theorem LiesS.on {w w' : World} {v : Value} {S : List ByteArray} (h : LiesS w v S) (hb : Below w.heap.size w w') : LiesS w' v S := by
  obtain ⟨a, cap, hv, c1, c2, c3⟩ := h
  refine ⟨a, cap, hv, c1, c2, fun j l hj => ?_⟩
  obtain ⟨b, off, ha, hlt, hc⟩ := c3 j l hj
  exact ⟨b, off, ha, Nat.lt_of_lt_of_le hlt hb.size, (hb.cell (p := ⟨b, off + j, none⟩) hlt).trans hc⟩
theorem ownS_more {w W' : World} {B : Nat} {v' : Value} {S : List ByteArray} {x : ByteArray} (h : W'.ownsRow B 9 1 v' (S.length + 1) (S.map Value.string ++ [.string x])) : OwnsS W' B v' (S ++ [x]) := by
  show World.ownsRow _ _ _ _ _ _ _
  rw [List.length_append, List.map_append]
  exact h

theorem bytes_ne {x y : ByteArray} (h : x ≠ y) : (x.toList == y.toList) = false := by
  simp only [beq_eq_false_iff_ne, ne_eq]
  intro e
  rw [ByteArray.toList_eq, ByteArray.toList_eq] at e
  apply h
  cases x; cases y
  simpa using e

end Go.Proofs.Ytjfkkabpfjcceab
