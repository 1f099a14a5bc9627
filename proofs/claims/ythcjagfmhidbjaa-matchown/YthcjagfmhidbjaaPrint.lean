/-
  What the program's write and Print do.
-/
import Derived.Test.YthcjagfmhidbjaaTerm
import Derived.Deep.LoopGhost
import Derived.Deep.RegionWith
namespace Go.Proofs.Ythcjagfmhidbjaa
open Go.RowKit
set_option linter.unusedVariables false
set_option linter.unusedSimpArgs false

theorem Fo.text_cons (nm : ByteArray) (k r : Fo) : (Fo.cons nm k r).text = (Fo.cons nm k .nil).text ++ moreC r.len r.text := by
  simp [Fo.text, Fo.len, moreC]
theorem Fo.text_one (nm : ByteArray) (k : Fo) : (Fo.cons nm k .nil).text = nm.data.toList ++ wrapP k.len k.text := by
  simp [Fo.text, Fo.len, moreC]
theorem Fo.flat_cons (nm : ByteArray) (k r : Fo) : (Fo.cons nm k r).flat = (Fo.cons nm k .nil).flat ++ r.flat := by
  simp [Fo.flat]
/-- what is still to be written of arguments of which j are written -/
def still (j : Nat) (k : Fo) : List UInt8 := if j = 0 then 40 :: k.text else moreC k.len k.text

/-- cells of a list in old memory, in a world in which that memory is as it was -/
theorem cell_at {w0 w : World} {a : Option Addr} {L : List Cl} (hc : CellsAt w0 a L) (hb : Below w0.heap.size w0 w) {k : Nat} {c : Cl} (h : L[k]? = some c) :
    ∃ b off, a = some ⟨b, off, none⟩ ∧ w.cell? ⟨b, off + k * 2, none⟩ = some (.string c.nm) ∧ w.cell? ⟨b, off + k * 2 + 1, none⟩ = some (.int .i64 c.ar) := by
  obtain ⟨b, off, ha, hlt, c1, c2⟩ := hc k c h
  exact ⟨b, off, ha, (hb.cell (p := ⟨b, off + k * 2, none⟩) hlt).trans c1, (hb.cell (p := ⟨b, off + k * 2 + 1, none⟩) hlt).trans c2⟩
theorem get_drop {L M : List Cl} {c : Cl} {k : Nat} (h : L.drop k = c :: M) : L[k]? = some c ∧ L.drop (k + 1) = M ∧ k < L.length := by
  have h1 : (L.drop k)[0]? = some c := by rw [h]; rfl
  rw [List.getElem?_drop, Nat.add_zero] at h1
  refine ⟨h1, ?_, (List.getElem?_eq_some_iff.1 h1).1⟩
  rw [← List.drop_drop, h]; rfl

theorem name_len {c : Cl} (h : cellErr c = 0) : 0 < c.nm.size ∧ c.nm.size ≤ 8 := by
  have hk := cellErr_kind h
  rcases Nat.lt_or_ge c.nm.data.toList.length 1 with h1 | h1
  · exact absurd (kind_out (.inl h1)) hk
  · rcases Nat.lt_or_ge 8 c.nm.data.toList.length with h2 | h2
    · exact absurd (kind_out (.inr h2)) hk
    · rw [size_list] at h1 h2; omega
theorem text_len : ∀ f : Fo, (∀ c ∈ f.flat, cellErr c = 0) → f.text.length ≤ 11 * f.size
  | .nil, _ => by simp [Fo.text, Fo.size]
  | .cons nm k r, h => by
    have h1 := text_len k (fun c hc => h c (by simp [Fo.flat, hc]))
    have h2 := text_len r (fun c hc => h c (by simp [Fo.flat, hc]))
    have h3 := (name_len (c := ⟨nm, (k.len : Nat)⟩) (h _ (by simp [Fo.flat]))).2
    simp only at h3
    simp only [Fo.text, Fo.size, List.length_append, size_list]
    have h4 : (wrapP k.len k.text).length ≤ k.text.length + 2 := by unfold wrapP; split <;> simp
    have h5 : (moreC r.len r.text).length ≤ r.text.length + 1 := by unfold moreC; split <;> simp
    omega
theorem text_ne {nm : ByteArray} {k : Fo} (h : ∀ c ∈ (Fo.cons nm k .nil).flat, cellErr c = 0) : (Fo.cons nm k .nil).text ≠ [] := by
  have h3 := (name_len (c := ⟨nm, (k.len : Nat)⟩) (h _ (by simp [Fo.flat]))).1
  intro e
  rw [Fo.text_one] at e
  have := (List.append_eq_nil_iff.1 e).1
  have h4 := size_list nm
  rw [this] at h4
  simp at h4 h3; omega

/-- the text of a right term -/
def textOf (t : List UInt8) (L : List Cl) : Prop := ∃ nm k, L = (Fo.cons nm k .nil).flat ∧ t = (Fo.cons nm k .nil).text

end Go.Proofs.Ythcjagfmhidbjaa
