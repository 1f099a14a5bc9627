/-
  A disk beside a row of texts that is none of its own.
-/
import Derived.Test.YtjmkhcldcpdmoaaTp
namespace Go.Proofs.Ytjmkhcldcpdmoaa
open Go.RowKit
set_option linter.unusedVariables false
set_option maxRecDepth 100000

def Dr (w0 w : World) (k : Nat) (d : Ds) (v : Value) (L : List ByteArray) : Prop := ∃ S, Dk w S k d ∧ (∀ j, S j → w0.heap.size ≤ j) ∧ Below w0.heap.size w0 w ∧ RowS w 0 v L ∧ ∀ g, v.ownBlock = some g → ¬ S g
theorem Dr.dw {w0 w : World} {k : Nat} {d : Ds} {v : Value} {L : List ByteArray} (h : Dr w0 w k d v L) : Dw w0 w k d := by
  obtain ⟨S, h1, h2, h3, _⟩ := h
  exact ⟨S, h1, h2, h3⟩
theorem Dr.row {w0 w : World} {k : Nat} {d : Ds} {v : Value} {L : List ByteArray} (h : Dr w0 w k d v L) : RowS w 0 v L := by
  obtain ⟨S, h1, h2, h3, h4, _⟩ := h
  exact h4
theorem Dr.on {w0 w w' : World} {k : Nat} {d : Ds} {v : Value} {L : List ByteArray} (h : Dr w0 w k d v L) (hb : Below w.heap.size w w') : Dr w0 w' k d v L := by
  obtain ⟨S, h1, h2, h3, h4, h5⟩ := h
  exact ⟨S, h1.on hb, h2, h3.trans (hb.mono h3.size), h4.on hb, h5⟩
theorem image_dr (w0 w : World) (k : Nat) (d : Ds) (h : Dw w0 w k d) : Calls Try.prog 15 #[.pointer (some ⟨k, 0, none⟩)] w fun e w' => ∃ v', e = .returned v' ∧ Dr w0 w' k d v' d.bs := by
  obtain ⟨S, h1, h2, h3⟩ := id h
  refine (image_any w S k d h1).mono fun e w' ⟨v', he, hr, hb⟩ => ⟨v', he, S, h1.on hb, h2, h3.trans (hb.mono h3.size), own_base hr (Nat.zero_le _), fun g hg hs => ?_⟩
  have := ((hr : w'.ownsRow w.heap.size 9 1 v' _ _).lt g hg).1
  have := h1.lt g hs
  omega
theorem restore_dr (w0 w : World) (k : Nat) (d : Ds) (v : Value) (L : List ByteArray) (h : Dr w0 w k d v L) : Calls Try.prog 20 #[.pointer (some ⟨k, 0, none⟩)] w fun e w' => e = .returned (.tuple #[]) ∧ Dr w0 w' k { d with lf := -1, dn := false } v L := by
  obtain ⟨S, h1, h2, h3, h4, h5⟩ := h
  exact (restore_any w S k d h1).mono fun e w' ⟨he, hd, hk⟩ => ⟨he, S, hd, h2, h3.trans (hk.below h2 h3.size), hk.row h4 h5, h5⟩

end Go.Proofs.Ytjmkhcldcpdmoaa
