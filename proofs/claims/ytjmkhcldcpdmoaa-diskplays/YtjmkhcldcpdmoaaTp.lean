/-
  Two new disks side by side; what they hold.
-/
import Derived.Test.YtjmkhcldcpdmoaaDo
import Derived.Test.YtjmkhcldcpdmoaaOp
namespace Go.Proofs.Ytjmkhcldcpdmoaa
open Go.RowKit
set_option linter.unusedVariables false
set_option linter.unusedSimpArgs false
set_option maxRecDepth 100000

theorem Tw.new {w0 w1 w2 w3 : World} {k k' n : Nat} (hb : Below w0.heap.size w0 w1) (h1 : Dk w2 (Bt w1.heap.size w2.heap.size) k (nw n)) (b1 : Below w1.heap.size w1 w2) (h2 : Rk w3 (Bt w2.heap.size w3.heap.size) k' (nw n)) (b2 : Below w2.heap.size w2 w3) : Tw w0 w3 k k' (nw n) (nw n) :=
  ⟨_, _, h1.on b2, h2, fun j hs hr => by have := hs.2; have := hr.1; omega, fun j hs => Nat.le_trans hb.size hs.1, fun j hr => Nat.le_trans hb.size (Nat.le_trans b1.size hr.1), (hb.trans (b1.mono hb.size)).trans (b2.mono (Nat.le_trans hb.size b1.size))⟩
theorem Tw.rows {w0 w : World} {k k' : Nat} {d e : Ds} (h : Tw w0 w k k' d e) : ∃ ba bc la lc, w.cell? ⟨k', 0, none⟩ = some (.slice ba e.bs.length bc) ∧ w.cell? ⟨k', 1, none⟩ = some (.slice la e.lg.length lc) ∧ RowS w 0 (.slice ba e.bs.length bc) e.bs ∧ RowP w 0 (.slice la e.lg.length lc) e.lg ∧ k' < w.heap.size ∧ e.bs.length ≤ 2048 := by
  obtain ⟨S, R, h1, ⟨ok, _, _, bv, lv, told, left, hk, _, _, h5, h6, _⟩, _⟩ := h
  obtain ⟨ba, bc, rfl⟩ := h5.form
  obtain ⟨la, lc, rfl⟩ := h6.form
  exact ⟨ba, bc, la, lc, hk.cell rfl, hk.cell rfl, h5, h6, hk.lt, ok.hi⟩
theorem log_tw (w0 w : World) (k k' : Nat) (d e : Ds) (h : Tw w0 w k k' d e) (hz : d.lg.length * 24 ≤ 140737488355328) : Calls Try.prog 13 #[.pointer (some ⟨k, 0, none⟩)] w fun x w' => ∃ v', x = .returned v' ∧ RowP w' w.heap.size v' d.lg ∧ Below w.heap.size w w' := by
  obtain ⟨S, R, h1, _⟩ := h
  exact log_any w S k d h1 hz
theorem image_tw (w0 w : World) (k k' : Nat) (d e : Ds) (h : Tw w0 w k k' d e) : Calls Try.prog 15 #[.pointer (some ⟨k, 0, none⟩)] w fun x w' => ∃ v', x = .returned v' ∧ RowS w' w.heap.size v' d.bs ∧ Below w.heap.size w w' := by
  obtain ⟨S, R, h1, _⟩ := h
  exact image_any w S k d h1

end Go.Proofs.Ytjmkhcldcpdmoaa
