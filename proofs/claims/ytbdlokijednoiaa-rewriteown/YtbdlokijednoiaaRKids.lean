/-
  What the document's Kids answers; and whether two lists of terms are alike.
-/
import Derived.Test.YtbdlokijednoiaaKids
import Derived.Test.YtbdlokijednoiaaBase
namespace Go.Proofs.Ytbdlokijednoiaa
open Go.RowKit
set_option linter.unusedVariables false
set_option maxRecDepth 100000
set_option linter.unusedSimpArgs false

theorem posZ_at {L : List Cl} {i : Nat} {nm : ByteArray} {k r : Fo} (h : L.drop i = (Fo.cons nm k r).flat) (hi : i ≤ L.length) : posZ L i = ((i + k.size + 1 : Nat) : Int) := by
  have h1 : fo 1 (L.drop i) = some r.flat := by
    have := fo_flat (.cons nm k .nil) r.flat
    rw [h, Fo.flat_cons]; exact this
  have h2 := (posN_at h hi).1
  rw [posN_some h1] at h2
  rw [posZ_some h1, h2]

end Go.Proofs.Ytbdlokijednoiaa
