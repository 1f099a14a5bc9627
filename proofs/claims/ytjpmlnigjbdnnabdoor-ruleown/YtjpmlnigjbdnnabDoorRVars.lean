/-
  What the document's Vars answers; that two lists of texts that hold the same are told as alike; what the program's Depth answers.
-/
import Derived.Test.YtjpmlnigjbdnnabDoorVars
import Derived.Deep.QuietTactic
import Derived.BigQuiet
namespace Go.Proofs.YtjpmlnigjbdnnabDoor
open Go.RowKit
set_option linter.unusedVariables false
set_option maxRecDepth 100000
set_option linter.unusedSimpArgs false

theorem dep_le : ∀ f : Fo, f.dep ≤ f.size
  | .nil => Nat.le_refl _
  | .cons _ k r => by have := dep_le k; have := dep_le r; simp only [Fo.dep, Fo.size]; omega
end Go.Proofs.YtjpmlnigjbdnnabDoor
