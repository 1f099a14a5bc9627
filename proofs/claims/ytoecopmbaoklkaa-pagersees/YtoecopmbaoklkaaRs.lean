/-
  What the document's small calls answer: rooms, numbers of pages.
-/
import Derived.Test.YtoecopmbaoklkaaP10
namespace Go.Proofs.Ytoecopmbaoklkaa
open Go.RowKit
set_option linter.unusedVariables false
set_option linter.unusedSimpArgs false
set_option maxRecDepth 100000

end Go.Proofs.Ytoecopmbaoklkaa
