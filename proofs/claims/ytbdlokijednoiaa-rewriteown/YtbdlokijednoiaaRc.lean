/-
  What the document's Check answers of any rule.
-/
import Derived.Test.YtbdlokijednoiaaRFit
import Derived.Test.YtbdlokijednoiaaRVars
import Derived.Test.YtbdlokijednoiaaCp
import Derived.Test.YtbdlokijednoiaaCheck
namespace Go.Proofs.Ytbdlokijednoiaa
open Go.RowKit
set_option linter.unusedVariables false
set_option linter.unusedSimpArgs false
set_option maxRecDepth 100000

theorem chk_hit {id : Int} {L R : List Cl} (k : Nat) (hk : k < 6) (h : ∀ j, j < k → cks id L R j = 0) (h2 : cks id L R k ≠ 0) : chk id L R = cks id L R k :=
  fst_hit _ 6 0 k (Nat.zero_le _) (by omega) (fun j _ hj => h j hj) h2
theorem chk_all {id : Int} {L R : List Cl} (h : ∀ j, j < 6 → cks id L R j = 0) : chk id L R = 0 := fst_all _ 6 0 (fun j _ hj => h j (by omega))
theorem upto {P : Nat → Prop} {n : Nat} (h : ∀ j, j < n → P j) (h2 : P n) : ∀ j, j < n + 1 → P j := fun j hj => by
  by_cases e : j = n
  · subst e; exact h2
  · exact h j (by omega)

end Go.Proofs.Ytbdlokijednoiaa
