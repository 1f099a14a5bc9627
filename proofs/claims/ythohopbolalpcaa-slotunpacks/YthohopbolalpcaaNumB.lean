/-
  What the program's Set, the document's Set, and the fixed fact that each statement asks first answer, at every input.
-/
import Derived.Test.YthohopbolalpcaaNumA
import Derived.Deep.QuietTactic
import Derived.BigQuiet
namespace Go.Proofs.Ythohopbolalpcaa
open Go.RowKit
set_option linter.unusedVariables false

/-- What Set answers: s, in which the bytes from p on are n's. -/
def setOf (s : ByteArray) (p n c : Nat) : ByteArray := s.extract 0 p ++ ⟨(be n c).toArray⟩ ++ s.extract (p + c) s.size

theorem wake_put (w : World) : Calls Try.prog 57 #[.int .u64 258, .int .i64 2] w fun e w' => e = .returned (.tuple #[.string ⟨#[1, 2]⟩, .int .i64 0]) ∧ Below w.heap.size w w' :=
  put_ok 258 2 w (by omega) (by omega) (by omega)

theorem wake_get (w : World) : Calls Try.prog 76 #[.string ⟨#[0, 1, 2]⟩, .int .i64 1, .int .i64 2] w fun e w' => e = .returned (.tuple #[.int .u64 258, .int .i64 0]) ∧ w = w' :=
  get_ok ⟨#[0, 1, 2]⟩ 1 2 w (by omega) (by omega) (by decide) (by decide)

end Go.Proofs.Ythohopbolalpcaa
