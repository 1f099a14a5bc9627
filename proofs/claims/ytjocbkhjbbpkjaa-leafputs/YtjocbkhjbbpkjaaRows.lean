/-
  No cell of these rows narrows 'for every input' (looked for: loops, veiled, ifaces, maps, wideKeys, modest, calm, conditions, laid).
  DERIVED. THE GIVEN ROWS OF THIS SEAT. 6 by the template 'for every input the law returns true; each argument reads behind the call as it read before'; 0 by the template 'total and deterministic' (their statements: YtjocbkhjbbpkjaaTotals.lean).
  GIVEN WITH THE SEED: the statements are not yours to turn. If you find one false, say at which input.
  Laid BY PROGRAM, IN A SANDBOX (cutbox-rows.mjs): the forced cells as the released guide's own fill.sh prints them over the translation ed6e8fe32bed17ad… (all of the seat's roots in one cut). By AI agents, Wed Nov 11 2026. No macro, syntax, notation, axiom, sorry.
-/
import Derived.Test.YtjocbkhjbbpkjaaChecked
import GoSem.Claim
import GoSem.ClaimJoined
import GoSem.ClaimMapViews
import Derived.JoinedTies
import Derived.KernelRfl
namespace Go.Proofs.Ytjocbkhjbbpkjaa
/- THE CELL 'sum', in the pinned program and in every row, IS THE sha256 OF THE DUMP (.gsa) THAT YtjocbkhjbbpkjaaProg.lean LOADS. Nothing in Lean hashes anything: it is a label: what it is worth is what the hold of that sum in a sandbox is worth. -/
noncomputable def Try.pinned : Pinned := { name := "ytjocbkhjbbpkjaa", sum := "ed6e8fe32bed17ad78fe7c890bfc1517e16716877230630a385441f60e004e17", checked := Try.checked }
namespace Rows
def none {H : Type} : Left H := { results := [], args := [] }

/-- 'aumbrylaw13.LeafPacks': WHATEVER THE INPUT: true; the input reads as it did. -/
def leafPacksSpec : ChangeSpec := { name := "leafPacks", fn := fun _ => fun
  | [d1, d2] => { results := [.lit (.bool true)], args := [d1, d2] }
  | _ => none }
def leafPacksRow : OpenClaim := { program := "ytjocbkhjbbpkjaa", sum := "ed6e8fe32bed17ad78fe7c890bfc1517e16716877230630a385441f60e004e17", func := "aumbry/aumbrylaw13.LeafPacks", spec := "leafPacks", inPlace := ["internal/abi.NoEscape"], unfollowed := true, recurses := true, apart := false }
def LeafPacksSaid : Prop := leafPacksRow.holds Try.pinned (OpenSpec.ofChange leafPacksSpec)

/-- ITS FALSE NEIGHBOUR: 'it returns false'. Refute it at one input. -/
def leafPacksWrong : ChangeSpec := { name := "leafPacks", fn := fun _ => fun
  | [d1, d2] => { results := [.lit (.bool false)], args := [d1, d2] }
  | _ => none }
def LeafPacksWrongFalsely : Prop := leafPacksRow.holds Try.pinned (OpenSpec.ofChange leafPacksWrong)

/-- 'aumbrylaw13.LeafUnpacks': WHATEVER THE INPUT: true; the input reads as it did. -/
def leafUnpacksSpec : ChangeSpec := { name := "leafUnpacks", fn := fun _ => fun
  | [d] => { results := [.lit (.bool true)], args := [d] }
  | _ => none }
def leafUnpacksRow : OpenClaim := { program := "ytjocbkhjbbpkjaa", sum := "ed6e8fe32bed17ad78fe7c890bfc1517e16716877230630a385441f60e004e17", func := "aumbry/aumbrylaw13.LeafUnpacks", spec := "leafUnpacks", inPlace := ["internal/abi.NoEscape"], unfollowed := true, recurses := true, apart := false }
def LeafUnpacksSaid : Prop := leafUnpacksRow.holds Try.pinned (OpenSpec.ofChange leafUnpacksSpec)

/-- ITS FALSE NEIGHBOUR: 'it returns false'. Refute it at one input. -/
def leafUnpacksWrong : ChangeSpec := { name := "leafUnpacks", fn := fun _ => fun
  | [d] => { results := [.lit (.bool false)], args := [d] }
  | _ => none }
def LeafUnpacksWrongFalsely : Prop := leafUnpacksRow.holds Try.pinned (OpenSpec.ofChange leafUnpacksWrong)

/-- 'aumbrylaw13.LeafBack': WHATEVER THE INPUT: true; the input reads as it did. -/
def leafBackSpec : ChangeSpec := { name := "leafBack", fn := fun _ => fun
  | [d1, d2, d3] => { results := [.lit (.bool true)], args := [d1, d2, d3] }
  | _ => none }
def leafBackRow : OpenClaim := { program := "ytjocbkhjbbpkjaa", sum := "ed6e8fe32bed17ad78fe7c890bfc1517e16716877230630a385441f60e004e17", func := "aumbry/aumbrylaw13.LeafBack", spec := "leafBack", inPlace := ["internal/abi.NoEscape"], unfollowed := true, recurses := true, apart := false }
def LeafBackSaid : Prop := leafBackRow.holds Try.pinned (OpenSpec.ofChange leafBackSpec)

/-- ITS FALSE NEIGHBOUR: 'it returns false'. Refute it at one input. -/
def leafBackWrong : ChangeSpec := { name := "leafBack", fn := fun _ => fun
  | [d1, d2, d3] => { results := [.lit (.bool false)], args := [d1, d2, d3] }
  | _ => none }
def LeafBackWrongFalsely : Prop := leafBackRow.holds Try.pinned (OpenSpec.ofChange leafBackWrong)

/-- 'aumbrylaw13.LeafFinds': WHATEVER THE INPUT: true; the input reads as it did. -/
def leafFindsSpec : ChangeSpec := { name := "leafFinds", fn := fun _ => fun
  | [d1, d2] => { results := [.lit (.bool true)], args := [d1, d2] }
  | _ => none }
def leafFindsRow : OpenClaim := { program := "ytjocbkhjbbpkjaa", sum := "ed6e8fe32bed17ad78fe7c890bfc1517e16716877230630a385441f60e004e17", func := "aumbry/aumbrylaw13.LeafFinds", spec := "leafFinds", inPlace := ["internal/abi.NoEscape"], unfollowed := true, recurses := true, apart := false }
def LeafFindsSaid : Prop := leafFindsRow.holds Try.pinned (OpenSpec.ofChange leafFindsSpec)

/-- ITS FALSE NEIGHBOUR: 'it returns false'. Refute it at one input. -/
def leafFindsWrong : ChangeSpec := { name := "leafFinds", fn := fun _ => fun
  | [d1, d2] => { results := [.lit (.bool false)], args := [d1, d2] }
  | _ => none }
def LeafFindsWrongFalsely : Prop := leafFindsRow.holds Try.pinned (OpenSpec.ofChange leafFindsWrong)

/-- 'aumbrylaw13.LeafPuts': WHATEVER THE INPUT: true; the input reads as it did. -/
def leafPutsSpec : ChangeSpec := { name := "leafPuts", fn := fun _ => fun
  | [d1, d2, d3] => { results := [.lit (.bool true)], args := [d1, d2, d3] }
  | _ => none }
def leafPutsRow : OpenClaim := { program := "ytjocbkhjbbpkjaa", sum := "ed6e8fe32bed17ad78fe7c890bfc1517e16716877230630a385441f60e004e17", func := "aumbry/aumbrylaw13.LeafPuts", spec := "leafPuts", inPlace := ["internal/abi.NoEscape"], unfollowed := true, recurses := true, apart := false }
def LeafPutsSaid : Prop := leafPutsRow.holds Try.pinned (OpenSpec.ofChange leafPutsSpec)

/-- ITS FALSE NEIGHBOUR: 'it returns false'. Refute it at one input. -/
def leafPutsWrong : ChangeSpec := { name := "leafPuts", fn := fun _ => fun
  | [d1, d2, d3] => { results := [.lit (.bool false)], args := [d1, d2, d3] }
  | _ => none }
def LeafPutsWrongFalsely : Prop := leafPutsRow.holds Try.pinned (OpenSpec.ofChange leafPutsWrong)

/-- 'aumbrylaw13.LeafCuts': WHATEVER THE INPUT: true; the input reads as it did. -/
def leafCutsSpec : ChangeSpec := { name := "leafCuts", fn := fun _ => fun
  | [d] => { results := [.lit (.bool true)], args := [d] }
  | _ => none }
def leafCutsRow : OpenClaim := { program := "ytjocbkhjbbpkjaa", sum := "ed6e8fe32bed17ad78fe7c890bfc1517e16716877230630a385441f60e004e17", func := "aumbry/aumbrylaw13.LeafCuts", spec := "leafCuts", inPlace := ["internal/abi.NoEscape"], unfollowed := true, recurses := true, apart := false }
def LeafCutsSaid : Prop := leafCutsRow.holds Try.pinned (OpenSpec.ofChange leafCutsSpec)

/-- ITS FALSE NEIGHBOUR: 'it returns false'. Refute it at one input. -/
def leafCutsWrong : ChangeSpec := { name := "leafCuts", fn := fun _ => fun
  | [d] => { results := [.lit (.bool false)], args := [d] }
  | _ => none }
def LeafCutsWrongFalsely : Prop := leafCutsRow.holds Try.pinned (OpenSpec.ofChange leafCutsWrong)

/- THE SECOND FORM. 'bulk': how many values and letters a reading holds, each counted each time it is reached (what is shared counts as often as it is met; a slice's spare places count too). A statement '..UptoSaid' is the law's where the arguments, and the package variables that the reading takes, are together of bulk at most 1048576: NARROWER than '..Said'. Prove '..Said' where nothing that the law and all that it calls make is longer than what came in: it says more and counts as full. Else prove '..UptoSaid'. A law counts once. -/
mutual
def uptoBulk {H : Type} : DataW H → Nat
  | .lit (.string bytes) => bytes.length + 1
  | .lit _ => 1
  | .nil => 1
  | .ptr d => uptoBulk d + 1
  | .slice elems spare => uptoBulkAll elems + uptoBulkAll spare + 1
  | .agg parts => uptoBulkAll parts + 1
  | .iface _ d => uptoBulk d + 1
  | .map entries => uptoBulkEntries entries + 1
  | .held _ => 1
def uptoBulkAll {H : Type} : List (DataW H) → Nat
  | [] => 0
  | d :: r => uptoBulk d + uptoBulkAll r
def uptoBulkEntries {H : Type} : List (Lit × DataW H) → Nat
  | [] => 0
  | x :: r => uptoBulkEntry x + uptoBulkEntries r
def uptoBulkEntry {H : Type} : Lit × DataW H → Nat
  | (.string bytes, d) => bytes.length + uptoBulk d + 1
  | (_, d) => uptoBulk d + 1
 end
def uptoSmall : (H : Type) → List (DataW H) → Bool := fun _ ds => decide (uptoBulkAll ds ≤ 1048576)
def OpenSpec.upto (s : _root_.Go.ChangeSpec) : _root_.Go.OpenSpec := { _root_.Go.OpenSpec.ofChange s with cond := some uptoSmall }

/-- 'aumbrylaw13.LeafPacks', WHERE WHAT IT READS IS OF BULK AT MOST 1048576: true; the input reads as it did. -/
def leafPacksUptoRow : OpenClaim := { program := "ytjocbkhjbbpkjaa", sum := "ed6e8fe32bed17ad78fe7c890bfc1517e16716877230630a385441f60e004e17", func := "aumbry/aumbrylaw13.LeafPacks", spec := "leafPacks", inPlace := ["internal/abi.NoEscape"], unfollowed := true, recurses := true, apart := false, narrowed := true }
def LeafPacksUptoSaid : Prop := leafPacksUptoRow.holds Try.pinned (OpenSpec.upto leafPacksSpec)

/-- 'aumbrylaw13.LeafUnpacks', WHERE WHAT IT READS IS OF BULK AT MOST 1048576: true; the input reads as it did. -/
def leafUnpacksUptoRow : OpenClaim := { program := "ytjocbkhjbbpkjaa", sum := "ed6e8fe32bed17ad78fe7c890bfc1517e16716877230630a385441f60e004e17", func := "aumbry/aumbrylaw13.LeafUnpacks", spec := "leafUnpacks", inPlace := ["internal/abi.NoEscape"], unfollowed := true, recurses := true, apart := false, narrowed := true }
def LeafUnpacksUptoSaid : Prop := leafUnpacksUptoRow.holds Try.pinned (OpenSpec.upto leafUnpacksSpec)

/-- 'aumbrylaw13.LeafBack', WHERE WHAT IT READS IS OF BULK AT MOST 1048576: true; the input reads as it did. -/
def leafBackUptoRow : OpenClaim := { program := "ytjocbkhjbbpkjaa", sum := "ed6e8fe32bed17ad78fe7c890bfc1517e16716877230630a385441f60e004e17", func := "aumbry/aumbrylaw13.LeafBack", spec := "leafBack", inPlace := ["internal/abi.NoEscape"], unfollowed := true, recurses := true, apart := false, narrowed := true }
def LeafBackUptoSaid : Prop := leafBackUptoRow.holds Try.pinned (OpenSpec.upto leafBackSpec)

/-- 'aumbrylaw13.LeafFinds', WHERE WHAT IT READS IS OF BULK AT MOST 1048576: true; the input reads as it did. -/
def leafFindsUptoRow : OpenClaim := { program := "ytjocbkhjbbpkjaa", sum := "ed6e8fe32bed17ad78fe7c890bfc1517e16716877230630a385441f60e004e17", func := "aumbry/aumbrylaw13.LeafFinds", spec := "leafFinds", inPlace := ["internal/abi.NoEscape"], unfollowed := true, recurses := true, apart := false, narrowed := true }
def LeafFindsUptoSaid : Prop := leafFindsUptoRow.holds Try.pinned (OpenSpec.upto leafFindsSpec)

/-- 'aumbrylaw13.LeafPuts', WHERE WHAT IT READS IS OF BULK AT MOST 1048576: true; the input reads as it did. -/
def leafPutsUptoRow : OpenClaim := { program := "ytjocbkhjbbpkjaa", sum := "ed6e8fe32bed17ad78fe7c890bfc1517e16716877230630a385441f60e004e17", func := "aumbry/aumbrylaw13.LeafPuts", spec := "leafPuts", inPlace := ["internal/abi.NoEscape"], unfollowed := true, recurses := true, apart := false, narrowed := true }
def LeafPutsUptoSaid : Prop := leafPutsUptoRow.holds Try.pinned (OpenSpec.upto leafPutsSpec)

/-- 'aumbrylaw13.LeafCuts', WHERE WHAT IT READS IS OF BULK AT MOST 1048576: true; the input reads as it did. -/
def leafCutsUptoRow : OpenClaim := { program := "ytjocbkhjbbpkjaa", sum := "ed6e8fe32bed17ad78fe7c890bfc1517e16716877230630a385441f60e004e17", func := "aumbry/aumbrylaw13.LeafCuts", spec := "leafCuts", inPlace := ["internal/abi.NoEscape"], unfollowed := true, recurses := true, apart := false, narrowed := true }
def LeafCutsUptoSaid : Prop := leafCutsUptoRow.holds Try.pinned (OpenSpec.upto leafCutsSpec)

end Rows
end Go.Proofs.Ytjocbkhjbbpkjaa
