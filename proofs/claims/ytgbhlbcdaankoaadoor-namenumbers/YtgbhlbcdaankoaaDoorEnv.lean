/-
  What every world of this seat's calls holds: the table of powers, the two errors of strconv, the search's bound; kept by whatever leaves old memory alone.
-/
import Derived.Test.YtgbhlbcdaankoaaDoorShelf
import Derived.Test.YtgbhlbcdaankoaaDoorRows
import Derived.Stop.LaidErr
import Derived.Lib.LaidTab
import Derived.WalkSmall
import Derived.Deep.DeepHandedRow
import Derived.Lay
import Derived.LaidMore
import Derived.ProofKit
import Derived.OpenShut
namespace Go.Proofs.YtgbhlbcdaankoaaDoor
open Go.RowKit
set_option linter.unusedVariables false

/-- What is read of the library's variables. -/
structure Env (w : World) : Prop where
  tab : Lib.TabIs Tryd.prog w "internal/strconv.uint64pow10" .u64 Lib.pow10Tab
  syn : ∃ tp p, w.var? Tryd.prog "strconv.ErrSyntax" = some #[.iface tp p]
  rng : ∃ tp p, w.var? Tryd.prog "strconv.ErrRange" = some #[.iface tp p]
  most : ∃ m, w.cell? ⟨3, 0, none⟩ = some (.int .i64 m)
  size : 4 ≤ w.heap.size

theorem gPow : Tryd.prog.globalNamed "internal/strconv.uint64pow10" = some 2 := by kernel_rfl
theorem gSyn : Tryd.prog.globalNamed "strconv.ErrSyntax" = some 0 := by kernel_rfl
theorem gRng : Tryd.prog.globalNamed "strconv.ErrRange" = some 1 := by kernel_rfl

theorem Env.on {w w' : World} (h : Env w) (hb : Below w.heap.size w w') : Env w' := by
  have hz := h.size
  refine ⟨?_, ?_, ?_, ?_, ?_⟩
  · exact var?_below hb gPow (by omega) h.tab
  · obtain ⟨tp, p, hv⟩ := h.syn
    exact ⟨tp, p, var?_below hb gSyn (by omega) hv⟩
  · obtain ⟨tp, p, hv⟩ := h.rng
    exact ⟨tp, p, var?_below hb gRng (by omega) hv⟩
  · obtain ⟨m, hm⟩ := h.most
    exact ⟨m, (hb.cell (p := ⟨3, 0, none⟩) (by show 3 < w.heap.size; omega)).trans hm⟩
  · have := hb.size; omega

theorem tyPow : (Tryd.prog.globals[2]?).map (·.type) = some 74 := by kernel_rfl
theorem tySyn : (Tryd.prog.globals[0]?).map (·.type) = some 42 := by kernel_rfl
theorem tyRng : (Tryd.prog.globals[1]?).map (·.type) = some 42 := by kernel_rfl
theorem cells45 : Tryd.prog.cellsOf 45 = 1 := by kernel_rfl
theorem cells74 : Tryd.prog.cellsOf 74 = 20 := by kernel_rfl
theorem cells81 : Tryd.prog.cellsOf 81 = 1 := by kernel_rfl
theorem cells9 : Tryd.prog.cellsOf 9 = 1 := by kernel_rfl
theorem star : "*" ++ "errors.errorString" = "*errors.errorString" := by decide
theorem row79 (u : TypeId) (h : Tryd.prog.typeName? 3 u = some "*errors.errorString") : u = 79 :=
  typeName_ptr_named (nm := "errors.errorString") (by rw [star]; kernel_rfl) (by kernel_rfl) (by decide) u (by rw [star]; exact h)

/-- What the row's list and the world's shape give. -/
theorem env_of {W : World} (h0 : laidMetH Tryd.prog Rows.nameKindsRow.laid W) (hsh : W.ShapedOpen Tryd.prog) : Env W := by
  rw [MakeChecks.laidMetH_plain _ _ _ (by kernel_rfl)] at h0
  have h2 := h0.tail.tail
  have hp : Lib.TabIs Tryd.prog W "internal/strconv.uint64pow10" .u64 Lib.pow10Tab :=
    Lib.tabIs_of_head gPow tyPow Tryd.underlying74 Tryd.underlying45 cells45 cells74 h2
  have h4 := h2.tail.tail
  obtain ⟨a1, s1, hv1, -, -, -⟩ := laid_sentinel h4 gRng tyRng Tryd.underlying42 row79 Tryd.underlying79 Tryd.underlying81 rfl rfl Tryd.underlying9 cells81 cells9
  obtain ⟨a0, s0, hv0, -, -, -⟩ := laid_sentinel h4.tail gSyn tySyn Tryd.underlying42 row79 Tryd.underlying79 Tryd.underlying81 rfl rfl Tryd.underlying9 cells81 cells9
  obtain ⟨m, hm⟩ := cell_of_shapedOpen_int (g := 3) (t := 3) (zero := #[.int .i64 0]) (k := .i64) hsh (by decide +kernel) (by kernel_rfl) rfl (by kernel_rfl) (by kernel_rfl) Tryd.underlying3
  have hlt := World.block_lt_of_cell? W ⟨3, 0, none⟩ hm
  exact ⟨hp, ⟨_, _, hv0⟩, ⟨_, _, hv1⟩, ⟨m, hm⟩, hlt⟩

end Go.Proofs.YtgbhlbcdaankoaaDoor
