/-
  A map from cells to branches that the call makes: what it holds, cell by cell.
-/
import Derived.Test.YtpflbdkbbkobbaaTrie
import Derived.Test.YtpflbdkbbkobbaaMaps
import Derived.DeepKeys5
namespace Go.Proofs.Ytpflbdkbbkobbaa
open Go.RowKit Go.Maps
set_option linter.unusedVariables false
set_option maxRecDepth 100000
set_option linter.unusedSimpArgs false

theorem laidOut : laidOutB Try.prog = true := by kernel_rfl
theorem row51 : (51 : TypeId) < Try.prog.types.size := of_decide_eq_true (by kernel_rfl)
theorem wide51 : (match Try.prog.underlying 51 with | some (.array _ _) | some (.struct _) => true | _ => false) = true := by rw [Try.underlying51]
theorem law51 : Keyed Try.prog 51 := Keyed.of_law (deep_law_laid laidOut (m := 3) (by omega) row51 (by kernel_rfl) wide51)
/-- a cell, as a value -/
def cv (c : Cl) : Value := .agg #[.string c.nm, .int .i64 c.ar]
/-- a cell of a machine's length -/
def FineC (c : Cl) : Prop := c.nm.size ≤ maxLen ∧ -9223372036854775808 ≤ c.ar ∧ c.ar ≤ 9223372036854775807
theorem keyType51 : Try.prog.keyType 51 = true := by kernel_rfl
theorem cells51 : Try.prog.cellsOf 51 = 2 := by kernel_rfl
theorem cells09 : Try.prog.cellsOf 9 = 1 := by kernel_rfl
theorem cells03 : Try.prog.cellsOf 3 = 1 := by kernel_rfl
theorem tys : ∃ m, Try.prog.types.size + 1 = m + 2 := by
  have h : (51 : Nat) < Try.prog.types.size := row51
  generalize Try.prog.types.size = n at h
  exact ⟨n - 1, by omega⟩
theorem wf64 {x : Int} (h1 : -9223372036854775808 ≤ x) (h2 : x ≤ 9223372036854775807) : (Lit.int .i64 x).wf = true := by
  have e1 : IntKind.i64.min = -9223372036854775808 := rfl
  have e2 : IntKind.i64.max = 9223372036854775807 := rfl
  simp [Lit.wf, e1, e2, h1, h2]
theorem key51 {c : Cl} (h : FineC c) : ∃ l, keyOf Try.prog 51 (cv c) = some l := by
  obtain ⟨h1, h2, h3⟩ := h
  have hf : (cv c).formed Try.prog 51 = true := by simp [cv, Value.formed, Try.underlying51, cells51]
  have hw := wf64 h2 h3
  have hk := keyType51
  unfold keyOf
  rw [Try.underlying51]
  simp only [hk, hf, Bool.and_true, if_true]
  obtain ⟨m, hm⟩ := tys
  rw [hm]
  have q9 : Try.prog.keyLits (m + 1) 9 [.string c.nm] = some [.string c.nm.data.toList] := by
    unfold Program.keyLits; rw [Try.underlying9]; simp only [if_pos h1]
  have q3 : Try.prog.keyLits (m + 1) 3 [.int .i64 c.ar] = some [.int .i64 c.ar] := by
    unfold Program.keyLits; rw [Try.underlying3]; simp [hw]
  have q : Try.prog.keyLits (m + 2) 51 (cv c).cells.toList = some [.string c.nm.data.toList, .int .i64 c.ar] := by
    unfold Program.keyLits
    rw [Try.underlying51]
    simp [cv, Value.cells, cells51, cells09, cells03, q9, q3]
  rw [q]
  exact ⟨_, rfl⟩
theorem cv_inj {c d : Cl} (h : cv c = cv d) : c = d := by
  cases c; cases d
  simp only [cv, Value.agg.injEq] at h
  simp at h
  obtain ⟨rfl, rfl⟩ := h
  rfl
/-- a block is a map of at most n entries that holds f -/
def CMap (w : World) (b n : Nat) (f : Cl → Option Value) : Prop :=
  ∃ D : DataW Value, w.ownsMap Try.prog 51 idR b n D ∧ ∀ (c : Cl) (l : Lit), keyOf Try.prog 51 (cv c) = some l → Maps.has D l = (f c).isSome ∧ ∀ z, D.atKey l (.held z) = .held ((f c).getD z)
theorem CMap.made (w : World) : CMap (w.alloc (.map #[] 0)) w.heap.size 0 fun _ => none :=
  ⟨.map [], World.ownsMap_made _ _ _ _, fun s _ _ => ⟨rfl, fun z => rfl⟩⟩
theorem CMap.mono {w : World} {b n n' : Nat} {f : Cl → Option Value} (h : CMap w b n f) (hn : n ≤ n') : CMap w b n' f := by
  obtain ⟨D, h1, h2⟩ := h
  exact ⟨D, h1.mono hn, h2⟩
theorem CMap.lt {w : World} {b n : Nat} {f : Cl → Option Value} (h : CMap w b n f) : b < w.heap.size := by
  obtain ⟨D, h1, _⟩ := h
  exact h1.lt
theorem CMap.kept {w w' : World} {b n : Nat} {f : Cl → Option Value} {row : Option Nat} (h : CMap w b n f) (hg : w.grownBy w' row) (hne : some b ≠ row) : CMap w' b n f := by
  obtain ⟨D, h1, h2⟩ := h
  exact ⟨D, h1.kept hg hne, h2⟩
theorem CMap.same {w w' : World} {b n : Nat} {f : Cl → Option Value} (h : CMap w b n f) (hb : w'.heap[b]? = w.heap[b]?) : CMap w' b n f := by
  obtain ⟨D, ⟨es, clock, h1, h2⟩, h3⟩ := h
  exact ⟨D, ⟨es, clock, hb.trans h1, h2⟩, h3⟩
theorem CMap.on {w w' : World} {b n B : Nat} {f : Cl → Option Value} (h : CMap w b n f) (hb : Below B w w') (hlt : b < B) : CMap w' b n f := by
  obtain ⟨D, ⟨es, clock, h1, h2⟩, h3⟩ := h
  exact ⟨D, ⟨es, clock, (hb.block b hlt).trans h1, h2⟩, h3⟩
theorem zeroV82 (w : World) : (zeroValue 82).run Try.prog w = .ok (.pointer none) w := by kernel_rfl
/-- m[key] -/
theorem CMap.get {w : World} {b n : Nat} {f : Cl → Option Value} (h : CMap w b n f) {c : Cl} (hc : FineC c) :
    (Instr.lookup 58 (.map (some b)) (.agg #[.string c.nm, .int .i64 c.ar]) false).run Try.prog w = .ok ((f c).getD (.pointer none)) w := by
  obtain ⟨D, hown, hD⟩ := h
  obtain ⟨l, hl⟩ := key51 hc
  obtain ⟨d1, d2⟩ := hD c l hl
  obtain ⟨v, ps, hrun, hv⟩ := hown.lookup law51 Try.underlying58 (zeroV82 w) (zd := .held (.pointer none)) (zp := []) rfl hl
  rw [d2] at hv
  unfold idR at hv
  simp only [Option.some.injEq, Prod.mk.injEq, DataW.held.injEq] at hv
  rw [hv.1] at hrun
  exact hrun
/-- m[key] of a nil map -/
theorem nil_get (w : World) {c : Cl} (hc : FineC c) : (Instr.lookup 58 (.map none) (.agg #[.string c.nm, .int .i64 c.ar]) false).run Try.prog w = .ok (.pointer none) w := by
  obtain ⟨l, hl⟩ := key51 hc
  exact Maps.look_nil false law51 Try.underlying58 (zeroV82 w) hl
/-- m[key] = val -/
theorem CMap.put {w : World} {b n : Nat} {f : Cl → Option Value} (h : CMap w b n f) (hn : n < maxLen) {c : Cl} (hc : FineC c) (val : Value) :
    ∃ w', (Instr.mapUpdate 58 (.map (some b)) (.agg #[.string c.nm, .int .i64 c.ar]) val).run Try.prog w = .ok () w' ∧ CMap w' b (n + 1) (fun x => if x = c then some val else f x) ∧ w.grownBy w' (some b) := by
  obtain ⟨D, hown, hD⟩ := h
  obtain ⟨l, hl⟩ := key51 hc
  obtain ⟨w', h1, h2, h3⟩ := hown.store law51 Try.underlying58 hn hl (val := val) (d := .held val) (ps := []) rfl
  refine ⟨w', h1, ⟨_, h2, fun x lx hx => ?_⟩, h3.grown⟩
  by_cases e : x = c
  · subst e
    obtain rfl : lx = l := by rw [hl] at hx; cases hx; rfl
    refine ⟨?_, fun z => ?_⟩
    · rw [Maps.has_put_same hown.isMap (law51.key hl)]; simp
    · rw [Maps.atKey_put_same hown.isMap (law51.key hl)]; simp
  · obtain ⟨d1, d2⟩ := hD x lx hx
    have hne : lx ≠ l := fun e2 => e (cv_inj (law51.inj hx (by rw [e2]; exact hl)))
    refine ⟨?_, fun z => ?_⟩
    · rw [Maps.has_put_other hne, d1]; simp [e]
    · rw [Maps.atKey_put_other hne, d2]; simp [e]

end Go.Proofs.Ytpflbdkbbkobbaa
