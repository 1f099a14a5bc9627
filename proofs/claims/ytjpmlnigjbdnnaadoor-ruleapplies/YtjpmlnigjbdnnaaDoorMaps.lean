/-
  A map from names to binds that the call makes: what it holds, name by name.
-/
import Derived.Test.YtjpmlnigjbdnnaaDoorFit
import Derived.Maps.OwnSet
import Derived.Maps.OwnOps
namespace Go.Proofs.YtjpmlnigjbdnnaaDoor
open Go.RowKit Go.Maps
set_option linter.unusedVariables false
set_option maxRecDepth 100000
set_option linter.unusedSimpArgs false

theorem law9 : Keyed Tryd.prog 9 := string_keyed Tryd.underlying9
/-- an empty bind -/
def zero44 : Value := .agg #[.string ⟨#[]⟩, .slice none 0 0]
theorem zeroV44 (w : World) : (zeroValue 102).run Tryd.prog w = .ok zero44 w := by kernel_rfl
/-- an element is held as it is -/
def idR (v : Value) : Option (DataW Value × List MemPlace) := some (.held v, [])
/-- a block is a map of at most n entries that holds f -/
def MapIs (w : World) (b n : Nat) (f : ByteArray → Option Value) : Prop :=
  ∃ D : DataW Value, w.ownsMap Tryd.prog 9 idR b n D ∧ ∀ s : ByteArray, s.size ≤ maxLen → Maps.has D (.string s.data.toList) = (f s).isSome ∧ ∀ z, D.atKey (.string s.data.toList) (.held z) = .held ((f s).getD z)

theorem MapIs.made (w : World) : MapIs (w.alloc (.map #[] 0)) w.heap.size 0 fun _ => none :=
  ⟨.map [], World.ownsMap_made _ _ _ _, fun s _ => ⟨rfl, fun z => rfl⟩⟩
theorem MapIs.mono {w : World} {b n n' : Nat} {f : ByteArray → Option Value} (h : MapIs w b n f) (hn : n ≤ n') : MapIs w b n' f := by
  obtain ⟨D, h1, h2⟩ := h
  exact ⟨D, h1.mono hn, h2⟩
theorem MapIs.lt {w : World} {b n : Nat} {f : ByteArray → Option Value} (h : MapIs w b n f) : b < w.heap.size := by
  obtain ⟨D, h1, _⟩ := h
  exact h1.lt
theorem MapIs.on {w w' : World} {b n : Nat} {f : ByteArray → Option Value} (h : MapIs w b n f) (hb : Below w.heap.size w w') : MapIs w' b n f := by
  have hlt := h.lt
  obtain ⟨D, ⟨es, clock, h1, h2⟩, h3⟩ := h
  exact ⟨D, ⟨es, clock, (hb.block b hlt).trans h1, h2⟩, h3⟩
theorem MapIs.alloc {w : World} {b n : Nat} {f : ByteArray → Option Value} (h : MapIs w b n f) (o : Obj) : MapIs (w.alloc o) b n f := h.on ((Below.refl _ w).alloc (Nat.le_refl _) o)
theorem MapIs.drew {w : World} {b n : Nat} {f : ByteArray → Option Value} (h : MapIs w b n f) : MapIs w.drew b n f := h

theorem key_ne {s k : ByteArray} (h : s ≠ k) : (Lit.string s.data.toList) ≠ .string k.data.toList := by
  intro e
  injection e with e1
  apply h
  cases s; cases k
  simpa using e1

section
variable (w : World) {ops : Array Oper} {rest : List Oper} {o : Oper} {a : Act} {Q : Exit → Act → World → Prop}
/-- m[key] = val -/
theorem wpList_store5 (hg : o.guard = none) (m x v : Operand) (hop : o.op = Op.mapUpdate 103 m x v) (b n : Nat) (f : ByteArray → Option Value) (hm : a.eval m = .map (some b)) (hmap : MapIs w b n f) (hn : n < maxLen)
    (key : ByteArray) (val : Value) (hx : a.eval x = .string key) (hv : a.eval v = val) (hk : key.size ≤ maxLen)
    (hK : ∀ w', MapIs w' b (n + 1) (fun s => if s = key then some val else f s) → w.grownBy w' (some b) → wpList Tryd.prog ops Q rest (a.put o.dst undef) w') :
    wpList Tryd.prog ops Q (o :: rest) a w := by
  obtain ⟨D, hown, hD⟩ := hmap
  have hkey : keyOf Tryd.prog 9 (.string key) = some (.string key.data.toList) := WideMaps.keyOf_string_mk Tryd.underlying9 hk
  refine wpList_mapUpdate_own w hg m x v 103 hop 9 102 law9 Tryd.underlying103 idR b n D hm hown hn (.string key) val _ hx hv hkey (.held val) [] rfl (fun w' h1 h2 => hK w' ⟨_, h1, fun s hs => ?_⟩ h2)
  by_cases e : s = key
  · subst e
    refine ⟨?_, fun z => ?_⟩
    · rw [Maps.has_put_same hown.isMap (k := .string s.data.toList) (by trivial)]; simp
    · rw [Maps.atKey_put_same hown.isMap (k := .string s.data.toList) (by trivial)]; simp
  · obtain ⟨d1, d2⟩ := hD s hs
    refine ⟨?_, fun z => ?_⟩
    · rw [Maps.has_put_other (key_ne e), d1]; simp [e]
    · rw [Maps.atKey_put_other (key_ne e), d2]; simp [e]
/-- b, ok := m[key] -/
theorem wpList_look5 (hg : o.guard = none) (m x : Operand) (hop : o.op = Op.lookup 103 m x true) (b n : Nat) (f : ByteArray → Option Value) (hm : a.eval m = .map (some b)) (hmap : MapIs w b n f)
    (key : ByteArray) (hx : a.eval x = .string key) (hk : key.size ≤ maxLen) (fk : Option Value) (hf : f key = fk)
    (hK : wpList Tryd.prog ops Q rest (a.put o.dst (.tuple #[fk.getD zero44, .bool fk.isSome])) w) :
    wpList Tryd.prog ops Q (o :: rest) a w := by
  obtain ⟨D, hown, hD⟩ := hmap
  have hkey : keyOf Tryd.prog 9 (.string key) = some (.string key.data.toList) := WideMaps.keyOf_string_mk Tryd.underlying9 hk
  obtain ⟨d1, d2⟩ := hD key hk
  refine wpList_lookup_own_ok w hg m x 103 hop 9 102 law9 Tryd.underlying103 idR (zeroV44 w) (.held zero44) [] rfl b n D hm hown (.string key) _ hx hkey (fun v ps hv => ?_)
  rw [d2, hf] at hv
  unfold idR at hv
  simp only [Option.some.injEq, Prod.mk.injEq, DataW.held.injEq] at hv
  rw [hv.1, d1, hf]
  exact hK
/-- m[key] -/
theorem wpList_get5 (hg : o.guard = none) (m x : Operand) (hop : o.op = Op.lookup 103 m x false) (b n : Nat) (f : ByteArray → Option Value) (hm : a.eval m = .map (some b)) (hmap : MapIs w b n f)
    (key : ByteArray) (hx : a.eval x = .string key) (hk : key.size ≤ maxLen) (fk : Option Value) (hf : f key = fk)
    (hK : wpList Tryd.prog ops Q rest (a.put o.dst (fk.getD zero44)) w) :
    wpList Tryd.prog ops Q (o :: rest) a w := by
  obtain ⟨D, hown, hD⟩ := hmap
  have hkey : keyOf Tryd.prog 9 (.string key) = some (.string key.data.toList) := WideMaps.keyOf_string_mk Tryd.underlying9 hk
  obtain ⟨d1, d2⟩ := hD key hk
  refine wpList_plain hg fun K' hK' => ?_
  obtain ⟨v, ps, hrun, hv⟩ := hown.lookup law9 Tryd.underlying103 (zeroV44 w) (zd := .held zero44) (zp := []) rfl hkey
  rw [d2, hf] at hv
  unfold idR at hv
  simp only [Option.some.injEq, Prod.mk.injEq, DataW.held.injEq] at hv
  unfold Oper.wp
  simp [execOp, hop, hm, hx, hrun, Result.andThen]
  rw [hv.1]
  exact hK' _ _ hK
/-- b, ok := m[key], where it is not there, and where it is -/
theorem wpList_look5_none (hg : o.guard = none) (m x : Operand) (hop : o.op = Op.lookup 103 m x true) (b n : Nat) (f : ByteArray → Option Value) (hm : a.eval m = .map (some b)) (hmap : MapIs w b n f)
    (key : ByteArray) (hx : a.eval x = .string key) (hk : key.size ≤ maxLen) (hf : f key = none)
    (hK : wpList Tryd.prog ops Q rest (a.put o.dst (.tuple #[.agg #[.string ⟨#[]⟩, .slice none 0 0], .bool false])) w) :
    wpList Tryd.prog ops Q (o :: rest) a w := wpList_look5 w hg m x hop b n f hm hmap key hx hk none hf hK
theorem wpList_look5_some (hg : o.guard = none) (m x : Operand) (hop : o.op = Op.lookup 103 m x true) (b n : Nat) (f : ByteArray → Option Value) (hm : a.eval m = .map (some b)) (hmap : MapIs w b n f)
    (key : ByteArray) (hx : a.eval x = .string key) (hk : key.size ≤ maxLen) (val : Value) (hf : f key = some val)
    (hK : wpList Tryd.prog ops Q rest (a.put o.dst (.tuple #[val, .bool true])) w) :
    wpList Tryd.prog ops Q (o :: rest) a w := wpList_look5 w hg m x hop b n f hm hmap key hx hk (some val) hf hK
theorem wpList_get5_some (hg : o.guard = none) (m x : Operand) (hop : o.op = Op.lookup 103 m x false) (b n : Nat) (f : ByteArray → Option Value) (hm : a.eval m = .map (some b)) (hmap : MapIs w b n f)
    (key : ByteArray) (hx : a.eval x = .string key) (hk : key.size ≤ maxLen) (val : Value) (hf : f key = some val)
    (hK : wpList Tryd.prog ops Q rest (a.put o.dst val) w) :
    wpList Tryd.prog ops Q (o :: rest) a w := wpList_get5 w hg m x hop b n f hm hmap key hx hk (some val) hf hK
end

end Go.Proofs.YtjpmlnigjbdnnaaDoor
