/-
  A map from numbers to a tree's pages.
-/
import Derived.Test.YtjcbaiohpdihoaaGreatDoorApp
import Derived.Maps.OwnSet
import Derived.Maps.OwnOps
namespace Go.Proofs.YtjcbaiohpdihoaaGreatDoor
open Go.RowKit Go.Maps
set_option linter.unusedVariables false
set_option maxRecDepth 100000
set_option linter.unusedSimpArgs false

theorem lawI : Keyed Tryz.prog 3 := int_keyed Tryz.underlying3
/-- no page -/
def zeroPg : Value := .agg #[.string ⟨#[]⟩, .int .i64 0]
theorem zeroPgV (w : World) : (zeroValue 212).run Tryz.prog w = .ok zeroPg w := by kernel_rfl
/-- an element is held as it is -/
def idR (v : Value) : Option (DataW Value × List MemPlace) := some (.held v, [])
theorem keyI {a : Int} (h : -9223372036854775808 ≤ a ∧ a ≤ 9223372036854775807) : keyOf Tryz.prog 3 (.int .i64 a) = some (.int .i64 a) := by
  refine keyOf_int_mk Tryz.underlying3 ?_
  have e1 : IntKind.i64.min = -9223372036854775808 := rfl
  have e2 : IntKind.i64.max = 9223372036854775807 := rfl
  simp [Lit.wf, e1, e2, h.1, h.2]
/-- a number of 110 bits -/
def I64 (a : Int) : Prop := -9223372036854775808 ≤ a ∧ a ≤ 9223372036854775807
theorem owns_sharp {w : World} {b n : Nat} {D : DataW Value} (h : w.ownsMap Tryz.prog 3 idR b n D) : w.ownsMap Tryz.prog 3 idR b (Maps.size D) D := by
  obtain ⟨es, clock, hb, F, hs, rfl⟩ := h
  refine ⟨es, clock, hb, F, ?_, rfl⟩
  simp [Maps.size, length_sorted]
/-- a block is a map of n entries that holds f -/
def IMap (w : World) (b n : Nat) (f : Int → Option Value) : Prop :=
  ∃ D : DataW Value, w.ownsMap Tryz.prog 3 idR b n D ∧ Maps.size D = n ∧ ∀ c : Int, I64 c → Maps.has D (.int .i64 c) = (f c).isSome ∧ ∀ z, D.atKey (.int .i64 c) (.held z) = .held ((f c).getD z)
theorem IMap.made (w : World) : IMap (w.alloc (.map #[] 0)) w.heap.size 0 fun _ => none :=
  ⟨.map [], World.ownsMap_made _ _ _ _, rfl, fun s _ => ⟨rfl, fun z => rfl⟩⟩
theorem IMap.lt {w : World} {b n : Nat} {f : Int → Option Value} (h : IMap w b n f) : b < w.heap.size := by
  obtain ⟨D, h1, _⟩ := h
  exact h1.lt
theorem IMap.same {w w' : World} {b n : Nat} {f : Int → Option Value} (h : IMap w b n f) (hb : w'.heap[b]? = w.heap[b]?) : IMap w' b n f := by
  obtain ⟨D, ⟨es, clock, h1, h2⟩, h3⟩ := h
  exact ⟨D, ⟨es, clock, hb.trans h1, h2⟩, h3⟩
theorem IMap.ext {w : World} {b n : Nat} {f g : Int → Option Value} (h : IMap w b n f) (e : ∀ c, f c = g c) : IMap w b n g := by
  obtain rfl : f = g := funext e
  exact h
theorem IMap.obj {w : World} {b n : Nat} {f : Int → Option Value} (h : IMap w b n f) : ∃ es clock, w.heap[b]? = some (.map es clock) := by
  obtain ⟨D, ⟨es, clock, h1, h2⟩, h3⟩ := h
  exact ⟨es, clock, h1⟩
theorem IMap.kept {w w' : World} {b n : Nat} {f : Int → Option Value} {row : Option Nat} (h : IMap w b n f) (hg : w.grownBy w' row) (hne : some b ≠ row) : IMap w' b n f := h.same (hg.block b h.lt hne)
theorem IMap.ne_blk {w : World} {b n k : Nat} {f : Int → Option Value} {cs : Array Value} {t : TypeId} (h : IMap w b n f) (hk : Blk w k cs t) : k ≠ b := by
  rintro rfl
  obtain ⟨es, clock, h1⟩ := h.obj
  unfold Blk at hk
  rw [h1] at hk
  cases hk
theorem IMap.ne_row {w : World} {b n : Nat} {f : Int → Option Value} (h : IMap w b n f) {B : Nat} {e : TypeId} {size m : Nat} {v : Value} {xs : List Value} (hr : w.ownsRow B e size v m xs) {g : Nat} (hg : v.ownBlock = some g) : g ≠ b := by
  rintro rfl
  obtain ⟨es, clock, h1⟩ := h.obj
  rcases hr.2 with ⟨rfl, _⟩ | ⟨g', cap, cur, rfl, _, hgg, _⟩
  · simp [Value.ownBlock] at hg
  · simp [Value.ownBlock] at hg
    subst hg
    rw [h1] at hgg
    cases hgg
/-- m[key] -/
theorem IMap.get {w : World} {b n : Nat} {f : Int → Option Value} (h : IMap w b n f) {c : Int} (hc : I64 c) :
    (Instr.lookup 153 (.map (some b)) (.int .i64 c) false).run Tryz.prog w = .ok ((f c).getD zeroPg) w := by
  obtain ⟨D, hown, _, hD⟩ := h
  obtain ⟨d1, d2⟩ := hD c hc
  obtain ⟨v, ps, hrun, hv⟩ := hown.lookup lawI Tryz.underlying153 (zeroPgV w) (zd := .held zeroPg) (zp := []) rfl (keyI hc)
  rw [d2] at hv
  unfold idR at hv
  simp only [Option.some.injEq, Prod.mk.injEq, DataW.held.injEq] at hv
  rw [hv.1] at hrun
  exact hrun
/-- v, ok := m[key] -/
theorem IMap.look {w : World} {b n : Nat} {f : Int → Option Value} (h : IMap w b n f) {c : Int} (hc : I64 c) :
    (Instr.lookup 153 (.map (some b)) (.int .i64 c) true).run Tryz.prog w = .ok (.tuple #[(f c).getD zeroPg, .bool (f c).isSome]) w := by
  obtain ⟨D, hown, _, hD⟩ := h
  obtain ⟨d1, d2⟩ := hD c hc
  obtain ⟨v, ps, hrun, hv⟩ := hown.look_ok lawI Tryz.underlying153 (zeroPgV w) (zd := .held zeroPg) (zp := []) rfl (keyI hc)
  rw [d2] at hv
  unfold idR at hv
  simp only [Option.some.injEq, Prod.mk.injEq, DataW.held.injEq] at hv
  rw [hv.1, d1] at hrun
  exact hrun
theorem IMap.tidy {D : DataW Value} {w : World} {b n : Nat} (h : w.ownsMap Tryz.prog 3 idR b n D) : Tidy D := h.tidy lawI
section
variable (w : World) {ops : Array Oper} {rest : List Oper} {o : Oper} {a : Act} {Q : Exit → Act → World → Prop}
/-- m[key] = val -/
theorem wpList_put (hg : o.guard = none) (m x v : Operand) (hop : o.op = Op.mapUpdate 153 m x v) (b n : Nat) (f : Int → Option Value) (hm : a.eval m = .map (some b)) (hmap : IMap w b n f) (hn : n < maxLen)
    (key : Int) (val : Value) (hx : a.eval x = .int .i64 key) (hv : a.eval v = val) (hk : I64 key)
    (hK : ∀ w', IMap w' b (if (f key).isSome then n else n + 1) (fun s => if s = key then some val else f s) → w.grownBy w' (some b) → wpList Tryz.prog ops Q rest (a.put o.dst undef) w') :
    wpList Tryz.prog ops Q (o :: rest) a w := by
  obtain ⟨D, hown, hs, hD⟩ := hmap
  refine wpList_mapUpdate_own w hg m x v 153 hop 3 212 lawI Tryz.underlying153 idR b n D hm hown hn (.int .i64 key) val _ hx hv (keyI hk) (.held val) [] rfl (fun w' h1 h2 => hK w' ?_ h2)
  have hsz : Maps.size (D.put (.int .i64 key) (.held val)) = if (f key).isSome then n else n + 1 := by
    rw [Maps.size_put (IMap.tidy hown), (hD key hk).1, hs]
  refine ⟨_, by rw [← hsz]; exact owns_sharp h1, hsz, fun s hs => ?_⟩
  by_cases e : s = key
  · subst e
    refine ⟨?_, fun z => ?_⟩
    · rw [Maps.has_put_same hown.isMap (lawI.key (keyI hk))]; simp
    · rw [Maps.atKey_put_same hown.isMap (lawI.key (keyI hk))]; simp
  · obtain ⟨d1, d2⟩ := hD s hs
    have hne : Lit.int .i64 s ≠ .int .i64 key := fun e2 => e (by injection e2)
    refine ⟨?_, fun z => ?_⟩
    · rw [Maps.has_put_other hne, d1]; simp [e]
    · rw [Maps.atKey_put_other hne, d2]; simp [e]
/-- the same, as a run -/
theorem IMap.put {w : World} {b n : Nat} {f : Int → Option Value} (hmap : IMap w b n f) (hn : n < maxLen) {key : Int} (hk : I64 key) (val : Value) :
    ∃ w', (Instr.mapUpdate 153 (.map (some b)) (.int .i64 key) val).run Tryz.prog w = .ok () w' ∧ IMap w' b (if (f key).isSome then n else n + 1) (fun s => if s = key then some val else f s) ∧ w.grownBy w' (some b) := by
  obtain ⟨D, hown, hs, hD⟩ := hmap
  obtain ⟨w', h0, h1, h3⟩ := hown.store lawI Tryz.underlying153 hn (keyI hk) (val := val) (d := .held val) (ps := []) rfl
  have hsz : Maps.size (D.put (.int .i64 key) (.held val)) = if (f key).isSome then n else n + 1 := by
    rw [Maps.size_put (IMap.tidy hown), (hD key hk).1, hs]
  refine ⟨w', h0, ⟨_, by rw [← hsz]; exact owns_sharp h1, hsz, fun s hs => ?_⟩, h3.grown⟩
  by_cases e : s = key
  · subst e
    refine ⟨?_, fun z => ?_⟩
    · rw [Maps.has_put_same hown.isMap (lawI.key (keyI hk))]; simp
    · rw [Maps.atKey_put_same hown.isMap (lawI.key (keyI hk))]; simp
  · obtain ⟨d1, d2⟩ := hD s hs
    have hne : Lit.int .i64 s ≠ .int .i64 key := fun e2 => e (by injection e2)
    refine ⟨?_, fun z => ?_⟩
    · rw [Maps.has_put_other hne, d1]; simp [e]
    · rw [Maps.atKey_put_other hne, d2]; simp [e]
/-- delete(m, key) -/
theorem wpList_del (hg : o.guard = none) (m x : Operand) (hop : o.op = Op.call { callee := Callee.builtin Builtin.delete, args := #[m, x], argTypes := #[153, 3] }) (b n : Nat) (f : Int → Option Value) (hm : a.eval m = .map (some b)) (hmap : IMap w b n f)
    (key : Int) (hx : a.eval x = .int .i64 key) (hk : I64 key) (hh : (f key).isSome = true)
    (hK : ∀ w', IMap w' b (n - 1) (fun s => if s = key then none else f s) → w.grownBy w' (some b) → wpList Tryz.prog ops Q rest (a.put o.dst (.tuple #[])) w') :
    wpList Tryz.prog ops Q (o :: rest) a w := by
  obtain ⟨D, hown, hs, hD⟩ := hmap
  refine wpList_delete_own w hg m x 153 3 hop 212 lawI Tryz.underlying153 idR b n D hm hown (.int .i64 key) _ hx (keyI hk) (fun w' h1 h2 => hK w' ?_ h2.grown)
  have hsz : Maps.size (D.del (.int .i64 key)) = n - 1 := by
    have := Maps.size_del (k := .int .i64 key) (IMap.tidy hown)
    rw [(hD key hk).1, hh, if_pos rfl, hs] at this
    omega
  refine ⟨_, by rw [← hsz]; exact owns_sharp h1, hsz, fun s hs => ?_⟩
  by_cases e : s = key
  · subst e
    refine ⟨?_, fun z => ?_⟩
    · rw [Maps.has_del_same]; simp
    · rw [Maps.atKey_del_same]; simp
  · obtain ⟨d1, d2⟩ := hD s hs
    have hne : Lit.int .i64 s ≠ .int .i64 key := fun e2 => e (by injection e2)
    refine ⟨?_, fun z => ?_⟩
    · rw [Maps.has_del_other hne, d1]; simp [e]
    · rw [Maps.atKey_del_other hne, d2]; simp [e]
end

end Go.Proofs.YtjcbaiohpdihoaaGreatDoor

namespace Go.Proofs.YtjcbaiohpdihoaaGreatDoor
open Go.RowKit Go.Maps
set_option linter.unusedVariables false
set_option maxRecDepth 100000
set_option linter.unusedSimpArgs false

/-- no page -/
def zeroTP : Value := .agg #[.int .i64 0, .slice none 0 0]
theorem zeroTPV (w : World) : (zeroValue 78).run Tryz.prog w = .ok zeroTP w := by kernel_rfl
/-- m[key] -/
theorem IMap.getT {w : World} {b n : Nat} {f : Int → Option Value} (h : IMap w b n f) {c : Int} (hc : I64 c) :
    (Instr.lookup 143 (.map (some b)) (.int .i64 c) false).run Tryz.prog w = .ok ((f c).getD zeroTP) w := by
  obtain ⟨D, hown, _, hD⟩ := h
  obtain ⟨d1, d2⟩ := hD c hc
  obtain ⟨v, ps, hrun, hv⟩ := hown.lookup lawI Tryz.underlying143 (zeroTPV w) (zd := .held zeroTP) (zp := []) rfl (keyI hc)
  rw [d2] at hv
  unfold idR at hv
  simp only [Option.some.injEq, Prod.mk.injEq, DataW.held.injEq] at hv
  rw [hv.1] at hrun
  exact hrun
/-- v, ok := m[key] -/
theorem IMap.lookT {w : World} {b n : Nat} {f : Int → Option Value} (h : IMap w b n f) {c : Int} (hc : I64 c) :
    (Instr.lookup 143 (.map (some b)) (.int .i64 c) true).run Tryz.prog w = .ok (.tuple #[(f c).getD zeroTP, .bool (f c).isSome]) w := by
  obtain ⟨D, hown, _, hD⟩ := h
  obtain ⟨d1, d2⟩ := hD c hc
  obtain ⟨v, ps, hrun, hv⟩ := hown.look_ok lawI Tryz.underlying143 (zeroTPV w) (zd := .held zeroTP) (zp := []) rfl (keyI hc)
  rw [d2] at hv
  unfold idR at hv
  simp only [Option.some.injEq, Prod.mk.injEq, DataW.held.injEq] at hv
  rw [hv.1, d1] at hrun
  exact hrun
section
variable (w : World) {ops : Array Oper} {rest : List Oper} {o : Oper} {a : Act} {Q : Exit → Act → World → Prop}
/-- m[key] = val -/
theorem wpList_putT (hg : o.guard = none) (m x v : Operand) (hop : o.op = Op.mapUpdate 143 m x v) (b n : Nat) (f : Int → Option Value) (hm : a.eval m = .map (some b)) (hmap : IMap w b n f) (hn : n < maxLen)
    (key : Int) (val : Value) (hx : a.eval x = .int .i64 key) (hv : a.eval v = val) (hk : I64 key)
    (hK : ∀ w', IMap w' b (if (f key).isSome then n else n + 1) (fun s => if s = key then some val else f s) → w.grownBy w' (some b) → wpList Tryz.prog ops Q rest (a.put o.dst undef) w') :
    wpList Tryz.prog ops Q (o :: rest) a w := by
  obtain ⟨D, hown, hs, hD⟩ := hmap
  refine wpList_mapUpdate_own w hg m x v 143 hop 3 78 lawI Tryz.underlying143 idR b n D hm hown hn (.int .i64 key) val _ hx hv (keyI hk) (.held val) [] rfl (fun w' h1 h2 => hK w' ?_ h2)
  have hsz : Maps.size (D.put (.int .i64 key) (.held val)) = if (f key).isSome then n else n + 1 := by
    rw [Maps.size_put (IMap.tidy hown), (hD key hk).1, hs]
  refine ⟨_, by rw [← hsz]; exact owns_sharp h1, hsz, fun s hs => ?_⟩
  by_cases e : s = key
  · subst e
    refine ⟨?_, fun z => ?_⟩
    · rw [Maps.has_put_same hown.isMap (lawI.key (keyI hk))]; simp
    · rw [Maps.atKey_put_same hown.isMap (lawI.key (keyI hk))]; simp
  · obtain ⟨d1, d2⟩ := hD s hs
    have hne : Lit.int .i64 s ≠ .int .i64 key := fun e2 => e (by injection e2)
    refine ⟨?_, fun z => ?_⟩
    · rw [Maps.has_put_other hne, d1]; simp [e]
    · rw [Maps.atKey_put_other hne, d2]; simp [e]
/-- the same, as a run -/
theorem IMap.putT {w : World} {b n : Nat} {f : Int → Option Value} (hmap : IMap w b n f) (hn : n < maxLen) {key : Int} (hk : I64 key) (val : Value) :
    ∃ w', (Instr.mapUpdate 143 (.map (some b)) (.int .i64 key) val).run Tryz.prog w = .ok () w' ∧ IMap w' b (if (f key).isSome then n else n + 1) (fun s => if s = key then some val else f s) ∧ w.grownBy w' (some b) := by
  obtain ⟨D, hown, hs, hD⟩ := hmap
  obtain ⟨w', h0, h1, h3⟩ := hown.store lawI Tryz.underlying143 hn (keyI hk) (val := val) (d := .held val) (ps := []) rfl
  have hsz : Maps.size (D.put (.int .i64 key) (.held val)) = if (f key).isSome then n else n + 1 := by
    rw [Maps.size_put (IMap.tidy hown), (hD key hk).1, hs]
  refine ⟨w', h0, ⟨_, by rw [← hsz]; exact owns_sharp h1, hsz, fun s hs => ?_⟩, h3.grown⟩
  by_cases e : s = key
  · subst e
    refine ⟨?_, fun z => ?_⟩
    · rw [Maps.has_put_same hown.isMap (lawI.key (keyI hk))]; simp
    · rw [Maps.atKey_put_same hown.isMap (lawI.key (keyI hk))]; simp
  · obtain ⟨d1, d2⟩ := hD s hs
    have hne : Lit.int .i64 s ≠ .int .i64 key := fun e2 => e (by injection e2)
    refine ⟨?_, fun z => ?_⟩
    · rw [Maps.has_put_other hne, d1]; simp [e]
    · rw [Maps.atKey_put_other hne, d2]; simp [e]
/-- delete(m, key) -/
theorem wpList_delT (hg : o.guard = none) (m x : Operand) (hop : o.op = Op.call { callee := Callee.builtin Builtin.delete, args := #[m, x], argTypes := #[143, 3] }) (b n : Nat) (f : Int → Option Value) (hm : a.eval m = .map (some b)) (hmap : IMap w b n f)
    (key : Int) (hx : a.eval x = .int .i64 key) (hk : I64 key)
    (hK : ∀ w', IMap w' b (if (f key).isSome then n - 1 else n) (fun s => if s = key then none else f s) → w.grownBy w' (some b) → wpList Tryz.prog ops Q rest (a.put o.dst (.tuple #[])) w') :
    wpList Tryz.prog ops Q (o :: rest) a w := by
  obtain ⟨D, hown, hs, hD⟩ := hmap
  refine wpList_delete_own w hg m x 143 3 hop 78 lawI Tryz.underlying143 idR b n D hm hown (.int .i64 key) _ hx (keyI hk) (fun w' h1 h2 => hK w' ?_ h2.grown)
  have hsz : Maps.size (D.del (.int .i64 key)) = if (f key).isSome then n - 1 else n := by
    have := Maps.size_del (k := .int .i64 key) (IMap.tidy hown)
    rw [(hD key hk).1, hs] at this
    split at this <;> simp_all <;> omega
  refine ⟨_, by rw [← hsz]; exact owns_sharp h1, hsz, fun s hs => ?_⟩
  by_cases e : s = key
  · subst e
    refine ⟨?_, fun z => ?_⟩
    · rw [Maps.has_del_same]; simp
    · rw [Maps.atKey_del_same]; simp
  · obtain ⟨d1, d2⟩ := hD s hs
    have hne : Lit.int .i64 s ≠ .int .i64 key := fun e2 => e (by injection e2)
    refine ⟨?_, fun z => ?_⟩
    · rw [Maps.has_del_other hne, d1]; simp [e]
    · rw [Maps.atKey_del_other hne, d2]; simp [e]
end

end Go.Proofs.YtjcbaiohpdihoaaGreatDoor
