/-
  What the document's One answers: an op that makes a node.
-/
import Derived.Test.YtbdlokijednoiaaBL
namespace Go.Proofs.Ytbdlokijednoiaa
open Go.RowKit
set_option linter.unusedVariables false
set_option linter.unusedSimpArgs false
set_option maxRecDepth 100000

theorem liesS_lit (w : World) (x : ByteArray) : LiesS (w.alloc (.cells #[.string x] 9)) (.slice (some ⟨w.heap.size, 0, none⟩) 1 1) [x] := by
  refine ⟨some ⟨w.heap.size, 0, none⟩, 1, rfl, Nat.le_refl _, by unfold maxLen; omega, fun i y hi => ?_⟩
  obtain ⟨rfl, rfl⟩ := one_get hi
  exact ⟨w.heap.size, 0, rfl, by simp, (Blk.made w #[.string y] 9).cell (i := 0) rfl⟩
/-- ops as append takes them -/
theorem LiesO.src {w : World} {ad : Addr} {n c : Nat} {ops : List Opr} (h : LiesO w (.slice (some ad) n c) ops) : ∃ os : List Ow, os.length = ops.length ∧ (∀ (i : Nat) o, ops[i]? = some o → ∃ x, os[i]? = some ⟨o.k, o.c, x⟩ ∧ x.oneCell' = true ∧ Lies w x o.v) ∧ (∀ j u, (flatO os)[j]? = some u → w.cell? (ad.add j) = some u) ∧ ∀ u ∈ flatO os, u.oneCell' = true := by
  have hx : ∀ i : Nat, ∃ x : Value, ∀ o, ops[i]? = some o → x.oneCell' = true ∧ Lies w x o.v ∧ ∃ g off, ad = ⟨g, off, none⟩ ∧ w.cell? ⟨g, off + i * 4, none⟩ = some (.int .i64 o.k) ∧ w.cell? ⟨g, off + i * 4 + 1, none⟩ = some (.string o.c.nm) ∧ w.cell? ⟨g, off + i * 4 + 2, none⟩ = some (.int .i64 o.c.ar) ∧ w.cell? ⟨g, off + i * 4 + 3, none⟩ = some x := fun i => by
    cases hi : ops[i]? with
    | none => exact ⟨.bool false, fun o ho => by cases ho⟩
    | some o =>
      obtain ⟨g, off, x, h1, h2, h3, h4, h5, h6, h7⟩ := h.at hi
      cases h1
      exact ⟨x, fun o' ho => by cases ho; exact ⟨h7.one, h7, g, off, rfl, h3, h4, h5, h6⟩⟩
  obtain ⟨F, hF⟩ : ∃ F : Nat → Value, ∀ i o, ops[i]? = some o → (F i).oneCell' = true ∧ Lies w (F i) o.v ∧ ∃ g off, ad = ⟨g, off, none⟩ ∧ w.cell? ⟨g, off + i * 4, none⟩ = some (.int .i64 o.k) ∧ w.cell? ⟨g, off + i * 4 + 1, none⟩ = some (.string o.c.nm) ∧ w.cell? ⟨g, off + i * 4 + 2, none⟩ = some (.int .i64 o.c.ar) ∧ w.cell? ⟨g, off + i * 4 + 3, none⟩ = some (F i) := ⟨fun i => Classical.choose (hx i), fun i => Classical.choose_spec (hx i)⟩
  clear hx
  have hos : ∀ i : Nat, (ops.mapIdx fun i o => (⟨o.k, o.c, F i⟩ : Ow))[i]? = (ops[i]?).map fun o => ⟨o.k, o.c, F i⟩ := fun i => by rw [List.getElem?_mapIdx]
  refine ⟨ops.mapIdx fun i o => ⟨o.k, o.c, F i⟩, List.length_mapIdx, fun i o hi => ?_, fun j u hu => ?_, fun u hu => ?_⟩
  · obtain ⟨q1, q2, _⟩ := hF i o hi
    exact ⟨F i, by rw [hos, hi]; rfl, q1, q2⟩
  · have hjl : j < ops.length * 4 := by
      have := (List.getElem?_eq_some_iff.1 hu).1
      rw [flatO_length, List.length_mapIdx] at this
      exact this
    obtain ⟨i, r, hr, hj⟩ : ∃ i r, r < 4 ∧ j = i * 4 + r := ⟨j / 4, j % 4, by omega, by omega⟩
    subst hj
    obtain ⟨o, ho⟩ : ∃ o, ops[i]? = some o := ⟨ops[i]'(by omega), List.getElem?_eq_getElem (by omega)⟩
    obtain ⟨_, _, g, off, had, q0, q1, q2, q3⟩ := hF i o ho
    have ho2 := hos i
    rw [ho] at ho2
    obtain ⟨f0, f1, f2, f3⟩ := flatO_at _ _ _ ho2
    subst had
    rw [add_plain]
    have h4 : r = 0 ∨ r = 1 ∨ r = 2 ∨ r = 3 := by omega
    rcases h4 with h4 | h4 | h4 | h4
    · subst h4; rw [Nat.add_zero] at hu ⊢; rw [f0] at hu; cases hu; exact q0
    · subst h4; rw [f1] at hu; cases hu; rw [← Nat.add_assoc]; exact q1
    · subst h4; rw [f2] at hu; cases hu; rw [← Nat.add_assoc]; exact q2
    · subst h4; rw [f3] at hu; cases hu; rw [← Nat.add_assoc]; exact q3
  · refine flatO_one _ (fun o ho => ?_) u hu
    obtain ⟨i, hi⟩ := List.getElem?_of_mem ho
    rw [hos] at hi
    cases ho' : ops[i]? with
    | none => rw [ho'] at hi; cases hi
    | some o' =>
      rw [ho'] at hi
      cases hi
      exact (hF i o' ho').1
theorem node_take {c : Cl} {V : List (List Cl)} {m j : Nat} {l : List Cl} (hj : V[j]? = some l) (hm : V.length - m ≤ j) : c :: ((V.take (j + 1)).drop (V.length - m)).flatten = (c :: ((V.take j).drop (V.length - m)).flatten) ++ l := by
  have hjl := (List.getElem?_eq_some_iff.1 hj).1
  rw [List.take_add_one, hj]
  simp only [Option.toList]
  rw [List.drop_append_of_le_length (by rw [List.length_take]; omega)]
  simp
theorem flat_lim : ∀ (K : List (List Cl)), (∀ l ∈ K, l.length ≤ 64) → K.flatten.length ≤ 64 * K.length
  | [], _ => Nat.le_refl _
  | l :: r, h => by
    have := flat_lim r (fun x hx => h x (by simp [hx]))
    have := h l (by simp)
    simp only [List.flatten_cons, List.length_append, List.length_cons]
    omega

/-- the call's three blocks -/
structure M3 (w : World) (bx ob : Array Value) (wr : World) : Prop where
  b0 : Blk wr w.heap.size bx 39
  b1 : Blk wr (w.heap.size + 1) #[.slice none 0 0, .slice none 0 0, .int .i64 0, .slice none 0 0] 39
  b2 : Blk wr (w.heap.size + 1 + 1) ob 51
  low : Below w.heap.size w wr
theorem M3.on {w : World} {bx ob : Array Value} {wr wr' : World} (h : M3 w bx ob wr) (hb : Below wr.heap.size wr wr') : M3 w bx ob wr' :=
  ⟨h.b0.on hb h.b0.lt, h.b1.on hb h.b1.lt, h.b2.on hb h.b2.lt, h.low.trans (hb.mono h.low.size)⟩
theorem M3.grow {w : World} {bx ob : Array Value} {wr wr' : World} {row : Option Nat} (h : M3 w bx ob wr) (hg : wr.grownBy wr' row) (hr : ∀ k, row = some k → w.heap.size + 1 + 1 + 1 ≤ k) : M3 w bx ob wr' :=
  ⟨(hg.block _ h.b0.lt (fun e => by have := hr _ e.symm; omega)).trans h.b0, (hg.block _ h.b1.lt (fun e => by have := hr _ e.symm; omega)).trans h.b1, (hg.block _ h.b2.lt (fun e => by have := hr _ e.symm; omega)).trans h.b2, h.low.grown hg h.low.size (fun k hk => by have := hr k hk; omega)⟩
theorem M3.size {w : World} {bx ob : Array Value} {wr : World} (h : M3 w bx ob wr) : w.heap.size + 1 + 1 + 1 ≤ wr.heap.size := h.b2.lt

end Go.Proofs.Ytbdlokijednoiaa
