/-
  Rules that came in, as they lie in memory.
-/
import Derived.Test.YtpflbdkbbkobbaaOpenR
import Derived.Test.YtpflbdkbbkobbaaRs
import Derived.Deep.Strs
import Derived.Lib.SmallJoins
namespace Go.Proofs.Ytpflbdkbbkobbaa
open Go.ChangeShapes Go.WideShapes Go.ChangeAt Go.RowKit Go.Deep Go.Joins
set_option linter.unusedVariables false
set_option linter.unusedSimpArgs false
set_option maxRecDepth 100000

theorem cells69 : Try.prog.cellsOf 40 = 3 := by kernel_rfl

theorem bytes69 : Try.prog.bytesOf 40 = 56 := by kernel_rfl

theorem elem_rule {H : Type} {enc : TypeId × Value → H} {W : World} {a : Addr} {i n : Nat} {cs : List Value} {d : DataW H} {p : List MemPlace} (hc : W.cells? 0 (a.add (i * 3)) 3 = some cs) (ht : DataW.trod enc Try.prog W 0 (fun _ => true) true n 40 cs = some (d, p)) (hw : ∀ q ∈ d.weights Try.prog 40, q ≤ reachBytes) :
    ∃ (r : Rl) (x y : Value), W.cell? (a.add (i * 3)) = some (.int .i64 r.id) ∧ W.cell? (a.add (i * 3 + 1)) = some x ∧ W.cell? (a.add (i * 3 + 2)) = some y ∧ Lies W x r.l ∧ Lies W y r.r ∧ (-9223372036854775808 ≤ r.id ∧ r.id ≤ 9223372036854775807) ∧ r.l.length * 24 ≤ 140737488355328 ∧ r.r.length * 24 ≤ 140737488355328 := by
  obtain ⟨_, hlen, hcell⟩ := World.cells?_some hc
  obtain ⟨y0, y1, y2, k, hx, _, h0, h1, h2⟩ := trod_struct3 Try.underlying40 ht
  match cs, hlen with
  | [v0, v1, v2], _ =>
    have e0 := hcell 0 (by omega)
    have e1 := hcell 1 (by omega)
    have e2 := hcell 2 (by omega)
    rw [add_add] at e0 e1 e2
    have g0 : DataW.trod enc Try.prog W 0 (fun _ => true) true k 3 [v0] = some y0 := h0
    have g1 : DataW.trod enc Try.prog W 0 (fun _ => true) true k 24 [v1] = some y1 := h1
    have g2 : DataW.trod enc Try.prog W 0 (fun _ => true) true k 24 [v2] = some y2 := h2
    have hd := congrArg Prod.fst hx
    simp only at hd
    rw [hd] at hw
    obtain ⟨id, f0, _, hz⟩ := DataW.trod_int Try.underlying3 g0
    simp only [List.cons.injEq, and_true] at f0
    subst f0
    obtain ⟨L, l1, l2⟩ := open_cells1 (d := y1.1) (p := y1.2) g1 (fun q hq => hw q (by
      simp only [DataW.weights, Try.underlying40, DataW.weightsEach]
      exact List.mem_append_right _ (List.mem_append_left _ hq)))
    obtain ⟨R, r1, r2⟩ := open_cells1 (d := y2.1) (p := y2.2) g2 (fun q hq => hw q (by
      simp only [DataW.weights, Try.underlying40, DataW.weightsEach]
      exact List.mem_append_right _ (List.mem_append_right _ (List.mem_append_left _ hq))))
    have hb := bounds_i64 hz
    exact ⟨⟨id, L, R⟩, v1, v2, by simpa using e0, by simpa using e1, by simpa using e2, l1, r1, ⟨by simp only; omega, by simp only; omega⟩, l2, r2⟩

theorem open_rules0 {H : Type} {enc : TypeId × Value → H} {W : World} {fuel : Nat} {v : Value} {d : DataW H} {p : List MemPlace}
    (h : DataW.trod enc Try.prog W 0 (fun _ => true) true fuel 22 [v] = some (d, p)) (hw : ∀ n ∈ d.weights Try.prog 22, n ≤ reachBytes) :
    ∃ rs, LiesR W v rs ∧ rs.length * 56 ≤ 140737488351232 ∧ ∀ r ∈ rs, r.l.length * 24 ≤ 140737488355328 ∧ r.r.length * 24 ≤ 140737488355328 := by
  rcases open_slice Try.underlying22 h with ⟨hcs, hx⟩ | ⟨a, len, cap, m, n, D, Pl, hcs, _, hl, hm, hmm, hx, hel⟩
  · simp at hcs
    subst hcs
    exact ⟨[], ⟨none, 0, rfl, Nat.le_refl _, Nat.zero_le _, (fun k c hc => by simp at hc)⟩, by simp, by simp⟩
  · simp at hcs
    subst hcs
    simp only [if_true] at hmm
    subst hmm
    have hd := congrArg Prod.fst hx
    simp only at hd
    rw [hd] at hw
    rw [cells69] at hel
    have hin : Inhabited (Rl × Value × Value) := ⟨(⟨0, [], []⟩, .bool false, .bool false)⟩
    obtain ⟨F, hF⟩ := choose_lt (α := Rl × Value × Value) (n := len) (p := fun i q => W.cell? (a.add (i * 3)) = some (.int .i64 q.1.id) ∧ W.cell? (a.add (i * 3 + 1)) = some q.2.1 ∧ W.cell? (a.add (i * 3 + 2)) = some q.2.2 ∧ Lies W q.2.1 q.1.l ∧ Lies W q.2.2 q.1.r ∧ (-9223372036854775808 ≤ q.1.id ∧ q.1.id ≤ 9223372036854775807) ∧ q.1.l.length * 24 ≤ 140737488355328 ∧ q.1.r.length * 24 ≤ 140737488355328) (fun i hi => by
      obtain ⟨cs, h1, h2⟩ := hel i (by omega)
      obtain ⟨r, x, y, q⟩ := elem_rule h1 h2 (fun q hq => hw q (by
        simp only [DataW.weights, Try.underlying22, List.mem_cons, List.mem_append]
        exact .inr (.inl (weights_part (List.mem_map.2 ⟨i, List.mem_range.2 hi, rfl⟩) q hq))))
      exact ⟨(r, x, y), q⟩)
    have hlen : ((List.range len).map fun i => (F i).1).length = len := by simp
    refine ⟨(List.range len).map fun i => (F i).1, ⟨some a, m, by rw [hlen], by rw [hlen]; exact hl, hm, ?_⟩, ?_, ?_⟩
    · intro j r hj
      have hjl : j < len := by have := (List.getElem?_eq_some_iff.1 hj).1; rwa [hlen] at this
      rw [List.getElem?_map, List.getElem?_range hjl] at hj
      simp only [Option.map_some, Option.some.injEq] at hj
      subst hj
      obtain ⟨h0, h1, h2, h3, h4, h5, _⟩ := hF j hjl
      obtain ⟨g, off, spot⟩ := a
      have hspot : spot = none := by simpa [Addr.add] using World.cell?_spot (hF 0 (by omega)).1
      subst hspot
      rw [addr_plain] at h0 h1 h2
      exact ⟨g, off, (F j).2.1, (F j).2.2, rfl, World.block_lt_of_cell? W _ h0, h0, h1, h2, h3, h4, h5⟩
    · rw [hlen]
      have := hw ((len + (m - len)) * Try.prog.bytesOf 40) (by simp [DataW.weights, Try.underlying22])
      rw [bytes69] at this
      have h2 : reachBytes = 140737488351232 := rfl
      omega
    · intro r hr
      obtain ⟨i, hi, rfl⟩ := List.mem_map.1 hr
      exact (hF i (List.mem_range.1 hi)).2.2.2.2.2.2

theorem open_rules {H : Type} {enc : TypeId × Value → H} {W : World} {base : Nat} {v : Value} {d : DataW H} {p : List MemPlace}
    (hv : Value.okWide Try.prog W .any base 22 v) (h : DataW.Trod enc Try.prog W 0 (fun _ => true) true 22 v d p) (hw : ∀ n ∈ d.weights Try.prog 22, n ≤ reachBytes) :
    ∃ rs, LiesR W v rs ∧ (rs.length * 56 ≤ 140737488351232 ∧ ∀ r ∈ rs, r.l.length * 24 ≤ 140737488355328 ∧ r.r.length * 24 ≤ 140737488355328) := by
  obtain ⟨a0, len, cap, rfl⟩ := okWide_slice Try.underlying22 hv
  obtain ⟨fuel, hf⟩ := h
  exact open_rules0 (by simpa [Value.cells] using hf) hw

end Go.Proofs.Ytpflbdkbbkobbaa
