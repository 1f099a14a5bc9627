/-
  A list of binds that came in, as it lies in memory.
-/
import Derived.Test.YtgnllemihbemfaaOpenT
import Derived.Test.YtgnllemihbemfaaBinds
namespace Go.Proofs.Ytgnllemihbemfaa
open Go.ChangeShapes Go.WideShapes Go.ChangeAt Go.RowKit Go.Deep
set_option linter.unusedVariables false
set_option maxRecDepth 100000
set_option linter.unusedSimpArgs false

theorem cells44 : Try.prog.cellsOf 44 = 2 := by kernel_rfl
theorem bytes44 : Try.prog.bytesOf 44 = 40 := by kernel_rfl

theorem open_binds {H : Type} {enc : TypeId × Value → H} {W : World} {base : Nat} {v : Value} {d : DataW H} {p : List MemPlace}
    (hv : Value.okWide Try.prog W .any base 25 v) (h : DataW.Trod enc Try.prog W 0 (fun _ => true) true 25 v d p) (hw : ∀ n ∈ d.weights Try.prog 25, n ≤ reachBytes) :
    ∃ l, LiesB W v l ∧ l.length * 40 ≤ 140737488351232 ∧ ∀ b ∈ l, b.val.length * 24 ≤ 140737488355328 := by
  obtain ⟨a0, len, cap, rfl⟩ := okWide_slice Try.underlying25 hv
  obtain ⟨fuel, hf⟩ := h
  have hf2 : DataW.trod enc Try.prog W 0 (fun _ => true) true fuel 25 [.slice a0 len cap] = some (d, p) := by simpa [Value.cells] using hf
  rcases open_slice_pairs Try.underlying25 Try.underlying44 cells44 rfl rfl cells9 cells23 hf2 with ⟨hcs, hx⟩ | ⟨a, len', cap', m, n, V0, V1, D0, D1, P0, P1, hcs, _, hl, hm, hmm, hx, hcell⟩
  · simp at hcs
    obtain ⟨rfl, rfl, rfl⟩ := hcs
    exact ⟨[], ⟨none, 0, rfl, Nat.le_refl _, Nat.zero_le _, (fun k c hc => by simp at hc)⟩, by simp, by simp⟩
  · simp at hcs
    obtain ⟨rfl, rfl, rfl⟩ := hcs
    simp only [if_true] at hmm
    subst hmm
    have hd := congrArg Prod.fst hx
    simp only at hd
    rw [hd] at hw
    obtain ⟨F, hF⟩ := choose_lt (α := List Cl) (n := len) (p := fun i L => Lies W (V1 i) L ∧ L.length * 24 ≤ 140737488355328) (fun i hi => by
      obtain ⟨_, _, _, ht⟩ := hcell i (by omega)
      refine open_cells1 ht fun q hq => hw q ?_
      simp only [DataW.weights, Try.underlying25, List.mem_cons, List.mem_append]
      refine .inr (.inl (weights_part (d := .agg [D0 i, D1 i]) (List.mem_map.2 ⟨i, List.mem_range.2 hi, rfl⟩) q ?_))
      simp [DataW.weights, DataW.weightsEach, Try.underlying44, hq])
    have hlen : ((List.range len).map fun i => (⟨strOf (V0 i), F i⟩ : Bd)).length = len := by simp
    refine ⟨(List.range len).map fun i => ⟨strOf (V0 i), F i⟩, ⟨some a, m, by rw [hlen], by rw [hlen]; exact hl, hm, ?_⟩, ?_, ?_⟩
    · intro j b hj
      have hjl : j < len := by have := (List.getElem?_eq_some_iff.1 hj).1; rwa [hlen] at this
      rw [List.getElem?_map, List.getElem?_range hjl] at hj
      simp only [Option.map_some, Option.some.injEq] at hj
      subst hj
      obtain ⟨h0, h1, t0, _⟩ := hcell j (by omega)
      obtain ⟨s, e0, _, hs⟩ := DataW.trod_string Try.underlying9 t0
      simp only [List.cons.injEq, and_true] at e0
      rw [e0] at h0 ⊢
      obtain ⟨g, off, spot⟩ := a
      have hspot : spot = none := by simpa [Addr.add] using World.cell?_spot (hcell 0 (by omega)).1
      subst hspot
      rw [addr_plain] at h0 h1
      refine ⟨g, off, V1 j, rfl, World.block_lt_of_cell? W _ h0, h0, h1, (hF j hjl).1, ?_⟩
      show s.size ≤ _
      unfold maxLen at hs
      omega
    · rw [hlen]
      have := hw ((len + (m - len)) * Try.prog.bytesOf 44) (by simp [DataW.weights, Try.underlying25])
      rw [bytes44] at this
      have h2 : reachBytes = 140737488351232 := rfl
      omega
    · intro b hb
      obtain ⟨i, hi, rfl⟩ := List.mem_map.1 hb
      exact (hF i (List.mem_range.1 hi)).2

end Go.Proofs.Ytgnllemihbemfaa
