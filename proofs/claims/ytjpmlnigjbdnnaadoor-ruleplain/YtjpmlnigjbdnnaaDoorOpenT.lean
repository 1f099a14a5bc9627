/-
  A list of terms that came in, as it lies in memory.
-/
import Derived.Test.YtjpmlnigjbdnnaaDoorOpen
import Derived.Test.YtjpmlnigjbdnnaaDoorMany
namespace Go.Proofs.YtjpmlnigjbdnnaaDoor
open Go.ChangeShapes Go.WideShapes Go.ChangeAt Go.RowKit Go.Deep
set_option linter.unusedVariables false
set_option maxRecDepth 100000
set_option linter.unusedSimpArgs false

theorem cells23 : Tryd.prog.cellsOf 23 = 1 := by kernel_rfl
theorem bytes23 : Tryd.prog.bytesOf 23 = 24 := by kernel_rfl

theorem weights_part {H : Type} {P : Program} {e : TypeId} : ∀ {l : List (DataW H)} {d : DataW H}, d ∈ l → ∀ n ∈ d.weights P e, n ∈ DataW.weightsAll P e l
  | [], d, h, n, hn => by cases h
  | c :: r, d, h, n, hn => by
    unfold DataW.weightsAll
    rcases List.mem_cons.1 h with rfl | h
    · exact List.mem_append.2 (.inl hn)
    · exact List.mem_append.2 (.inr (weights_part h n hn))

set_option maxRecDepth 100000 in
theorem open_cells1 {H : Type} {enc : TypeId × Value → H} {W : World} {fuel : Nat} {x : Value} {d : DataW H} {p : List MemPlace}
    (h : DataW.trod enc Tryd.prog W 0 (fun _ => true) true fuel 23 [x] = some (d, p)) (hw : ∀ n ∈ d.weights Tryd.prog 23, n ≤ reachBytes) :
    ∃ L, Lies W x L ∧ L.length * 24 ≤ 140737488355328 := by
  obtain ⟨a0, len, cap, rfl⟩ : ∃ a0 len cap, x = .slice a0 len cap := by
    rcases open_slice_pairs Tryd.underlying23 Tryd.underlying33 cells59 rfl rfl cells9 cells3 h with ⟨hcs, _⟩ | ⟨a, len', cap', m, n, V0, V1, D0, D1, P0, P1, hcs, _⟩
    · simp at hcs; exact ⟨_, _, _, hcs⟩
    · simp at hcs; exact ⟨_, _, _, hcs⟩
  exact open_cells0 h hw

set_option maxRecDepth 100000 in
theorem open_terms {H : Type} {enc : TypeId × Value → H} {W : World} {base : Nat} {v : Value} {d : DataW H} {p : List MemPlace}
    (hv : Value.okWide Tryd.prog W .any base 107 v) (h : DataW.Trod enc Tryd.prog W 0 (fun _ => true) true 107 v d p) (hw : ∀ n ∈ d.weights Tryd.prog 107, n ≤ reachBytes) :
    ∃ K, LiesT W v K ∧ K.length * 24 ≤ 140737488355328 ∧ ∀ l ∈ K, l.length * 24 ≤ 140737488355328 := by
  obtain ⟨a0, len, cap, rfl⟩ := okWide_slice Tryd.underlying107 hv
  obtain ⟨fuel, hf⟩ := h
  have hf2 : DataW.trod enc Tryd.prog W 0 (fun _ => true) true fuel 107 [.slice a0 len cap] = some (d, p) := by simpa [Value.cells] using hf
  rcases open_slice1 Tryd.underlying107 cells23 hf2 with ⟨hcs, hx⟩ | ⟨a, len', cap', m, n, V, D, Pl, hcs, _, hl, hm, hmm, hx, hcell⟩
  · simp at hcs
    obtain ⟨rfl, rfl, rfl⟩ := hcs
    exact ⟨[], ⟨none, 0, rfl, Nat.le_refl _, Nat.zero_le _, (fun k c hc => by simp at hc)⟩, by simp, by simp⟩
  · simp at hcs
    obtain ⟨rfl, rfl, rfl⟩ := hcs
    simp only [if_true] at hmm
    subst hmm
    have hd := congrArg Prod.fst hx
    simp only at hd
    rw [hd] at hw
    obtain ⟨F, hF⟩ := choose_lt (α := List Cl) (n := len) (p := fun i L => Lies W (V i) L ∧ L.length * 24 ≤ 140737488355328) (fun i hi => by
      obtain ⟨_, ht⟩ := hcell i (by omega)
      refine open_cells1 ht fun q hq => hw q ?_
      simp only [DataW.weights, Tryd.underlying107, List.mem_cons, List.mem_append]
      exact .inr (.inl (weights_part (List.mem_map.2 ⟨i, List.mem_range.2 hi, rfl⟩) q hq)))
    have hlen : ((List.range len).map F).length = len := by simp
    refine ⟨(List.range len).map F, ⟨some a, m, by rw [hlen], by rw [hlen]; exact hl, hm, ?_⟩, ?_, ?_⟩
    · intro j l hj
      have hjl : j < len := by have := (List.getElem?_eq_some_iff.1 hj).1; rwa [hlen] at this
      rw [List.getElem?_map, List.getElem?_range hjl] at hj
      simp only [Option.map_some, Option.some.injEq] at hj
      subst hj
      obtain ⟨hc, _⟩ := hcell j (by omega)
      obtain ⟨b, off, spot⟩ := a
      have hspot : spot = none := by simpa [Addr.add] using World.cell?_spot (hcell 0 (by omega)).1
      subst hspot
      rw [addr_plain] at hc
      exact ⟨b, off, V j, rfl, World.block_lt_of_cell? W _ hc, hc, (hF j hjl).1⟩
    · rw [hlen]
      have := hw ((len + (m - len)) * Tryd.prog.bytesOf 23) (by simp [DataW.weights, Tryd.underlying107])
      rw [bytes23] at this
      have h2 := reachBytes_lt
      omega
    · intro l hl
      obtain ⟨i, hi, rfl⟩ := List.mem_map.1 hl
      exact (hF i (List.mem_range.1 hi)).2

end Go.Proofs.YtjpmlnigjbdnnaaDoor
