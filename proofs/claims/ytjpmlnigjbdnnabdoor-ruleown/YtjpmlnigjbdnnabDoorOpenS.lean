/-
  A list of cells that came in, with the sharper bound on its length.
-/
import Derived.Test.YtjpmlnigjbdnnabDoorOpen
import Derived.ProofKit
import Derived.OpenShut
import Derived.ChangeOld
import Derived.SizedLaws
import Derived.Deep.SlicePairs
namespace Go.Proofs.YtjpmlnigjbdnnabDoor
open Go.ChangeShapes Go.WideShapes Go.ChangeAt Go.RowKit Go.Deep
set_option linter.unusedVariables false
set_option maxRecDepth 100000
set_option linter.unusedSimpArgs false

theorem open_cells0S {H : Type} {enc : TypeId × Value → H} {W : World} {fuel : Nat} {a0 : Option Addr} {len cap : Nat} {d : DataW H} {p : List MemPlace}
    (h : DataW.trod enc Tryd.prog W 0 (fun _ => true) true fuel 23 [.slice a0 len cap] = some (d, p)) (hw : ∀ n ∈ d.weights Tryd.prog 23, n ≤ reachBytes) :
    ∃ L, Lies W (.slice a0 len cap) L ∧ L.length * 24 ≤ 140737488351232 := by
  rcases open_slice_pairs Tryd.underlying23 Tryd.underlying30 cells59 rfl rfl cells9 cells3 h with ⟨hcs, hx⟩ | ⟨a, len', cap', m, n, V0, V1, D0, D1, P0, P1, hcs, _, hl, hm, hmm, hx, hcell⟩
  · simp at hcs
    obtain ⟨rfl, rfl, rfl⟩ := hcs
    exact ⟨[], ⟨none, 0, rfl, Nat.le_refl _, Nat.zero_le _, (fun c hc => by cases hc), (fun k c hc => by simp at hc)⟩, by simp⟩
  · simp at hcs
    obtain ⟨rfl, rfl, rfl⟩ := hcs
    simp only [if_true] at hmm
    subst hmm
    have hlen : (cellsIn V0 V1 len).length = len := by simp [cellsIn]
    have hd := congrArg Prod.fst hx
    simp only at hd
    refine ⟨cellsIn V0 V1 len, ⟨some a, m, by rw [hlen], by rw [hlen]; exact hl, hm, ?_, ?_⟩, ?_⟩
    · intro c hc
      simp only [cellsIn, List.mem_map, List.mem_range] at hc
      obtain ⟨i, hi, rfl⟩ := hc
      obtain ⟨_, _, t0, t1⟩ := hcell i (by omega)
      obtain ⟨s, e0, _, hs⟩ := DataW.trod_string Tryd.underlying9 t0
      obtain ⟨z, e1, _, hz⟩ := DataW.trod_int Tryd.underlying3 t1
      simp only [List.cons.injEq, and_true] at e0 e1
      rw [e0, e1]
      obtain ⟨z0, z1⟩ := bounds_i64 hz
      refine ⟨?_, ?_, ?_⟩
      · show s.size ≤ _
        unfold maxLen at hs; omega
      · show _ ≤ z; omega
      · show z ≤ _; omega
    · intro k c hk
      simp only [cellsIn, List.getElem?_map] at hk
      by_cases hkl : k < len
      · rw [List.getElem?_range hkl] at hk
        simp only [Option.map_some, Option.some.injEq] at hk
        subst hk
        obtain ⟨h0, h1, t0, t1⟩ := hcell k (by omega)
        obtain ⟨s, e0, _, hs⟩ := DataW.trod_string Tryd.underlying9 t0
        obtain ⟨z, e1, _, hz⟩ := DataW.trod_int Tryd.underlying3 t1
        simp only [List.cons.injEq, and_true] at e0 e1
        rw [e0] at h0 ⊢
        rw [e1] at h1 ⊢
        obtain ⟨b, off, spot⟩ := a
        have hspot : spot = none := by simpa [Addr.add] using World.cell?_spot (hcell 0 (by omega)).1
        subst hspot
        rw [addr_plain] at h0 h1
        exact ⟨b, off, rfl, World.block_lt_of_cell? W _ h0, h0, h1⟩
      · rw [List.getElem?_eq_none (by simp; omega)] at hk
        simp at hk
    · rw [hlen]
      rw [hd] at hw
      have := hw ((len + (m - len)) * Tryd.prog.bytesOf 30) (by simp [DataW.weights, Tryd.underlying23])
      rw [bytes59] at this
      have h2 : reachBytes = 140737488351232 := rfl
      omega

theorem open_cellsS {H : Type} {enc : TypeId × Value → H} {W : World} {base : Nat} {v : Value} {d : DataW H} {p : List MemPlace}
    (hv : Value.okWide Tryd.prog W .any base 23 v) (h : DataW.Trod enc Tryd.prog W 0 (fun _ => true) true 23 v d p) (hw : ∀ n ∈ d.weights Tryd.prog 23, n ≤ reachBytes) :
    ∃ L, Lies W v L ∧ L.length * 24 ≤ 140737488351232 := by
  obtain ⟨a0, len, cap, rfl⟩ := okWide_slice Tryd.underlying23 hv
  obtain ⟨fuel, hf⟩ := h
  exact open_cells0S (by simpa [Value.cells] using hf) hw

end Go.Proofs.YtjpmlnigjbdnnabDoor
