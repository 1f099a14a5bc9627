/-
  Entries that came in, as they lie in memory.
-/
import Derived.Test.YtjocbkhjbbpkjabEn
import Derived.ProofKit
import Derived.OpenShut
import Derived.ChangeOld
import Derived.SizedLaws
import Derived.Deep.SlicePairs
import Derived.Deep.Strs
import Derived.Lib.SmallJoins
namespace Go.Proofs.Ytjocbkhjbbpkjab
open Go.ChangeShapes Go.WideShapes Go.ChangeAt Go.RowKit Go.Deep Go.Joins
set_option linter.unusedVariables false
set_option linter.unusedSimpArgs false
set_option maxRecDepth 100000

theorem cells52 : Try.prog.cellsOf 26 = 2 := by kernel_rfl
theorem bytes52 : Try.prog.bytesOf 26 = 32 := by kernel_rfl
theorem weights_part {H : Type} {P : Program} {e : TypeId} : ∀ {l : List (DataW H)} {d : DataW H}, d ∈ l → ∀ n ∈ d.weights P e, n ∈ DataW.weightsAll P e l
  | [], d, h, n, hn => by cases h
  | c :: r, d, h, n, hn => by
    unfold DataW.weightsAll
    rcases List.mem_cons.1 h with rfl | h
    · exact List.mem_append.2 (.inl hn)
    · exact List.mem_append.2 (.inr (weights_part h n hn))
theorem elem_entries {H : Type} {enc : TypeId × Value → H} {W : World} {a : Addr} {i n : Nat} {cs : List Value} {d : DataW H} {p : List MemPlace} (hc : W.cells? 0 (a.add (i * 2)) 2 = some cs) (ht : DataW.trod enc Try.prog W 0 (fun _ => true) true n 26 cs = some (d, p)) (hw : ∀ q ∈ d.weights Try.prog 26, q ≤ reachBytes) :
    ∃ (r : Ent), W.cell? (a.add (i * 2)) = some (.string r.k) ∧ W.cell? (a.add (i * 2 + 1)) = some (.string r.v) ∧ Sml r.k ∧ Sml r.v := by
  obtain ⟨_, hlen, hcell⟩ := World.cells?_some hc
  obtain ⟨y0, y1, k, hx, _, h0, h1⟩ := trod_struct2 Try.underlying26 ht
  match cs, hlen with
  | [v0, v1], _ =>
    have e0 := hcell 0 (by omega)
    have e1 := hcell 1 (by omega)
    rw [add_add] at e0 e1
    have g0 : DataW.trod enc Try.prog W 0 (fun _ => true) true k 9 [v0] = some y0 := h0
    have g1 : DataW.trod enc Try.prog W 0 (fun _ => true) true k 9 [v1] = some y1 := h1
    have hd := congrArg Prod.fst hx
    simp only at hd
    rw [hd] at hw
    obtain ⟨x0, f0, q0, hs0⟩ := DataW.trod_string Try.underlying9 g0
    obtain ⟨x1, f1, q1, hs1⟩ := DataW.trod_string Try.underlying9 g1
    simp only [List.cons.injEq, and_true] at f0 f1
    subst f0
    subst f1
    have hr : reachBytes = 140737488351232 := rfl
    have w0 := hw x0.size (by
      simp only [DataW.weights, Try.underlying26, DataW.weightsEach]
      refine List.mem_append_left _ ?_
      rw [q0]
      simp [DataW.weights])
    have w1 := hw x1.size (by
      simp only [DataW.weights, Try.underlying26, DataW.weightsEach]
      refine List.mem_append_right _ (List.mem_append_left _ ?_)
      rw [q1]
      simp [DataW.weights])
    exact ⟨⟨x0, x1⟩, by simpa using e0, by simpa using e1, by show x0.size ≤ 140737488351232; omega, by show x1.size ≤ 140737488351232; omega⟩
theorem open_entries {H : Type} {enc : TypeId × Value → H} {W : World} {base : Nat} {v : Value} {d : DataW H} {p : List MemPlace}
    (hv : Value.okWide Try.prog W .any base 22 v) (h : DataW.Trod enc Try.prog W 0 (fun _ => true) true 22 v d p) (hw : ∀ n ∈ d.weights Try.prog 22, n ≤ reachBytes) :
    ∃ L, LiesE W v L ∧ L.length ≤ 4398046510976 := by
  obtain ⟨a0, len0, cap0, rfl⟩ := okWide_slice Try.underlying22 hv
  obtain ⟨fuel, hf⟩ := h
  have hf2 : DataW.trod enc Try.prog W 0 (fun _ => true) true fuel 22 [.slice a0 len0 cap0] = some (d, p) := by simpa [Value.cells] using hf
  rcases open_slice Try.underlying22 hf2 with ⟨hcs, hx⟩ | ⟨a, len, cap, m, n, D, Pl, hcs, _, hl, hm, hmm, hx, hel⟩
  · simp at hcs
    obtain ⟨rfl, rfl, rfl⟩ := hcs
    exact ⟨[], ⟨none, 0, rfl, Nat.le_refl _, Nat.zero_le _, (fun k c hc => by simp at hc)⟩, by simp⟩
  · simp at hcs
    obtain ⟨rfl, rfl, rfl⟩ := hcs
    simp only [if_true] at hmm
    subst hmm
    have hd := congrArg Prod.fst hx
    simp only at hd
    rw [hd] at hw
    rw [cells52] at hel
    have hin : Inhabited Ent := ⟨⟨⟨#[]⟩, ⟨#[]⟩⟩⟩
    obtain ⟨F, hF⟩ := choose_lt (α := Ent) (n := len0) (p := fun i r => W.cell? (a.add (i * 2)) = some (.string r.k) ∧ W.cell? (a.add (i * 2 + 1)) = some (.string r.v) ∧ Sml r.k ∧ Sml r.v) (fun i hi => by
      obtain ⟨cs, h1, h2⟩ := hel i (by omega)
      exact elem_entries h1 h2 (fun q hq => hw q (by
        simp only [DataW.weights, Try.underlying22, List.mem_cons, List.mem_append]
        exact .inr (.inl (weights_part (List.mem_map.2 ⟨i, List.mem_range.2 hi, rfl⟩) q hq)))))
    have hlen : ((List.range len0).map F).length = len0 := by simp
    refine ⟨(List.range len0).map F, ⟨some a, m, by rw [hlen], by rw [hlen]; exact hl, hm, ?_⟩, ?_⟩
    · intro j r hj
      have hjl : j < len0 := by have := (List.getElem?_eq_some_iff.1 hj).1; rwa [hlen] at this
      rw [List.getElem?_map, List.getElem?_range hjl] at hj
      simp only [Option.map_some, Option.some.injEq] at hj
      subst hj
      obtain ⟨h0, h1, h3, h4⟩ := hF j hjl
      obtain ⟨g, off, spot⟩ := a
      have hspot : spot = none := by simpa [Addr.add] using World.cell?_spot (hF 0 (by omega)).1
      subst hspot
      rw [add_plain] at h0 h1
      exact ⟨g, off, rfl, World.block_lt_of_cell? W _ h0, h0, h1, h3, h4⟩
    · rw [hlen]
      have := hw ((len0 + (m - len0)) * Try.prog.bytesOf 26) (by simp [DataW.weights, Try.underlying22])
      rw [bytes52] at this
      have h2 : reachBytes = 140737488351232 := rfl
      omega
end Go.Proofs.Ytjocbkhjbbpkjab

