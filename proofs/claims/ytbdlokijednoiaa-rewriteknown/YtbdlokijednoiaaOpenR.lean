/-
  A rule that is handed in, opened: its ID, and its sides as they lie in memory.
-/
import Derived.Test.YtbdlokijednoiaaLie
import Derived.ProofKit
import Derived.OpenShut
import Derived.ChangeOld
import Derived.SizedLaws
import Derived.Deep.SlicePairs
import Derived.Test.YtbdlokijednoiaaMany
import Derived.Lib.SmallJoins
namespace Go.Proofs.Ytbdlokijednoiaa
open Go.ChangeShapes Go.WideShapes Go.ChangeAt Go.RowKit Go.Deep
open Go.ChangeShapes Go.WideShapes Go.ChangeAt Go.RowKit Go.Joins
set_option linter.unusedVariables false
set_option maxRecDepth 100000
set_option linter.unusedSimpArgs false

theorem cells59 : Try.prog.cellsOf 49 = 2 := by kernel_rfl
theorem cells9 : Try.prog.cellsOf 9 = 1 := by kernel_rfl
theorem cells3 : Try.prog.cellsOf 3 = 1 := by kernel_rfl
theorem bytes59 : Try.prog.bytesOf 49 = 24 := by kernel_rfl
def strOf : Value → ByteArray | .string s => s | _ => ⟨#[]⟩
def cellsIn (V0 V1 : Nat → Value) (n : Nat) : List Cl := (List.range n).map fun i => ⟨strOf (V0 i), intOf (V1 i)⟩

theorem addr_plain (b off k : Nat) : ((⟨b, off, none⟩ : Addr).add k) = ⟨b, off + k, none⟩ := by
  cases k <;> simp [Addr.add]

theorem open_cells0 {H : Type} {enc : TypeId × Value → H} {W : World} {fuel : Nat} {a0 : Option Addr} {len cap : Nat} {d : DataW H} {p : List MemPlace}
    (h : DataW.trod enc Try.prog W 0 (fun _ => true) true fuel 24 [.slice a0 len cap] = some (d, p)) (hw : ∀ n ∈ d.weights Try.prog 24, n ≤ reachBytes) :
    ∃ L, Lies W (.slice a0 len cap) L ∧ L.length * 24 ≤ 140737488355328 := by
  rcases open_slice_pairs Try.underlying24 Try.underlying49 cells59 rfl rfl cells9 cells3 h with ⟨hcs, hx⟩ | ⟨a, len', cap', m, n, V0, V1, D0, D1, P0, P1, hcs, _, hl, hm, hmm, hx, hcell⟩
  · simp at hcs
    obtain ⟨rfl, rfl, rfl⟩ := hcs
    exact ⟨[], ⟨none, 0, rfl, Nat.le_refl _, Nat.zero_le _, (fun c hc => by cases hc), (fun k c hc => by simp at hc)⟩, by simp⟩
  · simp at hcs
    obtain ⟨rfl, rfl, rfl⟩ := hcs
    simp only [if_true] at hmm
    subst hmm
    have hlen : (cellsIn V0 V1 len).length = len := by simp [cellsIn]
    have hd := congrArg Prod.fst hx
    simp only at hd
    refine ⟨cellsIn V0 V1 len, ⟨some a, m, by rw [hlen], by rw [hlen]; exact hl, hm, ?_, ?_⟩, ?_⟩
    · intro c hc
      simp only [cellsIn, List.mem_map, List.mem_range] at hc
      obtain ⟨i, hi, rfl⟩ := hc
      obtain ⟨_, _, t0, t1⟩ := hcell i (by omega)
      obtain ⟨s, e0, _, hs⟩ := DataW.trod_string Try.underlying9 t0
      obtain ⟨z, e1, _, hz⟩ := DataW.trod_int Try.underlying3 t1
      simp only [List.cons.injEq, and_true] at e0 e1
      rw [e0, e1]
      obtain ⟨z0, z1⟩ := bounds_i64 hz
      refine ⟨?_, ?_, ?_⟩
      · show s.size ≤ _
        unfold maxLen at hs; omega
      · show _ ≤ z; omega
      · show z ≤ _; omega
    · intro k c hk
      simp only [cellsIn, List.getElem?_map] at hk
      by_cases hkl : k < len
      · rw [List.getElem?_range hkl] at hk
        simp only [Option.map_some, Option.some.injEq] at hk
        subst hk
        obtain ⟨h0, h1, t0, t1⟩ := hcell k (by omega)
        obtain ⟨s, e0, _, hs⟩ := DataW.trod_string Try.underlying9 t0
        obtain ⟨z, e1, _, hz⟩ := DataW.trod_int Try.underlying3 t1
        simp only [List.cons.injEq, and_true] at e0 e1
        rw [e0] at h0 ⊢
        rw [e1] at h1 ⊢
        obtain ⟨b, off, spot⟩ := a
        have hspot : spot = none := by simpa [Addr.add] using World.cell?_spot (hcell 0 (by omega)).1
        subst hspot
        rw [addr_plain] at h0 h1
        exact ⟨b, off, rfl, World.block_lt_of_cell? W _ h0, h0, h1⟩
      · rw [List.getElem?_eq_none (by simp; omega)] at hk
        simp at hk
    · rw [hlen]
      rw [hd] at hw
      have := hw ((len + (m - len)) * Try.prog.bytesOf 49) (by simp [DataW.weights, Try.underlying24])
      rw [bytes59] at this
      have h2 := reachBytes_lt
      omega

set_option maxRecDepth 100000 in
theorem open_cells {H : Type} {enc : TypeId × Value → H} {W : World} {base : Nat} {v : Value} {d : DataW H} {p : List MemPlace}
    (hv : Value.okWide Try.prog W .any base 24 v) (h : DataW.Trod enc Try.prog W 0 (fun _ => true) true 24 v d p) (hw : ∀ n ∈ d.weights Try.prog 24, n ≤ reachBytes) :
    ∃ L, Lies W v L ∧ L.length * 24 ≤ 140737488355328 := by
  obtain ⟨a0, len, cap, rfl⟩ := okWide_slice Try.underlying24 hv
  obtain ⟨fuel, hf⟩ := h
  exact open_cells0 (by simpa [Value.cells] using hf) hw

theorem cells23 : Try.prog.cellsOf 24 = 1 := by kernel_rfl
theorem bytes23 : Try.prog.bytesOf 24 = 24 := by kernel_rfl

theorem weights_part {H : Type} {P : Program} {e : TypeId} : ∀ {l : List (DataW H)} {d : DataW H}, d ∈ l → ∀ n ∈ d.weights P e, n ∈ DataW.weightsAll P e l
  | [], d, h, n, hn => by cases h
  | c :: r, d, h, n, hn => by
    unfold DataW.weightsAll
    rcases List.mem_cons.1 h with rfl | h
    · exact List.mem_append.2 (.inl hn)
    · exact List.mem_append.2 (.inr (weights_part h n hn))

set_option maxRecDepth 100000 in
theorem open_cells1 {H : Type} {enc : TypeId × Value → H} {W : World} {fuel : Nat} {x : Value} {d : DataW H} {p : List MemPlace}
    (h : DataW.trod enc Try.prog W 0 (fun _ => true) true fuel 24 [x] = some (d, p)) (hw : ∀ n ∈ d.weights Try.prog 24, n ≤ reachBytes) :
    ∃ L, Lies W x L ∧ L.length * 24 ≤ 140737488355328 := by
  obtain ⟨a0, len, cap, rfl⟩ : ∃ a0 len cap, x = .slice a0 len cap := by
    rcases open_slice_pairs Try.underlying24 Try.underlying49 cells59 rfl rfl cells9 cells3 h with ⟨hcs, _⟩ | ⟨a, len', cap', m, n, V0, V1, D0, D1, P0, P1, hcs, _⟩
    · simp at hcs; exact ⟨_, _, _, hcs⟩
    · simp at hcs; exact ⟨_, _, _, hcs⟩
  exact open_cells0 h hw

set_option maxRecDepth 100000 in
theorem open_terms {H : Type} {enc : TypeId × Value → H} {W : World} {base : Nat} {v : Value} {d : DataW H} {p : List MemPlace}
    (hv : Value.okWide Try.prog W .any base 25 v) (h : DataW.Trod enc Try.prog W 0 (fun _ => true) true 25 v d p) (hw : ∀ n ∈ d.weights Try.prog 25, n ≤ reachBytes) :
    ∃ K, LiesT W v K ∧ K.length * 24 ≤ 140737488355328 ∧ ∀ l ∈ K, l.length * 24 ≤ 140737488355328 := by
  obtain ⟨a0, len, cap, rfl⟩ := okWide_slice Try.underlying25 hv
  obtain ⟨fuel, hf⟩ := h
  have hf2 : DataW.trod enc Try.prog W 0 (fun _ => true) true fuel 25 [.slice a0 len cap] = some (d, p) := by simpa [Value.cells] using hf
  rcases open_slice1 Try.underlying25 cells23 hf2 with ⟨hcs, hx⟩ | ⟨a, len', cap', m, n, V, D, Pl, hcs, _, hl, hm, hmm, hx, hcell⟩
  · simp at hcs
    obtain ⟨rfl, rfl, rfl⟩ := hcs
    exact ⟨[], ⟨none, 0, rfl, Nat.le_refl _, Nat.zero_le _, (fun k c hc => by simp at hc)⟩, by simp, by simp⟩
  · simp at hcs
    obtain ⟨rfl, rfl, rfl⟩ := hcs
    simp only [if_true] at hmm
    subst hmm
    have hd := congrArg Prod.fst hx
    simp only at hd
    rw [hd] at hw
    obtain ⟨F, hF⟩ := choose_lt (α := List Cl) (n := len) (p := fun i L => Lies W (V i) L ∧ L.length * 24 ≤ 140737488355328) (fun i hi => by
      obtain ⟨_, ht⟩ := hcell i (by omega)
      refine open_cells1 ht fun q hq => hw q ?_
      simp only [DataW.weights, Try.underlying25, List.mem_cons, List.mem_append]
      exact .inr (.inl (weights_part (List.mem_map.2 ⟨i, List.mem_range.2 hi, rfl⟩) q hq)))
    have hlen : ((List.range len).map F).length = len := by simp
    refine ⟨(List.range len).map F, ⟨some a, m, by rw [hlen], by rw [hlen]; exact hl, hm, ?_⟩, ?_, ?_⟩
    · intro j l hj
      have hjl : j < len := by have := (List.getElem?_eq_some_iff.1 hj).1; rwa [hlen] at this
      rw [List.getElem?_map, List.getElem?_range hjl] at hj
      simp only [Option.map_some, Option.some.injEq] at hj
      subst hj
      obtain ⟨hc, _⟩ := hcell j (by omega)
      obtain ⟨b, off, spot⟩ := a
      have hspot : spot = none := by simpa [Addr.add] using World.cell?_spot (hcell 0 (by omega)).1
      subst hspot
      rw [addr_plain] at hc
      exact ⟨b, off, V j, rfl, World.block_lt_of_cell? W _ hc, hc, (hF j hjl).1⟩
    · rw [hlen]
      have := hw ((len + (m - len)) * Try.prog.bytesOf 24) (by simp [DataW.weights, Try.underlying25])
      rw [bytes23] at this
      have h2 := reachBytes_lt
      omega
    · intro l hl
      obtain ⟨i, hi, rfl⟩ := List.mem_map.1 hl
      exact (hF i (List.mem_range.1 hi)).2

theorem open_rule {H : Type} {enc : TypeId × Value → H} {W : World} {base : Nat} {v : Value} {d : DataW H} {p : List MemPlace}
    (hv : Value.okWide Try.prog W .any base 56 v) (h : DataW.Trod enc Try.prog W 0 (fun _ => true) true 56 v d p) (hw : ∀ n ∈ d.weights Try.prog 56, n ≤ reachBytes) :
    ∃ id lv rv L R, v = .agg #[.int .i64 id, lv, rv] ∧ Lies W lv L ∧ Lies W rv R ∧ L.length * 24 ≤ 140737488355328 ∧ R.length * 24 ≤ 140737488355328 := by
  obtain ⟨c0, c1, c2, y0, y1, y2, n, rfl, rfl, rfl, h0, h1, h2⟩ := open_agg3 Try.underlying56 (by kernel_rfl) (by kernel_rfl) hv h
  obtain ⟨id, e0, _, _⟩ := DataW.trod_int Try.underlying3 h0
  simp only [List.cons.injEq, and_true] at e0
  subst e0
  have hw1 : ∀ n ∈ y1.1.weights Try.prog 24, n ≤ reachBytes := fun n hn => hw n (by
    simp only [DataW.weights, Try.underlying56, DataW.weightsEach]
    exact List.mem_append_right _ (List.mem_append_left _ hn))
  have hw2 : ∀ n ∈ y2.1.weights Try.prog 24, n ≤ reachBytes := fun n hn => hw n (by
    simp only [DataW.weights, Try.underlying56, DataW.weightsEach]
    exact List.mem_append_right _ (List.mem_append_right _ (List.mem_append_left _ hn)))
  obtain ⟨L, l1, l2⟩ := open_cells1 (d := y1.1) (p := y1.2) h1 hw1
  obtain ⟨R, r1, r2⟩ := open_cells1 (d := y2.1) (p := y2.2) h2 hw2
  exact ⟨id, c1, c2, L, R, rfl, l1, r1, l2, r2⟩

end Go.Proofs.Ytbdlokijednoiaa
