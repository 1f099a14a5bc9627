/-
  Addresses, nodes and a bucket that came in, as they lie in memory.
-/
import Derived.Test.YthohopbolalpcaaSt
import Derived.ProofKit
import Derived.OpenShut
import Derived.ChangeOld
import Derived.SizedLaws
import Derived.Deep.SlicePairs
import Derived.Lib.SmallJoins
namespace Go.Proofs.Ythohopbolalpcaa
open Go.ChangeShapes Go.WideShapes Go.ChangeAt Go.RowKit Go.Deep Go.Joins
set_option linter.unusedVariables false
set_option linter.unusedSimpArgs false
set_option maxRecDepth 100000

theorem cells33 : Try.prog.cellsOf 33 = 1 := by kernel_rfl
theorem bytes33 : Try.prog.bytesOf 33 = 8 := by kernel_rfl
theorem cells57 : Try.prog.cellsOf 57 = 6 := by kernel_rfl
theorem bytes57 : Try.prog.bytesOf 57 = 72 := by kernel_rfl
theorem weights_part {H : Type} {P : Program} {e : TypeId} : ∀ {l : List (DataW H)} {d : DataW H}, d ∈ l → ∀ n ∈ d.weights P e, n ∈ DataW.weightsAll P e l
  | [], d, h, n, hn => by cases h
  | c :: r, d, h, n, hn => by
    unfold DataW.weightsAll
    rcases List.mem_cons.1 h with rfl | h
    · exact List.mem_append.2 (.inl hn)
    · exact List.mem_append.2 (.inr (weights_part h n hn))

section
variable {H : Type} {enc : TypeId × Value → H} {W : World}

theorem open_kids0 {fuel : Nat} {v : Value} {d : DataW H} {p : List MemPlace}
    (h : DataW.trod enc Try.prog W 0 (fun _ => true) true fuel 22 [v] = some (d, p)) (hw : ∀ n ∈ d.weights Try.prog 22, n ≤ reachBytes) :
    ∃ K, LiesK W v K ∧ K.length * 8 ≤ 140737488351232 := by
  rcases open_slice1 Try.underlying22 cells33 h with ⟨hcs, hx⟩ | ⟨a, len', cap', m, n, V, D, Pl, hcs, _, hl, hm, hmm, hx, hcell⟩
  · simp at hcs
    subst hcs
    exact ⟨[], LiesK.nil _, by simp⟩
  · simp at hcs
    subst hcs
    simp only [if_true] at hmm
    subst hmm
    have hd := congrArg Prod.fst hx
    simp only at hd
    rw [hd] at hw
    obtain ⟨F, hF⟩ := choose_lt (α := Nat) (n := len') (p := fun i x => W.cell? (a.add i) = some (.int .u64 (x : Nat)) ∧ x < 18446744073709551616) (fun i hi => by
      obtain ⟨hc, ht⟩ := hcell i (by omega)
      obtain ⟨z, e1, _, hz⟩ := DataW.trod_int Try.underlying33 ht
      simp only [List.cons.injEq, and_true] at e1
      obtain ⟨z0, z1⟩ := bounds_u64 hz
      refine ⟨z.toNat, ?_, by omega⟩
      rw [hc, e1, show ((z.toNat : Nat) : Int) = z by omega])
    have hlen : ((List.range len').map F).length = len' := by simp
    refine ⟨(List.range len').map F, ⟨some a, m, by rw [hlen], by rw [hlen]; exact hl, hm, ?_⟩, ?_⟩
    · intro k x hk
      have hkl : k < len' := by have := (List.getElem?_eq_some_iff.1 hk).1; rwa [hlen] at this
      rw [List.getElem?_map, List.getElem?_range hkl] at hk
      simp only [Option.map_some, Option.some.injEq] at hk
      subst hk
      obtain ⟨h0, h1⟩ := hF k hkl
      obtain ⟨g, off, spot⟩ := a
      have hspot : spot = none := by simpa [Addr.add] using World.cell?_spot (hF 0 (by omega)).1
      subst hspot
      rw [add_plain] at h0
      exact ⟨g, off, rfl, World.block_lt_of_cell? W _ h0, h0, h1⟩
    · rw [hlen]
      have := hw ((len' + (m - len')) * Try.prog.bytesOf 33) (by simp [DataW.weights, Try.underlying22])
      rw [bytes33] at this
      have h2 : reachBytes = 140737488351232 := rfl
      omega
theorem open_kids {base : Nat} {v : Value} {d : DataW H} {p : List MemPlace}
    (hv : Value.okWide Try.prog W .any base 22 v) (h : DataW.Trod enc Try.prog W 0 (fun _ => true) true 22 v d p) (hw : ∀ n ∈ d.weights Try.prog 22, n ≤ reachBytes) :
    ∃ K, LiesK W v K ∧ K.length * 8 ≤ 140737488351232 := by
  obtain ⟨a0, len, cap, rfl⟩ := okWide_slice Try.underlying22 hv
  obtain ⟨fuel, hf⟩ := h
  exact open_kids0 (by simpa [Value.cells] using hf) hw

theorem elem_node {a : Addr} {i n : Nat} {cs : List Value} {d : DataW H} {p : List MemPlace} (hc : W.cells? 0 (a.add (i * 6)) 6 = some cs) (ht : DataW.trod enc Try.prog W 0 (fun _ => true) true n 57 cs = some (d, p)) (hw : ∀ q ∈ d.weights Try.prog 57, q ≤ reachBytes) :
    ∃ (x : Nd) (kv : Value), (∀ j u, (cellsN x kv)[j]? = some u → W.cell? (a.add (i * 6 + j)) = some u) ∧ NdF W kv x ∧ x.kids.length * 8 ≤ 140737488351232 := by
  obtain ⟨_, hlen, hcell⟩ := World.cells?_some hc
  obtain ⟨xs, k, _, hx, _, hlx, hf⟩ := DataW.trod_struct Try.underlying57 ht
  match xs, hlx, cs, hlen with
  | [y0, y1, y2, y3, y4, y5], _, [v0, v1, v2, v3, v4, v5], _ =>
    have g0 : DataW.trod enc Try.prog W 0 (fun _ => true) true k 33 [v0] = some y0 := hf 0 _ rfl
    have g1 : DataW.trod enc Try.prog W 0 (fun _ => true) true k 9 [v1] = some y1 := hf 1 _ rfl
    have g2 : DataW.trod enc Try.prog W 0 (fun _ => true) true k 22 [v2] = some y2 := hf 2 _ rfl
    have g3 : DataW.trod enc Try.prog W 0 (fun _ => true) true k 3 [v3] = some y3 := hf 3 _ rfl
    have g4 : DataW.trod enc Try.prog W 0 (fun _ => true) true k 4 [v4] = some y4 := hf 4 _ rfl
    have g5 : DataW.trod enc Try.prog W 0 (fun _ => true) true k 33 [v5] = some y5 := hf 5 _ rfl
    have e0 := hcell 0 (by omega)
    have e1 := hcell 1 (by omega)
    have e2 := hcell 2 (by omega)
    have e3 := hcell 3 (by omega)
    have e4 := hcell 4 (by omega)
    have e5 := hcell 5 (by omega)
    rw [add_add] at e0 e1 e2 e3 e4 e5
    have hd := congrArg Prod.fst hx
    simp only [List.map_cons, List.map_nil] at hd
    rw [hd] at hw
    obtain ⟨z0, f0, _, hz0⟩ := DataW.trod_int Try.underlying33 g0
    obtain ⟨s1, f1, q1, hs1⟩ := DataW.trod_string Try.underlying9 g1
    obtain ⟨K, k1, k2⟩ := open_kids0 (d := y2.1) (p := y2.2) g2 (fun q hq => hw q (by
      simp only [DataW.weights, Try.underlying57, DataW.weightsEach]
      exact List.mem_append_right _ (List.mem_append_right _ (List.mem_append_left _ hq))))
    obtain ⟨z3, f3, _, hz3⟩ := DataW.trod_int Try.underlying3 g3
    obtain ⟨b4, f4, _⟩ := DataW.trod_bool Try.underlying4 g4
    obtain ⟨z5, f5, _, hz5⟩ := DataW.trod_int Try.underlying33 g5
    simp only [List.cons.injEq, and_true] at f0 f1 f3 f4 f5
    subst f0 f1 f3 f4 f5
    obtain ⟨l0, u0⟩ := bounds_u64 hz0
    obtain ⟨l3, u3⟩ := bounds_i64 hz3
    obtain ⟨l5, u5⟩ := bounds_u64 hz5
    have w1 := hw s1.size (by
      simp only [DataW.weights, Try.underlying57, DataW.weightsEach]
      refine List.mem_append_right _ (List.mem_append_left _ ?_)
      rw [q1]
      simp [DataW.weights])
    have hr : reachBytes = 140737488351232 := rfl
    refine ⟨⟨z0.toNat, s1, K, z3, b4, z5.toNat⟩, v2, fun j u hj => ?_, ⟨k1, by show z0.toNat < _; omega, by show z5.toNat < _; omega, by show s1.size ≤ _; omega, l3, u3⟩, k2⟩
    have hj6 : j < 6 := by have := (Array.getElem?_eq_some_iff.1 hj).1; simpa [cellsN] using this
    match j, hj6 with
    | 0, _ => simp [cellsN] at hj; subst hj; rw [show max z0 0 = z0 by omega]; simpa using e0
    | 1, _ => simp [cellsN] at hj; subst hj; simpa using e1
    | 2, _ => simp [cellsN] at hj; subst hj; simpa using e2
    | 3, _ => simp [cellsN] at hj; subst hj; simpa using e3
    | 4, _ => simp [cellsN] at hj; subst hj; simpa using e4
    | 5, _ => simp [cellsN] at hj; subst hj; rw [show max z5 0 = z5 by omega]; simpa using e5
/-- lists that came in are no greater than memory -/
def SmN (L : List Nd) : Prop := ∀ x ∈ L, x.kids.length * 8 ≤ 140737488351232
theorem open_nodes0 {fuel : Nat} {v : Value} {d : DataW H} {p : List MemPlace}
    (h : DataW.trod enc Try.prog W 0 (fun _ => true) true fuel 40 [v] = some (d, p)) (hw : ∀ n ∈ d.weights Try.prog 40, n ≤ reachBytes) :
    ∃ L, LiesN W v L ∧ L.length * 72 ≤ 140737488351232 ∧ SmN L := by
  rcases open_slice Try.underlying40 h with ⟨hcs, hx⟩ | ⟨a, len, cap, m, n, D, Pl, hcs, _, hl, hm, hmm, hx, hel⟩
  · simp at hcs
    subst hcs
    exact ⟨[], LiesN.nil _, by simp, fun x hx => by cases hx⟩
  · simp at hcs
    subst hcs
    simp only [if_true] at hmm
    subst hmm
    have hd := congrArg Prod.fst hx
    simp only at hd
    rw [hd] at hw
    rw [cells57] at hel
    have hin : Inhabited (Nd × Value) := ⟨(⟨0, ⟨#[]⟩, [], 0, false, 0⟩, .bool false)⟩
    obtain ⟨F, hF⟩ := choose_lt (α := Nd × Value) (n := len) (p := fun i y => (∀ j u, (cellsN y.1 y.2)[j]? = some u → W.cell? (a.add (i * 6 + j)) = some u) ∧ NdF W y.2 y.1 ∧ y.1.kids.length * 8 ≤ 140737488351232) (fun i hi => by
      obtain ⟨cs, h1, h2⟩ := hel i (by omega)
      obtain ⟨x, kv, q⟩ := elem_node h1 h2 (fun q hq => hw q (by
        simp only [DataW.weights, Try.underlying40, List.mem_cons, List.mem_append]
        exact .inr (.inl (weights_part (List.mem_map.2 ⟨i, List.mem_range.2 hi, rfl⟩) q hq))))
      exact ⟨(x, kv), q⟩)
    have hlen : ((List.range len).map fun i => (F i).1).length = len := by simp
    refine ⟨(List.range len).map fun i => (F i).1, ⟨some a, m, by rw [hlen], by rw [hlen]; exact hl, hm, ?_⟩, ?_, ?_⟩
    · intro j x hj
      have hjl : j < len := by have := (List.getElem?_eq_some_iff.1 hj).1; rwa [hlen] at this
      rw [List.getElem?_map, List.getElem?_range hjl] at hj
      simp only [Option.map_some, Option.some.injEq] at hj
      subst hj
      obtain ⟨h0, h1, _⟩ := hF j hjl
      obtain ⟨g, off, spot⟩ := a
      have hspot : spot = none := by simpa [Addr.add] using World.cell?_spot ((hF 0 (by omega)).1 0 _ rfl)
      subst hspot
      have h0' : ∀ i u, (cellsN (F j).1 (F j).2)[i]? = some u → W.cell? ⟨g, off + j * 6 + i, none⟩ = some u := fun i u hu => by
        have := h0 i u hu
        rw [add_plain] at this
        rw [Nat.add_assoc]
        exact this
      exact ⟨g, off, (F j).2, rfl, World.block_lt_of_cell? W _ (h0' 0 _ rfl), h0', h1⟩
    · rw [hlen]
      have := hw ((len + (m - len)) * Try.prog.bytesOf 57) (by simp [DataW.weights, Try.underlying40])
      rw [bytes57] at this
      have h2 : reachBytes = 140737488351232 := rfl
      omega
    · intro x hx
      obtain ⟨i, hi, rfl⟩ := List.mem_map.1 hx
      exact (hF i (List.mem_range.1 hi)).2.2
theorem open_bucket {base : Nat} {v : Value} {d : DataW H} {p : List MemPlace}
    (hv : Value.okWide Try.prog W .any base 42 v) (h : DataW.Trod enc Try.prog W 0 (fun _ => true) true 42 v d p) (hw : ∀ n ∈ d.weights Try.prog 42, n ≤ reachBytes) :
    ∃ (b : Bk) (nv : Value), v = .agg #[.int .i64 b.depth, .int .i64 b.next, nv] ∧ LiesN W nv b.nodes ∧ b.nodes.length * 72 ≤ 140737488351232 ∧ SmN b.nodes ∧ (-9223372036854775808 ≤ b.depth ∧ b.depth ≤ 9223372036854775807) ∧ (-9223372036854775808 ≤ b.next ∧ b.next ≤ 9223372036854775807) := by
  obtain ⟨c0, c1, c2, y0, y1, y2, n, rfl, rfl, rfl, h0, h1, h2⟩ := open_agg3 Try.underlying42 (by kernel_rfl) (by kernel_rfl) hv h
  obtain ⟨z0, e0, _, hz0⟩ := DataW.trod_int Try.underlying3 h0
  obtain ⟨z1, e1, _, hz1⟩ := DataW.trod_int Try.underlying3 h1
  simp only [List.cons.injEq, and_true] at e0 e1
  subst e0 e1
  obtain ⟨L, l1, l2, l3⟩ := open_nodes0 (d := y2.1) (p := y2.2) h2 (fun q hq => hw q (by
    simp only [DataW.weights, Try.underlying42, DataW.weightsEach]
    exact List.mem_append_right _ (List.mem_append_right _ (List.mem_append_left _ hq))))
  exact ⟨⟨z0, z1, L⟩, c2, rfl, l1, l2, l3, bounds_i64 hz0, bounds_i64 hz1⟩
end
end Go.Proofs.Ythohopbolalpcaa

