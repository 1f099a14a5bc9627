/-
  Rules and states that came in, as they lie in memory.
-/
import Derived.Test.YtbdlokijednoiaaOpenR
import Derived.Test.YtbdlokijednoiaaBF
import Derived.Deep.Strs
import Derived.Lib.SmallJoins
namespace Go.Proofs.Ytbdlokijednoiaa
open Go.ChangeShapes Go.WideShapes Go.ChangeAt Go.RowKit Go.Deep Go.Joins
set_option linter.unusedVariables false
set_option linter.unusedSimpArgs false
set_option maxRecDepth 100000

theorem cells69 : Try.prog.cellsOf 56 = 3 := by kernel_rfl
theorem bytes69 : Try.prog.bytesOf 56 = 56 := by kernel_rfl
theorem cells71 : Try.prog.cellsOf 51 = 4 := by kernel_rfl
theorem bytes71 : Try.prog.bytesOf 51 = 56 := by kernel_rfl
theorem bytes9 : Try.prog.bytesOf 9 = 16 := by kernel_rfl

section
variable {H : Type} {enc : TypeId × Value → H} {W : World}

theorem elem_rule {a : Addr} {i n : Nat} {cs : List Value} {d : DataW H} {p : List MemPlace} (hc : W.cells? 0 (a.add (i * 3)) 3 = some cs) (ht : DataW.trod enc Try.prog W 0 (fun _ => true) true n 56 cs = some (d, p)) (hw : ∀ q ∈ d.weights Try.prog 56, q ≤ reachBytes) :
    ∃ (r : Rl) (x y : Value), W.cell? (a.add (i * 3)) = some (.int .i64 r.id) ∧ W.cell? (a.add (i * 3 + 1)) = some x ∧ W.cell? (a.add (i * 3 + 2)) = some y ∧ Lies W x r.l ∧ Lies W y r.r ∧ (-9223372036854775808 ≤ r.id ∧ r.id ≤ 9223372036854775807) ∧ r.l.length * 24 ≤ 140737488355328 ∧ r.r.length * 24 ≤ 140737488355328 := by
  obtain ⟨_, hlen, hcell⟩ := World.cells?_some hc
  obtain ⟨y0, y1, y2, k, hx, _, h0, h1, h2⟩ := trod_struct3 Try.underlying56 ht
  match cs, hlen with
  | [v0, v1, v2], _ =>
    have e0 := hcell 0 (by omega)
    have e1 := hcell 1 (by omega)
    have e2 := hcell 2 (by omega)
    rw [add_add] at e0 e1 e2
    have g0 : DataW.trod enc Try.prog W 0 (fun _ => true) true k 3 [v0] = some y0 := h0
    have g1 : DataW.trod enc Try.prog W 0 (fun _ => true) true k 24 [v1] = some y1 := h1
    have g2 : DataW.trod enc Try.prog W 0 (fun _ => true) true k 24 [v2] = some y2 := h2
    have hd := congrArg Prod.fst hx
    simp only at hd
    rw [hd] at hw
    obtain ⟨id, f0, _, hz⟩ := DataW.trod_int Try.underlying3 g0
    simp only [List.cons.injEq, and_true] at f0
    subst f0
    obtain ⟨L, l1, l2⟩ := open_cells1 (d := y1.1) (p := y1.2) g1 (fun q hq => hw q (by
      simp only [DataW.weights, Try.underlying56, DataW.weightsEach]
      exact List.mem_append_right _ (List.mem_append_left _ hq)))
    obtain ⟨R, r1, r2⟩ := open_cells1 (d := y2.1) (p := y2.2) g2 (fun q hq => hw q (by
      simp only [DataW.weights, Try.underlying56, DataW.weightsEach]
      exact List.mem_append_right _ (List.mem_append_right _ (List.mem_append_left _ hq))))
    have hb := bounds_i64 hz
    exact ⟨⟨id, L, R⟩, v1, v2, by simpa using e0, by simpa using e1, by simpa using e2, l1, r1, ⟨by simp only; omega, by simp only; omega⟩, l2, r2⟩

theorem elem_op {a : Addr} {i n : Nat} {cs : List Value} {d : DataW H} {p : List MemPlace} (hc : W.cells? 0 (a.add (i * 4)) 4 = some cs) (ht : DataW.trod enc Try.prog W 0 (fun _ => true) true n 51 cs = some (d, p)) (hw : ∀ q ∈ d.weights Try.prog 51, q ≤ reachBytes) :
    ∃ (o : Opr) (x : Value), W.cell? (a.add (i * 4)) = some (.int .i64 o.k) ∧ W.cell? (a.add (i * 4 + 1)) = some (.string o.c.nm) ∧ W.cell? (a.add (i * 4 + 2)) = some (.int .i64 o.c.ar) ∧ W.cell? (a.add (i * 4 + 3)) = some x ∧ Lies W x o.v ∧ o.c.nm.size ≤ 9223372036854775807 ∧ (-9223372036854775808 ≤ o.k ∧ o.k ≤ 9223372036854775807) ∧ (-9223372036854775808 ≤ o.c.ar ∧ o.c.ar ≤ 9223372036854775807) ∧ o.v.length * 24 ≤ 140737488355328 := by
  obtain ⟨_, hlen, hcell⟩ := World.cells?_some hc
  obtain ⟨y0, y1, y2, k, hx, _, h0, h1, h2⟩ := trod_struct3 Try.underlying51 ht
  match cs, hlen with
  | [v0, v1, v2, v3], _ =>
    have e0 := hcell 0 (by omega)
    have e1 := hcell 1 (by omega)
    have e2 := hcell 2 (by omega)
    have e3 := hcell 3 (by omega)
    rw [add_add] at e0 e1 e2 e3
    have g0 : DataW.trod enc Try.prog W 0 (fun _ => true) true k 3 [v0] = some y0 := h0
    have g1 : DataW.trod enc Try.prog W 0 (fun _ => true) true k 49 [v1, v2] = some y1 := h1
    have g2 : DataW.trod enc Try.prog W 0 (fun _ => true) true k 24 [v3] = some y2 := h2
    have hd := congrArg Prod.fst hx
    simp only at hd
    rw [hd] at hw
    obtain ⟨kd, f0, _, hz⟩ := DataW.trod_int Try.underlying3 g0
    simp only [List.cons.injEq, and_true] at f0
    subst f0
    obtain ⟨z0, z1, m, _, _, t0, t1⟩ := trod_struct2 Try.underlying49 g1
    have t0' : DataW.trod enc Try.prog W 0 (fun _ => true) true m 9 [v1] = some z0 := t0
    have t1' : DataW.trod enc Try.prog W 0 (fun _ => true) true m 3 [v2] = some z1 := t1
    obtain ⟨s, f1, _, hs⟩ := DataW.trod_string Try.underlying9 t0'
    obtain ⟨ar, f2, _, hz2⟩ := DataW.trod_int Try.underlying3 t1'
    simp only [List.cons.injEq, and_true] at f1 f2
    subst f1 f2
    obtain ⟨L, l1, l2⟩ := open_cells1 (d := y2.1) (p := y2.2) g2 (fun q hq => hw q (by
      simp only [DataW.weights, Try.underlying51, DataW.weightsEach]
      exact List.mem_append_right _ (List.mem_append_right _ (List.mem_append_left _ hq))))
    have hb := bounds_i64 hz
    have hb2 := bounds_i64 hz2
    refine ⟨⟨kd, ⟨s, ar⟩, L⟩, v3, by simpa using e0, by simpa using e1, by simpa using e2, by simpa using e3, l1, ?_, ⟨by simp only; omega, by simp only; omega⟩, ⟨by simp only; omega, by simp only; omega⟩, l2⟩
    show s.size ≤ _
    unfold maxLen at hs
    omega

theorem open_rules0 {fuel : Nat} {v : Value} {d : DataW H} {p : List MemPlace}
    (h : DataW.trod enc Try.prog W 0 (fun _ => true) true fuel 22 [v] = some (d, p)) (hw : ∀ n ∈ d.weights Try.prog 22, n ≤ reachBytes) :
    ∃ rs, LiesR W v rs ∧ rs.length * 56 ≤ 140737488351232 ∧ ∀ r ∈ rs, r.l.length * 24 ≤ 140737488355328 ∧ r.r.length * 24 ≤ 140737488355328 := by
  rcases open_slice Try.underlying22 h with ⟨hcs, hx⟩ | ⟨a, len, cap, m, n, D, Pl, hcs, _, hl, hm, hmm, hx, hel⟩
  · simp at hcs
    subst hcs
    exact ⟨[], ⟨none, 0, rfl, Nat.le_refl _, Nat.zero_le _, (fun k c hc => by simp at hc)⟩, by simp, by simp⟩
  · simp at hcs
    subst hcs
    simp only [if_true] at hmm
    subst hmm
    have hd := congrArg Prod.fst hx
    simp only at hd
    rw [hd] at hw
    rw [cells69] at hel
    have hin : Inhabited (Rl × Value × Value) := ⟨(⟨0, [], []⟩, .bool false, .bool false)⟩
    obtain ⟨F, hF⟩ := choose_lt (α := Rl × Value × Value) (n := len) (p := fun i q => W.cell? (a.add (i * 3)) = some (.int .i64 q.1.id) ∧ W.cell? (a.add (i * 3 + 1)) = some q.2.1 ∧ W.cell? (a.add (i * 3 + 2)) = some q.2.2 ∧ Lies W q.2.1 q.1.l ∧ Lies W q.2.2 q.1.r ∧ (-9223372036854775808 ≤ q.1.id ∧ q.1.id ≤ 9223372036854775807) ∧ q.1.l.length * 24 ≤ 140737488355328 ∧ q.1.r.length * 24 ≤ 140737488355328) (fun i hi => by
      obtain ⟨cs, h1, h2⟩ := hel i (by omega)
      obtain ⟨r, x, y, q⟩ := elem_rule h1 h2 (fun q hq => hw q (by
        simp only [DataW.weights, Try.underlying22, List.mem_cons, List.mem_append]
        exact .inr (.inl (weights_part (List.mem_map.2 ⟨i, List.mem_range.2 hi, rfl⟩) q hq))))
      exact ⟨(r, x, y), q⟩)
    have hlen : ((List.range len).map fun i => (F i).1).length = len := by simp
    refine ⟨(List.range len).map fun i => (F i).1, ⟨some a, m, by rw [hlen], by rw [hlen]; exact hl, hm, ?_⟩, ?_, ?_⟩
    · intro j r hj
      have hjl : j < len := by have := (List.getElem?_eq_some_iff.1 hj).1; rwa [hlen] at this
      rw [List.getElem?_map, List.getElem?_range hjl] at hj
      simp only [Option.map_some, Option.some.injEq] at hj
      subst hj
      obtain ⟨h0, h1, h2, h3, h4, h5, _⟩ := hF j hjl
      obtain ⟨g, off, spot⟩ := a
      have hspot : spot = none := by simpa [Addr.add] using World.cell?_spot (hF 0 (by omega)).1
      subst hspot
      rw [addr_plain] at h0 h1 h2
      exact ⟨g, off, (F j).2.1, (F j).2.2, rfl, World.block_lt_of_cell? W _ h0, h0, h1, h2, h3, h4, h5⟩
    · rw [hlen]
      have := hw ((len + (m - len)) * Try.prog.bytesOf 56) (by simp [DataW.weights, Try.underlying22])
      rw [bytes69] at this
      have h2 : reachBytes = 140737488351232 := rfl
      omega
    · intro r hr
      obtain ⟨i, hi, rfl⟩ := List.mem_map.1 hr
      exact (hF i (List.mem_range.1 hi)).2.2.2.2.2.2

theorem open_ops0 {fuel : Nat} {v : Value} {d : DataW H} {p : List MemPlace}
    (h : DataW.trod enc Try.prog W 0 (fun _ => true) true fuel 37 [v] = some (d, p)) (hw : ∀ n ∈ d.weights Try.prog 37, n ≤ reachBytes) :
    ∃ ops, LiesO W v ops ∧ ops.length * 56 ≤ 140737488351232 ∧ ∀ o ∈ ops, o.v.length * 24 ≤ 140737488355328 := by
  rcases open_slice Try.underlying37 h with ⟨hcs, hx⟩ | ⟨a, len, cap, m, n, D, Pl, hcs, _, hl, hm, hmm, hx, hel⟩
  · simp at hcs
    subst hcs
    exact ⟨[], ⟨none, 0, rfl, Nat.le_refl _, Nat.zero_le _, (fun k c hc => by simp at hc)⟩, by simp, by simp⟩
  · simp at hcs
    subst hcs
    simp only [if_true] at hmm
    subst hmm
    have hd := congrArg Prod.fst hx
    simp only at hd
    rw [hd] at hw
    rw [cells71] at hel
    have hin : Inhabited (Opr × Value) := ⟨(⟨0, ⟨⟨#[]⟩, 0⟩, []⟩, .bool false)⟩
    obtain ⟨F, hF⟩ := choose_lt (α := Opr × Value) (n := len) (p := fun i q => W.cell? (a.add (i * 4)) = some (.int .i64 q.1.k) ∧ W.cell? (a.add (i * 4 + 1)) = some (.string q.1.c.nm) ∧ W.cell? (a.add (i * 4 + 2)) = some (.int .i64 q.1.c.ar) ∧ W.cell? (a.add (i * 4 + 3)) = some q.2 ∧ Lies W q.2 q.1.v ∧ q.1.c.nm.size ≤ 9223372036854775807 ∧ (-9223372036854775808 ≤ q.1.k ∧ q.1.k ≤ 9223372036854775807) ∧ (-9223372036854775808 ≤ q.1.c.ar ∧ q.1.c.ar ≤ 9223372036854775807) ∧ q.1.v.length * 24 ≤ 140737488355328) (fun i hi => by
      obtain ⟨cs, h1, h2⟩ := hel i (by omega)
      obtain ⟨r, x, q⟩ := elem_op h1 h2 (fun q hq => hw q (by
        simp only [DataW.weights, Try.underlying37, List.mem_cons, List.mem_append]
        exact .inr (.inl (weights_part (List.mem_map.2 ⟨i, List.mem_range.2 hi, rfl⟩) q hq))))
      exact ⟨(r, x), q⟩)
    have hlen : ((List.range len).map fun i => (F i).1).length = len := by simp
    refine ⟨(List.range len).map fun i => (F i).1, ⟨some a, m, by rw [hlen], by rw [hlen]; exact hl, hm, ?_⟩, ?_, ?_⟩
    · intro j r hj
      have hjl : j < len := by have := (List.getElem?_eq_some_iff.1 hj).1; rwa [hlen] at this
      rw [List.getElem?_map, List.getElem?_range hjl] at hj
      simp only [Option.map_some, Option.some.injEq] at hj
      subst hj
      obtain ⟨h0, h1, h2, h3, h4, h5, h6, h7, _⟩ := hF j hjl
      obtain ⟨g, off, spot⟩ := a
      have hspot : spot = none := by simpa [Addr.add] using World.cell?_spot (hF 0 (by omega)).1
      subst hspot
      rw [addr_plain] at h0 h1 h2 h3
      exact ⟨g, off, (F j).2, rfl, World.block_lt_of_cell? W _ h0, h0, h1, h2, h3, h4, h5, h6, h7⟩
    · rw [hlen]
      have := hw ((len + (m - len)) * Try.prog.bytesOf 51) (by simp [DataW.weights, Try.underlying37])
      rw [bytes71] at this
      have h2 : reachBytes = 140737488351232 := rfl
      omega
    · intro r hr
      obtain ⟨i, hi, rfl⟩ := List.mem_map.1 hr
      exact (hF i (List.mem_range.1 hi)).2.2.2.2.2.2.2.2

theorem open_terms0 {fuel : Nat} {v : Value} {d : DataW H} {p : List MemPlace}
    (h : DataW.trod enc Try.prog W 0 (fun _ => true) true fuel 25 [v] = some (d, p)) (hw : ∀ n ∈ d.weights Try.prog 25, n ≤ reachBytes) :
    ∃ K, LiesT W v K ∧ K.length * 24 ≤ 140737488351232 ∧ ∀ l ∈ K, l.length * 24 ≤ 140737488355328 := by
  rcases open_slice1 Try.underlying25 cells23 h with ⟨hcs, hx⟩ | ⟨a, len, cap, m, n, V, D, Pl, hcs, _, hl, hm, hmm, hx, hcell⟩
  · simp at hcs
    subst hcs
    exact ⟨[], ⟨none, 0, rfl, Nat.le_refl _, Nat.zero_le _, (fun k c hc => by simp at hc)⟩, by simp, by simp⟩
  · simp at hcs
    subst hcs
    simp only [if_true] at hmm
    subst hmm
    have hd := congrArg Prod.fst hx
    simp only at hd
    rw [hd] at hw
    obtain ⟨F, hF⟩ := choose_lt (α := List Cl) (n := len) (p := fun i L => Lies W (V i) L ∧ L.length * 24 ≤ 140737488355328) (fun i hi => by
      obtain ⟨_, ht⟩ := hcell i (by omega)
      refine open_cells1 ht fun q hq => hw q ?_
      simp only [DataW.weights, Try.underlying25, List.mem_cons, List.mem_append]
      exact .inr (.inl (weights_part (List.mem_map.2 ⟨i, List.mem_range.2 hi, rfl⟩) q hq)))
    have hlen : ((List.range len).map F).length = len := by simp
    refine ⟨(List.range len).map F, ⟨some a, m, by rw [hlen], by rw [hlen]; exact hl, hm, ?_⟩, ?_, ?_⟩
    · intro j l hj
      have hjl : j < len := by have := (List.getElem?_eq_some_iff.1 hj).1; rwa [hlen] at this
      rw [List.getElem?_map, List.getElem?_range hjl] at hj
      simp only [Option.map_some, Option.some.injEq] at hj
      subst hj
      obtain ⟨hc, _⟩ := hcell j (by omega)
      obtain ⟨b, off, spot⟩ := a
      have hspot : spot = none := by simpa [Addr.add] using World.cell?_spot (hcell 0 (by omega)).1
      subst hspot
      rw [addr_plain] at hc
      exact ⟨b, off, V j, rfl, World.block_lt_of_cell? W _ hc, hc, (hF j hjl).1⟩
    · rw [hlen]
      have := hw ((len + (m - len)) * Try.prog.bytesOf 24) (by simp [DataW.weights, Try.underlying25])
      rw [bytes23] at this
      have h2 : reachBytes = 140737488351232 := rfl
      omega
    · intro l hl
      obtain ⟨i, hi, rfl⟩ := List.mem_map.1 hl
      exact (hF i (List.mem_range.1 hi)).2

theorem open_texts0 {fuel : Nat} {v : Value} {d : DataW H} {p : List MemPlace}
    (h : DataW.trod enc Try.prog W 0 (fun _ => true) true fuel 34 [v] = some (d, p)) (hw : ∀ n ∈ d.weights Try.prog 34, n ≤ reachBytes) :
    ∃ S, LiesS W v S ∧ S.length * 16 ≤ 140737488351232 ∧ (∀ x ∈ S, x.size ≤ maxLen) ∧ ∀ n c, v = .slice none n c → c = 0 := by
  rcases open_strs Try.underlying34 Try.underlying9 cells9 h with ⟨hcs, hx⟩ | ⟨a, len, cap, m, Sx, hcs, _, hl, hm, hmm, hx, hcell⟩
  · simp at hcs
    subst hcs
    exact ⟨[], ⟨none, 0, rfl, Nat.le_refl _, Nat.zero_le _, (fun k c hc => by simp at hc)⟩, by simp, by simp, fun n c e => by cases e; rfl⟩
  · simp at hcs
    subst hcs
    simp only [if_true] at hmm
    subst hmm
    have hd := congrArg Prod.fst hx
    simp only at hd
    rw [hd] at hw
    have hlen : ((List.range len).map Sx).length = len := by simp
    refine ⟨(List.range len).map Sx, ⟨some a, m, by rw [hlen], by rw [hlen]; exact hl, hm, ?_⟩, ?_, ?_, fun n c e => by cases e⟩
    · intro j l hj
      have hjl : j < len := by have := (List.getElem?_eq_some_iff.1 hj).1; rwa [hlen] at this
      rw [List.getElem?_map, List.getElem?_range hjl] at hj
      simp only [Option.map_some, Option.some.injEq] at hj
      subst hj
      obtain ⟨hc, _⟩ := hcell j (by omega)
      obtain ⟨b, off, spot⟩ := a
      have hspot : spot = none := by simpa [Addr.add] using World.cell?_spot (hcell 0 (by omega)).1
      subst hspot
      rw [addr_plain] at hc
      exact ⟨b, off, rfl, World.block_lt_of_cell? W _ hc, hc⟩
    · rw [hlen]
      have := hw ((len + (m - len)) * Try.prog.bytesOf 9) (by simp [DataW.weights, Try.underlying34])
      rw [bytes9] at this
      have h2 : reachBytes = 140737488351232 := rfl
      omega
    · intro x hx
      obtain ⟨i, hi, rfl⟩ := List.mem_map.1 hx
      exact (hcell i (by have := List.mem_range.1 hi; omega)).2
end

theorem open_rules {H : Type} {enc : TypeId × Value → H} {W : World} {base : Nat} {v : Value} {d : DataW H} {p : List MemPlace}
    (hv : Value.okWide Try.prog W .any base 22 v) (h : DataW.Trod enc Try.prog W 0 (fun _ => true) true 22 v d p) (hw : ∀ n ∈ d.weights Try.prog 22, n ≤ reachBytes) :
    ∃ rs, LiesR W v rs ∧ (rs.length * 56 ≤ 140737488351232 ∧ ∀ r ∈ rs, r.l.length * 24 ≤ 140737488355328 ∧ r.r.length * 24 ≤ 140737488355328) := by
  obtain ⟨a0, len, cap, rfl⟩ := okWide_slice Try.underlying22 hv
  obtain ⟨fuel, hf⟩ := h
  exact open_rules0 (by simpa [Value.cells] using hf) hw

/-- a state that came in -/
structure StA (w : World) (ov vv hv : Value) (s : Stt) : Prop where
  lo : LiesO w ov s.ops
  lv : LiesT w vv s.vals
  lh : LiesS w hv s.heads
  names : ∀ x ∈ s.heads, x.size ≤ maxLen
  nil : ∀ n c, hv = .slice none n c → c = 0
  no : s.ops.length * 56 ≤ 140737488351232
  nv : s.vals.length * 24 ≤ 140737488351232
  nh : s.heads.length * 16 ≤ 140737488351232
  zo : ∀ o ∈ s.ops, o.v.length * 24 ≤ 140737488355328
  zv : ∀ l ∈ s.vals, l.length * 24 ≤ 140737488355328
  st : -9223372036854775808 ≤ s.steps ∧ s.steps ≤ 9223372036854775807
theorem StA.on {w w' : World} {ov vv hv : Value} {s : Stt} (h : StA w ov vv hv s) (hb : Below w.heap.size w w') : StA w' ov vv hv s :=
  ⟨h.lo.on hb, h.lv.on hb, h.lh.on hb, h.names, h.nil, h.no, h.nv, h.nh, h.zo, h.zv, h.st⟩
theorem StA.lies {w : World} {ov vv hv : Value} {s : Stt} (h : StA w ov vv hv s) : LiesSt w ov vv hv s.steps s.ops s.vals s.heads := by
  have h1 := h.no
  have h2 := h.nv
  exact ⟨h.lo, h.lv, h.lh, h.names, by omega⟩

theorem open_state {H : Type} {enc : TypeId × Value → H} {W : World} {base : Nat} {v : Value} {d : DataW H} {p : List MemPlace}
    (hv : Value.okWide Try.prog W .any base 39 v) (h : DataW.Trod enc Try.prog W 0 (fun _ => true) true 39 v d p) (hw : ∀ n ∈ d.weights Try.prog 39, n ≤ reachBytes) :
    ∃ ov vv hv s, v = .agg #[ov, vv, .int .i64 s.steps, hv] ∧ StA W ov vv hv s := by
  obtain ⟨c0, c1, c2, c3, y0, y1, y2, y3, n, rfl, rfl, rfl, h0, h1, h2, h3⟩ := open_agg4 Try.underlying39 (by kernel_rfl) (by kernel_rfl) hv h
  obtain ⟨st, e2, _, hz⟩ := DataW.trod_int Try.underlying3 h2
  simp only [List.cons.injEq, and_true] at e2
  subst e2
  obtain ⟨ops, o1, o2, o3⟩ := open_ops0 (d := y0.1) (p := y0.2) h0 (fun q hq => hw q (by
    simp only [DataW.weights, Try.underlying39, DataW.weightsEach]
    exact List.mem_append_left _ hq))
  obtain ⟨vals, v1, v2, v3⟩ := open_terms0 (d := y1.1) (p := y1.2) h1 (fun q hq => hw q (by
    simp only [DataW.weights, Try.underlying39, DataW.weightsEach]
    exact List.mem_append_right _ (List.mem_append_left _ hq)))
  obtain ⟨heads, k1, k2, k3, k4⟩ := open_texts0 (d := y3.1) (p := y3.2) h3 (fun q hq => hw q (by
    simp only [DataW.weights, Try.underlying39, DataW.weightsEach]
    exact List.mem_append_right _ (List.mem_append_right _ (List.mem_append_right _ (List.mem_append_left _ hq)))))
  have hb := bounds_i64 hz
  exact ⟨c0, c1, c3, ⟨ops, vals, st, heads⟩, rfl, o1, v1, k1, k3, k4, o2, v2, k2, o3, v3, by simp only; omega, by simp only; omega⟩

end Go.Proofs.Ytbdlokijednoiaa
