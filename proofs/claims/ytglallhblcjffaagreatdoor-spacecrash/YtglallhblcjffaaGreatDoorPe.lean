/-
  slices.Insert of one page into a row of pages that is owned.
-/
import Derived.Test.YtglallhblcjffaaGreatDoorPc
import Derived.Lib.AppendZerosOnto
import Derived.Lib.Overlaps
import Derived.Laws.NewBlocks
namespace Go.Proofs.YtglallhblcjffaaGreatDoor
open Go.RowKit
set_option linter.unusedVariables false
set_option linter.unusedSimpArgs false
set_option maxRecDepth 100000

theorem infoPg : (Tryz.prog.info? 101).map (fun i => (i.zero, i.size, i.bytes)) = some (some (.agg #[.int .i64 0, .string ⟨#[]⟩]), 2, 24) := by kernel_rfl
theorem infoPgs : (Tryz.prog.info? 101).map (·.size) = some 2 := by kernel_rfl
/-- copy, elements of any size, into a row that is known whole -/
theorem run_copy_wide {P : Program} (w : World) (dT sT ty elem : TypeId) (size g o dLen dCap : Nat) (a : Addr) (sLen sCap : Nat) (cur : Array Value) (t : TypeId) (cs : List Value)
    (hu : P.underlying dT = some (.slice elem)) (hs : (P.info? elem).map (·.size) = some size)
    (hg : w.heap[g]? = some (.cells cur t (0, 0))) (m : Nat) (hm : Nat.min sLen dLen = m) (hn : cs.length = m * size)
    (hsrc : ∀ j v, cs[j]? = some v → w.cell? (a.add j) = some v) (hfit : o + cs.length ≤ cur.size) (h1 : ∀ v ∈ cs, v.oneCell' = true) :
    (Builtin.copy_ #[dT, sT] ty #[.slice (some ⟨g, o, none⟩) dLen dCap, .slice (some a) sLen sCap]).run P w =
      .ok (goInt m) (w.setRow g (cur.toList.take o ++ cs ++ cur.toList.drop (o + cs.length)).toArray) := by
  have hl := run_loadCells_list (P := P) w a cs hsrc
  have hst := run_storeCells_at P g o t cs 0 cur w hg (by simpa using hfit) h1
  cases hq : P.info? elem with
  | none => simp [hq] at hs
  | some i =>
    have hi : i.size = size := by simpa [hq] using hs
    have hn2 : m * i.size = cs.length := by rw [hi, hn]
    have hm2 : min sLen dLen = m := hm
    simp [Builtin.copy_, run_underlying hu, Builtin.lenOf, Builtin.firstCells, sizeOf, typeInfo, hq, hm2, hn2, hl, hst]

theorem splice_two {C X : List Value} {y : List Value} {o : Nat} (hy : y.length = 2) (hC : o + 2 + X.length ≤ C.length) :
    (((C.take (o + 2) ++ X ++ C.drop (o + 2 + X.length)).take o ++ y ++ (C.take (o + 2) ++ X ++ C.drop (o + 2 + X.length)).drop (o + y.length)) = C.take o ++ (y ++ X) ++ C.drop (o + 2 + X.length)) := by
  have e1 : (C.take (o + 2) ++ X ++ C.drop (o + 2 + X.length)).take o = C.take o := by
    rw [List.append_assoc, List.take_append_of_le_length (by rw [List.length_take]; omega), List.take_take]
    congr 1; omega
  have e2 : (C.take (o + 2) ++ X ++ C.drop (o + 2 + X.length)).drop (o + y.length) = X ++ C.drop (o + 2 + X.length) := by
    rw [hy, List.append_assoc, List.drop_append, List.length_take, Nat.min_eq_left (by omega), Nat.sub_self, List.drop_zero, List.drop_eq_nil_of_le (by rw [List.length_take]; omega), List.nil_append]
  rw [e1, e2]
  simp
theorem splice_two' {C X : List Value} {y : List Value} {o : Nat} (hy : y.length = 2) (hC : o + 2 + X.length ≤ C.length) :
    (((C.take o ++ y ++ C.drop (o + y.length)).take (o + 2) ++ X ++ (C.take o ++ y ++ C.drop (o + y.length)).drop (o + 2 + X.length)) = C.take o ++ (y ++ X) ++ C.drop (o + 2 + X.length)) := by
  have e1 : (C.take o ++ y ++ C.drop (o + y.length)).take (o + 2) = C.take o ++ y := by
    rw [List.take_append_of_le_length (by rw [List.length_append, List.length_take]; omega), List.take_of_length_le (by rw [List.length_append, List.length_take]; omega)]
  have e2 : (C.take o ++ y ++ C.drop (o + y.length)).drop (o + 2 + X.length) = C.drop (o + 2 + X.length) := by
    rw [List.drop_append, List.drop_eq_nil_of_le (by rw [List.length_append, List.length_take]; omega), List.nil_append, List.drop_drop, List.length_append, List.length_take]
    congr 1
    omega
  rw [e1, e2]
  simp
/-- the row behind both copies -/
theorem row_ins {w : World} {B g n cap i : Nat} {C : List Value} {L : List Pg} {c : Pg} (hL : L.length = n) (hi : i ≤ n) (hn : n + 1 ≤ cap) (hc : cap ≤ maxLen) (hB : B ≤ g) (hCl : C.length = cap * 2) (hC : C.take (i * 2) = flatP (L.take i))
    (hg : w.heap[g]? = some (.cells (C.take (i * 2) ++ ([Value.int .i64 c.pl, Value.string c.data] ++ flatP (L.drop i)) ++ C.drop (i * 2 + 2 + (flatP (L.drop i)).length)).toArray 101 (0, 0))) : RowP w B (.slice (some ⟨g, 0, none⟩) (n + 1) cap) (L.take i ++ c :: L.drop i) := by
  have hl : (L.take i ++ c :: L.drop i).length = n + 1 := by rw [List.length_append, List.length_cons, List.length_take, List.length_drop]; omega
  have hX : (flatP (L.drop i)).length = (n - i) * 2 := by rw [flatP_length, List.length_drop, hL]
  have hf : flatP (L.take i ++ c :: L.drop i) = flatP (L.take i) ++ ([Value.int .i64 c.pl, Value.string c.data] ++ flatP (L.drop i)) := by rw [flatP_append]; rfl
  have hfl : (flatP (L.take i ++ c :: L.drop i)).length = (n + 1) * 2 := by rw [flatP_length, hl]
  unfold RowP
  rw [hl]
  refine ⟨hfl, .inr ⟨g, cap, _, rfl, hB, hg, hn, hc, ?_, ?_⟩⟩
  · simp only [List.size_toArray, List.length_append, List.length_take, List.length_drop, List.length_cons, List.length_nil, hX, hCl]
    omega
  · rw [List.toList_toArray, hC, ← hf, List.take_append_of_le_length (by omega), List.take_of_length_le (by omega)]

set_option maxHeartbeats 1000000 in
theorem insert_room {w : World} {B g n cap i vb : Nat} {L : List Pg} {c : Pg} (h : RowP w B (.slice (some ⟨g, 0, none⟩) n cap) L) (hn : L.length = n) (hi : i < n) (hr : n + 1 ≤ cap) (hl : n ≤ 2000) (hv : Blk w vb #[.int .i64 c.pl, .string c.data] 101) (hne : vb ≠ g) :
    Calls Tryz.prog 131 #[.slice (some ⟨g, 0, none⟩) n cap, .int .i64 (i : Nat), .slice (some ⟨vb, 0, none⟩) 1 1] w fun e w' => e = .returned (.slice (some ⟨g, 0, none⟩) (n + 1) cap) ∧ RowP w' B (.slice (some ⟨g, 0, none⟩) (n + 1) cap) (L.take i ++ c :: L.drop i) ∧ w.grownBy w' (some g) := by
  obtain ⟨hfl, hx | ⟨g', cap', cur, hvv, hB, hg, hc1, hc2, hc3, hc4⟩⟩ := h
  · cases hx.1
  cases hvv
  have hov : ∀ lb cb x, (callFunc 156 #[.slice (some ⟨vb, 0, none⟩) 1 1, .slice (some ⟨g, x, none⟩) lb cb]).run Tryz.prog w = .ok (.value (.bool false)) w := fun lb cb x => by
    rw [run_callFunc_extern Tryz.func156 (by kernel_rfl) (by kernel_rfl) (by kernel_rfl) (e := Extern.SlicesOverlaps.overlaps #[78, 78] #[4]) (by kernel_rfl),
      Lib.run_overlaps_apart w 78 4 101 Tryz.underlying78 2 Tryz.sizeOf101 ⟨vb, 0, none⟩ ⟨g, x, none⟩ 1 1 lb cb hne 101 101 2 (cap * 2) (by unfold Blk at hv; simp [World.shape?, hv]) (by simp [World.shape?, hg, hc3]) (by omega) (hv.free _) (hv.free _)]
    rfl
  have hC : cur.toList.length = cap * 2 := by rw [Array.length_toList, hc3]
  have hX : (flatP (L.drop i)).length = (L.length - i) * 2 := by rw [flatP_length, List.length_drop]
  have hcp1 := run_copy_wide (P := Tryz.prog) w.drew 78 78 3 101 2 g ((i + 1) * 2) (L.length - i) (cap - (i + 1)) ⟨g, i * 2, none⟩ (L.length + 1 - i) (cap - i) cur 101 (flatP (L.drop i)) Tryz.underlying78 infoPgs hg (L.length - i) (Nat.min_eq_right (by omega)) hX (fun j v hj => by
      have hlt := (List.getElem?_eq_some_iff.1 hj).1
      rw [add_plain]
      show w.cell? _ = _
      rw [Lib.cell_of_heap hg]
      have : flatP L = flatP (L.take i) ++ flatP (L.drop i) := by rw [← flatP_append, List.take_append_drop]
      rw [this] at hc4
      have e2 : (flatP (L.take i)).length = i * 2 := by rw [flatP_length, List.length_take]; omega
      have e3 : (cur.toList.take (L.length * 2))[i * 2 + j]? = some v := by rw [hc4, List.getElem?_append_right (by omega), e2, Nat.add_sub_cancel_left]; exact hj
      rw [List.getElem?_take] at e3
      split at e3
      · simpa using e3
      · cases e3) (by rw [hX, hc3]; omega) (flatP_one _)
  obtain ⟨C1, hC1⟩ : ∃ C1, cur.toList.take ((i + 1) * 2) ++ flatP (L.drop i) ++ cur.toList.drop ((i + 1) * 2 + (flatP (L.drop i)).length) = C1 := ⟨_, rfl⟩
  rw [hC1] at hcp1
  have hC1l : C1.length = cap * 2 := by rw [← hC1]; simp only [List.length_append, List.length_take, List.length_drop, hX, hC]; omega
  obtain ⟨W1, hW1⟩ : ∃ W1, w.drew.setRow g C1.toArray = W1 := ⟨_, rfl⟩
  have hg1 : W1.heap[g]? = some (.cells C1.toArray 101 (0, 0)) := by rw [← hW1]; exact setRow_heap w.drew g _ _ 101 _ hg
  have hgr1 : w.grownBy W1 (some g) := by rw [← hW1]; exact ⟨rfl, rfl, rfl, by show w.drew.heap.size ≤ _; simp [World.setRow], fun k _ hk => setRow_other w.drew g k _ (fun e => hk (by rw [e]))⟩
  rw [hW1] at hcp1
  have hcp2 := run_copy_wide (P := Tryz.prog) W1 78 78 3 101 2 g (i * 2) (L.length + 1 - i) (cap - i) ⟨vb, 0, none⟩ 1 1 C1.toArray 101 [Value.int .i64 c.pl, Value.string c.data] Tryz.underlying78 infoPgs hg1 1 (Nat.min_eq_left (by omega)) rfl (fun j v hj => by
      have hv1 : Blk W1 vb #[.int .i64 c.pl, .string c.data] 101 := hv.kept hgr1 (fun e => hne (Option.some.inj e))
      rw [add_plain]
      match j, hj with
      | 0, hj => simp at hj; subst hj; exact hv1.cell (i := 0) rfl
      | 1, hj => simp at hj; subst hj; exact hv1.cell (i := 1) rfl) (by rw [List.size_toArray, hC1l]; simp only [List.length_cons, List.length_nil]; omega) (fun v hv => by simp at hv; rcases hv with rfl | rfl <;> rfl)
  have e9 := splice_two (C := cur.toList) (X := flatP (L.drop i)) (y := [Value.int .i64 c.pl, Value.string c.data]) (o := i * 2) rfl (by rw [hX, hC]; omega)
  rw [show i * 2 + 2 = (i + 1) * 2 by omega, hC1] at e9
  rw [List.toList_toArray, e9] at hcp2
  have HF : Hid (∀ W2, W1.setRow g (cur.toList.take (i * 2) ++ ([Value.int .i64 c.pl, Value.string c.data] ++ flatP (L.drop i)) ++ cur.toList.drop ((i + 1) * 2 + (flatP (L.drop i)).length)).toArray = W2 → RowP W2 B (.slice (some ⟨g, 0, none⟩) (L.length + 1) cap) (L.take i ++ c :: L.drop i) ∧ w.grownBy W2 (some g)) := fun W2 hW2 => by
    refine ⟨row_ins rfl (by omega) hr hc2 hB hC ?_ ?_, ?_⟩
    · have e2 : (flatP (L.take i)).length = i * 2 := by rw [flatP_length, List.length_take]; omega
      have : flatP L = flatP (L.take i) ++ flatP (L.drop i) := by rw [← flatP_append, List.take_append_drop]
      rw [this] at hc4
      have e3 : (cur.toList.take (L.length * 2)).take (i * 2) = flatP (L.take i) := by rw [hc4, List.take_append_of_le_length (by omega), List.take_of_length_le (by omega)]
      rw [List.take_take, Nat.min_eq_left (by omega)] at e3
      exact e3
    · rw [← hW2, show i * 2 + 2 = (i + 1) * 2 by omega]
      exact setRow_heap W1 g _ _ 101 _ hg1
    · rw [← hW2]
      exact hgr1.trans ⟨rfl, rfl, rfl, by simp [World.setRow], fun k _ hk => setRow_other W1 g k _ (fun e => hk (by rw [e]))⟩
  obtain ⟨W2, hW2⟩ : ∃ W2, W1.setRow g (cur.toList.take (i * 2) ++ ([Value.int .i64 c.pl, Value.string c.data] ++ flatP (L.drop i)) ++ cur.toList.drop ((i + 1) * 2 + (flatP (L.drop i)).length)).toArray = W2 := ⟨_, rfl⟩
  have HF2 := hid (HF.out W2 hW2)
  rw [hW2] at hcp2
  clear hW2 HF hW1 hC1 e9 hC1l hg1 hgr1 hX hC hfl hc4 hc3 hg
  unfold maxLen at hc2
  generalize L.length = n at *
  have hz2 : ¬ ((i : Int) = (n : Int)) := by omega
  have hz3 : ¬ (cap : Int) < (n : Int) + 1 := by omega
  go_enter Tryz.func131, Tryz.ntmps131
  go_wp2_with (simp only [hov])
  go_region
  clear hcp1
  go_wp2_with fail
  go_ret
  exact ⟨rfl, HF2.out⟩

theorem zeros_len (z : Array Value) (n : Nat) : (Builtin.zeroCells z n).toList.length = n * z.size := by simp [Builtin.zeroCells]
set_option maxHeartbeats 1000000 in
theorem insert_grow {w : World} {B g n cap i vb : Nat} {L : List Pg} {c : Pg} (h : RowP w B (.slice (some ⟨g, 0, none⟩) n cap) L) (hn : L.length = n) (hi : i < n) (hr : cap < n + 1) (hl : n ≤ 2000) (hv : Blk w vb #[.int .i64 c.pl, .string c.data] 101) :
    Calls Tryz.prog 131 #[.slice (some ⟨g, 0, none⟩) n cap, .int .i64 (i : Nat), .slice (some ⟨vb, 0, none⟩) 1 1] w fun e w' => ∃ G, e = .returned (.slice (some ⟨w.heap.size, 0, none⟩) (n + 1) G) ∧ RowP w' 0 (.slice (some ⟨w.heap.size, 0, none⟩) (n + 1) G) (L.take i ++ c :: L.drop i) ∧ Below w.heap.size w w' := by
  obtain ⟨hfl, hx | ⟨g', cap', cur, hvv, hB, hg, hc1, hc2, hc3, hc4⟩⟩ := h
  · cases hx.1
  cases hvv
  obtain ⟨i0, hi0, hz0, hzs, hzb⟩ := info_parts infoPg
  have hsp : flatP L = flatP (L.take i) ++ flatP (L.drop i) := by rw [← flatP_append, List.take_append_drop]
  have e2 : (flatP (L.take i)).length = i * 2 := by rw [flatP_length, List.length_take]; omega
  have hcell : ∀ j v, (flatP L)[j]? = some v → w.cell? ⟨g, j, none⟩ = some v := fun j v hj => by
    rw [Lib.cell_of_heap hg]
    rw [← hc4, List.getElem?_take] at hj
    split at hj
    · simpa using hj
    · cases hj
  have hold : (Builtin.firstCells i0.size i (.slice (some ⟨g, 0, none⟩) i cap)).run Tryz.prog w.drew = .ok (flatP (L.take i)).toArray w.drew := by
    rw [hzs]
    exact run_firstCells_some w.drew 2 i ⟨g, 0, none⟩ i cap (flatP (L.take i)) e2 (fun j v hj => by
      rw [add_plain, Nat.zero_add]
      refine hcell j v ?_
      rw [hsp, List.getElem?_append_left (List.getElem?_eq_some_iff.1 hj).1]
      exact hj)
  have hik : i + (L.length + 1 - i) = L.length + 1 := by omega
  have hkk : (L.length : Int) + 1 - (i : Int) = ((L.length + 1 - i : Nat) : Int) := by omega
  have hrz : ∀ ty, (Builtin.append_ #[78, 3] ty #[.slice (some ⟨g, 0, none⟩) i cap, .int .i64 ((L.length : Int) + 1 - (i : Int))]).run Tryz.prog w =
      .ok (.slice (some ⟨w.heap.size, 0, none⟩) (L.length + 1) (grownCap w (L.length + 1) cap 101)) (w.drew.alloc (.cells ((flatP (L.take i)).toArray ++ Builtin.zeroCells (Value.agg #[.int .i64 0, .string ⟨#[]⟩]).cells (L.length + 1 - i) ++ Builtin.zeroCells (Value.agg #[.int .i64 0, .string ⟨#[]⟩]).cells (grownCap w (L.length + 1) cap 101 - (L.length + 1))) 101)) := fun ty => by
    have h := Lib.run_append_grow_zeros w 78 3 ty 101 i0 _ .i64 .i64 Tryz.underlying78 Tryz.underlying3 hi0 hz0 (some ⟨g, 0, none⟩) i cap (flatP (L.take i)) hold (L.length + 1 - i) (by omega) (by omega) (by omega) (by omega) (by rw [hzb]; omega) (by rw [hzb, hik]; exact growslice_fits (by omega) (by omega))
    rw [hik] at h
    rw [hkk]
    exact h
  have hGn : L.length + 1 ≤ grownCap w (L.length + 1) cap 101 := grownCap_ge w _ _ _
  have hGm : grownCap w (L.length + 1) cap 101 ≤ maxLen := grownCap_le_maxLen w (L.length + 1) cap 101 (by unfold maxLen; omega)
  generalize grownCap w (L.length + 1) cap 101 = G at *
  obtain ⟨R, hR⟩ : ∃ R : Array Value, (flatP (L.take i)).toArray ++ Builtin.zeroCells (Value.agg #[.int .i64 0, .string ⟨#[]⟩]).cells (L.length + 1 - i) ++ Builtin.zeroCells (Value.agg #[.int .i64 0, .string ⟨#[]⟩]).cells (G - (L.length + 1)) = R := ⟨_, rfl⟩
  rw [hR] at hrz
  have hRl : R.toList.length = G * 2 := by
    rw [← hR, Array.toList_append, Array.toList_append, List.length_append, List.length_append, zeros_len, zeros_len, List.toList_toArray, e2]
    show i * 2 + (L.length + 1 - i) * 2 + (G - (L.length + 1)) * 2 = G * 2
    omega
  have hRt : R.toList.take (i * 2) = flatP (L.take i) := by
    rw [← hR, Array.toList_append, Array.toList_append, List.toList_toArray, List.append_assoc, List.take_append_of_le_length (by omega), List.take_of_length_le (by omega)]
  obtain ⟨W1, hW1⟩ : ∃ W1, w.drew.alloc (.cells R 101) = W1 := ⟨_, rfl⟩
  rw [hW1] at hrz
  have hb1 : Below w.heap.size w W1 := by rw [← hW1]; exact ((Below.refl _ w).drew).alloc (Nat.le_refl _) _
  have hg1 : W1.heap[w.heap.size]? = some (.cells R 101 (0, 0)) := by rw [← hW1]; exact Blk.made w.drew R 101
  have hX : (flatP (L.drop i)).length = (L.length - i) * 2 := by rw [flatP_length, List.length_drop]
  have hcp1 := run_copy_wide (P := Tryz.prog) W1 78 78 3 101 2 w.heap.size (i * 2) (L.length + 1 - i) (G - i) ⟨vb, 0, none⟩ 1 1 R 101 [Value.int .i64 c.pl, Value.string c.data] Tryz.underlying78 infoPgs hg1 1 (Nat.min_eq_left (by omega)) rfl (fun j v hj => by
      have hv1 : Blk W1 vb #[.int .i64 c.pl, .string c.data] 101 := hv.on hb1 hv.lt
      rw [add_plain]
      match j, hj with
      | 0, hj => simp at hj; subst hj; exact hv1.cell (i := 0) rfl
      | 1, hj => simp at hj; subst hj; exact hv1.cell (i := 1) rfl) (by rw [← Array.length_toList, hRl]; simp only [List.length_cons, List.length_nil]; omega) (fun v hv => by simp at hv; rcases hv with rfl | rfl <;> rfl)
  obtain ⟨C1, hC1⟩ : ∃ C1, R.toList.take (i * 2) ++ [Value.int .i64 c.pl, Value.string c.data] ++ R.toList.drop (i * 2 + [Value.int .i64 c.pl, Value.string c.data].length) = C1 := ⟨_, rfl⟩
  rw [hC1] at hcp1
  have hC1l : C1.length = G * 2 := by rw [← hC1]; simp only [List.length_append, List.length_take, List.length_drop, List.length_cons, List.length_nil, hRl]; omega
  obtain ⟨W2, hW2⟩ : ∃ W2, W1.setRow w.heap.size C1.toArray = W2 := ⟨_, rfl⟩
  have hg2 : W2.heap[w.heap.size]? = some (.cells C1.toArray 101 (0, 0)) := by rw [← hW2]; exact setRow_heap W1 w.heap.size _ _ 101 _ hg1
  have hb2 : Below w.heap.size w W2 := by rw [← hW2]; exact below_setRow hb1 (Nat.le_refl _) _
  rw [hW2] at hcp1
  have hgl := lt_of_block hg
  have hcp2 := run_copy_wide (P := Tryz.prog) W2.drew 78 78 3 101 2 w.heap.size ((i + 1) * 2) (L.length - i) (G - (i + 1)) ⟨g, i * 2, none⟩ (L.length - i) (cap - i) C1.toArray 101 (flatP (L.drop i)) Tryz.underlying78 infoPgs hg2 (L.length - i) (Nat.min_self _) hX (fun j v hj => by
      rw [add_plain]
      show W2.cell? _ = _
      rw [hb2.cell (p := ⟨g, i * 2 + j, none⟩) hgl]
      refine hcell _ v ?_
      rw [hsp, List.getElem?_append_right (by omega), e2, Nat.add_sub_cancel_left]
      exact hj) (by rw [List.size_toArray, hC1l, hX]; omega) (flatP_one _)
  have e9 := splice_two' (C := R.toList) (X := flatP (L.drop i)) (y := [Value.int .i64 c.pl, Value.string c.data]) (o := i * 2) rfl (by rw [hX, hRl]; omega)
  rw [hC1, show i * 2 + 2 = (i + 1) * 2 by omega] at e9
  rw [List.toList_toArray, e9] at hcp2
  have HF : Hid (∀ W3, W2.drew.setRow w.heap.size (R.toList.take (i * 2) ++ ([Value.int .i64 c.pl, Value.string c.data] ++ flatP (L.drop i)) ++ R.toList.drop ((i + 1) * 2 + (flatP (L.drop i)).length)).toArray = W3 → RowP W3 0 (.slice (some ⟨w.heap.size, 0, none⟩) (L.length + 1) G) (L.take i ++ c :: L.drop i) ∧ Below w.heap.size w W3) := fun W3 hW3 => by
    refine ⟨row_ins rfl (by omega) hGn hGm (Nat.zero_le _) hRl hRt ?_, ?_⟩
    · rw [← hW3, show i * 2 + 2 = (i + 1) * 2 by omega]
      exact setRow_heap W2.drew w.heap.size _ _ 101 _ hg2
    · rw [← hW3]
      exact below_setRow hb2.drew (Nat.le_refl _) _
  obtain ⟨W3, hW3⟩ : ∃ W3, W2.drew.setRow w.heap.size (R.toList.take (i * 2) ++ ([Value.int .i64 c.pl, Value.string c.data] ++ flatP (L.drop i)) ++ R.toList.drop ((i + 1) * 2 + (flatP (L.drop i)).length)).toArray = W3 := ⟨_, rfl⟩
  have HF2 := hid (HF.out W3 hW3)
  rw [hW3] at hcp2
  clear hW3 HF hW1 hW2 hC1 e9 hC1l hg1 hg2 hb1 hb2 hX hfl hc4 hc3 hg hold hkk hik hcell hsp e2 hR hRl hRt
  unfold maxLen at hc2 hGm
  generalize L.length = n at *
  have hz2 : ¬ ((i : Int) = (n : Int)) := by omega
  have hz3 : (cap : Int) < (n : Int) + 1 := by omega
  go_enter Tryz.func131, Tryz.ntmps131
  go_wp2_with (at_builtin; refine Lib.wpList_append_run _ rfl _ _ _ _ rfl _ _ rfl rfl _ _ (hrz _) ?_)
  go_region
  clear hcp1 hcp2 hrz
  go_wp2_with fail
  go_ret
  exact ⟨G, rfl, HF2.out⟩

theorem insert_end {w : World} {v : Value} {n vb : Nat} {L : List Pg} {c : Pg} (h : RowP w 0 v L) (hn : L.length = n) (hl : n ≤ 2000) (hv : Blk w vb #[.int .i64 c.pl, .string c.data] 101) :
    Calls Tryz.prog 131 #[v, .int .i64 (n : Nat), .slice (some ⟨vb, 0, none⟩) 1 1] w fun e w' => ∃ v', e = .returned v' ∧ RowP w' 0 v' (L ++ [c]) ∧ w.grownBy w' v.ownBlock ∧ Moved w v v' := by
  obtain ⟨i0, hi, hz0, hz1, hz2⟩ := info_parts infoPg
  obtain ⟨a, cap, e1⟩ := own_form h
  have hcc : L.length ≤ cap := by
    obtain ⟨_, _, e2, h2, _⟩ := own_cells h
    rw [e1] at e2
    cases e2
    exact h2
  subst e1
  have H := hid h
  have HC : Hid (∀ j u, (flatP [c])[j]? = some u → w.cell? ((⟨vb, 0, none⟩ : Addr).add j) = some u) := fun j u hj => by
    rw [add_plain]
    match j, hj with
    | 0, hj => simp [flatP] at hj; subst hj; exact hv.cell (i := 0) rfl
    | 1, hj => simp [flatP] at hj; subst hj; exact hv.cell (i := 1) rfl
  subst hn
  clear h hv
  by_cases hce : cap = L.length
  · subst hce
    go_enter Tryz.func131, Tryz.ntmps131
    go_wp2_with (at_builtin; refine wpList_append_blk _ rfl _ _ 78 rfl 0 101 i0 _ 2 24 Tryz.underlying78 hi hz0 hz1 hz2 rfl (by decide) (.slice a L.length L.length) L.length (flatP L) rfl H.out ⟨vb, 0, none⟩ 1 1 (flatP [c]) rfl rfl HC.out (flatP_one _) (by decide) (by unfold maxLen; omega) (by omega) (Nat.zero_le _) ?_; intro v' w' hown' hgrow hmv; have HO := hid hown'; have HG := hid hgrow; have HM := hid hmv; clear hown' hgrow hmv; obtain ⟨va, vc, hv'⟩ := own_form HO.out; subst hv')
    go_ret
    refine ⟨_, rfl, ?_, HG.out, HM.out⟩
    unfold RowP
    rw [List.length_append, flatP_append]
    exact HO.out
  · have hcz : (L.length : Int) ≤ (cap : Int) := by omega
    go_enter Tryz.func131, Tryz.ntmps131
    go_wp2_with (at_builtin; refine wpList_append_blk _ rfl _ _ 78 rfl 0 101 i0 _ 2 24 Tryz.underlying78 hi hz0 hz1 hz2 rfl (by decide) (.slice a L.length cap) L.length (flatP L) rfl H.out ⟨vb, 0, none⟩ 1 1 (flatP [c]) rfl rfl HC.out (flatP_one _) (by decide) (by unfold maxLen; omega) (by omega) (Nat.zero_le _) ?_; intro v' w' hown' hgrow hmv; have HO := hid hown'; have HG := hid hgrow; have HM := hid hmv; clear hown' hgrow hmv; obtain ⟨va, vc, hv'⟩ := own_form HO.out; subst hv')
    go_ret
    refine ⟨_, rfl, ?_, HG.out, HM.out⟩
    unfold RowP
    rw [List.length_append, flatP_append]
    exact HO.out
theorem insert_any {w : World} {v : Value} {n i vb : Nat} {L : List Pg} {c : Pg} (h : RowP w 0 v L) (hn : L.length = n) (hi : i ≤ n) (hl : n ≤ 2000) (hv : Blk w vb #[.int .i64 c.pl, .string c.data] 101) (hne : ∀ g, v.ownBlock = some g → vb ≠ g) :
    Calls Tryz.prog 131 #[v, .int .i64 (i : Nat), .slice (some ⟨vb, 0, none⟩) 1 1] w fun e w' => ∃ v', e = .returned v' ∧ RowP w' 0 v' (L.take i ++ c :: L.drop i) ∧ w.grownBy w' v.ownBlock ∧ Moved w v v' := by
  by_cases hin : i = n
  · subst hin
    rw [List.take_of_length_le (by omega), List.drop_eq_nil_of_le (by omega)]
    exact insert_end h hn hl hv
  · obtain ⟨g, cap, e1, hc1, hc2, _, hgl⟩ := own_some h (by omega)
    subst e1
    rw [hn] at h hc1 ⊢
    by_cases hr : n + 1 ≤ cap
    · exact (insert_room h hn (by omega) hr hl hv (hne g rfl)).mono fun e w' ⟨h1, h2, h3⟩ => ⟨_, h1, h2, h3, fun j e => .inl e⟩
    · refine (insert_grow h hn (by omega) (by omega) hl hv).mono fun e w' hh => ?_
      obtain ⟨G, h1, h2, h3⟩ := hh
      exact ⟨_, h1, h2, ⟨h3.os, h3.tape, h3.output, h3.size, fun j hj _ => h3.block j hj⟩, fun j e => .inr (by simp [Value.ownBlock] at e; omega)⟩

end Go.Proofs.YtglallhblcjffaaGreatDoor
