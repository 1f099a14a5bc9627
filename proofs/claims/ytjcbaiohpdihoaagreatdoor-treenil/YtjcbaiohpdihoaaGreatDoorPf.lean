/-
  What change and Store do.
-/
import Derived.Test.YtjcbaiohpdihoaaGreatDoorPc
import Derived.Lib.AppendZerosOnto
import Derived.Lib.Overlaps
import Derived.Laws.NewBlocks
import Derived.Test.YtjcbaiohpdihoaaGreatDoorRi
namespace Go.Proofs.YtjcbaiohpdihoaaGreatDoor
open Go.RowKit
set_option linter.unusedVariables false
set_option linter.unusedSimpArgs false
set_option maxRecDepth 100000

theorem infoPg : (Tryz.prog.info? 110).map (fun i => (i.zero, i.size, i.bytes)) = some (some (.agg #[.int .i64 0, .string ⟨#[]⟩]), 2, 24) := by kernel_rfl
theorem infoPgs : (Tryz.prog.info? 110).map (·.size) = some 2 := by kernel_rfl
/-- copy, elements of any size, into a row that is known whole -/
theorem run_copy_wide {P : Program} (w : World) (dT sT ty elem : TypeId) (size g o dLen dCap : Nat) (a : Addr) (sLen sCap : Nat) (cur : Array Value) (t : TypeId) (cs : List Value)
    (hu : P.underlying dT = some (.slice elem)) (hs : (P.info? elem).map (·.size) = some size)
    (hg : w.heap[g]? = some (.cells cur t (0, 0))) (m : Nat) (hm : Nat.min sLen dLen = m) (hn : cs.length = m * size)
    (hsrc : ∀ j v, cs[j]? = some v → w.cell? (a.add j) = some v) (hfit : o + cs.length ≤ cur.size) (h1 : ∀ v ∈ cs, v.oneCell' = true) :
    (Builtin.copy_ #[dT, sT] ty #[.slice (some ⟨g, o, none⟩) dLen dCap, .slice (some a) sLen sCap]).run P w =
      .ok (goInt m) (w.setRow g (cur.toList.take o ++ cs ++ cur.toList.drop (o + cs.length)).toArray) := by
  have hl := run_loadCells_list (P := P) w a cs hsrc
  have hst := run_storeCells_at P g o t cs 0 cur w hg (by simpa using hfit) h1
  cases hq : P.info? elem with
  | none => simp [hq] at hs
  | some i =>
    have hi : i.size = size := by simpa [hq] using hs
    have hn2 : m * i.size = cs.length := by rw [hi, hn]
    have hm2 : min sLen dLen = m := hm
    simp [Builtin.copy_, run_underlying hu, Builtin.lenOf, Builtin.firstCells, sizeOf, typeInfo, hq, hm2, hn2, hl, hst]

theorem splice_two {C X : List Value} {y : List Value} {o : Nat} (hy : y.length = 2) (hC : o + 2 + X.length ≤ C.length) :
    (((C.take (o + 2) ++ X ++ C.drop (o + 2 + X.length)).take o ++ y ++ (C.take (o + 2) ++ X ++ C.drop (o + 2 + X.length)).drop (o + y.length)) = C.take o ++ (y ++ X) ++ C.drop (o + 2 + X.length)) := by
  have e1 : (C.take (o + 2) ++ X ++ C.drop (o + 2 + X.length)).take o = C.take o := by
    rw [List.append_assoc, List.take_append_of_le_length (by rw [List.length_take]; omega), List.take_take]
    congr 1; omega
  have e2 : (C.take (o + 2) ++ X ++ C.drop (o + 2 + X.length)).drop (o + y.length) = X ++ C.drop (o + 2 + X.length) := by
    rw [hy, List.append_assoc, List.drop_append, List.length_take, Nat.min_eq_left (by omega), Nat.sub_self, List.drop_zero, List.drop_eq_nil_of_le (by rw [List.length_take]; omega), List.nil_append]
  rw [e1, e2]
  simp
theorem splice_two' {C X : List Value} {y : List Value} {o : Nat} (hy : y.length = 2) (hC : o + 2 + X.length ≤ C.length) :
    (((C.take o ++ y ++ C.drop (o + y.length)).take (o + 2) ++ X ++ (C.take o ++ y ++ C.drop (o + y.length)).drop (o + 2 + X.length)) = C.take o ++ (y ++ X) ++ C.drop (o + 2 + X.length)) := by
  have e1 : (C.take o ++ y ++ C.drop (o + y.length)).take (o + 2) = C.take o ++ y := by
    rw [List.take_append_of_le_length (by rw [List.length_append, List.length_take]; omega), List.take_of_length_le (by rw [List.length_append, List.length_take]; omega)]
  have e2 : (C.take o ++ y ++ C.drop (o + y.length)).drop (o + 2 + X.length) = C.drop (o + 2 + X.length) := by
    rw [List.drop_append, List.drop_eq_nil_of_le (by rw [List.length_append, List.length_take]; omega), List.nil_append, List.drop_drop, List.length_append, List.length_take]
    congr 1
    omega
  rw [e1, e2]
  simp
/-- the row behind both copies -/
theorem row_ins {w : World} {B g n cap i : Nat} {C : List Value} {L : List Pg} {c : Pg} (hL : L.length = n) (hi : i ≤ n) (hn : n + 1 ≤ cap) (hc : cap ≤ maxLen) (hB : B ≤ g) (hCl : C.length = cap * 2) (hC : C.take (i * 2) = flatP (L.take i))
    (hg : w.heap[g]? = some (.cells (C.take (i * 2) ++ ([Value.int .i64 c.pl, Value.string c.data] ++ flatP (L.drop i)) ++ C.drop (i * 2 + 2 + (flatP (L.drop i)).length)).toArray 110 (0, 0))) : RowP w B (.slice (some ⟨g, 0, none⟩) (n + 1) cap) (L.take i ++ c :: L.drop i) := by
  have hl : (L.take i ++ c :: L.drop i).length = n + 1 := by rw [List.length_append, List.length_cons, List.length_take, List.length_drop]; omega
  have hX : (flatP (L.drop i)).length = (n - i) * 2 := by rw [flatP_length, List.length_drop, hL]
  have hf : flatP (L.take i ++ c :: L.drop i) = flatP (L.take i) ++ ([Value.int .i64 c.pl, Value.string c.data] ++ flatP (L.drop i)) := by rw [flatP_append]; rfl
  have hfl : (flatP (L.take i ++ c :: L.drop i)).length = (n + 1) * 2 := by rw [flatP_length, hl]
  unfold RowP
  rw [hl]
  refine ⟨hfl, .inr ⟨g, cap, _, rfl, hB, hg, hn, hc, ?_, ?_⟩⟩
  · simp only [List.size_toArray, List.length_append, List.length_take, List.length_drop, List.length_cons, List.length_nil, hX, hCl]
    omega
  · rw [List.toList_toArray, hC, ← hf, List.take_append_of_le_length (by omega), List.take_of_length_le (by omega)]

set_option maxHeartbeats 1000000 in
theorem insert_room {w : World} {B g n cap i vb : Nat} {L : List Pg} {c : Pg} (h : RowP w B (.slice (some ⟨g, 0, none⟩) n cap) L) (hn : L.length = n) (hi : i < n) (hr : n + 1 ≤ cap) (hl : n ≤ 2000) (hv : Blk w vb #[.int .i64 c.pl, .string c.data] 110) (hne : vb ≠ g) :
    Calls Tryz.prog 159 #[.slice (some ⟨g, 0, none⟩) n cap, .int .i64 (i : Nat), .slice (some ⟨vb, 0, none⟩) 1 1] w fun e w' => e = .returned (.slice (some ⟨g, 0, none⟩) (n + 1) cap) ∧ RowP w' B (.slice (some ⟨g, 0, none⟩) (n + 1) cap) (L.take i ++ c :: L.drop i) ∧ w.grownBy w' (some g) := by
  obtain ⟨hfl, hx | ⟨g', cap', cur, hvv, hB, hg, hc1, hc2, hc3, hc4⟩⟩ := h
  · cases hx.1
  cases hvv
  have hov : ∀ lb cb x, (callFunc 222 #[.slice (some ⟨vb, 0, none⟩) 1 1, .slice (some ⟨g, x, none⟩) lb cb]).run Tryz.prog w = .ok (.value (.bool false)) w := fun lb cb x => by
    rw [run_callFunc_extern Tryz.func222 (by kernel_rfl) (by kernel_rfl) (by kernel_rfl) (e := Extern.SlicesOverlaps.overlaps #[106, 106] #[4]) (by kernel_rfl),
      Lib.run_overlaps_apart w 106 4 110 Tryz.underlying106 2 Tryz.sizeOf110 ⟨vb, 0, none⟩ ⟨g, x, none⟩ 1 1 lb cb hne 110 110 2 (cap * 2) (by unfold Blk at hv; simp [World.shape?, hv]) (by simp [World.shape?, hg, hc3]) (by omega) (hv.free _) (hv.free _)]
    rfl
  have hC : cur.toList.length = cap * 2 := by rw [Array.length_toList, hc3]
  have hX : (flatP (L.drop i)).length = (L.length - i) * 2 := by rw [flatP_length, List.length_drop]
  have hcp1 := run_copy_wide (P := Tryz.prog) w.drew 106 106 3 110 2 g ((i + 1) * 2) (L.length - i) (cap - (i + 1)) ⟨g, i * 2, none⟩ (L.length + 1 - i) (cap - i) cur 110 (flatP (L.drop i)) Tryz.underlying106 infoPgs hg (L.length - i) (Nat.min_eq_right (by omega)) hX (fun j v hj => by
      have hlt := (List.getElem?_eq_some_iff.1 hj).1
      rw [add_plain]
      show w.cell? _ = _
      rw [Lib.cell_of_heap hg]
      have : flatP L = flatP (L.take i) ++ flatP (L.drop i) := by rw [← flatP_append, List.take_append_drop]
      rw [this] at hc4
      have e2 : (flatP (L.take i)).length = i * 2 := by rw [flatP_length, List.length_take]; omega
      have e3 : (cur.toList.take (L.length * 2))[i * 2 + j]? = some v := by rw [hc4, List.getElem?_append_right (by omega), e2, Nat.add_sub_cancel_left]; exact hj
      rw [List.getElem?_take] at e3
      split at e3
      · simpa using e3
      · cases e3) (by rw [hX, hc3]; omega) (flatP_one _)
  obtain ⟨C1, hC1⟩ : ∃ C1, cur.toList.take ((i + 1) * 2) ++ flatP (L.drop i) ++ cur.toList.drop ((i + 1) * 2 + (flatP (L.drop i)).length) = C1 := ⟨_, rfl⟩
  rw [hC1] at hcp1
  have hC1l : C1.length = cap * 2 := by rw [← hC1]; simp only [List.length_append, List.length_take, List.length_drop, hX, hC]; omega
  obtain ⟨W1, hW1⟩ : ∃ W1, w.drew.setRow g C1.toArray = W1 := ⟨_, rfl⟩
  have hg1 : W1.heap[g]? = some (.cells C1.toArray 110 (0, 0)) := by rw [← hW1]; exact setRow_heap w.drew g _ _ 110 _ hg
  have hgr1 : w.grownBy W1 (some g) := by rw [← hW1]; exact ⟨rfl, rfl, rfl, by show w.drew.heap.size ≤ _; simp [World.setRow], fun k _ hk => setRow_other w.drew g k _ (fun e => hk (by rw [e]))⟩
  rw [hW1] at hcp1
  have hcp2 := run_copy_wide (P := Tryz.prog) W1 106 106 3 110 2 g (i * 2) (L.length + 1 - i) (cap - i) ⟨vb, 0, none⟩ 1 1 C1.toArray 110 [Value.int .i64 c.pl, Value.string c.data] Tryz.underlying106 infoPgs hg1 1 (Nat.min_eq_left (by omega)) rfl (fun j v hj => by
      have hv1 : Blk W1 vb #[.int .i64 c.pl, .string c.data] 110 := hv.kept hgr1 (fun e => hne (Option.some.inj e))
      rw [add_plain]
      match j, hj with
      | 0, hj => simp at hj; subst hj; exact hv1.cell (i := 0) rfl
      | 1, hj => simp at hj; subst hj; exact hv1.cell (i := 1) rfl) (by rw [List.size_toArray, hC1l]; simp only [List.length_cons, List.length_nil]; omega) (fun v hv => by simp at hv; rcases hv with rfl | rfl <;> rfl)
  have e9 := splice_two (C := cur.toList) (X := flatP (L.drop i)) (y := [Value.int .i64 c.pl, Value.string c.data]) (o := i * 2) rfl (by rw [hX, hC]; omega)
  rw [show i * 2 + 2 = (i + 1) * 2 by omega, hC1] at e9
  rw [List.toList_toArray, e9] at hcp2
  have HF : Hid (∀ W2, W1.setRow g (cur.toList.take (i * 2) ++ ([Value.int .i64 c.pl, Value.string c.data] ++ flatP (L.drop i)) ++ cur.toList.drop ((i + 1) * 2 + (flatP (L.drop i)).length)).toArray = W2 → RowP W2 B (.slice (some ⟨g, 0, none⟩) (L.length + 1) cap) (L.take i ++ c :: L.drop i) ∧ w.grownBy W2 (some g)) := fun W2 hW2 => by
    refine ⟨row_ins rfl (by omega) hr hc2 hB hC ?_ ?_, ?_⟩
    · have e2 : (flatP (L.take i)).length = i * 2 := by rw [flatP_length, List.length_take]; omega
      have : flatP L = flatP (L.take i) ++ flatP (L.drop i) := by rw [← flatP_append, List.take_append_drop]
      rw [this] at hc4
      have e3 : (cur.toList.take (L.length * 2)).take (i * 2) = flatP (L.take i) := by rw [hc4, List.take_append_of_le_length (by omega), List.take_of_length_le (by omega)]
      rw [List.take_take, Nat.min_eq_left (by omega)] at e3
      exact e3
    · rw [← hW2, show i * 2 + 2 = (i + 1) * 2 by omega]
      exact setRow_heap W1 g _ _ 110 _ hg1
    · rw [← hW2]
      exact hgr1.trans ⟨rfl, rfl, rfl, by simp [World.setRow], fun k _ hk => setRow_other W1 g k _ (fun e => hk (by rw [e]))⟩
  obtain ⟨W2, hW2⟩ : ∃ W2, W1.setRow g (cur.toList.take (i * 2) ++ ([Value.int .i64 c.pl, Value.string c.data] ++ flatP (L.drop i)) ++ cur.toList.drop ((i + 1) * 2 + (flatP (L.drop i)).length)).toArray = W2 := ⟨_, rfl⟩
  have HF2 := hid (HF.out W2 hW2)
  rw [hW2] at hcp2
  clear hW2 HF hW1 hC1 e9 hC1l hg1 hgr1 hX hC hfl hc4 hc3 hg
  unfold maxLen at hc2
  generalize L.length = n at *
  have hz2 : ¬ ((i : Int) = (n : Int)) := by omega
  have hz3 : ¬ (cap : Int) < (n : Int) + 1 := by omega
  go_enter Tryz.func159, Tryz.ntmps159
  go_wp2_with (simp only [hov])
  go_region
  clear hcp1
  go_wp2_with fail
  go_ret
  exact ⟨rfl, HF2.out⟩

theorem zeros_len (z : Array Value) (n : Nat) : (Builtin.zeroCells z n).toList.length = n * z.size := by simp [Builtin.zeroCells]
set_option maxHeartbeats 1000000 in
theorem insert_grow {w : World} {B g n cap i vb : Nat} {L : List Pg} {c : Pg} (h : RowP w B (.slice (some ⟨g, 0, none⟩) n cap) L) (hn : L.length = n) (hi : i < n) (hr : cap < n + 1) (hl : n ≤ 2000) (hv : Blk w vb #[.int .i64 c.pl, .string c.data] 110) :
    Calls Tryz.prog 159 #[.slice (some ⟨g, 0, none⟩) n cap, .int .i64 (i : Nat), .slice (some ⟨vb, 0, none⟩) 1 1] w fun e w' => ∃ G, e = .returned (.slice (some ⟨w.heap.size, 0, none⟩) (n + 1) G) ∧ RowP w' 0 (.slice (some ⟨w.heap.size, 0, none⟩) (n + 1) G) (L.take i ++ c :: L.drop i) ∧ Below w.heap.size w w' := by
  obtain ⟨hfl, hx | ⟨g', cap', cur, hvv, hB, hg, hc1, hc2, hc3, hc4⟩⟩ := h
  · cases hx.1
  cases hvv
  obtain ⟨i0, hi0, hz0, hzs, hzb⟩ := info_parts infoPg
  have hsp : flatP L = flatP (L.take i) ++ flatP (L.drop i) := by rw [← flatP_append, List.take_append_drop]
  have e2 : (flatP (L.take i)).length = i * 2 := by rw [flatP_length, List.length_take]; omega
  have hcell : ∀ j v, (flatP L)[j]? = some v → w.cell? ⟨g, j, none⟩ = some v := fun j v hj => by
    rw [Lib.cell_of_heap hg]
    rw [← hc4, List.getElem?_take] at hj
    split at hj
    · simpa using hj
    · cases hj
  have hold : (Builtin.firstCells i0.size i (.slice (some ⟨g, 0, none⟩) i cap)).run Tryz.prog w.drew = .ok (flatP (L.take i)).toArray w.drew := by
    rw [hzs]
    exact run_firstCells_some w.drew 2 i ⟨g, 0, none⟩ i cap (flatP (L.take i)) e2 (fun j v hj => by
      rw [add_plain, Nat.zero_add]
      refine hcell j v ?_
      rw [hsp, List.getElem?_append_left (List.getElem?_eq_some_iff.1 hj).1]
      exact hj)
  have hik : i + (L.length + 1 - i) = L.length + 1 := by omega
  have hkk : (L.length : Int) + 1 - (i : Int) = ((L.length + 1 - i : Nat) : Int) := by omega
  have hrz : ∀ ty, (Builtin.append_ #[106, 3] ty #[.slice (some ⟨g, 0, none⟩) i cap, .int .i64 ((L.length : Int) + 1 - (i : Int))]).run Tryz.prog w =
      .ok (.slice (some ⟨w.heap.size, 0, none⟩) (L.length + 1) (grownCap w (L.length + 1) cap 110)) (w.drew.alloc (.cells ((flatP (L.take i)).toArray ++ Builtin.zeroCells (Value.agg #[.int .i64 0, .string ⟨#[]⟩]).cells (L.length + 1 - i) ++ Builtin.zeroCells (Value.agg #[.int .i64 0, .string ⟨#[]⟩]).cells (grownCap w (L.length + 1) cap 110 - (L.length + 1))) 110)) := fun ty => by
    have h := Lib.run_append_grow_zeros w 106 3 ty 110 i0 _ .i64 .i64 Tryz.underlying106 Tryz.underlying3 hi0 hz0 (some ⟨g, 0, none⟩) i cap (flatP (L.take i)) hold (L.length + 1 - i) (by omega) (by omega) (by omega) (by omega) (by rw [hzb]; omega) (by rw [hzb, hik]; exact growslice_fits (by omega) (by omega))
    rw [hik] at h
    rw [hkk]
    exact h
  have hGn : L.length + 1 ≤ grownCap w (L.length + 1) cap 110 := grownCap_ge w _ _ _
  have hGm : grownCap w (L.length + 1) cap 110 ≤ maxLen := grownCap_le_maxLen w (L.length + 1) cap 110 (by unfold maxLen; omega)
  generalize grownCap w (L.length + 1) cap 110 = G at *
  obtain ⟨R, hR⟩ : ∃ R : Array Value, (flatP (L.take i)).toArray ++ Builtin.zeroCells (Value.agg #[.int .i64 0, .string ⟨#[]⟩]).cells (L.length + 1 - i) ++ Builtin.zeroCells (Value.agg #[.int .i64 0, .string ⟨#[]⟩]).cells (G - (L.length + 1)) = R := ⟨_, rfl⟩
  rw [hR] at hrz
  have hRl : R.toList.length = G * 2 := by
    rw [← hR, Array.toList_append, Array.toList_append, List.length_append, List.length_append, zeros_len, zeros_len, List.toList_toArray, e2]
    show i * 2 + (L.length + 1 - i) * 2 + (G - (L.length + 1)) * 2 = G * 2
    omega
  have hRt : R.toList.take (i * 2) = flatP (L.take i) := by
    rw [← hR, Array.toList_append, Array.toList_append, List.toList_toArray, List.append_assoc, List.take_append_of_le_length (by omega), List.take_of_length_le (by omega)]
  obtain ⟨W1, hW1⟩ : ∃ W1, w.drew.alloc (.cells R 110) = W1 := ⟨_, rfl⟩
  rw [hW1] at hrz
  have hb1 : Below w.heap.size w W1 := by rw [← hW1]; exact ((Below.refl _ w).drew).alloc (Nat.le_refl _) _
  have hg1 : W1.heap[w.heap.size]? = some (.cells R 110 (0, 0)) := by rw [← hW1]; exact Blk.made w.drew R 110
  have hX : (flatP (L.drop i)).length = (L.length - i) * 2 := by rw [flatP_length, List.length_drop]
  have hcp1 := run_copy_wide (P := Tryz.prog) W1 106 106 3 110 2 w.heap.size (i * 2) (L.length + 1 - i) (G - i) ⟨vb, 0, none⟩ 1 1 R 110 [Value.int .i64 c.pl, Value.string c.data] Tryz.underlying106 infoPgs hg1 1 (Nat.min_eq_left (by omega)) rfl (fun j v hj => by
      have hv1 : Blk W1 vb #[.int .i64 c.pl, .string c.data] 110 := hv.on hb1 hv.lt
      rw [add_plain]
      match j, hj with
      | 0, hj => simp at hj; subst hj; exact hv1.cell (i := 0) rfl
      | 1, hj => simp at hj; subst hj; exact hv1.cell (i := 1) rfl) (by rw [← Array.length_toList, hRl]; simp only [List.length_cons, List.length_nil]; omega) (fun v hv => by simp at hv; rcases hv with rfl | rfl <;> rfl)
  obtain ⟨C1, hC1⟩ : ∃ C1, R.toList.take (i * 2) ++ [Value.int .i64 c.pl, Value.string c.data] ++ R.toList.drop (i * 2 + [Value.int .i64 c.pl, Value.string c.data].length) = C1 := ⟨_, rfl⟩
  rw [hC1] at hcp1
  have hC1l : C1.length = G * 2 := by rw [← hC1]; simp only [List.length_append, List.length_take, List.length_drop, List.length_cons, List.length_nil, hRl]; omega
  obtain ⟨W2, hW2⟩ : ∃ W2, W1.setRow w.heap.size C1.toArray = W2 := ⟨_, rfl⟩
  have hg2 : W2.heap[w.heap.size]? = some (.cells C1.toArray 110 (0, 0)) := by rw [← hW2]; exact setRow_heap W1 w.heap.size _ _ 110 _ hg1
  have hb2 : Below w.heap.size w W2 := by rw [← hW2]; exact below_setRow hb1 (Nat.le_refl _) _
  rw [hW2] at hcp1
  have hgl := lt_of_block hg
  have hcp2 := run_copy_wide (P := Tryz.prog) W2.drew 106 106 3 110 2 w.heap.size ((i + 1) * 2) (L.length - i) (G - (i + 1)) ⟨g, i * 2, none⟩ (L.length - i) (cap - i) C1.toArray 110 (flatP (L.drop i)) Tryz.underlying106 infoPgs hg2 (L.length - i) (Nat.min_self _) hX (fun j v hj => by
      rw [add_plain]
      show W2.cell? _ = _
      rw [hb2.cell (p := ⟨g, i * 2 + j, none⟩) hgl]
      refine hcell _ v ?_
      rw [hsp, List.getElem?_append_right (by omega), e2, Nat.add_sub_cancel_left]
      exact hj) (by rw [List.size_toArray, hC1l, hX]; omega) (flatP_one _)
  have e9 := splice_two' (C := R.toList) (X := flatP (L.drop i)) (y := [Value.int .i64 c.pl, Value.string c.data]) (o := i * 2) rfl (by rw [hX, hRl]; omega)
  rw [hC1, show i * 2 + 2 = (i + 1) * 2 by omega] at e9
  rw [List.toList_toArray, e9] at hcp2
  have HF : Hid (∀ W3, W2.drew.setRow w.heap.size (R.toList.take (i * 2) ++ ([Value.int .i64 c.pl, Value.string c.data] ++ flatP (L.drop i)) ++ R.toList.drop ((i + 1) * 2 + (flatP (L.drop i)).length)).toArray = W3 → RowP W3 0 (.slice (some ⟨w.heap.size, 0, none⟩) (L.length + 1) G) (L.take i ++ c :: L.drop i) ∧ Below w.heap.size w W3) := fun W3 hW3 => by
    refine ⟨row_ins rfl (by omega) hGn hGm (Nat.zero_le _) hRl hRt ?_, ?_⟩
    · rw [← hW3, show i * 2 + 2 = (i + 1) * 2 by omega]
      exact setRow_heap W2.drew w.heap.size _ _ 110 _ hg2
    · rw [← hW3]
      exact below_setRow hb2.drew (Nat.le_refl _) _
  obtain ⟨W3, hW3⟩ : ∃ W3, W2.drew.setRow w.heap.size (R.toList.take (i * 2) ++ ([Value.int .i64 c.pl, Value.string c.data] ++ flatP (L.drop i)) ++ R.toList.drop ((i + 1) * 2 + (flatP (L.drop i)).length)).toArray = W3 := ⟨_, rfl⟩
  have HF2 := hid (HF.out W3 hW3)
  rw [hW3] at hcp2
  clear hW3 HF hW1 hW2 hC1 e9 hC1l hg1 hg2 hb1 hb2 hX hfl hc4 hc3 hg hold hkk hik hcell hsp e2 hR hRl hRt
  unfold maxLen at hc2 hGm
  generalize L.length = n at *
  have hz2 : ¬ ((i : Int) = (n : Int)) := by omega
  have hz3 : (cap : Int) < (n : Int) + 1 := by omega
  go_enter Tryz.func159, Tryz.ntmps159
  go_wp2_with (at_builtin; refine Lib.wpList_append_run _ rfl _ _ _ _ rfl _ _ rfl rfl _ _ (hrz _) ?_)
  go_region
  clear hcp1 hcp2 hrz
  go_wp2_with fail
  go_ret
  exact ⟨G, rfl, HF2.out⟩

theorem insert_end {w : World} {v : Value} {n vb : Nat} {L : List Pg} {c : Pg} (h : RowP w 0 v L) (hn : L.length = n) (hl : n ≤ 2000) (hv : Blk w vb #[.int .i64 c.pl, .string c.data] 110) :
    Calls Tryz.prog 159 #[v, .int .i64 (n : Nat), .slice (some ⟨vb, 0, none⟩) 1 1] w fun e w' => ∃ v', e = .returned v' ∧ RowP w' 0 v' (L ++ [c]) ∧ w.grownBy w' v.ownBlock ∧ Moved w v v' := by
  obtain ⟨i0, hi, hz0, hz1, hz2⟩ := info_parts infoPg
  obtain ⟨a, cap, e1⟩ := own_form h
  have hcc : L.length ≤ cap := by
    obtain ⟨_, _, e2, h2, _⟩ := own_cells h
    rw [e1] at e2
    cases e2
    exact h2
  subst e1
  have H := hid h
  have HC : Hid (∀ j u, (flatP [c])[j]? = some u → w.cell? ((⟨vb, 0, none⟩ : Addr).add j) = some u) := fun j u hj => by
    rw [add_plain]
    match j, hj with
    | 0, hj => simp [flatP] at hj; subst hj; exact hv.cell (i := 0) rfl
    | 1, hj => simp [flatP] at hj; subst hj; exact hv.cell (i := 1) rfl
  subst hn
  clear h hv
  by_cases hce : cap = L.length
  · subst hce
    go_enter Tryz.func159, Tryz.ntmps159
    go_wp2_with (at_builtin; refine wpList_append_blk _ rfl _ _ 106 rfl 0 110 i0 _ 2 24 Tryz.underlying106 hi hz0 hz1 hz2 rfl (by decide) (.slice a L.length L.length) L.length (flatP L) rfl H.out ⟨vb, 0, none⟩ 1 1 (flatP [c]) rfl rfl HC.out (flatP_one _) (by decide) (by unfold maxLen; omega) (by omega) (Nat.zero_le _) ?_; intro v' w' hown' hgrow hmv; have HO := hid hown'; have HG := hid hgrow; have HM := hid hmv; clear hown' hgrow hmv; obtain ⟨va, vc, hv'⟩ := own_form HO.out; subst hv')
    go_ret
    refine ⟨_, rfl, ?_, HG.out, HM.out⟩
    unfold RowP
    rw [List.length_append, flatP_append]
    exact HO.out
  · have hcz : (L.length : Int) ≤ (cap : Int) := by omega
    go_enter Tryz.func159, Tryz.ntmps159
    go_wp2_with (at_builtin; refine wpList_append_blk _ rfl _ _ 106 rfl 0 110 i0 _ 2 24 Tryz.underlying106 hi hz0 hz1 hz2 rfl (by decide) (.slice a L.length cap) L.length (flatP L) rfl H.out ⟨vb, 0, none⟩ 1 1 (flatP [c]) rfl rfl HC.out (flatP_one _) (by decide) (by unfold maxLen; omega) (by omega) (Nat.zero_le _) ?_; intro v' w' hown' hgrow hmv; have HO := hid hown'; have HG := hid hgrow; have HM := hid hmv; clear hown' hgrow hmv; obtain ⟨va, vc, hv'⟩ := own_form HO.out; subst hv')
    go_ret
    refine ⟨_, rfl, ?_, HG.out, HM.out⟩
    unfold RowP
    rw [List.length_append, flatP_append]
    exact HO.out
theorem insert_any {w : World} {v : Value} {n i vb : Nat} {L : List Pg} {c : Pg} (h : RowP w 0 v L) (hn : L.length = n) (hi : i ≤ n) (hl : n ≤ 2000) (hv : Blk w vb #[.int .i64 c.pl, .string c.data] 110) (hne : ∀ g, v.ownBlock = some g → vb ≠ g) :
    Calls Tryz.prog 159 #[v, .int .i64 (i : Nat), .slice (some ⟨vb, 0, none⟩) 1 1] w fun e w' => ∃ v', e = .returned v' ∧ RowP w' 0 v' (L.take i ++ c :: L.drop i) ∧ w.grownBy w' v.ownBlock ∧ Moved w v v' := by
  by_cases hin : i = n
  · subst hin
    rw [List.take_of_length_le (by omega), List.drop_eq_nil_of_le (by omega)]
    exact insert_end h hn hl hv
  · obtain ⟨g, cap, e1, hc1, hc2, _, hgl⟩ := own_some h (by omega)
    subst e1
    rw [hn] at h hc1 ⊢
    by_cases hr : n + 1 ≤ cap
    · exact (insert_room h hn (by omega) hr hl hv (hne g rfl)).mono fun e w' ⟨h1, h2, h3⟩ => ⟨_, h1, h2, h3, fun j e => .inl e⟩
    · refine (insert_grow h hn (by omega) (by omega) hl hv).mono fun e w' hh => ?_
      obtain ⟨G, h1, h2, h3⟩ := hh
      exact ⟨_, h1, h2, ⟨h3.os, h3.tape, h3.output, h3.size, fun j hj _ => h3.block j hj⟩, fun j e => .inr (by simp [Value.ownBlock] at e; omega)⟩

end Go.Proofs.YtjcbaiohpdihoaaGreatDoor

namespace Go.Proofs.YtjcbaiohpdihoaaGreatDoor
open Go.RowKit
set_option linter.unusedVariables false
set_option linter.unusedSimpArgs false
set_option maxRecDepth 100000

theorem flatP_set : ∀ (L : List Pg) (i : Nat) (c : Pg), ((flatP L).set (i * 2) (.int .i64 c.pl)).set (i * 2 + 1) (.string c.data) = flatP (L.set i c)
  | [], i, c => by simp [flatP]
  | x :: r, 0, c => rfl
  | x :: r, i + 1, c => by
    rw [show (i + 1) * 2 = i * 2 + 1 + 1 by omega]
    simp only [flatP, List.set_cons_succ]
    rw [flatP_set r i c]
section
variable {w : World} {S : Nat → Prop} {k q : Nat} {p : Pp}

/-- the changed pages turned: a row and the pager's cell for it -/
theorem Su.chg {T : Nat → Prop} {room rd : Nat} {U : List Int} {hs : List Hp} {ch ch' : List Pg} {w w' : World} (h : Su w T k q room rd U hs ch) {cv c' : Value} (hu : w.cell? ⟨q, 1, none⟩ = some cv) (hg : w.grownBy w' cv.ownBlock) (hr : RowP w' 0 c' ch') (hm : Moved w cv c') :
    ∃ T', Su (w'.setCell ⟨q, 1, none⟩ c') T' k q room rd U hs ch' ∧ Grows T T' w ∧ Keep T w (w'.setCell ⟨q, 1, none⟩ c') := by
  obtain ⟨h1, h2, cv', uv, m, h3, h4, h5, h6, h7, h8, h9⟩ := h
  have e : some cv' = some cv := (h3.cell (i := 1) rfl).symm.trans hu
  cases e
  have hk : Keep (fun j => cv.ownBlock = some j) w w' := Keep.grown hg (fun j e => e)
  have b3 := hk.blk h3 (fun e => (h3.ne h4 (by decide) e) rfl)
  have k2 : Keep (fun j => j = q) w' (w'.setCell ⟨q, 1, none⟩ c') := Keep.set (S := fun j => j = q) w' rfl 1 c'
  have r5 := hk.row h5 (fun g e e2 => rows_ne h5 h4 (by decide) e e2)
  have m6 := hk.imap h6 (fun e => h6.ne_row h4 e rfl)
  have hsz : (w'.setCell ⟨q, 1, none⟩ c').heap.size = w'.heap.size := by simp [World.setCell]
  refine ⟨fun j => T j ∨ (c'.ownBlock = some j ∧ w.heap.size ≤ j), ⟨fun j hj => ?_, .inl h2, c', uv, m, b3.set 1 c', k2.row hr (fun g e => b3.ne hr (by decide) e), k2.row r5 (fun g e => b3.ne r5 (by decide) e), k2.imap m6 (fun e => (m6.ne_blk b3) e.symm), fun g e => ?_, fun g e => .inl (h8 g e), .inl h9⟩, fun j hj => ?_, ?_⟩
  · rw [hsz]
    rcases hj with hj | ⟨hj, _⟩
    · exact Nat.lt_of_lt_of_le (h1 j hj) hg.size
    · exact (World.ownsRow.lt hr j hj).2
  · rcases hm g e with e1 | e1
    · exact .inl (h7 g e1)
    · exact .inr ⟨e, e1⟩
  · rcases hj with hj | hj
    · exact .inl hj
    · exact .inr hj.2
  · exact (hk.mono (fun j _ e => h7 j e)).trans (k2.mono (fun j _ e => by subst e; exact h2)) (fun _ _ h => h)

set_option maxHeartbeats 2000000 in
theorem change_any (a : Int) (s : ByteArray) (hs : s.size = 256) (N : Nat) (hok : p.Ok N) (hlen : p.ch.length ≤ 1500) (h : Pk w S k q p) :
    Calls Tryz.prog 103 #[.pointer (some ⟨q, 0, none⟩), .agg #[.int .i64 a, .string s]] w fun e w' => e = .returned (.tuple #[]) ∧ Pm w S k q { p with ch := insC p.ch a s } w' := by
  obtain ⟨A, M, B, hc, hA, hB, hM⟩ := hok.srt.cut a
  have hins : insC p.ch a s = A ++ ⟨a, s⟩ :: B := by rw [hc]; exact insC_cut hA hB hM s
  rw [hins]
  obtain ⟨W0, hW0⟩ : ∃ W0, w.alloc (.cells #[.int .i64 a, .string s] 110) = W0 := ⟨_, rfl⟩
  have hb0 : Below w.heap.size w W0 := by rw [← hW0]; exact (Below.refl _ _).alloc (Nat.le_refl _) _
  have hbk : Blk W0 w.heap.size #[.int .i64 a, .string s] 110 := by rw [← hW0]; exact Blk.made _ _ _
  have hsz0 : W0.heap.size = w.heap.size + 1 := by rw [← hW0]; exact size_alloc _ _
  have h0 := h.on hb0
  have hfi := find_any a hc (by omega) hA hB hM h0
  have x0 := hbk.cell (i := 0) rfl
  rcases hM with rfl | ⟨c, rfl, hca⟩
  · -- it is put in
    rw [List.append_nil] at hc
    have HX : Hid (∀ w2, Below W0.heap.size W0 w2 → ∃ va vc, w2.drew.cell? ⟨q, 1, none⟩ = some (.slice va p.ch.length vc) ∧ RowP w2.drew 0 (.slice va p.ch.length vc) p.ch ∧ (∀ g, (Value.slice va p.ch.length vc).ownBlock = some g → g < w.heap.size) ∧ Blk w2.drew w.heap.size #[.int .i64 a, .string s] 110 ∧ (∃ cs, Blk w2.drew q cs 157)) := fun w2 hb => by
      obtain ⟨D, T, s1, s2, s3, s4⟩ := h
      have hb2 : Below w.heap.size w w2.drew := (hb0.trans (hb.mono hb0.size)).drew
      have s5 := s4.on hb2
      have t1 := s4.1
      obtain ⟨_, _, cv0, _, _, hb30, _, _, _, t7, _⟩ := s4
      obtain ⟨_, _, cv, uv, m, hb3, hr, _⟩ := s5
      obtain ⟨va, vc, e1⟩ := own_form hr
      subst e1
      have c1 : w2.drew.cell? ⟨q, 1, none⟩ = some (.slice va p.ch.length vc) := hb3.cell (i := 1) rfl
      have e2 : some cv0 = some (.slice va p.ch.length vc) := ((hb30.cell (i := 1) rfl).symm.trans (hb2.cell (p := ⟨q, 1, none⟩) hb30.lt).symm).trans c1
      cases e2
      refine ⟨va, vc, c1, hr, fun g e => t1 g (t7 g e), ?_, _, hb3⟩
      exact (hbk.on hb.drew hbk.lt)
    have HW : Hid (∀ w2, Below W0.heap.size W0 w2 → ∀ (va : Option Addr) (vc : Nat) (w3 w4 : World) (v4 : Value), w2.drew.cell? ⟨q, 1, none⟩ = some (.slice va p.ch.length vc) → Below w2.drew.heap.size w2.drew w3 → RowP w4 0 v4 (A ++ ⟨a, s⟩ :: B) → w3.grownBy w4 (Value.slice va p.ch.length vc).ownBlock → Moved w3 (.slice va p.ch.length vc) v4 → Pm w S k q { p with ch := A ++ ⟨a, s⟩ :: B } (w4.setCell ⟨q, 1, none⟩ v4)) := fun w2 hb va vc w3 w4 v4 c1 hb3 r4 g4 m4 => by
      obtain ⟨D, T, s1, s2, s3, s4⟩ := h
      have hb2 : Below w.heap.size w w2.drew := (hb0.trans (hb.mono hb0.size)).drew
      have hb5 : Below w.heap.size w w3 := hb2.trans (hb3.mono hb2.size)
      have hlt : q < w2.drew.heap.size := by obtain ⟨_, _, _, _, _, hb30, _⟩ := s4; exact Nat.lt_of_lt_of_le hb30.lt hb2.size
      obtain ⟨T', t1, t2, t3⟩ := Su.chg (ch' := A ++ ⟨a, s⟩ :: B) (c' := v4) (s4.on hb5) ((hb3.cell (p := ⟨q, 1, none⟩) hlt).trans c1) g4 r4 m4
      exact Pm.shelf (p := p) s1 s2 s3 (Sm.base ⟨⟨T', t1, t2⟩, t3⟩ hb5 s4.1)
    have hsp : p.ch.take A.length = A ∧ p.ch.drop A.length = B := by rw [hc]; simp
    have hAl : A.length ≤ p.ch.length := by rw [hc]; simp
    have HIN0 : Hid (∀ (w3 : World) (va : Option Addr) (vc : Nat) (vb : Nat), RowP w3 0 (.slice va p.ch.length vc) p.ch → Blk w3 vb #[.int .i64 a, .string s] 110 → (∀ g, (Value.slice va p.ch.length vc).ownBlock = some g → vb ≠ g) → Calls Tryz.prog 159 #[.slice va p.ch.length vc, .int .i64 (A.length : Nat), .slice (some ⟨vb, 0, none⟩) 1 1] w3 fun e w' => ∃ v', e = .returned v' ∧ RowP w' 0 v' (A ++ ⟨a, s⟩ :: B) ∧ w3.grownBy w' (Value.slice va p.ch.length vc).ownBlock ∧ Moved w3 (.slice va p.ch.length vc) v') := fun w3 va vc vb r b n => by
      have := insert_any (c := ⟨a, s⟩) r rfl hAl (by omega) b n
      rw [hsp.1, hsp.2] at this
      exact this
    have HRC := hid h
    clear h h0 hc hA hB hins hsp hok hs hbk hb0
    generalize p.ch.length = n at *
    generalize A.length = i at *
    have HSZ := hid hsz0
    clear hsz0
    go_enter Tryz.func103, Tryz.ntmps103
    go_wp2_with fail
    clear hW0 x0
    refine hfi.mono ?_
    clear hfi
    rintro e w2 ⟨rfl, hb2⟩
    have HB2 := hid hb2
    clear hb2
    go_wp2_with fail
    obtain ⟨va, vc, c1, hrow, hgl, hb9, cs9, hq9⟩ := HX.out w2 HB2.out
    have hw0 : w.heap.size < w2.drew.heap.size := hb9.lt
    obtain ⟨W3, hW3⟩ : ∃ W3, w2.drew.alloc (.cells #[.int .i64 a, .string s] 110) = W3 := ⟨_, rfl⟩
    have hb3 : Below w2.drew.heap.size w2.drew W3 := by rw [← hW3]; exact (Below.refl _ _).alloc (Nat.le_refl _) _
    have hbv : Blk W3 w2.drew.heap.size #[.int .i64 a, .string s] 110 := by rw [← hW3]; exact Blk.made _ _ _
    have HS0 : w2.drew.cell? ⟨q, 1, none⟩ = some (.slice va n vc) ∧ w2.drew.cell? ⟨w.heap.size, 0, none⟩ = some (.int .i64 a) ∧ w2.drew.cell? ⟨w.heap.size, 1, none⟩ = some (.string s) := ⟨c1, hb9.cell (i := 0) rfl, hb9.cell (i := 1) rfl⟩
    have HS1 : W3.cell? ⟨q, 1, none⟩ = some (.slice va n vc) ∧ W3.cell? ⟨w.heap.size, 0, none⟩ = some (.int .i64 a) ∧ W3.cell? ⟨w.heap.size, 1, none⟩ = some (.string s) := ⟨(hb3.cell (p := ⟨q, 1, none⟩) hq9.lt).trans HS0.1, (hb3.cell (p := ⟨w.heap.size, 0, none⟩) hw0).trans HS0.2.1, (hb3.cell (p := ⟨w.heap.size, 1, none⟩) hw0).trans HS0.2.2⟩
    have HIN := hid (HIN0.out W3 va vc w2.drew.heap.size (hrow.on hb3) hbv (fun g e e2 => by have := hgl g e; omega))
    have HF : Hid (∀ (w4 : World) (v4 : Value), RowP w4 0 v4 (A ++ ⟨a, s⟩ :: B) → W3.grownBy w4 (Value.slice va n vc).ownBlock → Moved W3 (.slice va n vc) v4 → Pm w S k q { p with ch := A ++ ⟨a, s⟩ :: B } (w4.setCell ⟨q, 1, none⟩ v4)) := fun w4 v4 r4 g4 m4 => HW.out w2 HB2.out va vc W3 w4 v4 c1 hb3 r4 g4 m4
    have HK4 : Hid (∀ w4, W3.grownBy w4 (Value.slice va n vc).ownBlock → (w4.cell? ⟨q, 1, none⟩ = some (.slice va n vc) ∧ w4.cell? ⟨w.heap.size, 0, none⟩ = some (.int .i64 a) ∧ w4.cell? ⟨w.heap.size, 1, none⟩ = some (.string s)) ∧ w4.frozen? ⟨q, 1, none⟩ = false) := fun w4 g4 => by
      have bq := (hq9.on hb3 hq9.lt).kept g4 (fun e => hq9.ne hrow (by decide) e.symm rfl)
      have bx := (hb9.on hb3 hb9.lt).kept g4 (fun e => by have := hgl _ e.symm; omega)
      refine ⟨⟨?_, bx.cell (i := 0) rfl, bx.cell (i := 1) rfl⟩, bq.free 1⟩
      have e1 : cs9[1]? = some (.slice va n vc) := by
        have := HS0.1
        unfold Blk at hq9
        simp only [World.cell?, hq9] at this
        simpa using this
      exact bq.cell e1
    clear hrow hgl hb9 hq9 hw0 hb3 hbv HIN0 HW HX c1
    subst hW3
    refine wp_region_m (fun w' => w'.cell? ⟨q, 1, none⟩ = some (.slice va n vc) ∧ w'.cell? ⟨w.heap.size, 0, none⟩ = some (.int .i64 a) ∧ w'.cell? ⟨w.heap.size, 1, none⟩ = some (.string s)) 11 (by kernel_rfl) ?_
    refine wpAnyM_pick (i := 0) (some 21) (v := ?vz1) rfl rfl (by kernel_rfl) (by kernel_rfl) (by kernel_rfl) (by kernel_rfl) (fun _ _ _ h => h) (Or.inl ⟨by rfl, ?hz1⟩) HS0 ?rz1
    case hz1 => intro w hSw; go_simp; try with_reducible rfl
    try simp only [Act.put, List.setIfInBounds_toArray, List.set_cons_zero, List.set_cons_succ]
    refine wpAnyM_pick (i := 1) (some 22) (v := ?vz2) rfl rfl (by kernel_rfl) (by kernel_rfl) (by kernel_rfl) (by kernel_rfl) (fun _ _ _ h => h) (Or.inl ⟨by rfl, ?hz2⟩) HS0 ?rz2
    case hz2 => intro w hSw; go_simp; try with_reducible rfl
    try simp only [Act.put, List.setIfInBounds_toArray, List.set_cons_zero, List.set_cons_succ]
    refine wpAnyM_pick (i := 2) (some 23) (v := ?vz3) rfl rfl (by kernel_rfl) (by kernel_rfl) (by kernel_rfl) (by kernel_rfl) (fun _ _ _ h => h) (Or.inl ⟨by rfl, ?hz3⟩) HS0 ?rz3
    case hz3 => intro w hSw; go_simp; try with_reducible rfl
    try simp only [Act.put, List.setIfInBounds_toArray, List.set_cons_zero, List.set_cons_succ]
    refine wpAnyM_pick (i := 3) (some 24) (v := ?vz4) rfl rfl (by kernel_rfl) (by kernel_rfl) (by kernel_rfl) (by kernel_rfl) (fun _ _ _ h => h) (Or.inl ⟨by rfl, ?hz4⟩) HS0 ?rz4
    case hz4 => intro w hSw; go_simp; try with_reducible rfl
    try simp only [Act.put, List.setIfInBounds_toArray, List.set_cons_zero, List.set_cons_succ]
    refine wpAnyM_pick (i := 4) (some 25) (v := ?vz5) rfl rfl (by kernel_rfl) (by kernel_rfl) (by kernel_rfl) (by kernel_rfl) (fun _ _ _ h => h) (Or.inl ⟨by rfl, ?hz5⟩) HS0 ?rz5
    case hz5 => intro w hSw; go_simp; try with_reducible rfl
    try simp only [Act.put, List.setIfInBounds_toArray, List.set_cons_zero, List.set_cons_succ]
    refine wpAnyM_pick (i := 5) (some 26) (v := ?vz6) rfl rfl (by kernel_rfl) (by kernel_rfl) (by kernel_rfl) (by kernel_rfl) (fun _ _ _ h => h) (Or.inl ⟨by rfl, ?hz6⟩) HS0 ?rz6
    case hz6 => intro w hSw; go_simp; try with_reducible rfl
    try simp only [Act.put, List.setIfInBounds_toArray, List.set_cons_zero, List.set_cons_succ]
    refine wpAnyM_pick (i := 6) (some 27) (v := ?vz7) rfl rfl (by kernel_rfl) (by kernel_rfl) (by kernel_rfl) (by kernel_rfl) (fun _ _ _ h => h) (Or.inl ⟨by rfl, ?hz7⟩) HS0 ?rz7
    case hz7 => intro w hSw; go_simp; try with_reducible rfl
    try simp only [Act.put, List.setIfInBounds_toArray, List.set_cons_zero, List.set_cons_succ]
    refine wpAnyM_one (i := 7) (by kernel_rfl) rfl (fun K hK => ?_)
    go_simp
    refine hK.out _ _ (fun _ => HS1) ?_
    clear hK K
    try simp only [Act.put, List.setIfInBounds_toArray, List.set_cons_zero, List.set_cons_succ]
    refine wpAnyM_one (i := 8) (by kernel_rfl) rfl (fun K hK => ?_)
    go_simp
    go_at_call 159
    refine HIN.out.mono ?_
    clear HIN
    rintro e w4 ⟨v4, rfl, hr4, hg4, hm4⟩
    have HS4 := HK4.out w4 hg4
    have HF4 := hid (HF.out w4 v4 hr4 hg4 hm4)
    obtain ⟨va, vc, hv4⟩ := own_form hr4
    subst hv4
    clear hr4 hg4 hm4 HK4 HF
    try go_simp
    refine hK.out _ _ (fun _ => HS4.1) ?_
    clear hK K
    try simp only [Act.put, List.setIfInBounds_toArray, List.set_cons_zero, List.set_cons_succ]
    refine wpAnyM_one (i := 9) (by kernel_rfl) rfl (fun K hK => ?_)
    go_simp
    refine hK.out _ _ (fun _ => HS4.1) ?_
    clear hK K
    try simp only [Act.put, List.setIfInBounds_toArray, List.set_cons_zero, List.set_cons_succ]
    refine wpAnyM_one (i := 10) (by kernel_rfl) rfl (fun K hK => ?_)
    go_simp
    refine hK.out _ _ (fun _ => HS4.1) ?_
    clear hK K
    try simp only [Act.put, List.setIfInBounds_toArray, List.set_cons_zero, List.set_cons_succ]
    obtain ⟨⟨c41, _, _⟩, f41⟩ := HS4
    refine wpAnyM_one (i := 11) (by kernel_rfl) rfl (fun K hK => ?_)
    go_simp
    refine hK.out _ _ (fun h => absurd h (by decide)) ?_
    clear hK K
    refine wpAnyM_done (by kernel_rfl) ?_ _
    try simp only [Act.put, List.setIfInBounds_toArray, List.set_cons_zero, List.set_cons_succ]
    go_wp2_with fail
    go_end0
    have HF5 := HF4.out
    rw [List.length_append, List.length_cons] at HF5
    exact ⟨rfl, HF5⟩
  · -- it is there
    have hi : p.ch[A.length]? = some c := by rw [hc]; simp
    have hset : p.ch.set A.length ⟨a, s⟩ = A ++ ⟨a, s⟩ :: B := by rw [hc]; simp
    have HX : Hid (∀ w2, Below W0.heap.size W0 w2 → ∃ g vc, w2.drew.cell? ⟨q, 1, none⟩ = some (.slice (some ⟨g, 0, none⟩) p.ch.length vc) ∧ (w2.drew.cell? ⟨g, A.length * 2, none⟩ = some (.int .i64 c.pl) ∧ w2.drew.frozen? ⟨g, A.length * 2, none⟩ = false) ∧ (w2.drew.cell? ⟨g, A.length * 2 + 1, none⟩ = some (.string c.data) ∧ w2.drew.frozen? ⟨g, A.length * 2 + 1, none⟩ = false) ∧ (w2.drew.cell? ⟨w.heap.size, 0, none⟩ = some (.int .i64 a) ∧ w2.drew.cell? ⟨w.heap.size, 1, none⟩ = some (.string s)) ∧ Pm w S k q { p with ch := A ++ ⟨a, s⟩ :: B } ((w2.drew.setCell ⟨g, A.length * 2, none⟩ (.int .i64 a)).setCell ⟨g, A.length * 2 + 1, none⟩ (.string s))) := fun w2 hb => by
      obtain ⟨D, T, s1, s2, s3, s4⟩ := h
      have hb2 : Below w.heap.size w w2.drew := (hb0.trans (hb.mono hb0.size)).drew
      have s5 := s4.on hb2
      have t1 := s4.1
      have s6 := s5
      obtain ⟨y1, y2, cv, uv, m, hb3, hr, y5, y6, y7, y8, y9⟩ := s5
      obtain ⟨g, vc, e1, v1, v2, _, hgl⟩ := own_some hr (by have := (List.getElem?_eq_some_iff.1 hi).1; omega)
      subst e1
      obtain ⟨_, _, e4, _, _, hcc⟩ := own_cells hr
      cases e4
      obtain ⟨_, e5, _, _, c1, f1⟩ := hcc (A.length * 2) (.int .i64 c.pl) (by rw [flatP_even, hi]; rfl)
      cases e5
      obtain ⟨_, e5, _, _, c2, f2⟩ := hcc (A.length * 2 + 1) (.string c.data) (by rw [flatP_odd, hi]; rfl)
      cases e5
      have hb9 : Blk w2.drew w.heap.size #[.int .i64 a, .string s] 110 := hbk.on hb.drew hbk.lt
      have r1 := own_set (own_set hr (A.length * 2) (.int .i64 a)) (A.length * 2 + 1) (.string s)
      have e6 : ((flatP p.ch).set (A.length * 2) (.int .i64 a)).set (A.length * 2 + 1) (.string s) = flatP (A ++ ⟨a, s⟩ :: B) := by rw [← hset]; exact flatP_set p.ch A.length ⟨a, s⟩
      rw [e6] at r1
      have el : (A ++ (⟨a, s⟩ : Pg) :: B).length = p.ch.length := by rw [← hset, List.length_set]
      have k1 : Keep (fun j => j = g) w2.drew ((w2.drew.setCell ⟨g, A.length * 2, none⟩ (.int .i64 a)).setCell ⟨g, A.length * 2 + 1, none⟩ (.string s)) := (Keep.set (S := fun j => j = g) w2.drew rfl _ _).trans (Keep.set (S := fun j => j = g) _ rfl _ _) (fun _ _ h => h)
      refine ⟨g, vc, hb3.cell (i := 1) rfl, ⟨c1, f1⟩, ⟨c2, f2⟩, ⟨hb9.cell (i := 0) rfl, hb9.cell (i := 1) rfl⟩, Pm.shelf (p := p) s1 s2 s3 (Sm.base (W := w2.drew) ⟨⟨T, ⟨fun j hj => Nat.lt_of_lt_of_le (y1 j hj) k1.size, y2, .slice (some ⟨g, 0, none⟩) p.ch.length vc, uv, m, k1.blk hb3 (fun e => hb3.ne hr (by decide) rfl e.symm), ?_, k1.row y5 (fun j e e2 => rows_ne y5 hr (by decide) e (by subst e2; rfl)), k1.imap y6 (fun e => y6.ne_row hr rfl e.symm), y7, y8, y9⟩, Grows.refl _ _⟩, k1.mono (fun j _ e => by subst e; exact y7 _ rfl)⟩ hb2 t1)⟩
      unfold RowP
      rw [el]
      exact r1
    have hlt : A.length < p.ch.length := (List.getElem?_eq_some_iff.1 hi).1
    clear h h0 hc hA hB hins hok hs hbk hb0 hi hset
    generalize p.ch.length = n at *
    generalize A.length = i at *
    have hini : (i : Int) < (n : Int) := by omega
    go_enter Tryz.func103, Tryz.ntmps103
    go_wp2_with fail
    clear hW0 x0
    refine hfi.mono ?_
    clear hfi
    rintro e w2 ⟨rfl, hb2⟩
    have HB2 := hid hb2
    clear hb2
    go_wp2_with fail
    obtain ⟨g, vc, c1, ⟨c2, f2⟩, ⟨c3, f3⟩, ⟨c4, c5⟩, hpm⟩ := HX.out w2 HB2.out
    have HPM := hid hpm
    clear hpm HX
    have c3b : w2.cell? ⟨g, i * 2 + 1, none⟩ = some (.string c.data) := c3
    have f3b : w2.frozen? ⟨g, i * 2 + 1, none⟩ = false := f3
    go_region
    go_wp2_with fail
    (try simp only [Exit.inBlock, Exit.then])
    refine bodyPost_ret (results_none rfl _ _ _) rfl ?_
    exact ⟨rfl, HPM.out⟩
end

end Go.Proofs.YtjcbaiohpdihoaaGreatDoor
