/-
  Texts as long as a block; what New answers, the program's and the document's.
-/
import Derived.Test.YtglallhblcjffaaGreatDoorWr
namespace Go.Proofs.YtglallhblcjffaaGreatDoor
open Go.RowKit
set_option linter.unusedVariables false
set_option linter.unusedSimpArgs false
set_option maxRecDepth 100000

theorem RowS.form {w : World} {B : Nat} {v : Value} {L : List ByteArray} (h : RowS w B v L) : ∃ a c, v = .slice a L.length c := own_form h
theorem RowP.form {w : World} {B : Nat} {v : Value} {L : List Pg} (h : RowP w B v L) : ∃ a c, v = .slice a L.length c := own_form h
/-- copy of a row (nil where there is nothing in it) onto a new one of the same length -/
theorem run_copy_rows {P : Program} (w : World) (dT sT ty elem : TypeId) (size n g B B' : Nat) (sv : Value) (cs ds : List Value) (hu : P.underlying dT = some (.slice elem)) (hsz : (P.info? elem).map (·.size) = some size)
    (hro : w.ownsRow B elem size sv n cs) (hdo : w.ownsRow B' elem size (.slice (some ⟨g, 0, none⟩) n n) n ds) (h1 : ∀ v ∈ cs, v.oneCell' = true) :
    ∃ w', (Builtin.copy_ #[dT, sT] ty #[.slice (some ⟨g, 0, none⟩) n n, sv]).run P w = .ok (.int .i64 n) w' ∧ w'.ownsRow B' elem size (.slice (some ⟨g, 0, none⟩) n n) n cs ∧ w.grownBy w' (some g) := by
  obtain ⟨hl, hn | ⟨g1, cap1, cur1, hv1, hB1, hg1, hc1, hm1, hz1, ht1⟩⟩ := hro
  · obtain ⟨rfl, rfl⟩ := hn
    have hnil : cs = [] := List.eq_nil_of_length_eq_zero (by omega)
    subst hnil
    have hnd : ds = [] := List.eq_nil_of_length_eq_zero (by have := hdo.1; omega)
    subst hnd
    exact ⟨w, run_copy_nil (P := P) w dT sT ty elem ⟨g, 0, none⟩ 0 0 hu (by rw [hsz]; rfl), hdo, ⟨rfl, rfl, rfl, Nat.le_refl _, fun _ _ _ => rfl⟩⟩
  · subst hv1
    obtain ⟨hl2, hn2 | ⟨g2, cap2, cur2, hv2, hB2, hg2, hc2, hm2, hz2, ht2⟩⟩ := hdo
    · cases hn2.1
    · cases hv2
      refine ⟨_, run_copy_same (P := P) w dT sT ty elem size n g n cap1 ⟨g1, 0, none⟩ cur2 elem cs hu hsz hg2 hl ?_ (by rw [hl, hz2]) h1, ?_, ?_⟩
      · intro j v hj
        rw [add_plain, Nat.zero_add, Lib.cell_of_heap hg1]
        rw [← ht1, List.getElem?_take] at hj
        split at hj
        · simpa using hj
        · cases hj
      · refine ⟨hl, .inr ⟨g, n, cs.toArray, rfl, hB2, setRow_heap w g _ _ elem _ hg2, Nat.le_refl _, hm2, by rw [List.size_toArray, hl], ?_⟩⟩
        rw [List.toList_toArray, ← hl, List.take_length]
      · exact ⟨rfl, rfl, rfl, by simp [World.setRow], fun k _ hk => setRow_other w g k _ (fun e => hk (by rw [e]))⟩

theorem set_self {α : Type} {L : List α} {k : Nat} {s : α} (h : L[k]? = some s) : L.set k s = L := by
  obtain ⟨hk, rfl⟩ := List.getElem?_eq_some_iff.1 h
  exact List.set_getElem_self hk

theorem RowP.at {w : World} {B g n c i : Nat} {L : List Pg} {p : Pg} (h : RowP w B (.slice (some ⟨g, 0, none⟩) n c) L) (hs : L[i]? = some p) : w.cell? ⟨g, i * 2, none⟩ = some (.int .i64 p.pl) ∧ w.cell? ⟨g, i * 2 + 1, none⟩ = some (.string p.data) ∧ w.frozen? ⟨g, i * 2 + 1, none⟩ = false := by
  obtain ⟨a, cap, e1, _, _, hcc⟩ := own_cells h
  obtain ⟨g', hg', _, _, cs, _⟩ := hcc (i * 2) (.int .i64 p.pl) (by rw [flatP_even, hs]; rfl)
  obtain ⟨g2, hg2, _, _, cs2, fz⟩ := hcc (i * 2 + 1) (.string p.data) (by rw [flatP_odd, hs]; rfl)
  injection e1 with e2 _ _
  rw [hg'] at e2 hg2
  injection e2 with e3
  injection e3 with e4 _ _
  injection hg2 with e5
  injection e5 with e6 _ _
  subst e4
  subst e6
  exact ⟨cs, cs2, fz⟩

theorem rep_cells (n : Nat) : (madeCells (Value.int .u8 0).cells (n * 1)).toList = Lib.byteCells (zs n) := by
  simp [Lib.byteCells, Value.cells, toList_madeCells_one, zs]
theorem rep_texts (n : Nat) : (madeCells (Value.string ⟨#[]⟩).cells (n * 1)).toList = flatS (List.replicate n ⟨#[]⟩) := by
  simp [flatS, Value.cells, toList_madeCells_one]

theorem conv_own {wr : World} {B g c : Nat} {l : List UInt8} (ho : wr.ownsRow B 5 1 (.slice (some ⟨g, 0, none⟩) c c) c (Lib.byteCells l)) (hl : l.length = c) :
    (convert 39 9 (.slice (some ⟨g, 0, none⟩) c c)).run Tryz.prog wr = .ok (.string ⟨l.toArray⟩) wr := by
  have h := run_convert_bytes_back (P := Tryz.prog) wr 39 9 5 ⟨g, 0, none⟩ c l Tryz.underlying39 Tryz.underlying5 Tryz.underlying9 (fun j hj => by
    rw [add_plain, Nat.zero_add, ho.cellAt j (by omega)]
    simp [Lib.byteCells, hj])
  rwa [hl] at h

theorem zeros_any (n : Nat) (w : World) (h : n ≤ 65536) :
    Calls Tryz.prog 48 #[.int .i64 n] w fun e w' => e = .returned (.string ⟨(zs n).toArray⟩) ∧ Below w.heap.size w w' := by
  obtain ⟨i0, hi, hz0, hz1, hz2⟩ := info_parts info5
  go_enter Tryz.func48, Tryz.ntmps48
  go_wp2_with (at_make; refine wpList_make_full _ rfl (.tmp 3) (.tmp 3) 39 rfl w.heap.size 5 i0 (.int .u8 0) 1 Tryz.underlying39 hi hz0 hz1 .i64 .i64 _ _ n rfl rfl rfl rfl (by rw [hz2]; omega) (by unfold maxLen; omega) (Nat.le_refl _) ?_; intro w1 hown hgrow; have hcv := conv_own (l := zs n) (by rw [← rep_cells]; exact hown) (by simp [zs]))
  go_ret
  exact ⟨rfl, (Below.refl _ w).grown hgrow (Nat.le_refl _) (fun _ h => by cases h)⟩

/-- a text, made as long as a block -/
def blk (s : ByteArray) : ByteArray := if 256 < s.size then s.extract 0 256 else s ++ ⟨(zs (256 - s.size)).toArray⟩
theorem zs_size (n : Nat) : (⟨(zs n).toArray⟩ : ByteArray).size = n := by
  show (zs n).toArray.size = n
  simp [zs]
theorem blk_size (s : ByteArray) : (blk s).size = 256 := by
  unfold blk
  split
  · simp [ByteArray.size_extract]; omega
  · rw [ByteArray.size_append, zs_size]; omega

/-- 256 bytes 0 -/
def Z : ByteArray := ⟨(zs 256).toArray⟩
theorem Z_size : Z.size = 256 := zs_size 256
/-- a new disk of n blocks -/
def nw (n : Nat) : Ds := ⟨List.replicate n Z, [], -1, false⟩
theorem nw_ok {n : Nat} (h1 : 64 ≤ n) (h2 : n ≤ 2048) : (nw n).Ok := by
  refine ⟨?_, ?_, ?_, ?_, ?_⟩
  · simp [nw]; omega
  · simp [nw]; omega
  · intro s hs
    simp only [nw] at hs
    rw [(List.mem_replicate.1 hs).2]
    exact Z_size
  · intro p hp
    simp [nw] at hp
  · simp only [nw]; omega

/-- what lies between two marks -/
def Bt (B C : Nat) : Nat → Prop := fun j => B ≤ j ∧ j < C
theorem In.of_row {w : World} {B C : Nat} {e : TypeId} {size n : Nat} {v : Value} {xs : List Value} (h : w.ownsRow B e size v n xs) (hC : w.heap.size ≤ C) : In (Bt B C) v := fun g hg => ⟨(h.lt g hg).1, Nat.lt_of_lt_of_le (h.lt g hg).2 hC⟩

theorem new_no (n : Int) (h : ¬ (64 ≤ n ∧ n ≤ 2048)) (w : World) : Calls Tryz.prog 18 #[.int .i64 n] w fun e w' => e = .returned (.tuple #[.pointer none, .int .i64 1]) ∧ w = w' := by
  have hm := mayHave_any n w
  rw [decide_eq_false h] at hm
  clear h
  go_enter Tryz.func18, Tryz.ntmps18
  go_wp2_with (go_at_call 45; refine hm.mono ?_; rintro e w1 ⟨rfl, rfl⟩)
  go_ret2
  exact ⟨rfl, rfl⟩

theorem fill_set (n k : Nat) (s t : ByteArray) (h : k < n) : (List.replicate k s ++ List.replicate (n - k) t).set k s = List.replicate (k + 1) s ++ List.replicate (n - (k + 1)) t := by
  obtain ⟨m, rfl⟩ : ∃ m, n = k + 1 + m := ⟨n - (k + 1), by omega⟩
  rw [show k + 1 + m - k = m + 1 by omega, show k + 1 + m - (k + 1) = m by omega, List.replicate_succ (n := m), List.set_append]
  simp only [List.length_replicate, Nat.lt_irrefl, if_false, Nat.sub_self, List.set_cons_zero]
  rw [List.replicate_succ' (n := k), List.append_assoc, List.singleton_append]

set_option maxHeartbeats 2000000 in
theorem new_any (n : Nat) (h1 : 64 ≤ n) (h2 : n ≤ 2048) (w : World) : Calls Tryz.prog 18 #[.int .i64 (n : Nat)] w fun e w' => ∃ k, e = .returned (.tuple #[.pointer (some ⟨k, 0, none⟩), .int .i64 0]) ∧ Dk w' (Bt w.heap.size w'.heap.size) k (nw n) ∧ Below w.heap.size w w' := by
  obtain ⟨i0, hi, hz0, hz1, hz2⟩ := info_parts info9
  have hm := mayHave_any (n : Int) w
  rw [decide_eq_true (by omega)] at hm
  have hrp : ∀ w1, _ := fun w1 => repeat_any w1
  have hbg : ∀ a c w1, _ := fun a c w1 => begin_any (.slice a n c) n c a rfl w1
  go_enter Tryz.func18, Tryz.ntmps18
  go_wp2_with (first
    | (go_at_call 45; refine hm.mono ?_; clear hm; rintro e w1 ⟨rfl, rfl⟩)
    | (at_make; refine wpList_make_full _ rfl (.tmp 10) (.tmp 10) 70 rfl w.heap.size 9 i0 (.string ⟨#[]⟩) 1 Tryz.underlying70 hi hz0 hz1 .i64 .i64 _ _ n rfl rfl rfl rfl (by rw [hz2]; omega) (by unfold maxLen; omega) (Nat.le_refl _) ?_; intro w1 hown hgrow; have HB1 := hid ((Below.refl _ w).grown hgrow (Nat.le_refl _) (fun k hk => by cases hk)); have HO1 := hid hown; clear hown hgrow)
    | (go_at_call 46; refine (hrp _).mono ?_; clear hrp; rintro e w2 ⟨rfl, hb2⟩; have HO2 := hid (own_below HO1.out hb2); have HB2 := hid (HB1.out.trans (hb2.mono HB1.out.size)); clear hb2 HO1 HB1))
  go_loopw [15] (fun i wr => ∃ k : Nat, k ≤ n ∧ i = .int .i64 (k : Nat) ∧ Hid (wr.ownsRow w.heap.size 9 1 (.slice (some ⟨w.heap.size, 0, none⟩) n n) n (flatS (List.replicate k Z ++ List.replicate (n - k) ⟨#[]⟩))) ∧ Hid (Below w.heap.size w wr)) (fun i _ => n - (intOf i).toNat)
  case atStart =>
    refine ⟨0, Nat.zero_le _, rfl, ?_, HB2⟩
    have := HO2.out
    rw [rep_texts] at this
    refine hid ?_
    simpa using this
  case round =>
    obtain ⟨k, hk, rfl, HR, HB⟩ := hrel
    clear HO2 HB2
    by_cases hlt : k < n
    · have hki : (k : Int) < (n : Int) := by omega
      have hkk : (List.replicate k Z ++ List.replicate (n - k) (⟨#[]⟩ : ByteArray))[k]? = some ⟨#[]⟩ := by
        rw [List.getElem?_append_right (by simp)]
        simp only [List.length_replicate, Nat.sub_self, List.getElem?_replicate]
        rw [if_pos (by omega)]
      obtain ⟨c0, f0⟩ : wr.cell? ⟨w.heap.size, k, none⟩ = some (.string ⟨#[]⟩) ∧ wr.frozen? ⟨w.heap.size, k, none⟩ = false := by
        obtain ⟨_, _, e1, _, _, hcc⟩ := own_cells HR.out
        cases e1
        obtain ⟨g', hg', _, _, cs, fz⟩ := hcc k (.string ⟨#[]⟩) (flatS_at hkk)
        cases hg'
        exact ⟨cs, fz⟩
      have HR4 : Hid ((wr.setCell ⟨w.heap.size, k, none⟩ (.string Z)).ownsRow w.heap.size 9 1 (.slice (some ⟨w.heap.size, 0, none⟩) n n) n (flatS (List.replicate (k + 1) Z ++ List.replicate (n - (k + 1)) ⟨#[]⟩))) := by
        have h := own_set HR.out k (.string Z)
        rw [flatS_set, fill_set n k Z _ hlt] at h
        exact h
      have HB4 := hid (HB.out.setCell (p := ⟨w.heap.size, k, none⟩) (Nat.le_refl _) (.string Z))
      clear HR HB hkk
      go_wp2_with fail
      go_roundw
      case rel => exact ⟨k + 1, by omega, by go_num, HR4, HB4⟩
      case measure => simp [intOf]; omega
    · have hki : ¬ (k : Int) < (n : Int) := by omega
      obtain rfl : k = n := by omega
      have HR5 : Hid (RowS wr w.heap.size (.slice (some ⟨w.heap.size, 0, none⟩) k k) (List.replicate k Z)) := by
        have := HR.out
        rw [Nat.sub_self, List.replicate_zero, List.append_nil] at this
        unfold RowS
        rw [List.length_replicate]
        exact this
      go_wp2_with (go_at_call 47; refine (hbg _ _ _).mono ?_; clear hbg; rintro e w5 ⟨rfl, rfl⟩)
      go_ret2
      have hbb := (Below.refl wr.heap.size wr).alloc (Nat.le_refl _) (.cells #[.slice (some ⟨w.heap.size, 0, none⟩) k k, .slice none 0 0, .int .i64 (-1), .bool false] 87)
      refine ⟨wr.heap.size, rfl, ⟨nw_ok h1 h2, fun j hj => hj.2, ⟨HB.out.size, by simp⟩, .slice (some ⟨w.heap.size, 0, none⟩) k k, .slice none 0 0, Blk.made _ _ _, ?_, World.ownsRow_nil _ _ _ _, ?_, ?_⟩, HB.out.trans (hbb.mono HB.out.size)⟩
      · exact own_base (HR5.out.on hbb) (Nat.zero_le _)
      · exact In.of_row (HR5.out.on hbb) (Nat.le_refl _)
      · intro g hg; simp [Value.ownBlock] at hg

end Go.Proofs.YtglallhblcjffaaGreatDoor
