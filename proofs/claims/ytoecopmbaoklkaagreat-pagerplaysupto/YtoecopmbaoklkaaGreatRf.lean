/-
  The program's Of, and the document's disk: what its calls answer; two lists alike.
-/
import Derived.Test.YtoecopmbaoklkaaGreatIm
import Derived.Laws.StructEq
import Derived.Deep.QuietTactic
import Derived.BigQuiet
namespace Go.Proofs.YtoecopmbaoklkaaGreat
open Go.RowKit
set_option linter.unusedVariables false
set_option linter.unusedSimpArgs false
set_option maxRecDepth 100000

theorem rep_cells (n : Nat) : (madeCells (Value.int .u8 0).cells (n * 1)).toList = Lib.byteCells (zs n) := by
  simp [Lib.byteCells, Value.cells, toList_madeCells_one, zs]
theorem rep_texts (n : Nat) : (madeCells (Value.string ⟨#[]⟩).cells (n * 1)).toList = flatS (List.replicate n ⟨#[]⟩) := by
  simp [flatS, Value.cells, toList_madeCells_one]

theorem conv_own {wr : World} {B g c : Nat} {l : List UInt8} (ho : wr.ownsRow B 5 1 (.slice (some ⟨g, 0, none⟩) c c) c (Lib.byteCells l)) (hl : l.length = c) :
    (convert 93 9 (.slice (some ⟨g, 0, none⟩) c c)).run Tryz.prog wr = .ok (.string ⟨l.toArray⟩) wr := by
  have h := run_convert_bytes_back (P := Tryz.prog) wr 93 9 5 ⟨g, 0, none⟩ c l Tryz.underlying93 Tryz.underlying5 Tryz.underlying9 (fun j hj => by
    rw [add_plain, Nat.zero_add, ho.cellAt j (by omega)]
    simp [Lib.byteCells, hj])
  rwa [hl] at h

theorem zeros_any (n : Nat) (w : World) (h : n ≤ 65536) :
    Calls Tryz.prog 25 #[.int .i64 n] w fun e w' => e = .returned (.string ⟨(zs n).toArray⟩) ∧ Below w.heap.size w w' := by
  obtain ⟨i0, hi, hz0, hz1, hz2⟩ := info_parts info5
  go_enter Tryz.func25, Tryz.ntmps25
  go_wp2_with (at_make; refine wpList_make_full _ rfl (.tmp 3) (.tmp 3) 93 rfl w.heap.size 5 i0 (.int .u8 0) 1 Tryz.underlying93 hi hz0 hz1 .i64 .i64 _ _ n rfl rfl rfl rfl (by rw [hz2]; omega) (by unfold maxLen; omega) (Nat.le_refl _) ?_; intro w1 hown hgrow; have hcv := conv_own (l := zs n) (by rw [← rep_cells]; exact hown) (by simp [zs]))
  go_ret
  exact ⟨rfl, (Below.refl _ w).grown hgrow (Nat.le_refl _) (fun _ h => by cases h)⟩

/-- a text, made as long as a block -/
def blk (s : ByteArray) : ByteArray := if 256 < s.size then s.extract 0 256 else s ++ ⟨(zs (256 - s.size)).toArray⟩
theorem zs_size (n : Nat) : (⟨(zs n).toArray⟩ : ByteArray).size = n := by
  show (zs n).toArray.size = n
  simp [zs]
theorem blk_size (s : ByteArray) : (blk s).size = 256 := by
  unfold blk
  split
  · simp [ByteArray.size_extract]; omega
  · rw [ByteArray.size_append, zs_size]; omega

/-- 256 bytes 0 -/
def Z : ByteArray := ⟨(zs 256).toArray⟩
theorem Z_size : Z.size = 256 := zs_size 256
/-- a new disk of n blocks -/
def nw (n : Nat) : Ds := ⟨List.replicate n Z, [], -1, false⟩
theorem nw_ok {n : Nat} (h1 : 64 ≤ n) (h2 : n ≤ 2048) : (nw n).Ok := by
  refine ⟨?_, ?_, ?_, ?_, ?_⟩
  · simp [nw]; omega
  · simp [nw]; omega
  · intro s hs
    simp only [nw] at hs
    rw [(List.mem_replicate.1 hs).2]
    exact Z_size
  · intro p hp
    simp [nw] at hp
  · simp only [nw]; omega

/-- what lies between two marks -/
def Bt (B C : Nat) : Nat → Prop := fun j => B ≤ j ∧ j < C
theorem In.of_row {w : World} {B C : Nat} {e : TypeId} {size n : Nat} {v : Value} {xs : List Value} (h : w.ownsRow B e size v n xs) (hC : w.heap.size ≤ C) : In (Bt B C) v := fun g hg => ⟨(h.lt g hg).1, Nat.lt_of_lt_of_le (h.lt g hg).2 hC⟩

theorem new_no (n : Int) (h : ¬ (64 ≤ n ∧ n ≤ 2048)) (w : World) : Calls Tryz.prog 5 #[.int .i64 n] w fun e w' => e = .returned (.tuple #[.pointer none, .int .i64 1]) ∧ w = w' := by
  have hm := mayHave_any n w
  rw [decide_eq_false h] at hm
  clear h
  go_enter Tryz.func5, Tryz.ntmps5
  go_wp2_with (go_at_call 22; refine hm.mono ?_; rintro e w1 ⟨rfl, rfl⟩)
  go_ret2
  exact ⟨rfl, rfl⟩

theorem fill_set (n k : Nat) (s t : ByteArray) (h : k < n) : (List.replicate k s ++ List.replicate (n - k) t).set k s = List.replicate (k + 1) s ++ List.replicate (n - (k + 1)) t := by
  obtain ⟨m, rfl⟩ : ∃ m, n = k + 1 + m := ⟨n - (k + 1), by omega⟩
  rw [show k + 1 + m - k = m + 1 by omega, show k + 1 + m - (k + 1) = m by omega, List.replicate_succ (n := m), List.set_append]
  simp only [List.length_replicate, Nat.lt_irrefl, if_false, Nat.sub_self, List.set_cons_zero]
  rw [List.replicate_succ' (n := k), List.append_assoc, List.singleton_append]

set_option maxHeartbeats 2000000 in
theorem new_any (n : Nat) (h1 : 64 ≤ n) (h2 : n ≤ 2048) (w : World) : Calls Tryz.prog 5 #[.int .i64 (n : Nat)] w fun e w' => ∃ k, e = .returned (.tuple #[.pointer (some ⟨k, 0, none⟩), .int .i64 0]) ∧ Dk w' (Bt w.heap.size w'.heap.size) k (nw n) ∧ Below w.heap.size w w' := by
  obtain ⟨i0, hi, hz0, hz1, hz2⟩ := info_parts info9
  have hm := mayHave_any (n : Int) w
  rw [decide_eq_true (by omega)] at hm
  have hrp : ∀ w1, _ := fun w1 => repeat_any w1
  have hbg : ∀ a c w1, _ := fun a c w1 => begin_any (.slice a n c) n c a rfl w1
  go_enter Tryz.func5, Tryz.ntmps5
  go_wp2_with (first
    | (go_at_call 22; refine hm.mono ?_; clear hm; rintro e w1 ⟨rfl, rfl⟩)
    | (at_make; refine wpList_make_full _ rfl (.tmp 10) (.tmp 10) 46 rfl w.heap.size 9 i0 (.string ⟨#[]⟩) 1 Tryz.underlying46 hi hz0 hz1 .i64 .i64 _ _ n rfl rfl rfl rfl (by rw [hz2]; omega) (by unfold maxLen; omega) (Nat.le_refl _) ?_; intro w1 hown hgrow; have HB1 := hid ((Below.refl _ w).grown hgrow (Nat.le_refl _) (fun k hk => by cases hk)); have HO1 := hid hown; clear hown hgrow)
    | (go_at_call 23; refine (hrp _).mono ?_; clear hrp; rintro e w2 ⟨rfl, hb2⟩; have HO2 := hid (own_below HO1.out hb2); have HB2 := hid (HB1.out.trans (hb2.mono HB1.out.size)); clear hb2 HO1 HB1))
  go_loopw [15] (fun i wr => ∃ k : Nat, k ≤ n ∧ i = .int .i64 (k : Nat) ∧ Hid (wr.ownsRow w.heap.size 9 1 (.slice (some ⟨w.heap.size, 0, none⟩) n n) n (flatS (List.replicate k Z ++ List.replicate (n - k) ⟨#[]⟩))) ∧ Hid (Below w.heap.size w wr)) (fun i _ => n - (intOf i).toNat)
  case atStart =>
    refine ⟨0, Nat.zero_le _, rfl, ?_, HB2⟩
    have := HO2.out
    rw [rep_texts] at this
    refine hid ?_
    simpa using this
  case round =>
    obtain ⟨k, hk, rfl, HR, HB⟩ := hrel
    clear HO2 HB2
    by_cases hlt : k < n
    · have hki : (k : Int) < (n : Int) := by omega
      have hkk : (List.replicate k Z ++ List.replicate (n - k) (⟨#[]⟩ : ByteArray))[k]? = some ⟨#[]⟩ := by
        rw [List.getElem?_append_right (by simp)]
        simp only [List.length_replicate, Nat.sub_self, List.getElem?_replicate]
        rw [if_pos (by omega)]
      obtain ⟨c0, f0⟩ : wr.cell? ⟨w.heap.size, k, none⟩ = some (.string ⟨#[]⟩) ∧ wr.frozen? ⟨w.heap.size, k, none⟩ = false := by
        obtain ⟨_, _, e1, _, _, hcc⟩ := own_cells HR.out
        cases e1
        obtain ⟨g', hg', _, _, cs, fz⟩ := hcc k (.string ⟨#[]⟩) (flatS_at hkk)
        cases hg'
        exact ⟨cs, fz⟩
      have HR4 : Hid ((wr.setCell ⟨w.heap.size, k, none⟩ (.string Z)).ownsRow w.heap.size 9 1 (.slice (some ⟨w.heap.size, 0, none⟩) n n) n (flatS (List.replicate (k + 1) Z ++ List.replicate (n - (k + 1)) ⟨#[]⟩))) := by
        have h := own_set HR.out k (.string Z)
        rw [flatS_set, fill_set n k Z _ hlt] at h
        exact h
      have HB4 := hid (HB.out.setCell (p := ⟨w.heap.size, k, none⟩) (Nat.le_refl _) (.string Z))
      clear HR HB hkk
      go_wp2_with fail
      go_roundw
      case rel => exact ⟨k + 1, by omega, by go_num, HR4, HB4⟩
      case measure => simp [intOf]; omega
    · have hki : ¬ (k : Int) < (n : Int) := by omega
      obtain rfl : k = n := by omega
      have HR5 : Hid (RowS wr w.heap.size (.slice (some ⟨w.heap.size, 0, none⟩) k k) (List.replicate k Z)) := by
        have := HR.out
        rw [Nat.sub_self, List.replicate_zero, List.append_nil] at this
        unfold RowS
        rw [List.length_replicate]
        exact this
      go_wp2_with (go_at_call 24; refine (hbg _ _ _).mono ?_; clear hbg; rintro e w5 ⟨rfl, rfl⟩)
      go_ret2
      have hbb := (Below.refl wr.heap.size wr).alloc (Nat.le_refl _) (.cells #[.slice (some ⟨w.heap.size, 0, none⟩) k k, .slice none 0 0, .int .i64 (-1), .bool false] 80)
      refine ⟨wr.heap.size, rfl, ⟨nw_ok h1 h2, fun j hj => hj.2, ⟨HB.out.size, by simp⟩, .slice (some ⟨w.heap.size, 0, none⟩) k k, .slice none 0 0, Blk.made _ _ _, ?_, World.ownsRow_nil _ _ _ _, ?_, ?_⟩, HB.out.trans (hbb.mono HB.out.size)⟩
      · exact own_base (HR5.out.on hbb) (Nat.zero_le _)
      · exact In.of_row (HR5.out.on hbb) (Nat.le_refl _)
      · intro g hg; simp [Value.ownBlock] at hg

/-! ## two lists alike -/

theorem row_some {w : World} {B : Nat} {e : TypeId} {size n m c : Nat} {a : Option Addr} {xs : List Value} (h : w.ownsRow B e size (.slice a n c) m xs) (hm : 0 < m) : ∃ g, a = some ⟨g, 0, none⟩ ∧ B ≤ g ∧ g < w.heap.size := by
  obtain ⟨g, cap, e1, _, _, h2, h3⟩ := own_some h hm
  injection e1 with e2 _ _
  exact ⟨g, e2, h2, h3⟩


theorem same_self (w : World) (B B' : Nat) (u v : Value) (L : List ByteArray) (hu : RowS w B u L) (hv : RowS w B' v L) (hl : L.length ≤ 100000) :
    Calls Tryz.prog 15 #[u, v] w fun e w' => e = .returned (.bool true) ∧ Below w.heap.size w w' := by
  obtain ⟨a, c, e1⟩ := hu.form
  obtain ⟨a', c', e2⟩ := hv.form
  subst e1
  subst e2
  have HU := hid hu
  have HV := hid hv
  obtain ⟨n, hn⟩ : ∃ n, L.length = n := ⟨_, rfl⟩
  have HN := hid hn
  have hl2 := hl
  rw [hn] at hl2
  rw [hn]
  clear hu hv hn hl
  go_enter Tryz.func15, Tryz.ntmps15
  go_wp2_with fail
  go_loopw [13] (fun i wr => ∃ k : Nat, k ≤ n ∧ i = .int .i64 (k : Nat) ∧ Below w.heap.size w wr) (fun i _ => n - (intOf i).toNat)
  case atStart => exact ⟨0, Nat.zero_le _, rfl, Below.refl _ _⟩
  case round =>
    obtain ⟨k, hk, rfl, hb⟩ := hrel
    by_cases hlt : k < n
    · have hki : (k : Int) < (n : Int) := by omega
      obtain ⟨s, hs⟩ : ∃ s, L[k]? = some s := ⟨_, List.getElem?_eq_getElem (by rw [HN.out]; exact hlt)⟩
      obtain ⟨g, x1, _, e1⟩ := row_some HU.out (by rw [HN.out]; omega)
      obtain ⟨h, x2, _, e2⟩ := row_some HV.out (by rw [HN.out]; omega)
      subst x1
      subst x2
      have c1 := (HU.out.at hs).1
      have c2 := (HV.out.at hs).1
      have d1 : wr.cell? ⟨g, k, none⟩ = some (.string s) := (hb.cell (p := ⟨g, k, none⟩) e1).trans c1
      have d2 : wr.cell? ⟨h, k, none⟩ = some (.string s) := (hb.cell (p := ⟨h, k, none⟩) e2).trans c2
      clear c1 c2 hs e1 e2
      go_wp2
      go_region
      have hbd := hb.drew
      clear d1 d2
      go_wp2
      go_roundw
      case rel => exact ⟨k + 1, by omega, by go_num, hbd⟩
      case measure => simp [intOf]; omega
    · obtain rfl : k = n := by omega
      go_wp2
      go_ret
      exact ⟨rfl, hb⟩

theorem equal49 (a : ByteArray) (x : Int) (w : World) : (Op.equalIn 10000 75 (.agg #[.int .i64 x, .string a]) (.agg #[.int .i64 x, .string a])).run Tryz.prog w = .ok true w := by
  have u3 := Tryz.underlying3
  have u9 := Tryz.underlying9
  have a3 := Tryz.isAgg3
  have a9 := Tryz.isAgg9
  have z3 := Tryz.sizeOf3
  have z9 := Tryz.sizeOf9
  have hS : Tryz.prog.underlying 75 = some (.struct (Tryz.prog.fieldsOf 75)) := by kernel_rfl
  have hp : Tryz.prog.stoodInHeld 75 = false := by kernel_rfl
  rw [show (10000 : Nat) = 9999 + 1 from rfl, run_equalIn_agg w 9999 75 _ _ hS hp]
  simp only [Program.fieldsOf, Tryz.underlying75]
  go_simp
theorem neq49 (a : ByteArray) (x : Int) (w : World) : (binOp .neq 75 (.agg #[.int .i64 x, .string a]) (.agg #[.int .i64 x, .string a])).run Tryz.prog w = .ok (.bool false) w := by
  rw [run_neq_struct, equal49]; rfl

theorem samePages_self (w : World) (B B' : Nat) (u v : Value) (L : List Pg) (hu : RowP w B u L) (hv : RowP w B' v L) (hl : L.length * 24 ≤ 140737488355328) :
    Calls Tryz.prog 17 #[u, v] w fun e w' => e = .returned (.bool true) ∧ Below w.heap.size w w' := by
  obtain ⟨a, c, e1⟩ := hu.form
  obtain ⟨a', c', e2⟩ := hv.form
  subst e1
  subst e2
  have HU := hid hu
  have HV := hid hv
  obtain ⟨n, hn⟩ : ∃ n, L.length = n := ⟨_, rfl⟩
  have HN := hid hn
  have hl2 := hl
  rw [hn] at hl2
  rw [hn]
  clear hu hv hn hl
  go_enter Tryz.func17, Tryz.ntmps17
  go_wp2_with fail
  go_loopw [13] (fun i wr => ∃ k : Nat, k ≤ n ∧ i = .int .i64 (k : Nat) ∧ Below w.heap.size w wr) (fun i _ => n - (intOf i).toNat)
  case atStart => exact ⟨0, Nat.zero_le _, rfl, Below.refl _ _⟩
  case round =>
    obtain ⟨k, hk, rfl, hb⟩ := hrel
    by_cases hlt : k < n
    · have hki : (k : Int) < (n : Int) := by omega
      obtain ⟨p, hs⟩ : ∃ p, L[k]? = some p := ⟨_, List.getElem?_eq_getElem (by rw [HN.out]; exact hlt)⟩
      obtain ⟨g, x1, _, e1⟩ := row_some HU.out (by rw [HN.out]; omega)
      obtain ⟨h, x2, _, e2⟩ := row_some HV.out (by rw [HN.out]; omega)
      subst x1
      subst x2
      obtain ⟨c1, c2, _⟩ := HU.out.at hs
      obtain ⟨c3, c4, _⟩ := HV.out.at hs
      have d1 : wr.cell? ⟨g, k * 2, none⟩ = some (.int .i64 p.pl) := (hb.cell (p := ⟨g, k * 2, none⟩) e1).trans c1
      have d2 : wr.cell? ⟨g, k * 2 + 1, none⟩ = some (.string p.data) := (hb.cell (p := ⟨g, k * 2 + 1, none⟩) e1).trans c2
      have d3 : wr.cell? ⟨h, k * 2, none⟩ = some (.int .i64 p.pl) := (hb.cell (p := ⟨h, k * 2, none⟩) e2).trans c3
      have d4 : wr.cell? ⟨h, k * 2 + 1, none⟩ = some (.string p.data) := (hb.cell (p := ⟨h, k * 2 + 1, none⟩) e2).trans c4
      have hEq := neq49 p.data p.pl
      have HB0 : Hid (∀ nq, Below w.heap.size w (wr.drewN nq)) := fun nq => hb.trans ((below_drewN wr nq).mono hb.size)
      clear c1 c2 c3 c4 hs e1 e2
      go_wp2_with fail
      go_quiet (fail)
      go_wp2_with fail
      go_roundw
      case rel => exact ⟨k + 1, by omega, by go_num, HB0.out _⟩
      case measure => simp [intOf]; omega
    · obtain rfl : k = n := by omega
      go_wp2
      go_ret
      exact ⟨rfl, hb⟩

/-! ## Of -/

/-- why blocks are no disk -/
def ofE (bs : List ByteArray) : Nat := if ¬ (64 ≤ bs.length ∧ bs.length ≤ 2048) then 1 else if bs.all (fun s => decide (s.size = 256)) then 0 else 3
theorem take_all {bs : List ByteArray} {k : Nat} {s : ByteArray} (h : ∀ t ∈ bs.take k, t.size = 256) (hk : bs[k]? = some s) (hs : s.size = 256) : ∀ t ∈ bs.take (k + 1), t.size = 256 := by
  intro t ht
  rw [List.take_add_one, hk] at ht
  rcases List.mem_append.1 ht with h' | h'
  · exact h t h'
  · simp at h'; rw [h']; exact hs

/-- what Of leaves -/
def OfPost (w : World) (bs : List ByteArray) (e : Ending) (w' : World) : Prop :=
  Below w.heap.size w w' ∧ ((ofE bs ≠ 0 ∧ e = .returned (.tuple #[.pointer none, .int .i64 (ofE bs : Nat)])) ∨ (ofE bs = 0 ∧ ∃ k, e = .returned (.tuple #[.pointer (some ⟨k, 0, none⟩), .int .i64 0]) ∧ Dk w' (Bt w.heap.size w'.heap.size) k ⟨bs, [], -1, false⟩))

end Go.Proofs.YtoecopmbaoklkaaGreat
