/-
  Whether two lists of texts are alike, by the library's Equal.
-/
import Derived.Test.YtjcbaiohpdihoaaGreatDoorWr
import Derived.Test.YtjcbaiohpdihoaaGreatDoorNumC
import Derived.Test.YtjcbaiohpdihoaaGreatDoorMixPlain
import Derived.Laws.StructEq
import Derived.Deep.QuietTactic
import Derived.BigQuiet
namespace Go.Proofs.YtjcbaiohpdihoaaGreatDoor
open Go.RowKit
set_option linter.unusedVariables false
set_option linter.unusedSimpArgs false
set_option maxRecDepth 100000

theorem RowS.form {w : World} {B : Nat} {v : Value} {L : List ByteArray} (h : RowS w B v L) : ∃ a c, v = .slice a L.length c := own_form h
theorem RowP.form {w : World} {B : Nat} {v : Value} {L : List Pg} (h : RowP w B v L) : ∃ a c, v = .slice a L.length c := own_form h
/-- copy of a row (nil where there is nothing in it) onto a new one of the same length -/
theorem run_copy_rows {P : Program} (w : World) (dT sT ty elem : TypeId) (size n g B B' : Nat) (sv : Value) (cs ds : List Value) (hu : P.underlying dT = some (.slice elem)) (hsz : (P.info? elem).map (·.size) = some size)
    (hro : w.ownsRow B elem size sv n cs) (hdo : w.ownsRow B' elem size (.slice (some ⟨g, 0, none⟩) n n) n ds) (h1 : ∀ v ∈ cs, v.oneCell' = true) :
    ∃ w', (Builtin.copy_ #[dT, sT] ty #[.slice (some ⟨g, 0, none⟩) n n, sv]).run P w = .ok (.int .i64 n) w' ∧ w'.ownsRow B' elem size (.slice (some ⟨g, 0, none⟩) n n) n cs ∧ w.grownBy w' (some g) := by
  obtain ⟨hl, hn | ⟨g1, cap1, cur1, hv1, hB1, hg1, hc1, hm1, hz1, ht1⟩⟩ := hro
  · obtain ⟨rfl, rfl⟩ := hn
    have hnil : cs = [] := List.eq_nil_of_length_eq_zero (by omega)
    subst hnil
    have hnd : ds = [] := List.eq_nil_of_length_eq_zero (by have := hdo.1; omega)
    subst hnd
    exact ⟨w, run_copy_nil (P := P) w dT sT ty elem ⟨g, 0, none⟩ 0 0 hu (by rw [hsz]; rfl), hdo, ⟨rfl, rfl, rfl, Nat.le_refl _, fun _ _ _ => rfl⟩⟩
  · subst hv1
    obtain ⟨hl2, hn2 | ⟨g2, cap2, cur2, hv2, hB2, hg2, hc2, hm2, hz2, ht2⟩⟩ := hdo
    · cases hn2.1
    · cases hv2
      refine ⟨_, run_copy_same (P := P) w dT sT ty elem size n g n cap1 ⟨g1, 0, none⟩ cur2 elem cs hu hsz hg2 hl ?_ (by rw [hl, hz2]) h1, ?_, ?_⟩
      · intro j v hj
        rw [add_plain, Nat.zero_add, Lib.cell_of_heap hg1]
        rw [← ht1, List.getElem?_take] at hj
        split at hj
        · simpa using hj
        · cases hj
      · refine ⟨hl, .inr ⟨g, n, cs.toArray, rfl, hB2, setRow_heap w g _ _ elem _ hg2, Nat.le_refl _, hm2, by rw [List.size_toArray, hl], ?_⟩⟩
        rw [List.toList_toArray, ← hl, List.take_length]
      · exact ⟨rfl, rfl, rfl, by simp [World.setRow], fun k _ hk => setRow_other w g k _ (fun e => hk (by rw [e]))⟩

theorem set_self {α : Type} {L : List α} {k : Nat} {s : α} (h : L[k]? = some s) : L.set k s = L := by
  obtain ⟨hk, rfl⟩ := List.getElem?_eq_some_iff.1 h
  exact List.set_getElem_self hk

theorem RowP.at {w : World} {B g n c i : Nat} {L : List Pg} {p : Pg} (h : RowP w B (.slice (some ⟨g, 0, none⟩) n c) L) (hs : L[i]? = some p) : w.cell? ⟨g, i * 2, none⟩ = some (.int .i64 p.pl) ∧ w.cell? ⟨g, i * 2 + 1, none⟩ = some (.string p.data) ∧ w.frozen? ⟨g, i * 2 + 1, none⟩ = false := by
  obtain ⟨a, cap, e1, _, _, hcc⟩ := own_cells h
  obtain ⟨g', hg', _, _, cs, _⟩ := hcc (i * 2) (.int .i64 p.pl) (by rw [flatP_even, hs]; rfl)
  obtain ⟨g2, hg2, _, _, cs2, fz⟩ := hcc (i * 2 + 1) (.string p.data) (by rw [flatP_odd, hs]; rfl)
  injection e1 with e2 _ _
  rw [hg'] at e2 hg2
  injection e2 with e3
  injection e3 with e4 _ _
  injection hg2 with e5
  injection e5 with e6 _ _
  subst e4
  subst e6
  exact ⟨cs, cs2, fz⟩

theorem rep_cells (n : Nat) : (madeCells (Value.int .u8 0).cells (n * 1)).toList = Lib.byteCells (zs n) := by
  simp [Lib.byteCells, Value.cells, toList_madeCells_one, zs]
theorem rep_texts (n : Nat) : (madeCells (Value.string ⟨#[]⟩).cells (n * 1)).toList = flatS (List.replicate n ⟨#[]⟩) := by
  simp [flatS, Value.cells, toList_madeCells_one]

theorem conv_own {wr : World} {B g c : Nat} {l : List UInt8} (ho : wr.ownsRow B 5 1 (.slice (some ⟨g, 0, none⟩) c c) c (Lib.byteCells l)) (hl : l.length = c) :
    (convert 171 9 (.slice (some ⟨g, 0, none⟩) c c)).run Tryz.prog wr = .ok (.string ⟨l.toArray⟩) wr := by
  have h := run_convert_bytes_back (P := Tryz.prog) wr 171 9 5 ⟨g, 0, none⟩ c l Tryz.underlying171 Tryz.underlying5 Tryz.underlying9 (fun j hj => by
    rw [add_plain, Nat.zero_add, ho.cellAt j (by omega)]
    simp [Lib.byteCells, hj])
  rwa [hl] at h

theorem zeros_any (n : Nat) (w : World) (h : n ≤ 65536) :
    Calls Tryz.prog 147 #[.int .i64 n] w fun e w' => e = .returned (.string ⟨(zs n).toArray⟩) ∧ Below w.heap.size w w' := by
  obtain ⟨i0, hi, hz0, hz1, hz2⟩ := info_parts info5
  go_enter Tryz.func147, Tryz.ntmps147
  go_wp2_with (at_make; refine wpList_make_full _ rfl (.tmp 3) (.tmp 3) 171 rfl w.heap.size 5 i0 (.int .u8 0) 1 Tryz.underlying171 hi hz0 hz1 .i64 .i64 _ _ n rfl rfl rfl rfl (by rw [hz2]; omega) (by unfold maxLen; omega) (Nat.le_refl _) ?_; intro w1 hown hgrow; have hcv := conv_own (l := zs n) (by rw [← rep_cells]; exact hown) (by simp [zs]))
  go_ret
  exact ⟨rfl, (Below.refl _ w).grown hgrow (Nat.le_refl _) (fun _ h => by cases h)⟩

/-- a text, made as long as a block -/
def blk (s : ByteArray) : ByteArray := if 256 < s.size then s.extract 0 256 else s ++ ⟨(zs (256 - s.size)).toArray⟩
theorem zs_size (n : Nat) : (⟨(zs n).toArray⟩ : ByteArray).size = n := by
  show (zs n).toArray.size = n
  simp [zs]
theorem blk_size (s : ByteArray) : (blk s).size = 256 := by
  unfold blk
  split
  · simp [ByteArray.size_extract]; omega
  · rw [ByteArray.size_append, zs_size]; omega

/-- 256 bytes 0 -/
def Z : ByteArray := ⟨(zs 256).toArray⟩
theorem Z_size : Z.size = 256 := zs_size 256
/-- a new disk of n blocks -/
def nw (n : Nat) : Ds := ⟨List.replicate n Z, [], -1, false⟩
theorem nw_ok {n : Nat} (h1 : 64 ≤ n) (h2 : n ≤ 2048) : (nw n).Ok := by
  refine ⟨?_, ?_, ?_, ?_, ?_⟩
  · simp [nw]; omega
  · simp [nw]; omega
  · intro s hs
    simp only [nw] at hs
    rw [(List.mem_replicate.1 hs).2]
    exact Z_size
  · intro p hp
    simp [nw] at hp
  · simp only [nw]; omega

/-- what lies between two marks -/
def Bt (B C : Nat) : Nat → Prop := fun j => B ≤ j ∧ j < C
theorem In.of_row {w : World} {B C : Nat} {e : TypeId} {size n : Nat} {v : Value} {xs : List Value} (h : w.ownsRow B e size v n xs) (hC : w.heap.size ≤ C) : In (Bt B C) v := fun g hg => ⟨(h.lt g hg).1, Nat.lt_of_lt_of_le (h.lt g hg).2 hC⟩

theorem new_no (n : Int) (h : ¬ (64 ≤ n ∧ n ≤ 2048)) (w : World) : Calls Tryz.prog 34 #[.int .i64 n] w fun e w' => e = .returned (.tuple #[.pointer none, .int .i64 1]) ∧ w = w' := by
  have hm := mayHave_any n w
  rw [decide_eq_false h] at hm
  clear h
  go_enter Tryz.func34, Tryz.ntmps34
  go_wp2_with (go_at_call 63; refine hm.mono ?_; rintro e w1 ⟨rfl, rfl⟩)
  go_ret2
  exact ⟨rfl, rfl⟩

theorem fill_set (n k : Nat) (s t : ByteArray) (h : k < n) : (List.replicate k s ++ List.replicate (n - k) t).set k s = List.replicate (k + 1) s ++ List.replicate (n - (k + 1)) t := by
  obtain ⟨m, rfl⟩ : ∃ m, n = k + 1 + m := ⟨n - (k + 1), by omega⟩
  rw [show k + 1 + m - k = m + 1 by omega, show k + 1 + m - (k + 1) = m by omega, List.replicate_succ (n := m), List.set_append]
  simp only [List.length_replicate, Nat.lt_irrefl, if_false, Nat.sub_self, List.set_cons_zero]
  rw [List.replicate_succ' (n := k), List.append_assoc, List.singleton_append]

set_option maxHeartbeats 2000000 in
theorem new_any (n : Nat) (h1 : 64 ≤ n) (h2 : n ≤ 2048) (w : World) : Calls Tryz.prog 34 #[.int .i64 (n : Nat)] w fun e w' => ∃ k, e = .returned (.tuple #[.pointer (some ⟨k, 0, none⟩), .int .i64 0]) ∧ Dk w' (Bt w.heap.size w'.heap.size) k (nw n) ∧ Below w.heap.size w w' := by
  obtain ⟨i0, hi, hz0, hz1, hz2⟩ := info_parts info9
  have hm := mayHave_any (n : Int) w
  rw [decide_eq_true (by omega)] at hm
  have hrp : ∀ w1, _ := fun w1 => repeat_any w1
  have hbg : ∀ a c w1, _ := fun a c w1 => begin_any (.slice a n c) n c a rfl w1
  go_enter Tryz.func34, Tryz.ntmps34
  go_wp2_with (first
    | (go_at_call 63; refine hm.mono ?_; clear hm; rintro e w1 ⟨rfl, rfl⟩)
    | (at_make; refine wpList_make_full _ rfl (.tmp 10) (.tmp 10) 84 rfl w.heap.size 9 i0 (.string ⟨#[]⟩) 1 Tryz.underlying84 hi hz0 hz1 .i64 .i64 _ _ n rfl rfl rfl rfl (by rw [hz2]; omega) (by unfold maxLen; omega) (Nat.le_refl _) ?_; intro w1 hown hgrow; have HB1 := hid ((Below.refl _ w).grown hgrow (Nat.le_refl _) (fun k hk => by cases hk)); have HO1 := hid hown; clear hown hgrow)
    | (go_at_call 64; refine (hrp _).mono ?_; clear hrp; rintro e w2 ⟨rfl, hb2⟩; have HO2 := hid (own_below HO1.out hb2); have HB2 := hid (HB1.out.trans (hb2.mono HB1.out.size)); clear hb2 HO1 HB1))
  go_loopw [15] (fun i wr => ∃ k : Nat, k ≤ n ∧ i = .int .i64 (k : Nat) ∧ Hid (wr.ownsRow w.heap.size 9 1 (.slice (some ⟨w.heap.size, 0, none⟩) n n) n (flatS (List.replicate k Z ++ List.replicate (n - k) ⟨#[]⟩))) ∧ Hid (Below w.heap.size w wr)) (fun i _ => n - (intOf i).toNat)
  case atStart =>
    refine ⟨0, Nat.zero_le _, rfl, ?_, HB2⟩
    have := HO2.out
    rw [rep_texts] at this
    refine hid ?_
    simpa using this
  case round =>
    obtain ⟨k, hk, rfl, HR, HB⟩ := hrel
    clear HO2 HB2
    by_cases hlt : k < n
    · have hki : (k : Int) < (n : Int) := by omega
      have hkk : (List.replicate k Z ++ List.replicate (n - k) (⟨#[]⟩ : ByteArray))[k]? = some ⟨#[]⟩ := by
        rw [List.getElem?_append_right (by simp)]
        simp only [List.length_replicate, Nat.sub_self, List.getElem?_replicate]
        rw [if_pos (by omega)]
      obtain ⟨c0, f0⟩ : wr.cell? ⟨w.heap.size, k, none⟩ = some (.string ⟨#[]⟩) ∧ wr.frozen? ⟨w.heap.size, k, none⟩ = false := by
        obtain ⟨_, _, e1, _, _, hcc⟩ := own_cells HR.out
        cases e1
        obtain ⟨g', hg', _, _, cs, fz⟩ := hcc k (.string ⟨#[]⟩) (flatS_at hkk)
        cases hg'
        exact ⟨cs, fz⟩
      have HR4 : Hid ((wr.setCell ⟨w.heap.size, k, none⟩ (.string Z)).ownsRow w.heap.size 9 1 (.slice (some ⟨w.heap.size, 0, none⟩) n n) n (flatS (List.replicate (k + 1) Z ++ List.replicate (n - (k + 1)) ⟨#[]⟩))) := by
        have h := own_set HR.out k (.string Z)
        rw [flatS_set, fill_set n k Z _ hlt] at h
        exact h
      have HB4 := hid (HB.out.setCell (p := ⟨w.heap.size, k, none⟩) (Nat.le_refl _) (.string Z))
      clear HR HB hkk
      go_wp2_with fail
      go_roundw
      case rel => exact ⟨k + 1, by omega, by go_num, HR4, HB4⟩
      case measure => simp [intOf]; omega
    · have hki : ¬ (k : Int) < (n : Int) := by omega
      obtain rfl : k = n := by omega
      have HR5 : Hid (RowS wr w.heap.size (.slice (some ⟨w.heap.size, 0, none⟩) k k) (List.replicate k Z)) := by
        have := HR.out
        rw [Nat.sub_self, List.replicate_zero, List.append_nil] at this
        unfold RowS
        rw [List.length_replicate]
        exact this
      go_wp2_with (go_at_call 65; refine (hbg _ _ _).mono ?_; clear hbg; rintro e w5 ⟨rfl, rfl⟩)
      go_ret2
      have hbb := (Below.refl wr.heap.size wr).alloc (Nat.le_refl _) (.cells #[.slice (some ⟨w.heap.size, 0, none⟩) k k, .slice none 0 0, .int .i64 (-1), .bool false] 178)
      refine ⟨wr.heap.size, rfl, ⟨nw_ok h1 h2, fun j hj => hj.2, ⟨HB.out.size, by simp⟩, .slice (some ⟨w.heap.size, 0, none⟩) k k, .slice none 0 0, Blk.made _ _ _, ?_, World.ownsRow_nil _ _ _ _, ?_, ?_⟩, HB.out.trans (hbb.mono HB.out.size)⟩
      · exact own_base (HR5.out.on hbb) (Nat.zero_le _)
      · exact In.of_row (HR5.out.on hbb) (Nat.le_refl _)
      · intro g hg; simp [Value.ownBlock] at hg

end Go.Proofs.YtjcbaiohpdihoaaGreatDoor

namespace Go.Proofs.YtjcbaiohpdihoaaGreatDoor
open Go.RowKit
set_option linter.unusedVariables false
set_option linter.unusedSimpArgs false
set_option maxRecDepth 100000

/-- blocks of the list that so many pages need -/
def lb (m : Nat) : Nat := (m + 127) / 128
/-- how many pages a disk of n blocks has room for -/
def pgs (n : Nat) : Nat := 128 * (n - 1) / 257
/-- the first page behind the copies -/
def frs (n : Nat) : Nat := 2 + lb (pgs n) + pgs n
theorem pgs_fit {n : Nat} (h : 64 ≤ n) : 2 * pgs n + 1 + lb (pgs n) ≤ n := by unfold lb pgs; omega
theorem pgs_more {n : Nat} (h : 64 ≤ n) : n < 2 * (pgs n + 1) + 1 + lb (pgs n + 1) := by unfold lb pgs; omega
theorem lb_mono {a b : Nat} (h : a ≤ b) : lb a ≤ lb b := by unfold lb; omega
theorem pgs_le {n m : Nat} (h : 64 ≤ n) (hm : 2 * m + 1 + lb m ≤ n) : m ≤ pgs n := by
  have := pgs_more h
  have := @lb_mono (pgs n + 1) m
  omega
theorem pgs_lo {n : Nat} (h : 64 ≤ n) : 31 ≤ pgs n := by unfold pgs; omega
theorem pgs_hi {n : Nat} (h : n ≤ 2048) : pgs n ≤ 1019 := by unfold pgs; omega
theorem frs_end {n : Nat} (h : 64 ≤ n) : frs n + pgs n - 1 ≤ n := by have := pgs_fit h; unfold frs; omega

/-- is it a page's number? -/
def isPg (n : Nat) (a : Int) : Prop := a = 0 ∨ ((frs n : Nat) : Int) ≤ a ∧ a < ((frs n + pgs n - 1 : Nat) : Int)
instance (n : Nat) (a : Int) : Decidable (isPg n a) := by unfold isPg; infer_instance
theorem isPg_lt {n : Nat} {a : Int} (hn : 64 ≤ n) (h : isPg n a) : 0 ≤ a ∧ a < n := by
  have := frs_end hn
  unfold isPg at h
  omega
/-- why pages are no group, those ahead being at some numbers -/
def ckL (n : Nat) : List Int → List Pg → Nat
  | _, [] => 0
  | seen, p :: r => if ¬ isPg n p.pl then 1 else if ¬ p.data.size = 256 then 3 else if p.pl ∈ seen then 9 else ckL n (seen ++ [p.pl]) r
def ck (n : Nat) (L : List Pg) : Nat := if pgs n < L.length then 10 else ckL n [] L
theorem drop_cons {α : Type} {L : List α} {k : Nat} {p : α} (h : L[k]? = some p) : L.drop k = p :: L.drop (k + 1) := by
  obtain ⟨hk, rfl⟩ := List.getElem?_eq_some_iff.1 h
  exact List.drop_eq_getElem_cons hk
theorem take_snoc {α : Type} {L : List α} {k : Nat} {p : α} (h : L[k]? = some p) : L.take (k + 1) = L.take k ++ [p] := by
  rw [List.take_add_one, h]; rfl
theorem ckL_at {n : Nat} {L : List Pg} {k : Nat} {p : Pg} (h : L[k]? = some p) :
    ckL n ((L.take k).map Pg.pl) (L.drop k) = if ¬ isPg n p.pl then 1 else if ¬ p.data.size = 256 then 3 else if p.pl ∈ (L.take k).map Pg.pl then 9 else ckL n ((L.take (k + 1)).map Pg.pl) (L.drop (k + 1)) := by
  rw [drop_cons h, take_snoc h, List.map_append]
  rfl
theorem ckL_zero {n : Nat} : ∀ {L : List Pg} {seen : List Int}, ckL n seen L = 0 → (∀ p ∈ L, isPg n p.pl ∧ p.data.size = 256 ∧ p.pl ∉ seen) ∧ (L.map Pg.pl).Nodup
  | [], _, _ => ⟨fun p hp => (by cases hp), List.nodup_nil⟩
  | p :: r, seen, h => by
    unfold ckL at h
    split at h
    · cases h
    split at h
    · cases h
    split at h
    · cases h
    rename_i h1 h2 h3
    obtain ⟨i1, i2⟩ := ckL_zero h
    refine ⟨fun q hq => ?_, ?_⟩
    · rcases List.mem_cons.1 hq with rfl | hq
      · exact ⟨by simpa using h1, by simpa using h2, h3⟩
      · obtain ⟨a, b, c⟩ := i1 q hq
        exact ⟨a, b, fun hs => c (List.mem_append.2 (.inl hs))⟩
    · rw [List.map_cons, List.nodup_cons]
      refine ⟨fun hm => ?_, i2⟩
      obtain ⟨q, hq, e⟩ := List.mem_map.1 hm
      exact (i1 q hq).2.2 (List.mem_append.2 (.inr (by rw [e]; simp)))
theorem ckL_ok {n : Nat} : ∀ {L : List Pg} {seen : List Int}, (∀ p ∈ L, isPg n p.pl ∧ p.data.size = 256 ∧ p.pl ∉ seen) → (L.map Pg.pl).Nodup → ckL n seen L = 0
  | [], _, _, _ => rfl
  | p :: r, seen, h, hn => by
    obtain ⟨a, b, c⟩ := h p (by simp)
    rw [List.map_cons, List.nodup_cons] at hn
    unfold ckL
    rw [if_neg (by simpa using a), if_neg (by simpa using b), if_neg c]
    refine ckL_ok (fun q hq => ?_) hn.2
    obtain ⟨a', b', c'⟩ := h q (by simp [hq])
    refine ⟨a', b', fun hm => ?_⟩
    rcases List.mem_append.1 hm with hm | hm
    · exact c' hm
    · simp at hm
      exact hn.1 (List.mem_map.2 ⟨q, hq, hm⟩)

/-- the bytes of pages' numbers -/
def nums (L : List Pg) : List UInt8 := L.flatMap fun p => Nu.be p.pl.toNat 2
theorem nums_append (L M : List Pg) : nums (L ++ M) = nums L ++ nums M := by simp [nums]
theorem nums_len : ∀ L : List Pg, (nums L).length = 2 * L.length
  | [] => rfl
  | p :: r => by
    show (Nu.be p.pl.toNat 2 ++ nums r).length = _
    rw [List.length_append, Nu.be_length, nums_len r, List.length_cons]
    omega
/-- bytes as a text -/
def bt (l : List UInt8) : ByteArray := ⟨l.toArray⟩
theorem bt_size (l : List UInt8) : (bt l).size = l.length := by show l.toArray.size = _; simp
theorem bt_data (l : List UInt8) : (bt l).data.toList = l := by simp [bt]
theorem bt_append (a b : List UInt8) : bt a ++ bt b = bt (a ++ b) := Nu.ba_append a b
theorem bt_self (s : ByteArray) : bt s.data.toList = s := by unfold bt; simp
theorem bt_inj {a b : List UInt8} (h : bt a = bt b) : a = b := by rw [← bt_data a, h, bt_data]
/-- with bytes 0 behind it, as long as a block -/
def pad (l : List UInt8) : ByteArray := Nu.padOf (bt l) 256
theorem pad_data (l : List UInt8) : (pad l).data.toList = l ++ List.replicate (256 - l.length) 0 := by
  unfold pad
  rw [Nu.padOf_list, bt_data, bt_size]
theorem pad_size {l : List UInt8} (h : l.length ≤ 256) : (pad l).size = 256 := Nu.padOf_size _ _ (by rw [bt_size]; exact h)
theorem pad_nil : pad [] = Z := by unfold pad Z; rfl
/-- the pages whose numbers stand in the block number j of the list -/
def part (L : List Pg) (j : Nat) : List Pg := (L.drop (128 * j)).take 128
theorem part_len (L : List Pg) (j : Nat) : (part L j).length ≤ 128 := by unfold part; rw [List.length_take]; omega
def rowB (L : List Pg) (j : Nat) : ByteArray := pad (nums (part L j))
theorem rowB_size (L : List Pg) (j : Nat) : (rowB L j).size = 256 := pad_size (by rw [nums_len]; have := part_len L j; omega)
/-- the list -/
def rows (L : List Pg) : List ByteArray := (List.range (lb L.length)).map (rowB L)
theorem rows_len (L : List Pg) : (rows L).length = lb L.length := by simp [rows]
theorem rows_size {L : List Pg} {s : ByteArray} (h : s ∈ rows L) : s.size = 256 := by
  obtain ⟨j, _, rfl⟩ := List.mem_map.1 h
  exact rowB_size L j
theorem rows_at {L : List Pg} {j : Nat} (h : j < lb L.length) : (rows L)[j]? = some (rowB L j) := by
  simp [rows, h]

/-- all bytes of some texts -/
def catB (l : List ByteArray) : List UInt8 := l.flatMap fun s => s.data.toList
theorem catB_append (l m : List ByteArray) : catB (l ++ m) = catB l ++ catB m := by simp [catB]
def sumOf (lst : List ByteArray) (L : List Pg) : Nat := Nu.more 1 (catB lst ++ catB (L.map Pg.data))
theorem sumOf_lt (lst : List ByteArray) (L : List Pg) : sumOf lst L < 4294967296 := Nu.more_lt _ _
def hdL (lst : List ByteArray) (L : List Pg) : List UInt8 := [106, 114, 110, 108] ++ Nu.be L.length 2 ++ Nu.be (sumOf lst L) 4
theorem hdL_len (lst : List ByteArray) (L : List Pg) : (hdL lst L).length = 10 := by
  unfold hdL
  rw [List.length_append, List.length_append, Nu.be_length, Nu.be_length]
  rfl
/-- the head -/
def hdB (lst : List ByteArray) (L : List Pg) : ByteArray := pad (hdL lst L)
theorem hdB_size (lst : List ByteArray) (L : List Pg) : (hdB lst L).size = 256 := pad_size (by rw [hdL_len]; decide)

/-- texts in blocks one behind the other -/
def enumP (b : Nat) (l : List ByteArray) : List Pg := l.mapIdx fun i s => ⟨((b + i : Nat) : Int), s⟩
theorem enumP_len (b : Nat) (l : List ByteArray) : (enumP b l).length = l.length := by simp [enumP]
theorem enumP_at {b : Nat} {l : List ByteArray} {i : Nat} {s : ByteArray} (h : l[i]? = some s) : (enumP b l)[i]? = some ⟨((b + i : Nat) : Int), s⟩ := by
  simp [enumP, h]
/-- the blocks by which a group is saved; by which it is settled -/
def copiesL (n : Nat) (L : List Pg) : List Pg := enumP (2 + lb (pgs n)) (L.map Pg.data)
def savedL (n : Nat) (L : List Pg) : List Pg := copiesL n L ++ enumP 2 (rows L) ++ [⟨1, hdB (rows L) L⟩]
def settledL (L : List Pg) : List Pg := L ++ [⟨1, Z⟩]
theorem savedL_len (n : Nat) (L : List Pg) : (savedL n L).length = L.length + lb L.length + 1 := by
  unfold savedL copiesL
  rw [List.length_append, List.length_append, enumP_len, enumP_len, rows_len, List.length_map]
  rfl
theorem settledL_len (L : List Pg) : (settledL L).length = L.length + 1 := by simp [settledL]

/-- writes, up to the first error -/
def Ds.wrs (d : Ds) : List Pg → Nat × Ds
  | [] => (0, d)
  | p :: r => if d.wrE p.pl p.data = 0 then (d.wr p.pl p.data).wrs r else (d.wrE p.pl p.data, d.wr p.pl p.data)
theorem Ds.wrs_cons (d : Ds) (p : Pg) (r : List Pg) : d.wrs (p :: r) = if d.wrE p.pl p.data = 0 then (d.wr p.pl p.data).wrs r else (d.wrE p.pl p.data, d.wr p.pl p.data) := rfl
theorem Ds.wrs_append : ∀ (A B : List Pg) (d : Ds), d.wrs (A ++ B) = if (d.wrs A).1 = 0 then (d.wrs A).2.wrs B else d.wrs A
  | [], B, d => by simp [Ds.wrs]
  | p :: r, B, d => by
    rw [List.cons_append, Ds.wrs_cons, Ds.wrs_cons]
    by_cases h : d.wrE p.pl p.data = 0
    · rw [if_pos h, if_pos h]
      exact Ds.wrs_append r B _
    · rw [if_neg h, if_neg h, if_neg h]
theorem Ds.Ok.wrs : ∀ {L : List Pg} {d : Ds}, d.Ok → (d.wrs L).2.Ok
  | [], d, h => h
  | p :: r, d, h => by
    unfold Ds.wrs
    split
    · exact Ds.Ok.wrs (h.wr _ _)
    · exact h.wr _ _
theorem Ds.wrs_len : ∀ (L : List Pg) (d : Ds), (d.wrs L).2.bs.length = d.bs.length
  | [], d => rfl
  | p :: r, d => by
    unfold Ds.wrs
    split
    · rw [Ds.wrs_len r, Ds.wr_len]
    · exact Ds.wr_len _ _ _
theorem Ds.wrs_lg : ∀ (L : List Pg) (d : Ds), (d.wrs L).2.lg.length ≤ d.lg.length + L.length
  | [], d => Nat.le_refl _
  | p :: r, d => by
    have h1 := d.wr_lg p.pl p.data
    unfold Ds.wrs
    split
    · have := Ds.wrs_lg r (d.wr p.pl p.data)
      simp only [List.length_cons]; omega
    · simp only [List.length_cons]; omega

/-- a group is written -/
def cmt (d : Ds) (L : List Pg) : Nat × Ds :=
  if ck d.bs.length L = 0 then (if L = [] then (0, d) else d.wrs (savedL d.bs.length L ++ settledL L)) else (ck d.bs.length L, d)

/-- how many copies a head tells of -/
def told (h : ByteArray) : Nat := if h.data.toList.take 4 = [106, 114, 110, 108] then Nu.val ((h.data.toList.drop 4).take 2) else 0
/-- the number that stands in a list's place -/
def numAt (lst : List ByteArray) (i : Nat) : Nat := Nu.val ((((lst.getD (i / 128) ⟨#[]⟩).data.toList).drop (i % 128 * 2)).take 2)
def grpL (lst cps : List ByteArray) : List Pg := cps.mapIdx fun i s => ⟨((numAt lst i : Nat) : Int), s⟩
theorem grpL_len (lst cps : List ByteArray) : (grpL lst cps).length = cps.length := by simp [grpL]
theorem grpL_at {lst cps : List ByteArray} {i : Nat} {s : ByteArray} (h : cps[i]? = some s) : (grpL lst cps)[i]? = some ⟨((numAt lst i : Nat) : Int), s⟩ := by
  simp [grpL, h]
/-- the blocks from one on -/
def cutB (bs : List ByteArray) (a c : Nat) : List ByteArray := (bs.drop a).take c
theorem cutB_at {bs : List ByteArray} {a c i : Nat} (h : i < c) : (cutB bs a c)[i]? = bs[a + i]? := by
  unfold cutB
  rw [List.getElem?_take, if_pos h, List.getElem?_drop]
theorem cutB_len {bs : List ByteArray} {a c : Nat} (h : a + c ≤ bs.length) : (cutB bs a c).length = c := by
  unfold cutB
  rw [List.length_take, List.length_drop]
  omega

theorem row_some {w : World} {B : Nat} {e : TypeId} {size n m c : Nat} {a : Option Addr} {xs : List Value} (h : w.ownsRow B e size (.slice a n c) m xs) (hm : 0 < m) : ∃ g, a = some ⟨g, 0, none⟩ ∧ B ≤ g ∧ g < w.heap.size := by
  obtain ⟨g, cap, e1, _, _, h2, h3⟩ := own_some h hm
  injection e1 with e2 _ _
  exact ⟨g, e2, h2, h3⟩


theorem equal49 (a : ByteArray) (x : Int) (w : World) : (Op.equalIn 10000 110 (.agg #[.int .i64 x, .string a]) (.agg #[.int .i64 x, .string a])).run Tryz.prog w = .ok true w := by
  have u3 := Tryz.underlying3
  have u9 := Tryz.underlying9
  have a3 := Tryz.isAgg3
  have a9 := Tryz.isAgg9
  have z3 := Tryz.sizeOf3
  have z9 := Tryz.sizeOf9
  have hS : Tryz.prog.underlying 110 = some (.struct (Tryz.prog.fieldsOf 110)) := by kernel_rfl
  have hp : Tryz.prog.stoodInHeld 110 = false := by kernel_rfl
  rw [show (10000 : Nat) = 9999 + 1 from rfl, run_equalIn_agg w 9999 110 _ _ hS hp]
  simp only [Program.fieldsOf, Tryz.underlying110]
  go_simp
theorem neq49 (a : ByteArray) (x : Int) (w : World) : (binOp .neq 110 (.agg #[.int .i64 x, .string a]) (.agg #[.int .i64 x, .string a])).run Tryz.prog w = .ok (.bool false) w := by
  rw [run_neq_struct, equal49]; rfl

/-- why blocks are no disk -/
def ofE (bs : List ByteArray) : Nat := if ¬ (64 ≤ bs.length ∧ bs.length ≤ 2048) then 1 else if bs.all (fun s => decide (s.size = 256)) then 0 else 3
theorem take_all {bs : List ByteArray} {k : Nat} {s : ByteArray} (h : ∀ t ∈ bs.take k, t.size = 256) (hk : bs[k]? = some s) (hs : s.size = 256) : ∀ t ∈ bs.take (k + 1), t.size = 256 := by
  intro t ht
  rw [List.take_add_one, hk] at ht
  rcases List.mem_append.1 ht with h' | h'
  · exact h t h'
  · simp at h'; rw [h']; exact hs

/-- what Of leaves -/
def OfPost (w : World) (bs : List ByteArray) (e : Ending) (w' : World) : Prop :=
  Below w.heap.size w w' ∧ ((ofE bs ≠ 0 ∧ e = .returned (.tuple #[.pointer none, .int .i64 (ofE bs : Nat)])) ∨ (ofE bs = 0 ∧ ∃ k, e = .returned (.tuple #[.pointer (some ⟨k, 0, none⟩), .int .i64 0]) ∧ Dk w' (Bt w.heap.size w'.heap.size) k ⟨bs, [], -1, false⟩))

theorem other_texts {s t : ByteArray} (h : ¬ s = t) : (s.toList == t.toList) = false := by
  rw [ByteArray.toList_eq, ByteArray.toList_eq]
  have : s.data.toList ≠ t.data.toList := fun e => h (by rw [← bt_self s, ← bt_self t, e])
  simpa using this

theorem equal_self (w : World) (B B' : Nat) (u v : Value) (L : List ByteArray) (hu : RowS w B u L) (hv : RowS w B' v L) (hl : L.length ≤ 100000) :
    Calls Tryz.prog 182 #[u, v] w fun e w' => e = .returned (.bool true) ∧ Below w.heap.size w w' := by
  obtain ⟨a, c, e1⟩ := hu.form
  obtain ⟨a', c', e2⟩ := hv.form
  subst e1
  subst e2
  have HU := hid hu
  have HV := hid hv
  obtain ⟨n, hn⟩ : ∃ n, L.length = n := ⟨_, rfl⟩
  have HN := hid hn
  have hl2 := hl
  rw [hn] at hl2
  rw [hn]
  clear hu hv hn hl
  go_enter Tryz.func182, Tryz.ntmps182
  go_wp2_with fail
  go_loopw [13] (fun i wr => ∃ k : Nat, k ≤ n ∧ i = .int .i64 (k : Nat) ∧ Below w.heap.size w wr) (fun i _ => n - (intOf i).toNat)
  case atStart => exact ⟨0, Nat.zero_le _, rfl, Below.refl _ _⟩
  case round =>
    obtain ⟨k, hk, rfl, hb⟩ := hrel
    by_cases hlt : k < n
    · have hki : (k : Int) < (n : Int) := by omega
      obtain ⟨s, hs⟩ : ∃ s, L[k]? = some s := ⟨_, List.getElem?_eq_getElem (by rw [HN.out]; exact hlt)⟩
      obtain ⟨g, x1, _, e1⟩ := row_some HU.out (by rw [HN.out]; omega)
      obtain ⟨h, x2, _, e2⟩ := row_some HV.out (by rw [HN.out]; omega)
      subst x1
      subst x2
      have c1 := (HU.out.at hs).1
      have c2 := (HV.out.at hs).1
      have d1 : wr.cell? ⟨g, k, none⟩ = some (.string s) := (hb.cell (p := ⟨g, k, none⟩) e1).trans c1
      have d2 : wr.cell? ⟨h, k, none⟩ = some (.string s) := (hb.cell (p := ⟨h, k, none⟩) e2).trans c2
      clear c1 c2 hs e1 e2
      go_wp2
      go_region
      have hbd := hb.drew
      clear d1 d2
      go_wp2
      go_roundw
      case rel => exact ⟨k + 1, by omega, by go_num, hbd⟩
      case measure => simp [intOf]; omega
    · obtain rfl : k = n := by omega
      go_wp2
      go_ret
      exact ⟨rfl, hb⟩

theorem equal_any (w : World) (B B' : Nat) (u v : Value) (L M : List ByteArray) (hu : RowS w B u L) (hv : RowS w B' v M) (hl : L.length ≤ 100000) (hm : M.length ≤ 100000) :
    Calls Tryz.prog 182 #[u, v] w fun e w' => e = .returned (.bool (decide (L = M))) ∧ Below w.heap.size w w' := by
  by_cases he : L = M
  · subst he
    rw [decide_eq_true rfl]
    exact equal_self w B B' u v L hu hv hl
  · have hd : decide (L = M) = false := decide_eq_false he
    rw [hd]
    obtain ⟨a, c, e1⟩ := hu.form
    obtain ⟨a', c', e2⟩ := hv.form
    subst e1
    subst e2
    have HU := hid hu
    have HV := hid hv
    obtain ⟨n, hn⟩ : ∃ n, L.length = n := ⟨_, rfl⟩
    have HN := hid hn
    obtain ⟨m, hmm⟩ : ∃ m, M.length = m := ⟨_, rfl⟩
    have HM := hid hmm
    have HE := hid he
    rw [hn] at hl
    rw [hmm] at hm
    rw [hn, hmm]
    clear hu hv hn hmm he hd
    by_cases hnm : n = m
    · subst hnm
      have HX : Hid (∀ k, k = n → (∀ i : Nat, i < k → L[i]? = M[i]?) → False) := fun k hk h => HE.out (List.ext_getElem? (fun i => by
        by_cases hi : i < n
        · exact h i (by omega)
        · rw [List.getElem?_eq_none (by rw [HN.out]; omega), List.getElem?_eq_none (by rw [HM.out]; omega)]))
      go_enter Tryz.func182, Tryz.ntmps182
      go_wp2_with fail
      go_loopw [13] (fun i wr => ∃ k : Nat, k ≤ n ∧ i = .int .i64 (k : Nat) ∧ Below w.heap.size w wr ∧ Hid (∀ i : Nat, i < k → L[i]? = M[i]?)) (fun i _ => n - (intOf i).toNat)
      case atStart => exact ⟨0, Nat.zero_le _, rfl, Below.refl _ _, fun i hi => by omega⟩
      case round =>
        obtain ⟨k, hk, rfl, hb, HP⟩ := hrel
        by_cases hlt : k < n
        · have hki : (k : Int) < (n : Int) := by omega
          obtain ⟨s, hs⟩ : ∃ s, L[k]? = some s := ⟨_, List.getElem?_eq_getElem (by rw [HN.out]; exact hlt)⟩
          obtain ⟨t, ht⟩ : ∃ t, M[k]? = some t := ⟨_, List.getElem?_eq_getElem (by rw [HM.out]; exact hlt)⟩
          obtain ⟨g, x1, _, e1⟩ := row_some HU.out (by rw [HN.out]; omega)
          obtain ⟨h, x2, _, e2⟩ := row_some HV.out (by rw [HM.out]; omega)
          subst x1
          subst x2
          have d1 : wr.cell? ⟨g, k, none⟩ = some (.string s) := (hb.cell (p := ⟨g, k, none⟩) e1).trans (HU.out.at hs).1
          have d2 : wr.cell? ⟨h, k, none⟩ = some (.string t) := (hb.cell (p := ⟨h, k, none⟩) e2).trans (HV.out.at ht).1
          have HST : Hid (s = t → ∀ i : Nat, i < k + 1 → L[i]? = M[i]?) := fun e i hi => by
            by_cases hik : i < k
            · exact HP.out i hik
            · obtain rfl : i = k := by omega
              rw [hs, ht, e]
          clear hs ht e1 e2
          by_cases hst : s = t
          · subst hst
            have HP2 := hid (HST.out rfl)
            clear HST HP
            go_wp2
            go_region
            have hbd := hb.drew
            clear d1 d2
            go_wp2
            go_roundw
            case rel => exact ⟨k + 1, by omega, by go_num, hbd, HP2⟩
            case measure => simp [intOf]; omega
          · have hne := other_texts hst
            clear HST HP hst
            go_wp2
            go_region
            have hbd := hb.drew
            clear d1 d2
            go_wp2
            go_ret
            exact ⟨rfl, hbd⟩
        · obtain rfl : k = n := by omega
          exact (HX.out _ rfl HP.out).elim
    · have hni : ((n : Int) != (m : Int)) = true := by simp; omega
      go_enter Tryz.func182, Tryz.ntmps182
      go_wp2
      go_ret
      exact ⟨rfl, Below.refl _ _⟩

end Go.Proofs.YtjcbaiohpdihoaaGreatDoor
