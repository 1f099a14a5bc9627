/-
  What the journal's headOf answers.
-/
import Derived.Test.YtjcbaiohpdihoaaGreatDoorFm
namespace Go.Proofs.YtjcbaiohpdihoaaGreatDoor
open Go.RowKit
set_option linter.unusedVariables false
set_option linter.unusedSimpArgs false
set_option maxRecDepth 100000

theorem part_snoc (A : List Pg) (p : Pg) (j k : Nat) (hk : A.length = k) : part (A ++ [p]) j = if j = k / 128 then part A j ++ [p] else part A j := by
  unfold part
  rw [List.drop_append, List.take_append, List.length_drop, hk]
  by_cases h : j = k / 128
  · rw [if_pos h, show 128 * j - k = 0 by omega, List.drop_zero]
    obtain ⟨m, hm⟩ : ∃ m, 128 - (k - 128 * j) = m + 1 := ⟨127 - (k - 128 * j), by omega⟩
    rw [hm]
    simp
  · rw [if_neg h]
    by_cases h2 : 128 * j > k
    · obtain ⟨m, hm⟩ : ∃ m, 128 * j - k = m + 1 := ⟨128 * j - k - 1, by omega⟩
      rw [hm]
      simp
    · rw [show 128 - (k - 128 * j) = 0 by omega]
      simp
/-- the list's texts, some of the pages gone through -/
def acc (L : List Pg) (n k : Nat) : List ByteArray := (List.range n).map fun j => bt (nums (part (L.take k) j))
theorem acc_len (L : List Pg) (n k : Nat) : (acc L n k).length = n := by simp [acc]
theorem acc_at {L : List Pg} {n k j : Nat} (h : j < n) : (acc L n k)[j]? = some (bt (nums (part (L.take k) j))) := by simp [acc, h]
theorem acc_zero (L : List Pg) (n : Nat) : acc L n 0 = List.replicate n ⟨#[]⟩ := by
  unfold acc
  have : ∀ j, bt (nums (part (L.take 0) j)) = ⟨#[]⟩ := fun j => by simp [part, nums, bt]
  simp only [this]
  rw [List.map_const']
  simp
theorem acc_set {L : List Pg} {n k : Nat} {p : Pg} (h : L[k]? = some p) (hq : k / 128 < n) : (acc L n k).set (k / 128) (bt (nums (part (L.take k) (k / 128))) ++ bt (Nu.be p.pl.toNat 2)) = acc L n (k + 1) := by
  have hk : (L.take k).length = k := by
    have := (List.getElem?_eq_some_iff.1 h).1
    rw [List.length_take]; omega
  apply List.ext_getElem?
  intro i
  rw [List.getElem?_set]
  by_cases hi : i < n
  · rw [acc_at hi, acc_at hi, take_snoc h, part_snoc _ _ _ _ hk]
    by_cases e : k / 128 = i
    · rw [if_pos e, if_pos (by rw [acc_len]; exact hq), if_pos e.symm, nums_append, bt_append]
      subst e
      simp [nums]
    · rw [if_neg e, if_neg (fun x => e x.symm)]
  · rw [List.getElem?_eq_none (by rw [acc_len]; omega), List.getElem?_eq_none (by rw [acc_len]; omega)]
    split
    · rename_i e; subst e; exact absurd hq hi
    · rfl
theorem mix_at {α : Type} {A B : List α} {k : Nat} (h : A.length = B.length) (hk : k < B.length) : (A.take k ++ B.drop k)[k]? = B[k]? := by
  rw [List.getElem?_append_right (by rw [List.length_take]; omega), List.length_take, Nat.min_eq_left (by omega), Nat.sub_self, List.getElem?_drop, Nat.add_zero]
theorem mix_set {α : Type} {A B : List α} {k : Nat} {x : α} (h : A.length = B.length) (hx : A[k]? = some x) : (A.take k ++ B.drop k).set k x = A.take (k + 1) ++ B.drop (k + 1) := by
  have hk : k < A.length := (List.getElem?_eq_some_iff.1 hx).1
  obtain ⟨y, hy⟩ : ∃ y, B[k]? = some y := ⟨_, List.getElem?_eq_getElem (by omega)⟩
  rw [List.set_append, List.length_take, Nat.min_eq_left (by omega), if_neg (by omega), Nat.sub_self, drop_cons hy, List.set_cons_zero, take_snoc hx, List.append_assoc]
  rfl
theorem mix_len {α : Type} {A B : List α} {k : Nat} (h : A.length = B.length) (hk : k ≤ A.length) : (A.take k ++ B.drop k).length = B.length := by
  rw [List.length_append, List.length_take, List.length_drop]; omega
theorem RowS.set {w : World} {B g n c i : Nat} {L : List ByteArray} (h : RowS w B (.slice (some ⟨g, 0, none⟩) n c) L) (hn : L.length = n) (s : ByteArray) : RowS (w.setCell ⟨g, i, none⟩ (.string s)) B (.slice (some ⟨g, 0, none⟩) n c) (L.set i s) := by
  unfold RowS at h ⊢
  rw [hn] at h
  have := own_set h i (.string s)
  rw [flatS_set] at this
  rw [List.length_set, hn]
  exact this

set_option maxHeartbeats 8000000 in
theorem listOf_any (w : World) (S : Nat → Prop) (v : Value) (L : List Pg) (hl : LiesO w S v L) (hn : L.length ≤ 100000) (hp : ∀ p ∈ L, 0 ≤ p.pl ∧ p.pl < 65536) :
    Calls Tryz.prog 183 #[v] w fun e w' => ∃ v', e = .returned v' ∧ RowS w' w.heap.size v' (rows L) ∧ Below w.heap.size w w' := by
  obtain ⟨i0, hi, hz0, hz1, hz2⟩ := info_parts info9
  obtain ⟨a, c, e1⟩ := hl.form
  subst e1
  have HL := hid hl
  have HP := hid hp
  obtain ⟨N, hN⟩ : ∃ N, L.length = N := ⟨_, rfl⟩
  have HN := hid hN
  rw [hN] at hn ⊢
  have hlb := listBlocks_any N hn w
  obtain ⟨M, hM⟩ : ∃ M, lb N = M := ⟨_, rfl⟩
  have HM : Hid (∀ k, k < N → k / 128 < M) := fun k hk => by rw [← hM]; unfold lb; omega
  have hM2 : M ≤ 1000 := by rw [← hM]; unfold lb; omega
  have HR : Hid ((rows L).length = M) := by show _ = _; rw [rows_len, hN, hM]
  rw [hM] at hlb
  clear hl hp hN hM
  go_enter Tryz.func183, Tryz.ntmps183
  go_wp2_with (first
    | (go_at_call 178; refine hlb.mono ?_; clear hlb; rintro e w1 ⟨rfl, rfl⟩)
    | (at_make; refine wpList_make_full _ rfl (.tmp 9) (.tmp 9) 84 rfl w.heap.size 9 i0 (.string ⟨#[]⟩) 1 Tryz.underlying84 hi hz0 hz1 .i64 .i64 _ _ M rfl rfl rfl rfl (by rw [hz2]; omega) (by unfold maxLen; omega) (Nat.le_refl _) ?_; intro w1 hown hgrow; have HB1 := hid ((Below.refl _ w).grown hgrow (Nat.le_refl _) (fun k hk => by cases hk)); rw [rep_texts] at hown; have HO1 : Hid (RowS w1 w.heap.size (.slice (some ⟨w.heap.size, 0, none⟩) M M) (acc L M 0)) := (by unfold RowS; rw [acc_len, acc_zero]; exact hown); clear hown hgrow))
  go_loopw [13] (fun i wr => ∃ k : Nat, k ≤ N ∧ i = .int .i64 (k : Nat) ∧ Hid (RowS wr w.heap.size (.slice (some ⟨w.heap.size, 0, none⟩) M M) (acc L M k)) ∧ Hid (Below w.heap.size w wr)) (fun i _ => N - (intOf i).toNat)
  case atStart => exact ⟨0, Nat.zero_le _, rfl, HO1, HB1⟩
  case round =>
    obtain ⟨k, hk, rfl, HO, HB⟩ := hrel
    clear HO1 HB1
    by_cases hlt : k < N
    · have hki : (k : Int) < (N : Int) := by omega
      obtain ⟨p, hp⟩ : ∃ p, L[k]? = some p := ⟨_, List.getElem?_eq_getElem (by rw [HN.out]; exact hlt)⟩
      obtain ⟨b, off, hab, hblt, _, cp0, cp1, _, _⟩ := (HL.out.on HB.out).at hp
      subst hab
      have hpb := HP.out p (List.mem_of_getElem? hp)
      have hqM := HM.out k hlt
      have HS1 := hid (acc_set hp hqM)
      have HA := hid (acc_at (L := L) (k := k) hqM)
      obtain ⟨pl, data⟩ := p
      simp only at cp0 cp1 hpb HS1
      obtain ⟨x, rfl⟩ : ∃ x : Nat, pl = (x : Int) := ⟨pl.toNat, by omega⟩
      rw [Int.toNat_natCast] at HS1
      obtain ⟨q, hqk⟩ : ∃ q : Nat, k / 128 = q := ⟨_, rfl⟩
      have hqi : (k : Int) / 128 = (q : Int) := by omega
      rw [hqk] at hqM HS1 HA
      have hqw : IntKind.i64.wrap (q : Int) = (q : Int) := by rw [IntKind.wrap_i64]; omega
      have hxw : IntKind.u64.wrap (x : Int) = (x : Int) := by rw [IntKind.wrap_u64]; omega
      have hqMi : (q : Int) < (M : Int) := by omega
      obtain ⟨s, hs⟩ : ∃ s, bt (nums (part (L.take k) q)) = s := ⟨_, rfl⟩
      have hsz : s.size ≤ 256 := by rw [← hs, bt_size, nums_len]; have := part_len (L.take k) q; omega
      rw [hs] at HS1 HA
      have hpu : ∀ w1, Calls Tryz.prog 230 #[.int .u64 (x : Nat), .int .i64 2] w1 fun e w' => e = .returned (.string (bt (Nu.be x 2))) ∧ Below w1.heap.size w1 w' := fun w1 => put_any x 2 (by omega) (by omega) (by omega) w1
      obtain ⟨t, ht⟩ : ∃ t, bt (Nu.be x 2) = t := ⟨_, rfl⟩
      have htz : t.size = 2 := by rw [← ht, bt_size, Nu.be_length]
      have hcat : ¬ 9223372036854775807 < s.size + 2 := by omega
      rw [ht] at HS1 hpu
      have hO0 : RowS (wr.alloc (.cells #[.int .i64 (x : Int), .string data] 110)).drew w.heap.size (.slice (some ⟨w.heap.size, 0, none⟩) M M) (acc L M k) := HO.out.on (((Below.refl _ wr).alloc (Nat.le_refl _) _).drew)
      have hB0 : Below w.heap.size w (wr.alloc (.cells #[.int .i64 (x : Int), .string data] 110)).drew := (HB.out.alloc HB.out.size _).drew
      have hX0 : Blk (wr.alloc (.cells #[.int .i64 (x : Int), .string data] 110)).drew wr.heap.size #[.int .i64 (x : Int), .string data] 110 := Blk.made wr _ 110
      have HF : Hid (∀ w5, RowS w5 w.heap.size (.slice (some ⟨w.heap.size, 0, none⟩) M M) (acc L M k) → Blk w5 wr.heap.size #[.int .i64 (x : Int), .string data] 110 → w5.cell? ⟨w.heap.size, q, none⟩ = some (.string s) ∧ w5.cell? ⟨wr.heap.size, 0, none⟩ = some (.int .i64 (x : Int))) := fun w5 h1 h2 => ⟨(h1.at HA.out).1, h2.cell rfl⟩
      have HSW := HF.out _ hO0 hX0
      have HO0 := hid hO0
      have HB0 := hid hB0
      have HX0 := hid hX0
      clear hp hqk hs ht hpb hO0 hB0 hX0 HO HB
      go_wp2_with fail
      refine wp_region_m (fun w' => w'.cell? ⟨w.heap.size, q, none⟩ = some (.string s) ∧ w'.cell? ⟨wr.heap.size, 0, none⟩ = some (.int .i64 (x : Int))) 11 (by kernel_rfl) ?_
      refine wpAnyM_pick (i := 0) (some 18) (v := ?vz1) rfl rfl (by kernel_rfl) (by kernel_rfl) (by kernel_rfl) (by kernel_rfl) (fun _ _ _ h => h) (Or.inl ⟨by rfl, ?hz1⟩) HSW ?rz1
      case hz1 => intro w hSw; go_simp; try with_reducible rfl
      try simp only [Act.put, List.setIfInBounds_toArray, List.set_cons_zero, List.set_cons_succ]
      refine wpAnyM_pick (i := 1) (some 19) (v := ?vz2) rfl rfl (by kernel_rfl) (by kernel_rfl) (by kernel_rfl) (by kernel_rfl) (fun _ _ _ h => h) (Or.inl ⟨by rfl, ?hz2⟩) HSW ?rz2
      case hz2 => intro w hSw; go_simp; try with_reducible rfl
      try simp only [Act.put, List.setIfInBounds_toArray, List.set_cons_zero, List.set_cons_succ]
      refine wpAnyM_pick (i := 2) (some 20) (v := ?vz3) rfl rfl (by kernel_rfl) (by kernel_rfl) (by kernel_rfl) (by kernel_rfl) (fun _ _ _ h => h) (Or.inl ⟨by rfl, ?hz3⟩) HSW ?rz3
      case hz3 => intro w hSw; go_simp; try with_reducible rfl
      try simp only [Act.put, List.setIfInBounds_toArray, List.set_cons_zero, List.set_cons_succ]
      refine wpAnyM_pick (i := 3) (some 21) (v := ?vz4) rfl rfl (by kernel_rfl) (by kernel_rfl) (by kernel_rfl) (by kernel_rfl) (fun _ _ _ h => h) (Or.inl ⟨by rfl, ?hz4⟩) HSW ?rz4
      case hz4 => intro w hSw; go_simp; try with_reducible rfl
      try simp only [Act.put, List.setIfInBounds_toArray, List.set_cons_zero, List.set_cons_succ]
      refine wpAnyM_pick (i := 4) (some 22) (v := ?vz5) rfl rfl (by kernel_rfl) (by kernel_rfl) (by kernel_rfl) (by kernel_rfl) (fun _ _ _ h => h) (Or.inl ⟨by rfl, ?hz5⟩) HSW ?rz5
      case hz5 => intro w hSw; go_simp; try with_reducible rfl
      try simp only [Act.put, List.setIfInBounds_toArray, List.set_cons_zero, List.set_cons_succ]
      refine wpAnyM_pick (i := 5) (some 23) (v := ?vz6) rfl rfl (by kernel_rfl) (by kernel_rfl) (by kernel_rfl) (by kernel_rfl) (fun _ _ _ h => h) (Or.inl ⟨by rfl, ?hz6⟩) HSW ?rz6
      case hz6 => intro w hSw; go_simp; try with_reducible rfl
      try simp only [Act.put, List.setIfInBounds_toArray, List.set_cons_zero, List.set_cons_succ]
      refine wpAnyM_pick (i := 6) (some 24) (v := ?vz7) rfl rfl (by kernel_rfl) (by kernel_rfl) (by kernel_rfl) (by kernel_rfl) (fun _ _ _ h => h) (Or.inl ⟨by rfl, ?hz7⟩) HSW ?rz7
      case hz7 => intro w hSw; go_simp; try with_reducible rfl
      try simp only [Act.put, List.setIfInBounds_toArray, List.set_cons_zero, List.set_cons_succ]
      refine wpAnyM_pick (i := 7) (some 25) (v := ?vz8) rfl rfl (by kernel_rfl) (by kernel_rfl) (by kernel_rfl) (by kernel_rfl) (fun _ _ _ h => h) (Or.inl ⟨by rfl, ?hz8⟩) HSW ?rz8
      case hz8 => intro w hSw; go_simp; try with_reducible rfl
      try simp only [Act.put, List.setIfInBounds_toArray, List.set_cons_zero, List.set_cons_succ]
      refine wpAnyM_one (i := 8) (by kernel_rfl) rfl (fun K hK => ?_)
      go_simp
      go_at_call 230
      refine (hpu _).mono ?_
      clear hpu
      rintro e w2 ⟨rfl, hb2⟩
      have HO2 := hid (HO0.out.on hb2)
      have HB2 := hid (HB0.out.trans (hb2.mono HB0.out.size))
      have HX2 := hid (HX0.out.on hb2 HX0.out.lt)
      have HSW2 := HF.out _ HO2.out HX2.out
      obtain ⟨cw, fw⟩ := HO2.out.at HA.out
      clear HSW HO0 HB0 HX0 hb2
      go_wp2_with fail
      refine hK.out _ _ (fun _ => HSW2) ?_
      clear hK K
      try simp only [Act.put, List.setIfInBounds_toArray, List.set_cons_zero, List.set_cons_succ]
      refine wpAnyM_pick (i := 9) (some 27) (v := ?vz9) rfl rfl (by kernel_rfl) (by kernel_rfl) (by kernel_rfl) (by kernel_rfl) (fun _ _ _ h => h) (Or.inl ⟨by rfl, ?hz9⟩) HSW2 ?rz9
      case hz9 => intro w hSw; go_simp; try with_reducible rfl
      try simp only [Act.put, List.setIfInBounds_toArray, List.set_cons_zero, List.set_cons_succ]
      refine wpAnyM_pick (i := 10) (some 28) (v := ?vz10) rfl rfl (by kernel_rfl) (by kernel_rfl) (by kernel_rfl) (by kernel_rfl) (fun _ _ _ h => h) (Or.inl ⟨by rfl, ?hz10⟩) HSW2 ?rz10
      case hz10 => intro w hSw; go_simp; try with_reducible rfl
      try simp only [Act.put, List.setIfInBounds_toArray, List.set_cons_zero, List.set_cons_succ]
      refine wpAnyM_one (i := 11) (by kernel_rfl) rfl (fun K hK => ?_)
      go_simp
      have HO3 : Hid (RowS (w2.setCell ⟨w.heap.size, q, none⟩ (.string (s ++ t))) w.heap.size (.slice (some ⟨w.heap.size, 0, none⟩) M M) (acc L M (k + 1))) := by
        have := HO2.out.set (acc_len _ _ _) (i := q) (s ++ t)
        rw [HS1.out] at this
        exact this
      have HB3 := hid (HB2.out.setCell (p := ⟨w.heap.size, q, none⟩) (Nat.le_refl _) (.string (s ++ t)))
      refine hK.out _ _ (fun h => absurd h (by decide)) ?_
      clear hK K
      refine wpAnyM_done (by kernel_rfl) ?_ _
      try simp only [Act.put, List.setIfInBounds_toArray, List.set_cons_zero, List.set_cons_succ]
      clear HSW2 HO2 HB2 HX2 cw fw HF
      go_wp2_with fail
      go_roundw
      case rel => exact ⟨k + 1, by omega, by go_num, HO3, HB3⟩
      case measure => simp [intOf]; omega
    · have hki : ¬ (k : Int) < (N : Int) := by omega
      obtain rfl : k = N := by omega
      have HT : Hid (L.take k = L) := List.take_of_length_le (by rw [HN.out]; omega)
      have HLen : Hid ((rows L).length = (acc L M k).length) := by show _ = _; rw [HR.out, acc_len]
      go_wp2_with fail
      go_loopw [32] (fun i wr => ∃ j : Nat, j ≤ M ∧ i = .int .i64 (j : Nat) ∧ Hid (RowS wr w.heap.size (.slice (some ⟨w.heap.size, 0, none⟩) M M) ((rows L).take j ++ (acc L M k).drop j)) ∧ Hid (Below w.heap.size w wr)) (fun i _ => M - (intOf i).toNat)
      case atStart => exact ⟨0, Nat.zero_le _, rfl, HO, HB⟩
      case round =>
        obtain ⟨j, hj, rfl, HO5, HB5⟩ := hrel
        clear HO HB
        by_cases hjl : j < M
        · have hji : (j : Int) < (M : Int) := by omega
          obtain ⟨s, hs⟩ : ∃ s, bt (nums (part L j)) = s := ⟨_, rfl⟩
          have hsz : s.size ≤ 256 := by rw [← hs, bt_size, nums_len]; have := part_len L j; omega
          have hsj : ((rows L).take j ++ (acc L M k).drop j)[j]? = some s := by
            rw [mix_at HLen.out (by rw [acc_len]; exact hjl), acc_at hjl, HT.out, hs]
          have hrj : (rows L)[j]? = some (Nu.padOf s 256) := by
            have : j < lb L.length := by rw [← rows_len, HR.out]; exact hjl
            rw [rows_at this, ← hs]
            rfl
          have HST := hid (mix_set HLen.out hrj)
          have HML := hid (mix_len (k := j) HLen.out (by rw [HR.out]; omega))
          rw [acc_len] at HML
          obtain ⟨c0, f0⟩ := HO5.out.at hsj
          have hbk := block_any s hsz wr
          obtain ⟨t, ht⟩ : ∃ t, Nu.padOf s 256 = t := ⟨_, rfl⟩
          rw [ht] at hbk HST
          have HSJ := hid hsj
          clear hs hsj hrj ht
          go_wp2_with (go_at_call 187; refine hbk.mono ?_; clear hbk; rintro e w3 ⟨rfl, hb3⟩; have HO6 := hid (HO5.out.on hb3); have HB6 := hid (HB5.out.trans (hb3.mono HB5.out.size)); obtain ⟨c3, f3⟩ := HO6.out.at HSJ.out; clear hb3 c0 f0 HO5 HB5)
          have HO7 : Hid (RowS (w3.setCell ⟨w.heap.size, j, none⟩ (.string t)) w.heap.size (.slice (some ⟨w.heap.size, 0, none⟩) M M) ((rows L).take (j + 1) ++ (acc L M k).drop (j + 1))) := by
            have := HO6.out.set HML.out (i := j) t
            rw [HST.out] at this
            exact this
          have HB7 := hid (HB6.out.setCell (p := ⟨w.heap.size, j, none⟩) (Nat.le_refl _) (.string t))
          clear HO6 HB6
          go_roundw
          case rel => exact ⟨j + 1, by omega, by go_num, HO7, HB7⟩
          case measure => simp [intOf]; omega
        · have hji : ¬ (j : Int) < (M : Int) := by omega
          obtain rfl : j = M := by omega
          have HO8 : Hid (RowS wr w.heap.size (.slice (some ⟨w.heap.size, 0, none⟩) j j) (rows L)) := by
            have := HO5.out
            rw [List.take_of_length_le (by rw [HR.out]; omega), List.drop_eq_nil_of_le (by rw [acc_len]; omega), List.append_nil] at this
            exact this
          go_wp2_with fail
          go_ret
          exact ⟨_, rfl, HO8.out, HB5.out⟩

/-- the sum, some of the pages gone through -/
def sumK (lst : List ByteArray) (L : List Pg) (k : Nat) : Nat := Nu.more 1 (catB lst ++ catB ((L.take k).map Pg.data))
theorem sumK_lt (lst : List ByteArray) (L : List Pg) (k : Nat) : sumK lst L k < 4294967296 := Nu.more_lt _ _
theorem sumK_zero (lst : List ByteArray) (L : List Pg) : sumK lst L 0 = Nu.more 1 (catB lst) := by
  unfold sumK
  simp [catB]
theorem sumK_step {lst : List ByteArray} {L : List Pg} {k : Nat} {p : Pg} (h : L[k]? = some p) : Nu.more (sumK lst L k) p.data.data.toList = sumK lst L (k + 1) := by
  unfold sumK
  rw [Nu.more_more, take_snoc h, List.map_append, catB_append, List.append_assoc]
  simp [catB]
theorem sumK_all {lst : List ByteArray} {L : List Pg} {k : Nat} (h : L.length ≤ k) : sumK lst L k = sumOf lst L := by
  unfold sumK sumOf
  rw [List.take_of_length_le h]

set_option maxHeartbeats 4000000 in
theorem headOf_any (w : World) (S : Nat → Prop) (B : Nat) (u v : Value) (lst : List ByteArray) (L : List Pg) (hu : RowS w B u lst) (hl : LiesO w S v L) (hn : L.length < 65536) (h1 : lst.length ≤ 100) (h2 : ∀ s ∈ lst, s.size = 256) :
    Calls Tryz.prog 184 #[u, v] w fun e w' => e = .returned (.string (hdB lst L)) ∧ Below w.heap.size w w' := by
  have hj := join_any w B u lst hu h1 h2
  have hsu : ∀ w1, _ := fun w1 => Nu.sum_any (bt (catB lst)) w1 (by rw [bt_size, catB_len h2]; unfold maxLen; omega)
  rw [bt_data, ← sumK_zero lst L] at hsu
  obtain ⟨a, c, e1⟩ := hl.form
  subst e1
  obtain ⟨a', c', e2⟩ := hu.form
  subst e2
  have HL := hid hl
  obtain ⟨N, hN⟩ : ∃ N, L.length = N := ⟨_, rfl⟩
  have HN := hid hN
  rw [hN] at hn ⊢
  have hNw : IntKind.u64.wrap (N : Int) = (N : Int) := by rw [IntKind.wrap_u64]; omega
  have hp2 : ∀ w1, Calls Tryz.prog 230 #[.int .u64 (N : Nat), .int .i64 2] w1 fun e w' => e = .returned (.string (bt (Nu.be N 2))) ∧ Below w1.heap.size w1 w' := fun w1 => put_any N 2 (by omega) (by omega) (by omega) w1
  obtain ⟨t, ht⟩ : ∃ t, bt (Nu.be N 2) = t := ⟨_, rfl⟩
  have htz : t.size = 2 := by rw [← ht, bt_size, Nu.be_length]
  have HT := hid ht
  rw [ht] at hp2
  obtain ⟨J, hJ⟩ : ∃ J, bt (catB lst) = J := ⟨_, rfl⟩
  rw [hJ] at hj hsu
  clear hl hu hN ht hJ
  obtain ⟨n', hn'⟩ : ∃ n', lst.length = n' := ⟨_, rfl⟩
  rw [hn'] at hj ⊢
  clear hn' h1 h2
  go_enter Tryz.func184, Tryz.ntmps184
  go_wp2_with (first
    | (go_at_call 232; refine hj.mono ?_; clear hj; rintro e w1 ⟨rfl, hb1⟩; have HB1 := hid hb1; clear hb1)
    | (go_at_call 231; refine (hsu _).mono ?_; clear hsu; rintro e w2 ⟨rfl, rfl⟩))
  go_loopw [5, 13] (fun x i wr => ∃ (k s : Nat), k ≤ N ∧ i = .int .i64 (k : Nat) ∧ x = .int .u32 (s : Nat) ∧ Hid (sumK lst L k = s) ∧ Hid (Below w.heap.size w wr)) (fun _ i _ => N - (intOf i).toNat)
  case atStart => exact ⟨0, _, Nat.zero_le _, rfl, rfl, (rfl : sumK lst L 0 = _), HB1⟩
  case round =>
    obtain ⟨k, s, hk, rfl, rfl, HS, HB⟩ := hrel
    clear HB1
    have hs : s < 4294967296 := by rw [← HS.out]; exact sumK_lt _ _ _
    by_cases hlt : k < N
    · have hki : (k : Int) < (N : Int) := by omega
      obtain ⟨p, hp⟩ : ∃ p, L[k]? = some p := ⟨_, List.getElem?_eq_getElem (by rw [HN.out]; exact hlt)⟩
      obtain ⟨b, off, hab, hblt, _, cp0, cp1, _, hpd⟩ := (HL.out.on HB.out).at hp
      subst hab
      have HST := hid (sumK_step (lst := lst) hp)
      rw [HS.out] at HST
      have hmo : ∀ w1, _ := fun w1 => Nu.more_any s p.data w1 hs hpd
      obtain ⟨x, hx⟩ : ∃ x, Nu.more s p.data.data.toList = x := ⟨_, rfl⟩
      rw [hx] at hmo HST
      obtain ⟨pl, data⟩ := p
      simp only at cp0 cp1 hmo
      have HB2 := hid (HB.out.alloc HB.out.size (.cells #[.int .i64 pl, .string data] 110))
      clear hp hx HS HB hpd
      go_wp2_with (go_at_call 233; refine (hmo _).mono ?_; clear hmo; rintro e w2 ⟨rfl, rfl⟩)
      go_roundw
      case rel => exact ⟨k + 1, x, by omega, by go_num, by go_num, HST.out.symm, HB2⟩
      case measure => simp [intOf]; omega
    · have hki : ¬ (k : Int) < (N : Int) := by omega
      obtain rfl : k = N := by omega
      rw [sumK_all (by rw [HN.out]; omega)] at HS
      have hp4 : ∀ w1, Calls Tryz.prog 230 #[.int .u64 (s : Nat), .int .i64 4] w1 fun e w' => e = .returned (.string (bt (Nu.be s 4))) ∧ Below w1.heap.size w1 w' := fun w1 => put_any s 4 (by omega) (by omega) (by omega) w1
      obtain ⟨r, hr⟩ : ∃ r, bt (Nu.be s 4) = r := ⟨_, rfl⟩
      have hrz : r.size = 4 := by rw [← hr, bt_size, Nu.be_length]
      have HR := hid hr
      rw [hr] at hp4
      have hz : (((⟨#[106, 114, 110, 108]⟩ : ByteArray) ++ t) ++ r).size ≤ 256 := by
        rw [ByteArray.size_append, ByteArray.size_append, htz, hrz]
        decide
      have hbk : ∀ w1, _ := fun w1 => block_any (((⟨#[106, 114, 110, 108]⟩ : ByteArray) ++ t) ++ r) hz w1
      have HE : Hid (Nu.padOf (((⟨#[106, 114, 110, 108]⟩ : ByteArray) ++ t) ++ r) 256 = hdB lst L) := by
        show _ = _
        rw [← HT.out, ← HR.out, show (⟨#[106, 114, 110, 108]⟩ : ByteArray) = bt [106, 114, 110, 108] from rfl, bt_append, bt_append, ← HS.out, ← HN.out]
        rfl
      rw [HE.out] at hbk
      clear hr hz
      go_wp2_with (first
        | (go_at_call 230; refine (hp2 _).mono ?_; clear hp2; rintro e w3 ⟨rfl, hb3⟩; have HB3 := hid (HB.out.trans (hb3.mono HB.out.size)); clear hb3)
        | (go_at_call 230; refine ((fun (h : Hid (Below w.heap.size w w3)) => hp4 _) HB3).mono ?_; clear hp4; rintro e w4 ⟨rfl, hb4⟩; have HB4 := hid (HB3.out.trans (hb4.mono HB3.out.size)); clear hb4)
        | (go_at_call 187; refine (hbk _).mono ?_; clear hbk; rintro e w5 ⟨rfl, hb5⟩; have HB5 := hid (HB4.out.trans (hb5.mono HB4.out.size)); clear hb5))
      go_ret
      exact ⟨rfl, HB5.out⟩

end Go.Proofs.YtjcbaiohpdihoaaGreatDoor
