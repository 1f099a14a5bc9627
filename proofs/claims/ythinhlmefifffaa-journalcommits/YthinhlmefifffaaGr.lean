/-
  What the law's group and pages answer.
-/
import Derived.Test.YthinhlmefifffaaLa
namespace Go.Proofs.Ythinhlmefifffaa
open Go.RowKit Go.Shelf
set_option linter.unusedVariables false
set_option linter.unusedSimpArgs false
set_option maxRecDepth 100000

/-- the page that the text number i is written to -/
def gAt (N i : Nat) : Nat := if i = 0 then 0 else frs N + i - 1
/-- a group of texts -/
def grpT (N : Nat) (T : List ByteArray) : List Pg := (T.take (pgs N)).mapIdx fun i s => ⟨((gAt N i : Nat) : Int), blk s⟩
theorem grpT_len (N : Nat) (T : List ByteArray) : (grpT N T).length = min (pgs N) T.length := by simp [grpT]
theorem grpT_at {N i : Nat} {T : List ByteArray} {s : ByteArray} (hi : i < pgs N) (h : T[i]? = some s) : (grpT N T)[i]? = some ⟨((gAt N i : Nat) : Int), blk s⟩ := by
  unfold grpT
  rw [List.getElem?_mapIdx, List.getElem?_take, if_pos hi, h]
  rfl
theorem grpT_gp {N : Nat} (h1 : 64 ≤ N) (h2 : N ≤ 2048) (T : List ByteArray) : Gp N (grpT N T) := by
  have hp := pgs_lo h1
  have hat : ∀ i p, (grpT N T)[i]? = some p → i < pgs N ∧ ∃ s, p = ⟨((gAt N i : Nat) : Int), blk s⟩ := fun i p h => by
    have hlt := (List.getElem?_eq_some_iff.1 h).1
    rw [grpT_len] at hlt
    obtain ⟨s, hs⟩ : ∃ s, T[i]? = some s := ⟨_, List.getElem?_eq_getElem (by omega)⟩
    rw [grpT_at (by omega) hs] at h
    exact ⟨by omega, s, (Option.some.inj h).symm⟩
  refine ⟨h1, h2, by rw [grpT_len]; omega, fun p hp' => ?_, ?_⟩
  · obtain ⟨i, hi⟩ := List.mem_iff_getElem?.1 hp'
    obtain ⟨hlt, s, rfl⟩ := hat i p hi
    refine ⟨?_, blk_size s⟩
    show isPg N ((gAt N i : Nat) : Int)
    unfold isPg gAt
    by_cases h0 : i = 0
    · rw [if_pos h0]; exact .inl rfl
    · rw [if_neg h0]; refine .inr ?_; omega
  · rw [List.nodup_iff_pairwise_ne, List.pairwise_iff_getElem]
    intro i j hi hj hij
    rw [List.length_map] at hi hj
    obtain ⟨l1, s1, e1⟩ := hat i _ (List.getElem?_eq_getElem hi)
    obtain ⟨l2, s2, e2⟩ := hat j _ (List.getElem?_eq_getElem hj)
    rw [List.getElem_map, List.getElem_map, e1, e2]
    show ((gAt N i : Nat) : Int) ≠ ((gAt N j : Nat) : Int)
    unfold gAt frs
    rw [if_neg (show ¬ j = 0 by omega)]
    split <;> omega
theorem grpT_snoc {N i : Nat} {T : List ByteArray} {s : ByteArray} (hi : i < pgs N) (h : T[i]? = some s) : grpT N (T.take (i + 1)) = grpT N (T.take i) ++ [⟨((gAt N i : Nat) : Int), blk s⟩] := by
  have hl := (List.getElem?_eq_some_iff.1 h).1
  unfold grpT
  rw [take_snoc h, List.take_append, List.length_take, List.mapIdx_append, List.length_take, List.length_take, Nat.min_eq_left (show i ≤ T.length by omega), Nat.min_eq_right (show i ≤ pgs N by omega)]
  obtain ⟨r, hr⟩ : ∃ r, pgs N - i = r + 1 := ⟨pgs N - i - 1, by omega⟩
  rw [hr]
  simp
theorem grpT_all {N i : Nat} {T : List ByteArray} (h : T.length ≤ i ∨ pgs N ≤ i) : grpT N (T.take i) = grpT N T := by
  unfold grpT
  rw [List.take_take]
  rcases h with h | h
  · by_cases hp : pgs N ≤ i
    · rw [Nat.min_eq_left hp]
    · rw [Nat.min_eq_right (by omega), List.take_of_length_le h, List.take_of_length_le (by omega)]
  · rw [Nat.min_eq_left h]

set_option maxHeartbeats 4000000 in
theorem group_any (n : Int) (v : Value) (T : List ByteArray) (w : World) (hv : LiesX w v T) :
    Calls Try.prog 27 #[.int .i64 n, v] w fun e w' => ∃ v', e = .returned v' ∧ RowP w' w.heap.size v' (grpT (szN n) T) ∧ Below w.heap.size w w' := by
  obtain ⟨i0, hi, hz0, hz1, hz2⟩ := info_parts info54
  have hsz : ∀ w1, _ := fun w1 => size_any n w1
  have l1 := szN_lo n
  have l2 := szN_hi n
  have hpg : ∀ w1, _ := fun w1 => rPages_any (szN n) l1 (by omega) w1
  have hfr : ∀ w1, _ := fun w1 => rFirst_any (szN n) l1 (by omega) w1
  have b2 := pgs_hi (show szN n ≤ 2048 by omega)
  have b3 := frs_end l1
  obtain ⟨a, c, e1⟩ := hv.form
  subst e1
  have HV := hid hv
  obtain ⟨N, hN⟩ : ∃ N, szN n = N := ⟨_, rfl⟩
  rw [hN] at hsz hpg hfr l1 l2 b2 b3 ⊢
  have HLT : Hid (T.length ≤ maxLen) := by obtain ⟨_, _, _, h2, h3, _⟩ := hv; exact Nat.le_trans h2 h3
  obtain ⟨M, hM⟩ : ∃ M, T.length = M := ⟨_, rfl⟩
  have HM := hid hM
  have hMb : M ≤ 9223372036854775807 := by have := HLT.out; unfold maxLen at this; omega
  rw [hM]
  obtain ⟨q, hq⟩ : ∃ q, pgs N = q := ⟨_, rfl⟩
  have HQ := hid hq
  rw [hq] at hpg b2 b3
  have HGA : Hid (∀ i, gAt N i = if i = 0 then 0 else frs N + i - 1) := fun i => rfl
  obtain ⟨r, hr⟩ : ∃ r, frs N = r := ⟨_, rfl⟩
  rw [hr] at hfr b3 HGA
  have hr2 : 2 ≤ r := by rw [← hr]; unfold frs; omega
  clear hv hM hN hq hr HLT
  go_enter Try.func27, Try.ntmps27
  go_wp2_with (first
    | (go_at_call 37; refine (hsz _).mono ?_; rintro e w1 ⟨rfl, rfl⟩)
    | (go_at_call 12; refine (hpg _).mono ?_; clear hpg; rintro e w1 ⟨rfl, rfl⟩)
    | (go_at_call 13; refine (hfr _).mono ?_; clear hfr; rintro e w1 ⟨rfl, rfl⟩))
  clear hsz
  have HG0 : Hid (RowP w w.heap.size (.slice none 0 0) (grpT N (T.take 0))) := by
    refine hid ?_
    have h0 : grpT N (T.take 0) = [] := by simp [grpT]
    rw [h0]
    exact World.ownsRow_nil _ _ _ _
  go_loopw [5, 8] (fun x i wr => ∃ (j : Nat) (ba : Option Addr) (bc : Nat), (j ≤ M ∧ j ≤ q) ∧ i = .int .i64 (j : Nat) ∧ x = .slice ba j bc ∧ Hid (RowP wr w.heap.size (.slice ba j bc) (grpT N (T.take j))) ∧ Hid (Below w.heap.size w wr)) (fun _ i _ => q - (intOf i).toNat)
  case atStart => exact ⟨0, none, 0, ⟨Nat.zero_le _, Nat.zero_le _⟩, rfl, rfl, HG0, Below.refl _ w⟩
  case round =>
    obtain ⟨j, ba, bc, ⟨hj1, hj2⟩, rfl, rfl, HR, HB⟩ := hrel
    have HL : Hid ((grpT N (T.take j)).length = j) := by show _ = _; rw [grpT_len, List.length_take, HQ.out, HM.out]; omega
    by_cases h1 : j < M
    · have h1d : decide ((j : Int) < (M : Int)) = true := decide_eq_true (by omega)
      by_cases h2 : j < q
      · have h2d : decide ((j : Int) < (q : Int)) = true := decide_eq_true (by omega)
        obtain ⟨s, hs⟩ : ∃ s, T[j]? = some s := ⟨_, List.getElem?_eq_getElem (by rw [HM.out]; exact h1)⟩
        have HSN := hid (grpT_snoc (N := N) (by rw [HQ.out]; exact h2) hs)
        obtain ⟨b, off, hab, hblt, cs, hsz2⟩ := HV.out.at hs
        subst hab
        have cs1 : wr.cell? ⟨b, off + j, none⟩ = some (.string s) := (HB.out.cell (p := ⟨b, off + j, none⟩) hblt).trans cs
        have hbk : ∀ w5, _ := fun w5 => lBlock_any s hsz2 w5
        obtain ⟨t, ht⟩ : ∃ t, blk s = t := ⟨_, rfl⟩
        rw [ht] at hbk HSN
        clear hs ht cs
        by_cases h0 : j = 0
        · rw [HGA.out j, if_pos h0] at HSN
          have h0b : ((j : Int) == 0) = true := by simp; exact h0
          clear h0
          go_wp2_with (first
            | (go_at_call 32; refine (hbk _).mono ?_; clear hbk; rintro e w1 ⟨rfl, hb1⟩; have HR1 := hid (HR.out.on hb1); have HB1 := hid (HB.out.trans (hb1.mono HB.out.size)); clear hb1)
            | (at_builtin; refine wpList_append_blk _ rfl (.tmp 33) (.tmp 41) 25 rfl w.heap.size 54 i0 (.agg #[.int .i64 0, .string ⟨#[]⟩]) 2 24 Try.underlying25 hi hz0 hz1 hz2 rfl (by decide) _ j (flatP (grpT N (T.take j))) rfl (by have h := HR1.out.alloc (.cells #[.int .i64 0, .string t] 54); rw [HL.out] at h; exact h) ⟨w1.heap.size, 0, none⟩ 1 1 [.int .i64 0, .string t] rfl rfl (cells_two w1 _ _ 54) ?c2 (by decide) ?c3 ?c4 ?c5 ?_))
          case c2 => intro u hu; simp at hu; rcases hu with rfl | rfl <;> rfl
          case c3 => unfold maxLen; omega
          case c4 => omega
          case c5 => have := HB1.out.size; simp; omega
          intro v' w2 hown' hgrow hmv
          have HB2 := hid ((HB1.out.alloc HB1.out.size (.cells #[.int .i64 0, .string t] 54)).grown hgrow (by have := HB1.out.size; simp; omega) (fun g hg => by have h := HR1.out; exact ((h : w1.ownsRow w.heap.size 54 2 _ _ _).lt g hg).1))
          have HR2 : Hid (RowP w2 w.heap.size v' (grpT N (T.take (j + 1)))) := by
            refine hid ?_
            unfold RowP
            rw [HSN.out, flatP_append, List.length_append, HL.out]
            exact hown'
          obtain ⟨va, vc, hv'⟩ := own_form hown'
          subst hv'
          clear hown' hgrow hmv HR HB cs1 HR1 HB1
          go_wp2_with fail
          go_roundw
          case rel => exact ⟨j + 1, va, vc, ⟨by omega, by omega⟩, by go_num, rfl, HR2, HB2⟩
          case measure => simp [intOf]; omega
        · have h0b : ((j : Int) == 0) = false := by simp; omega
          rw [HGA.out j, if_neg h0] at HSN
          obtain ⟨x, hx⟩ : ∃ x : Nat, r + j - 1 = x := ⟨_, rfl⟩
          have hxi : (r : Int) + (j : Int) - 1 = (x : Int) := by omega
          rw [hx] at HSN
          clear hx
          go_wp2_with (first
            | (go_at_call 32; refine (hbk _).mono ?_; clear hbk; rintro e w1 ⟨rfl, hb1⟩; have HR1 := hid (HR.out.on hb1); have HB1 := hid (HB.out.trans (hb1.mono HB.out.size)); clear hb1)
            | (at_builtin; refine wpList_append_blk _ rfl (.tmp 33) (.tmp 41) 25 rfl w.heap.size 54 i0 (.agg #[.int .i64 0, .string ⟨#[]⟩]) 2 24 Try.underlying25 hi hz0 hz1 hz2 rfl (by decide) _ j (flatP (grpT N (T.take j))) rfl (by have h := HR1.out.alloc (.cells #[.int .i64 (x : Nat), .string t] 54); rw [HL.out] at h; exact h) ⟨w1.heap.size, 0, none⟩ 1 1 [.int .i64 (x : Nat), .string t] rfl rfl (cells_two w1 _ _ 54) ?c2 (by decide) ?c3 ?c4 ?c5 ?_))
          case c2 => intro u hu; simp at hu; rcases hu with rfl | rfl <;> rfl
          case c3 => unfold maxLen; omega
          case c4 => omega
          case c5 => have := HB1.out.size; simp; omega
          intro v' w2 hown' hgrow hmv
          have HB2 := hid ((HB1.out.alloc HB1.out.size (.cells #[.int .i64 (x : Nat), .string t] 54)).grown hgrow (by have := HB1.out.size; simp; omega) (fun g hg => by have h := HR1.out; exact ((h : w1.ownsRow w.heap.size 54 2 _ _ _).lt g hg).1))
          have HR2 : Hid (RowP w2 w.heap.size v' (grpT N (T.take (j + 1)))) := by
            refine hid ?_
            unfold RowP
            rw [HSN.out, flatP_append, List.length_append, HL.out]
            exact hown'
          obtain ⟨va, vc, hv'⟩ := own_form hown'
          subst hv'
          clear hown' hgrow hmv HR HB cs1 HR1 HB1
          go_wp2_with fail
          go_roundw
          case rel => exact ⟨j + 1, va, vc, ⟨by omega, by omega⟩, by go_num, rfl, HR2, HB2⟩
          case measure => simp [intOf]; omega
      · have h2d : decide ((j : Int) < (q : Int)) = false := decide_eq_false (by omega)
        rw [grpT_all (.inr (by rw [HQ.out]; omega))] at HR
        go_wp2_with fail
        go_ret
        exact ⟨_, rfl, HR.out, HB.out⟩
    · have h1d : decide ((j : Int) < (M : Int)) = false := decide_eq_false (by omega)
      rw [grpT_all (.inl (by rw [HM.out]; omega))] at HR
      go_wp2_with fail
      go_ret
      exact ⟨_, rfl, HR.out, HB.out⟩

theorem pgB_take {bs : List ByteArray} {s : ByteArray} (h : bs[0]? = some s) : pgB bs = [s] ++ cutB bs (frs bs.length) (pgs bs.length - 1) := by
  unfold pgB
  rw [show (1 : Nat) = 0 + 1 from rfl, take_snoc h]
  rfl
theorem pgB_len {bs : List ByteArray} (h1 : 64 ≤ bs.length) : (pgB bs).length = 1 + (pgs bs.length - 1) := by
  unfold pgB
  have := frs_end h1
  have := pgs_lo h1
  rw [List.length_append, cutB_len (by omega), List.length_take]
  omega

set_option maxHeartbeats 4000000 in
theorem pagesL_any (w : World) (B : Nat) (v : Value) (bs : List ByteArray) (hv : RowS w B v bs) (h1 : 64 ≤ bs.length) (h2 : bs.length ≤ 2048) :
    Calls Try.prog 30 #[v] w fun e w' => ∃ v', e = .returned v' ∧ RowS w' w.heap.size v' (pgB bs) ∧ Below w.heap.size w w' := by
  obtain ⟨i0, hi, hz0, hz1, hz2⟩ := info_parts info9
  have hpg : ∀ w1, _ := fun w1 => rPages_any bs.length h1 h2 w1
  have hfr : ∀ w1, _ := fun w1 => rFirst_any bs.length h1 h2 w1
  have b1 := pgs_lo h1
  have b3 := frs_end h1
  obtain ⟨s, hs⟩ : ∃ s, bs[0]? = some s := ⟨_, List.getElem?_eq_getElem (by omega)⟩
  have HPB := hid (pgB_take hs)
  have HPL := hid (pgB_len h1)
  obtain ⟨g, c, hvv, hc1, hc2, hBg, hgl⟩ := own_some hv (by omega)
  subst hvv
  have c0 : w.cell? ⟨g, 0, none⟩ = some (.string s) := (hv.at hs).1
  have HSR : Hid (∀ j u, (flatS (cutB bs (frs bs.length) (pgs bs.length - 1)))[j]? = some u → (w.alloc (.cells #[.string s] 9)).cell? ((⟨g, frs bs.length, none⟩ : Addr).add j) = some u) := fun j u hj => by
    rw [add_plain]
    have hlt : j < pgs bs.length - 1 := by
      have := (List.getElem?_eq_some_iff.1 hj).1
      rw [flatS_length, cutB_len (by omega)] at this
      omega
    have hx : bs[frs bs.length + j]? = some (bs[frs bs.length + j]'(by omega)) := List.getElem?_eq_getElem _
    rw [flatS_at (show (cutB bs (frs bs.length) (pgs bs.length - 1))[j]? = _ from (cutB_at hlt).trans hx)] at hj
    cases hj
    exact ((Below.refl _ w).alloc (Nat.le_refl _) _ |>.cell (p := ⟨g, frs bs.length + j, none⟩) hgl).trans (hv.at hx).1
  have hll : (flatS (cutB bs (frs bs.length) (pgs bs.length - 1))).length = (pgs bs.length - 1) * 1 := by rw [flatS_length, cutB_len (by omega)]
  obtain ⟨X, hX⟩ : ∃ X, cutB bs (frs bs.length) (pgs bs.length - 1) = X := ⟨_, rfl⟩
  rw [hX] at HPB HSR hll
  obtain ⟨N, hN⟩ : ∃ N, bs.length = N := ⟨_, rfl⟩
  rw [hN] at hpg hfr b1 b3 HPL HSR hll h1 h2 hc1 ⊢
  obtain ⟨q, hq⟩ : ∃ q, pgs N = q := ⟨_, rfl⟩
  rw [hq] at hpg b1 b3 HPL hll
  obtain ⟨r, hr⟩ : ∃ r, frs N = r := ⟨_, rfl⟩
  rw [hr] at hfr b3 HSR
  obtain ⟨y, hy⟩ : ∃ y, q - 1 = y := ⟨_, rfl⟩
  rw [hy] at hll HPL
  have hyi : (r : Int) + (q : Int) - 1 - (r : Int) = (y : Int) := by omega
  have hyn : (r + q - 1) - r = y := by omega
  have hy0 : 0 < y := by omega
  have hyb : y ≤ 2048 := by omega
  have hcb : (c : Int) ≤ 9223372036854775807 := by unfold maxLen at hc2; omega
  clear hX hN hq hr hv hs
  go_enter Try.func30, Try.ntmps30
  go_wp2_with (first
    | (go_at_call 12; refine (hpg _).mono ?_; rintro e w1 ⟨rfl, rfl⟩)
    | (go_at_call 13; refine (hfr _).mono ?_; rintro e w1 ⟨rfl, rfl⟩)
    | (at_builtin; refine wpList_append_blk _ rfl (.tmp 11) (.tmp 21) 37 rfl w.heap.size 9 i0 (.string ⟨#[]⟩) 1 16 Try.underlying37 hi hz0 hz1 hz2 rfl (by decide) _ 1 [.string s] rfl (World.ownsRow_lit (base := w.heap.size) (e := 9) (size := 1) w #[.string s] 1 (Nat.le_refl _) (by decide) rfl) ⟨g, r, none⟩ y (c - r) (flatS X) ?c0 hll HSR.out (flatS_one _) ?c2 ?c3 ?c4 ?c5 ?_))
  case c0 => rw [← hyn]; rfl
  case c2 => exact hy0
  case c3 => unfold maxLen; omega
  case c4 => omega
  case c5 => simp
  intro v' w2 hown' hgrow hmv
  have HB2 := hid (((Below.refl _ w).alloc (Nat.le_refl _) (.cells #[.string s] 9)).grown hgrow (by simp) (fun g hg => by simp [Value.ownBlock] at hg; omega))
  have HR2 : Hid (RowS w2 w.heap.size v' (pgB bs)) := by
    refine hid ?_
    unfold RowS
    rw [HPL.out, HPB.out, flatS_append]
    exact hown'
  obtain ⟨va, vc, hv'⟩ := own_form hown'
  subst hv'
  clear hown' hgrow hmv c0
  go_wp2_with fail
  go_ret
  exact ⟨_, rfl, HR2.out, HB2.out⟩

end Go.Proofs.Ythinhlmefifffaa
