/-
  Wherever the power fails in a group, and again while that is put right: in the end all pages are as they were, or all as they were to be; no condition.
-/
import Derived.Test.YthinhlmefifffaaRows
import Derived.Test.YthinhlmefifffaaLc
import Derived.ProofKit
import Derived.OpenShut
import Derived.ShutString
import Derived.ChangeOld
import Derived.Below
import Derived.SizedLaws
import Derived.Lib.SmallJoins
namespace Go.Proofs.Ythinhlmefifffaa
open Go.ChangeShapes Go.WideShapes Go.ChangeAt Go.RowKit Go.Joins
open Go.ChangeMaps (open_string shut_string)
set_option linter.unusedVariables false
set_option linter.unusedSimpArgs false
set_option maxRecDepth 100000

theorem lies_lays (w1 : World) (a b : Int) (s t : ByteArray) (ha : -9223372036854775808 ≤ a ∧ a ≤ 9223372036854775807) (hb : -9223372036854775808 ≤ b ∧ b ≤ 9223372036854775807) (hs : s.size ≤ maxLen) (ht : t.size ≤ maxLen) :
    LiesO (w1.alloc (.cells #[.int .i64 a, .string s, .int .i64 b, .string t] 52)) (fun _ => False) (.slice (some ⟨w1.heap.size, 0, none⟩) 2 2) [⟨a, s⟩, ⟨b, t⟩] := by
  have hX := Blk.made w1 #[.int .i64 a, .string s, .int .i64 b, .string t] 52
  refine ⟨_, 2, rfl, Nat.le_refl _, by decide, fun k p hp => ?_⟩
  match k, hp with
  | 0, hp => cases hp; exact ⟨_, 0, rfl, hX.lt, fun h => h, hX.cell rfl, hX.cell rfl, ha, hs⟩
  | 1, hp => cases hp; exact ⟨_, 0, rfl, hX.lt, fun h => h, hX.cell rfl, hX.cell rfl, hb, ht⟩
  | k + 2, hp => simp at hp
def olds : List Pg := [⟨0, ⟨#[111, 108, 100]⟩⟩, ⟨40, ⟨#[111, 108, 100]⟩⟩]
theorem olds_Z {N : Nat} (h : 64 ≤ N) : (layK N olds)[1]? = some Z := by
  have e0 : layAt N 0 = 0 := by unfold layAt; rw [IntKind.wrap_u64]; simp
  have e1 : layAt N 40 = 40 := by
    unfold layAt
    rw [IntKind.wrap_u64]
    have : (40 : Int) % 18446744073709551616 % (N : Int) = 40 := by
      rw [show (40 : Int) % 18446744073709551616 = 40 by decide]
      exact Int.emod_eq_of_lt (by omega) (by omega)
    rw [this]
    rfl
  show (((List.replicate N Z).set (layAt N 0) _).set (layAt N 40) _)[1]? = _
  rw [e0, e1, List.getElem?_set_ne (by omega), List.getElem?_set_ne (by omega), List.getElem?_replicate, if_pos (by omega)]
/-- how the disk stands behind j cuts -/
structure CutS (N : Nat) (L : List Pg) (b0 : List ByteArray) (j : Nat) (wh : Bool) (d : Ds) : Prop where
  dn : d.dn = false
  lf : d.lf = -1
  lg : d.lg.length ≤ 600 * j
  zero : j = 0 → d.bs = b0 ∧ wh = decide (L = [])
  more : 0 < j → Stg N L b0 d.bs wh
theorem CutS.fin {N : Nat} {L : List Pg} {b0 : List ByteArray} {j : Nat} {wh : Bool} {d : Ds} (h : CutS N L b0 j wh d) (hg : Gp N L) (hb : b0.length = N) (hz : b0[1]? = some Z) :
    ∃ r1 d4, recv d = (r1, 0, d4) ∧ recv d4 = (0, 0, d4) ∧ Old N (if j = 0 ∨ wh = false then b0 else appl b0 L) d4.bs ∧ d4.lg.length ≤ d.lg.length + L.length + 1 := by
  by_cases hj : j = 0
  · obtain ⟨e1, _⟩ := h.zero hj
    have ho : Old N b0 d.bs := by rw [e1]; exact ⟨hz, PgEq.refl hb⟩
    refine ⟨0, d, recv_none h.dn ho.zero, recv_none h.dn ho.zero, ?_, by omega⟩
    rw [if_pos (.inl hj)]
    exact ho
  · obtain ⟨e1, e2, e3, e4, e5⟩ := stg_end hg hb (h.more (by omega)) h.dn (by rw [h.lf]; decide)
    refine ⟨(recv d).1, (recv d).2.2, ?_, recv_none e2 e4.zero, ?_, e5⟩
    · rw [← e1]
    · cases wh with
      | true => rw [if_neg (by simp [hj])]; simpa using e4
      | false => rw [if_pos (.inr rfl)]; simpa using e4
theorem CutS.first {N : Nat} {L : List Pg} {b0 : List ByteArray} {wh : Bool} {d : Ds} (h : CutS N L b0 0 wh d) (hg : Gp N L) (hb : b0.length = N) (hz : b0[1]? = some Z) (h3 : 3 * L.length + lb L.length + 3 ≤ 600) (c : Nat) :
    ((cmt (d.cut c) L).1 = 0 ↔ (L = [] ∨ 2 * L.length + lb L.length + 2 ≤ c)) ∧ CutS N L b0 1 (wh || decide (L.length + lb L.length < c)) (cmt (d.cut c) L).2.res := by
  obtain ⟨e1, e2⟩ := h.zero rfl
  obtain ⟨s1, s2, s3⟩ := stg_cmt hg hb hz e1 h.dn c
  refine ⟨s1, rfl, rfl, ?_, fun h => by omega, fun _ => ?_⟩
  · show (cmt (d.cut c) L).2.lg.length ≤ _
    have := h.lg
    omega
  · rw [e2]; exact s2
theorem CutS.step {N : Nat} {L : List Pg} {b0 : List ByteArray} {j : Nat} {wh : Bool} {d : Ds} (h : CutS N L b0 j wh d) (hj : 0 < j) (hg : Gp N L) (hb : b0.length = N) (h3 : 3 * L.length + lb L.length + 3 ≤ 600) (c : Nat) : CutS N L b0 (j + 1) wh (recv (d.cut c)).2.2.res := by
  obtain ⟨s1, s2⟩ := stg_rec hg hb (h.more hj) h.dn c
  refine ⟨rfl, rfl, ?_, fun h => by omega, fun _ => s1⟩
  show (recv (d.cut c)).2.2.lg.length ≤ _
  have := h.lg
  omega

set_option maxHeartbeats 16000000 in
theorem journalCuts_walk (n : Int) (v1 : Value) (T : List ByteArray) (v2 : Value) (U : List Nat) (wf : (Lit.int .i64 n).wf = true) (w : World) (hT : LiesX w v1 T) (zT : T.length * 16 ≤ 140737488351232) (hU : LiesU w v2 U) (zU : True) :
    Calls Try.prog 6 #[.int .i64 n, v1, v2] w fun e w' => e = .returned (.bool true) ∧ Below w.heap.size w w' := by
  have hwk := wakes_any w
  have l1 := szN_lo n
  have l2 := szN_hi n
  have hg : Gp (szN n) (grpT (szN n) T) := grpT_gp l1 (by omega) T
  have hgl := grpT_len (szN n) T
  have hq : pgs (szN n) ≤ 180 := by unfold pgs; omega
  have HGR : Hid (∀ w1, Below w.heap.size w w1 → Calls Try.prog 27 #[.int .i64 n, v1] w1 fun e w' => ∃ v', e = .returned v' ∧ RowP w' w1.heap.size v' (grpT (szN n) T) ∧ Below w1.heap.size w1 w') := fun w1 hb => group_any n v1 T w1 (hT.on hb)
  have HLA : Hid (∀ w1 : World, Calls Try.prog 14 #[.int .i64 n, .slice (some ⟨w1.heap.size, 0, none⟩) 2 2] (w1.alloc (.cells #[.int .i64 0, .string ⟨#[111, 108, 100]⟩, .int .i64 40, .string ⟨#[111, 108, 100]⟩] 52)) fun e w' => ∃ k k', e = .returned (.tuple #[.pointer (some ⟨k, 0, none⟩), .pointer (some ⟨k', 0, none⟩)]) ∧ Tw (w1.alloc (.cells #[.int .i64 0, .string ⟨#[111, 108, 100]⟩, .int .i64 40, .string ⟨#[111, 108, 100]⟩] 52)) w' k k' ⟨layK (szN n) olds, [], -1, false⟩ ⟨layK (szN n) olds, [], -1, false⟩) := fun w1 => laid_any n _ olds _ (lies_lays w1 0 40 _ _ (by omega) (by omega) (by decide) (by decide))
  have hb0 := layK_len (szN n) olds
  have hbz := olds_Z l1
  obtain ⟨a1, c1, e1⟩ := hT.form
  subst e1
  obtain ⟨a2, c2, e2⟩ := hU.form
  subst e2
  have HU := hid hU
  have hUl := hU.len
  unfold maxLen at hUl
  obtain ⟨b0, hB0⟩ : ∃ b0, layK (szN n) olds = b0 := ⟨_, rfl⟩
  rw [hB0] at HLA hb0 hbz
  obtain ⟨L, hL⟩ : ∃ L, grpT (szN n) T = L := ⟨_, rfl⟩
  rw [hL] at hg hgl HGR
  obtain ⟨N, hN⟩ : ∃ N, szN n = N := ⟨_, rfl⟩
  rw [hN] at l1 l2 hg hgl hq hb0
  obtain ⟨q0, hq0⟩ : ∃ q0, T.length = q0 := ⟨_, rfl⟩
  rw [hq0] at hgl HGR ⊢
  have HG := hid hg
  have HB0 := hid hb0
  have HBZ := hid hbz
  obtain ⟨m, hm⟩ : ∃ m, L.length = m := ⟨_, rfl⟩
  have HM := hid hm
  rw [hm] at hgl
  have hmb : m ≤ 180 := by omega
  obtain ⟨u, hu⟩ : ∃ u, U.length = u := ⟨_, rfl⟩
  have HUN := hid hu
  rw [hu] at hUl ⊢
  have hrw : ∀ w1, _ := fun w1 => rRows_any m (by omega) w1
  obtain ⟨y, hy⟩ : ∃ y, lb m = y := ⟨_, rfl⟩
  have hyb : y ≤ 2 := by rw [← hy]; unfold lb; omega
  have HY := hid hy
  rw [hy] at hrw
  have H36 : Hid (3 * L.length + lb L.length + 3 ≤ 600) := by show _ ≤ _; rw [hm, hy]; omega
  clear hT zT hU zU hg hgl hb0 hbz hB0 hL hN hq0 hm hu hy hq wf
  go_enter Try.func6, Try.ntmps6
  go_wp2_with (first
    | (go_at_call 9; refine hwk.mono ?_; clear hwk; rintro e w1 ⟨rfl, hb1⟩; have HB1 := hid hb1; clear hb1)
    | (go_at_call 27; refine (HGR.out _ HB1.out).mono ?_; clear HGR; rintro e w2 ⟨gv, rfl, hr2, hb2⟩; have HR2 := hid hr2; have HB2 := hid (HB1.out.trans (hb2.mono HB1.out.size)); obtain ⟨ga, gc, hgv⟩ := hr2.form; rw [HM.out] at hgv; subst hgv; clear hr2 hb2 HB1)
    | (go_at_call 14; refine (HLA.out _).mono ?_; clear HLA; rintro e w3 ⟨k, k', rfl, h3⟩; have H3 := hid h3; clear h3))
  obtain ⟨S, HS⟩ : ∃ S, Hid (Dk w3 S k ⟨b0, [], -1, false⟩ ∧ (∀ j, S j → w2.heap.size + 1 ≤ j) ∧ Below w2.heap.size w2 w3) := by
    obtain ⟨S, R, h1, h2, h3, h4, h5, h6⟩ := H3.out
    refine ⟨S, h1, fun j hj => by have := h4 j hj; simpa using this, ?_⟩
    exact ((Below.refl _ w2).alloc (Nat.le_refl _) _).trans (h6.mono (by simp))
  clear H3
  have him : ∀ w4, Below w3.heap.size w3 w4 → _ := fun w4 hb => image_any w4 S k ⟨b0, [], -1, false⟩ (HS.out.1.on hb)
  have HIM : Hid _ := him
  go_wp2_with (first
    | (go_at_call 23; refine (him _ (Below.refl _ _)).mono ?_; clear him; rintro e w4 ⟨wv, rfl, hr4, hb4⟩; have HW4 := hid hr4; have HB4 := hid hb4; obtain ⟨wa, wc, hwv⟩ := hr4.form; rw [HB0.out] at hwv; subst hwv; clear hr4 hb4)
    | (go_at_call 23; refine (HIM.out _ HB4.out).mono ?_; clear HIM; rintro e w5 ⟨tv, rfl, hr5, hb5⟩; have HT5 := hid hr5; have HB5 := hid hb5; obtain ⟨ta, tc, htv⟩ := hr5.form; rw [HB0.out] at htv; subst htv; clear hr5 hb5))
  obtain ⟨g5, hta, hg5, hg5l⟩ := row_some HT5.out (by show 0 < b0.length; rw [HB0.out]; omega)
  subst hta
  have HB5t := hid (HB4.out.trans (HB5.out.mono HB4.out.size))
  have HGV5 : Hid (RowP w5 0 (.slice ga m gc) L) := own_base (own_below (own_below HR2.out HS.out.2.2) HB5t.out) (Nat.zero_le _)
  have HNE : Hid (∀ g, (Value.slice ga m gc).ownBlock = some g → g ≠ g5) := fun g hg e => by
    subst e
    exact rows_ne HGV5.out HT5.out (by decide) hg rfl
  go_loopw [49] (fun i wr => ∃ j : Nat, j ≤ m ∧ i = .int .i64 (j : Nat) ∧ Hid (RowS wr w4.heap.size (.slice (some ⟨g5, 0, none⟩) N tc) (appl b0 (L.take j))) ∧ Hid (Keep (fun g => g = g5) w5 wr)) (fun i _ => m - (intOf i).toNat)
  case atStart => exact ⟨0, Nat.zero_le _, rfl, HT5, Keep.refl _ _⟩
  case round =>
    obtain ⟨j, hj, rfl, HTr, HKr⟩ := hrel
    by_cases hlt : j < m
    · have hji : (j : Int) < (m : Int) := by omega
      obtain ⟨p, hp⟩ : ∃ p, L[j]? = some p := ⟨_, List.getElem?_eq_getElem (by rw [HM.out]; exact hlt)⟩
      have hpl := HG.out.pl (List.mem_of_getElem? hp)
      have HAP : Hid (appl b0 (L.take (j + 1)) = (appl b0 (L.take j)).set p.pl.toNat p.data) := by
        show _ = _
        rw [take_snoc hp, appl_append]
        rfl
      have HGr : Hid (RowP wr 0 (.slice ga m gc) L) := HKr.out.row HGV5.out (fun g hg => HNE.out g hg)
      obtain ⟨gg, hga, _, _⟩ := row_some HGr.out (by rw [HM.out]; omega)
      subst hga
      obtain ⟨cp0, cp1, _⟩ := HGr.out.at hp
      obtain ⟨pl, data⟩ := p
      simp only at hpl HAP cp0 cp1
      obtain ⟨x, rfl⟩ : ∃ x : Nat, pl = (x : Int) := ⟨pl.toNat, by omega⟩
      rw [Int.toNat_natCast] at HAP
      have hxN : (x : Int) < (N : Int) := by omega
      have HLN : Hid ((appl b0 (L.take j)).length = N) := by show _ = _; rw [appl_len, HB0.out]
      obtain ⟨s0, hs0⟩ : ∃ s0, (appl b0 (L.take j))[x]? = some s0 := ⟨_, List.getElem?_eq_getElem (by rw [HLN.out]; omega)⟩
      obtain ⟨cx, fx⟩ := HTr.out.at hs0
      have cx' : wr.drew.cell? ⟨g5, x, none⟩ = some (.string s0) := cx
      have fx' : wr.drew.frozen? ⟨g5, x, none⟩ = false := fx
      have HSW : wr.drew.cell? ⟨gg, j * 2, none⟩ = some (.int .i64 (x : Nat)) ∧ wr.drew.cell? ⟨gg, j * 2 + 1, none⟩ = some (.string data) := ⟨cp0, cp1⟩
      have HT2 : Hid (RowS (wr.drew.setCell ⟨g5, x, none⟩ (.string data)) w4.heap.size (.slice (some ⟨g5, 0, none⟩) N tc) (appl b0 (L.take (j + 1)))) := by
        refine hid ?_
        rw [HAP.out]
        exact RowS.set (HTr.out.on (Below.drew (Below.refl _ wr))) HLN.out data
      have HK2 := hid ((HKr.out.trans (Keep.drew (fun g => g = g5) wr) (fun _ _ h => h)).trans (Keep.set (S := fun g => g = g5) wr.drew rfl x (.string data)) (fun _ _ h => h))
      clear hp cp0 cp1 cx fx hs0 HTr HKr HGr HAP
      go_wp2_with fail
      refine wp_region_m (fun w' => w'.cell? ⟨gg, j * 2, none⟩ = some (.int .i64 (x : Nat)) ∧ w'.cell? ⟨gg, j * 2 + 1, none⟩ = some (.string data)) 12 (by kernel_rfl) ?_
      refine wpAnyM_pick (i := 0) (some 52) (v := ?vz1) rfl rfl (by kernel_rfl) (by kernel_rfl) (by kernel_rfl) (by kernel_rfl) (fun _ _ _ h => h) (Or.inl ⟨by rfl, ?hz1⟩) HSW ?rz1
      case hz1 => intro w hSw; go_simp; try with_reducible rfl
      try simp only [Act.put, List.setIfInBounds_toArray, List.set_cons_zero, List.set_cons_succ]
      refine wpAnyM_pick (i := 1) (some 53) (v := ?vz2) rfl rfl (by kernel_rfl) (by kernel_rfl) (by kernel_rfl) (by kernel_rfl) (fun _ _ _ h => h) (Or.inl ⟨by rfl, ?hz2⟩) HSW ?rz2
      case hz2 => intro w hSw; go_simp; try with_reducible rfl
      try simp only [Act.put, List.setIfInBounds_toArray, List.set_cons_zero, List.set_cons_succ]
      refine wpAnyM_pick (i := 2) (some 54) (v := ?vz3) rfl rfl (by kernel_rfl) (by kernel_rfl) (by kernel_rfl) (by kernel_rfl) (fun _ _ _ h => h) (Or.inl ⟨by rfl, ?hz3⟩) HSW ?rz3
      case hz3 => intro w hSw; go_simp; try with_reducible rfl
      try simp only [Act.put, List.setIfInBounds_toArray, List.set_cons_zero, List.set_cons_succ]
      refine wpAnyM_pick (i := 3) (some 55) (v := ?vz4) rfl rfl (by kernel_rfl) (by kernel_rfl) (by kernel_rfl) (by kernel_rfl) (fun _ _ _ h => h) (Or.inl ⟨by rfl, ?hz4⟩) HSW ?rz4
      case hz4 => intro w hSw; go_simp; try with_reducible rfl
      try simp only [Act.put, List.setIfInBounds_toArray, List.set_cons_zero, List.set_cons_succ]
      refine wpAnyM_pick (i := 4) (some 56) (v := ?vz5) rfl rfl (by kernel_rfl) (by kernel_rfl) (by kernel_rfl) (by kernel_rfl) (fun _ _ _ h => h) (Or.inl ⟨by rfl, ?hz5⟩) HSW ?rz5
      case hz5 => intro w hSw; go_simp; try with_reducible rfl
      try simp only [Act.put, List.setIfInBounds_toArray, List.set_cons_zero, List.set_cons_succ]
      refine wpAnyM_pick (i := 5) (some 57) (v := ?vz6) rfl rfl (by kernel_rfl) (by kernel_rfl) (by kernel_rfl) (by kernel_rfl) (fun _ _ _ h => h) (Or.inl ⟨by rfl, ?hz6⟩) HSW ?rz6
      case hz6 => intro w hSw; go_simp; try with_reducible rfl
      try simp only [Act.put, List.setIfInBounds_toArray, List.set_cons_zero, List.set_cons_succ]
      refine wpAnyM_pick (i := 6) (some 58) (v := ?vz7) rfl rfl (by kernel_rfl) (by kernel_rfl) (by kernel_rfl) (by kernel_rfl) (fun _ _ _ h => h) (Or.inl ⟨by rfl, ?hz7⟩) HSW ?rz7
      case hz7 => intro w hSw; go_simp; try with_reducible rfl
      try simp only [Act.put, List.setIfInBounds_toArray, List.set_cons_zero, List.set_cons_succ]
      refine wpAnyM_pick (i := 7) (some 59) (v := ?vz8) rfl rfl (by kernel_rfl) (by kernel_rfl) (by kernel_rfl) (by kernel_rfl) (fun _ _ _ h => h) (Or.inl ⟨by rfl, ?hz8⟩) HSW ?rz8
      case hz8 => intro w hSw; go_simp; try with_reducible rfl
      try simp only [Act.put, List.setIfInBounds_toArray, List.set_cons_zero, List.set_cons_succ]
      refine wpAnyM_pick (i := 8) (some 60) (v := ?vz9) rfl rfl (by kernel_rfl) (by kernel_rfl) (by kernel_rfl) (by kernel_rfl) (fun _ _ _ h => h) (Or.inl ⟨by rfl, ?hz9⟩) HSW ?rz9
      case hz9 => intro w hSw; go_simp; try with_reducible rfl
      try simp only [Act.put, List.setIfInBounds_toArray, List.set_cons_zero, List.set_cons_succ]
      refine wpAnyM_pick (i := 9) (some 61) (v := ?vz10) rfl rfl (by kernel_rfl) (by kernel_rfl) (by kernel_rfl) (by kernel_rfl) (fun _ _ _ h => h) (Or.inl ⟨by rfl, ?hz10⟩) HSW ?rz10
      case hz10 => intro w hSw; go_simp; try with_reducible rfl
      try simp only [Act.put, List.setIfInBounds_toArray, List.set_cons_zero, List.set_cons_succ]
      refine wpAnyM_pick (i := 10) (some 62) (v := ?vz11) rfl rfl (by kernel_rfl) (by kernel_rfl) (by kernel_rfl) (by kernel_rfl) (fun _ _ _ h => h) (Or.inl ⟨by rfl, ?hz11⟩) HSW ?rz11
      case hz11 => intro w hSw; go_simp; try with_reducible rfl
      try simp only [Act.put, List.setIfInBounds_toArray, List.set_cons_zero, List.set_cons_succ]
      refine wpAnyM_pick (i := 11) (some 63) (v := ?vz12) rfl rfl (by kernel_rfl) (by kernel_rfl) (by kernel_rfl) (by kernel_rfl) (fun _ _ _ h => h) (Or.inl ⟨by rfl, ?hz12⟩) HSW ?rz12
      case hz12 => intro w hSw; go_simp; try with_reducible rfl
      try simp only [Act.put, List.setIfInBounds_toArray, List.set_cons_zero, List.set_cons_succ]
      refine wpAnyM_one (i := 12) (by kernel_rfl) rfl (fun K hK => ?_)
      go_simp
      refine hK.out _ _ (fun h => absurd h (by decide)) ?_
      clear hK K
      refine wpAnyM_done (by kernel_rfl) ?_ _
      try simp only [Act.put, List.setIfInBounds_toArray, List.set_cons_zero, List.set_cons_succ]
      clear HSW cx' fx'
      go_wp2_with fail
      go_roundw
      case rel => exact ⟨j + 1, by omega, by go_num, HT2, HK2⟩
      case measure => simp [intOf]; omega
    · have hji : ¬ (j : Int) < (m : Int) := by omega
      obtain rfl : j = m := by omega
      have HTK : Hid (L.take j = L) := List.take_of_length_le (by rw [HM.out]; omega)
      rw [HTK.out] at HTr
      have HDb : Hid (Wm wr S k ⟨b0, [], -1, false⟩ wr) := Wm.refl (HKr.out.dk (HS.out.1.on HB5t.out) (fun i hi e => by
        have a1 := HS.out.1.lt i hi
        have a2 := HB4.out.size
        omega))
      have HWb : Hid (RowS wr 0 (.slice wa N wc) b0) := own_base (HKr.out.row (HW4.out.on HB5.out) (fun g hg e => by
        have a1 := ((HW4.out : w4.ownsRow w3.heap.size 9 1 _ _ _).lt g hg).2
        omega)) (Nat.zero_le _)
      have HWn : Hid (∀ g, (Value.slice wa N wc).ownBlock = some g → ¬ S g) := fun g hg hs => by
        have a1 := ((HW4.out : w4.ownsRow w3.heap.size 9 1 _ _ _).lt g hg).1
        have a2 := HS.out.1.lt g hs
        omega
      have HTn : Hid (∀ g, (Value.slice (some ⟨g5, 0, none⟩) N tc).ownBlock = some g → ¬ S g) := fun g hg hs => by
        simp [Value.ownBlock] at hg
        have a2 := HS.out.1.lt g hs
        have a3 := HB4.out.size
        omega
      have HGb : Hid (LiesO wr S (.slice ga j gc) L) := RowP.lies (HKr.out.row HGV5.out (fun g hg => HNE.out g hg)) (fun g hg hs => by
        have a1 := ((HR2.out : w2.ownsRow w1.heap.size 54 2 _ _ _).lt g hg).2
        have a2 := HS.out.2.1 g hs
        omega) (fun p hp => by
        have a1 := HG.out.pl hp
        exact ⟨by omega, by rw [(HG.out.ok p hp).2]; decide⟩)
      have HBb : Hid (Below w.heap.size w wr) := by
        have a1 : Below w.heap.size w w3 := HB2.out.trans (HS.out.2.2.mono HB2.out.size)
        have a2 : Below w.heap.size w w5 := a1.trans (HB5t.out.mono a1.size)
        exact a2.trans (HKr.out.below (fun i e => by subst e; have := HB4.out.size; have := a1.size; omega) a2.size)
      have HSb : Hid (∀ i, S i → w.heap.size ≤ i) := fun i hi => by have := HS.out.2.1 i hi; have := HB2.out.size; omega
      have HC0 : Hid (CutS N L b0 0 (decide (j = 0)) ⟨b0, [], -1, false⟩) := by
        refine ⟨rfl, rfl, Nat.zero_le _, fun _ => ⟨rfl, ?_⟩, fun h => by omega⟩
        rw [← HM.out]
        cases L <;> simp
      have hj0 : ((j : Int) == 0) = decide (j = 0) := by
        by_cases h : j = 0
        · subst h; rfl
        · rw [decide_eq_false h]; simp; exact h
      clear HKr HT5 HW4 HGV5 HNE HR2 HS HB4 HB5 HB5t HB2
      go_upto_region 17 with (go_at_call 28; refine (hrw _).mono ?_; rintro e w6 ⟨rfl, rfl⟩)
      clear hrw hj0
      obtain ⟨wb, hwb⟩ : ∃ wb : World, wb = wr := ⟨_, rfl⟩
      subst hwb
      go_loopw [14, 15] (fun x i W => ∃ (t : Nat) (wh : Bool) (d : Ds), (t ≤ u ∧ t ≤ 40) ∧ i = .int .i64 (t : Nat) ∧ x = .bool wh ∧ Hid (Wm wb S k d W) ∧ Hid (CutS N L b0 t wh d)) (fun _ i _ => u - (intOf i).toNat)
      case atStart => exact ⟨0, _, _, ⟨by omega, by omega⟩, rfl, rfl, HDb, HC0⟩
      case round =>
        obtain ⟨t, wh, d, ⟨ht1, ht2⟩, rfl, rfl, HW, HC⟩ := hrel
        clear HDb HC0
        by_cases h1 : t < u
        · have h1d : decide ((t : Int) < (u : Int)) = true := decide_eq_true (by omega)
          by_cases h2 : t < 40
          · have h2d : decide ((t : Int) < 40) = true := decide_eq_true (by omega)
            obtain ⟨cN, hcN⟩ : ∃ cN, U[t]? = some cN := ⟨_, List.getElem?_eq_getElem (by rw [HUN.out]; exact h1)⟩
            obtain ⟨bu, ou, hau, hbu, cu, hc255⟩ := HU.out.at hcN
            subst hau
            have HCU : Hid (∀ W5 d5, Wm wb S k d5 W5 → W5.cell? ⟨bu, ou + t, none⟩ = some (.int .u8 (cN : Nat))) := fun W5 d5 h => ((h.below HBb.out HSb.out).cell (p := ⟨bu, ou + t, none⟩) hbu).trans cu
            have cu0 := HCU.out _ _ HW.out
            have hcw : IntKind.i64.wrap (cN : Int) = (cN : Int) := by rw [IntKind.wrap_i64]; omega
            have hct := cut_wm wb S k d wr (cN : Int) (by omega) HW.out
            have hrs : ∀ d5 W5, Wm wb S k d5 W5 → _ := fun d5 W5 h => restore_wm wb S k d5 W5 h
            have hlg := HC.out.lg
            have hlm := HM.out
            clear hcN cu
            by_cases h0 : t = 0
            · have hcm : ∀ W5, Wm wb S k (d.cut cN) W5 → _ := fun W5 h => commit_wm wb S k (d.cut cN) W5 _ L h HGb.out (fit_small (by show d.lg.length + 5000 ≤ _; omega))
              obtain ⟨q1, q2⟩ := CutS.first (h0 ▸ HC.out) HG.out HB0.out HBZ.out H36.out cN
              rw [HM.out, HY.out] at q1 q2
              have q0 : wh = decide (j = 0) := by
                rw [((h0 ▸ HC.out : CutS N L b0 0 wh d).zero rfl).2, ← HM.out]
                cases L <;> simp
              have qL : L = [] ↔ j = 0 := by rw [← HM.out]; cases L <;> simp
              rw [qL] at q1
              obtain ⟨e2, he2⟩ : ∃ e2, (cmt (d.cut cN) L).1 = e2 := ⟨_, rfl⟩
              obtain ⟨d2, hd2⟩ : ∃ d2, (cmt (d.cut cN) L).2 = d2 := ⟨_, rfl⟩
              rw [he2, hd2] at hcm
              rw [he2] at q1
              rw [hd2] at q2
              have HQ2 := hid q2
              have h0b : ((t : Int) == 0) = true := by simp; exact h0
              clear he2 hd2 q2 qL hlg hlm
              by_cases hm0 : j = 0
              · have e20 : e2 = 0 := q1.2 (.inl hm0)
                subst e20
                have hw1 : wh = true := by rw [q0]; exact decide_eq_true hm0
                subst hw1
                have hmb0 : ((j : Int) == 0) = true := by simp; exact hm0
                have HQ3 : Hid (CutS N L b0 (t + 1) true d2.res) := by rw [h0]; exact HQ2.out
                clear q0 q1 HQ2 h0 hm0
                go_wp2_with (first
                  | (go_at_call 15; refine hct.mono ?_; clear hct; rintro e w6 ⟨rfl, h6⟩; have H6 := hid h6; have cu6 := HCU.out _ _ h6; clear h6 HW cu0)
                  | (go_at_call 18; refine (hcm _ H6.out).mono ?_; clear hcm; rintro e w7 ⟨rfl, h7⟩; have H7 := hid h7; have cu7 := HCU.out _ _ h7; clear h7 H6 cu6)
                  | (go_at_call 29; refine (hrs _ _ H7.out).mono ?_; clear hrs; rintro e w8 ⟨rfl, h8⟩; have H8 := hid h8; clear h8 H7 cu7))
                go_roundw
                case rel => exact ⟨t + 1, true, _, ⟨by omega, by omega⟩, by go_num, rfl, H8, HQ3⟩
                case measure => simp [intOf]; omega
              · have hw1 : wh = false := by rw [q0]; exact decide_eq_false hm0
                subst hw1
                have hmb0 : ((j : Int) == 0) = false := by simp; exact hm0
                obtain ⟨b1, hb1⟩ : ∃ b1, decide (j + y < cN) = b1 := ⟨_, rfl⟩
                have hb1i : decide ((j : Int) + (y : Int) < (cN : Int)) = b1 := by rw [← hb1]; exact decide_eq_decide.2 (by omega)
                obtain ⟨b2, hb2⟩ : ∃ b2, decide (2 * j + y + 2 ≤ cN) = b2 := ⟨_, rfl⟩
                have hb2i : decide (2 * (j : Int) + (y : Int) + 2 ≤ (cN : Int)) = b2 := by rw [← hb2]; exact decide_eq_decide.2 (by omega)
                have he2 : ((e2 : Int) == 0) = b2 := by
                  rw [← hb2, Bool.eq_iff_iff, decide_eq_true_iff, beq_iff_eq]
                  constructor
                  · intro h; rcases q1.1 (by omega) with h' | h'; exact absurd h' hm0; exact h'
                  · intro h; have := q1.2 (.inr h); omega
                have hbb : (b2 != b2) = false := by simp
                have HQ3 : Hid (CutS N L b0 (t + 1) b1 d2.res) := by rw [h0, ← hb1]; exact HQ2.out
                clear q0 q1 HQ2 h0 hm0 hb1 hb2
                go_wp2_with (first
                  | (go_at_call 15; refine hct.mono ?_; clear hct; rintro e w6 ⟨rfl, h6⟩; have H6 := hid h6; have cu6 := HCU.out _ _ h6; clear h6 HW cu0)
                  | (go_at_call 18; refine (hcm _ H6.out).mono ?_; clear hcm; rintro e w7 ⟨rfl, h7⟩; have H7 := hid h7; have cu7 := HCU.out _ _ h7; clear h7 H6 cu6)
                  | (go_at_call 29; refine (hrs _ _ H7.out).mono ?_; clear hrs; rintro e w8 ⟨rfl, h8⟩; have H8 := hid h8; clear h8 H7 cu7))
                go_roundw
                case rel => exact ⟨t + 1, b1, _, ⟨by omega, by omega⟩, by go_num, rfl, H8, HQ3⟩
                case measure => simp [intOf]; omega
            · have hrc : ∀ W5, Wm wb S k (d.cut cN) W5 → _ := fun W5 h => recover_wm wb S k (d.cut cN) W5 h (fit_small (by show d.lg.length + 1500 ≤ _; omega))
              have HQ3 := hid (HC.out.step (by omega) HG.out HB0.out H36.out cN)
              have h0b : ((t : Int) == 0) = false := by simp; exact h0
              generalize recv (d.cut cN) = rr at hrc HQ3
              clear h0 hlg hlm
              go_wp2_with (first
                | (go_at_call 15; refine hct.mono ?_; clear hct; rintro e w6 ⟨rfl, h6⟩; have H6 := hid h6; clear h6 HW cu0)
                | (go_at_call 25; refine (hrc _ H6.out).mono ?_; clear hrc; rintro e w7 ⟨rfl, h7⟩; have H7 := hid h7; clear h7 H6)
                | (go_at_call 29; refine (hrs _ _ H7.out).mono ?_; clear hrs; rintro e w8 ⟨rfl, h8⟩; have H8 := hid h8; clear h8 H7))
              go_roundw
              case rel => exact ⟨t + 1, wh, _, ⟨by omega, by omega⟩, by go_num, rfl, H8, HQ3⟩
              case measure => simp [intOf]; omega
          · skip
            have h2d : decide ((t : Int) < 40) = false := decide_eq_false (by omega)
            obtain ⟨r1, d4, f1, f2, f3, f4⟩ := HC.out.fin HG.out HB0.out HBZ.out
            have hlg := HC.out.lg
            have hlm := HM.out
            have hrc1 := recover_wm wb S k d wr HW.out (fit_small (by omega))
            rw [f1] at hrc1
            have hrc2 : ∀ W5, Wm wb S k d4 W5 → _ := fun W5 h => recover_wm wb S k d4 W5 h (fit_small (by omega))
            rw [f2] at hrc2
            clear hlg hlm
            by_cases hu0 : u = 0
            · have ht0 : t = 0 := by omega
              rw [if_pos (.inl ht0)] at f3
              have hu0b : ((u : Int) == 0) = true := by simp; exact hu0
              have hpe : pgB d4.bs = pgB (b0) := f3.eq.pgB l1
              have h64 : 64 ≤ d4.bs.length := by rw [f3.eq.la]; exact l1
              have h20 : d4.bs.length ≤ 2048 := by rw [f3.eq.la]; omega
              have x64 : 64 ≤ (b0).length := by rw [f3.eq.lb]; exact l1
              have x20 : (b0).length ≤ 2048 := by rw [f3.eq.lb]; omega
              have hpl : (pgB d4.bs).length ≤ 100000 := by rw [pgB_len h64]; have := pgs_hi h20; omega
              have HP1 : Hid (∀ W5 B v, RowS W5 B v d4.bs → Calls Try.prog 30 #[v] W5 fun e w' => ∃ v', e = .returned v' ∧ RowS w' W5.heap.size v' (pgB d4.bs) ∧ Below W5.heap.size W5 w') := fun W5 B v h => pagesL_any W5 B v d4.bs h h64 h20
              have HP2 : Hid (∀ W5 B v, RowS W5 B v (b0) → Calls Try.prog 30 #[v] W5 fun e w' => ∃ v', e = .returned v' ∧ RowS w' W5.heap.size v' (pgB d4.bs) ∧ Below W5.heap.size W5 w') := fun W5 B v h => by rw [hpe]; exact pagesL_any W5 B v _ h x64 x20
              have HSM : Hid (∀ W5 B B' u v, RowS W5 B u (pgB d4.bs) → RowS W5 B' v (pgB d4.bs) → Calls Try.prog 22 #[u, v] W5 fun e w' => e = .returned (.bool true) ∧ Below W5.heap.size W5 w') := fun W5 B B' u v h1 h2 => same_self W5 B B' u v _ h1 h2 hpl
              have HRX : Hid (∀ W5, Wm wb S k d4 W5 → RowS W5 _ (.slice wa N wc) (b0)) := fun W5 h => h.row HWb.out HWn.out
              clear hpe h64 h20 x64 x20 hpl f1 f2 f3 f4 HC
              go_wp2_with (first
                | (go_at_call 25; refine hrc1.mono ?_; clear hrc1; rintro e w6 ⟨rfl, h6⟩; have H6 := hid h6; clear h6 HW)
                | (go_at_call 25; refine (hrc2 _ H6.out).mono ?_; clear hrc2; rintro e w7 ⟨rfl, h7⟩; have H7 := hid h7; clear h7 H6)
                | (go_at_call 23; refine (image_wm wb S k d4 _ H7.out).mono ?_; rintro e w8 ⟨v8, rfl, hr8, hb8⟩; have HR8 := hid hr8; have HX8 := hid ((HRX.out _ H7.out).on hb8); have H8 := hid (H7.out.on hb8); obtain ⟨a8, c8, hv8⟩ := hr8.form; subst hv8; clear hr8 hb8 H7 HRX)
                | (go_at_call 30; refine (HP1.out _ _ _ HR8.out).mono ?_; clear HP1; rintro e w9 ⟨v9, rfl, hr9, hb9⟩; have HR9 := hid hr9; have HX9 := hid (HX8.out.on hb9); have H9 := hid (H8.out.on hb9); obtain ⟨a9, c9, hv9⟩ := hr9.form; subst hv9; clear hr9 hb9 H8 HX8 HR8)
                | (go_at_call 30; refine (HP2.out _ _ _ HX9.out).mono ?_; clear HP2; rintro e w10 ⟨v10, rfl, hr10, hb10⟩; have HR10 := hid hr10; have HQ10 := hid (HR9.out.on hb10); have H10 := hid (H9.out.on hb10); obtain ⟨a10, c10, hv10⟩ := hr10.form; subst hv10; clear hr10 hb10 H9 HX9 HR9)
                | (go_at_call 22; refine (HSM.out _ _ _ _ _ HQ10.out HR10.out).mono ?_; clear HSM; rintro e w11 ⟨rfl, hb11⟩; have H11 := hid (H10.out.on hb11); clear hb11 H10))
              go_ret
              exact ⟨rfl, H11.out.below HBb.out HSb.out⟩
            · have ht0 : ¬ t = 0 := by omega
              have hu0b : ((u : Int) == 0) = false := by simp; exact hu0
              cases wh with
              | false =>
                rw [if_pos (.inr rfl)] at f3
                have hpe : pgB d4.bs = pgB (b0) := f3.eq.pgB l1
                have h64 : 64 ≤ d4.bs.length := by rw [f3.eq.la]; exact l1
                have h20 : d4.bs.length ≤ 2048 := by rw [f3.eq.la]; omega
                have x64 : 64 ≤ (b0).length := by rw [f3.eq.lb]; exact l1
                have x20 : (b0).length ≤ 2048 := by rw [f3.eq.lb]; omega
                have hpl : (pgB d4.bs).length ≤ 100000 := by rw [pgB_len h64]; have := pgs_hi h20; omega
                have HP1 : Hid (∀ W5 B v, RowS W5 B v d4.bs → Calls Try.prog 30 #[v] W5 fun e w' => ∃ v', e = .returned v' ∧ RowS w' W5.heap.size v' (pgB d4.bs) ∧ Below W5.heap.size W5 w') := fun W5 B v h => pagesL_any W5 B v d4.bs h h64 h20
                have HP2 : Hid (∀ W5 B v, RowS W5 B v (b0) → Calls Try.prog 30 #[v] W5 fun e w' => ∃ v', e = .returned v' ∧ RowS w' W5.heap.size v' (pgB d4.bs) ∧ Below W5.heap.size W5 w') := fun W5 B v h => by rw [hpe]; exact pagesL_any W5 B v _ h x64 x20
                have HSM : Hid (∀ W5 B B' u v, RowS W5 B u (pgB d4.bs) → RowS W5 B' v (pgB d4.bs) → Calls Try.prog 22 #[u, v] W5 fun e w' => e = .returned (.bool true) ∧ Below W5.heap.size W5 w') := fun W5 B B' u v h1 h2 => same_self W5 B B' u v _ h1 h2 hpl
                have HRX : Hid (∀ W5, Wm wb S k d4 W5 → RowS W5 _ (.slice wa N wc) (b0)) := fun W5 h => h.row HWb.out HWn.out
                clear hpe h64 h20 x64 x20 hpl f1 f2 f3 f4 HC
                go_wp2_with (first
                  | (go_at_call 25; refine hrc1.mono ?_; clear hrc1; rintro e w6 ⟨rfl, h6⟩; have H6 := hid h6; clear h6 HW)
                  | (go_at_call 25; refine (hrc2 _ H6.out).mono ?_; clear hrc2; rintro e w7 ⟨rfl, h7⟩; have H7 := hid h7; clear h7 H6)
                  | (go_at_call 23; refine (image_wm wb S k d4 _ H7.out).mono ?_; rintro e w8 ⟨v8, rfl, hr8, hb8⟩; have HR8 := hid hr8; have HX8 := hid ((HRX.out _ H7.out).on hb8); have H8 := hid (H7.out.on hb8); obtain ⟨a8, c8, hv8⟩ := hr8.form; subst hv8; clear hr8 hb8 H7 HRX)
                  | (go_at_call 30; refine (HP1.out _ _ _ HR8.out).mono ?_; clear HP1; rintro e w9 ⟨v9, rfl, hr9, hb9⟩; have HR9 := hid hr9; have HX9 := hid (HX8.out.on hb9); have H9 := hid (H8.out.on hb9); obtain ⟨a9, c9, hv9⟩ := hr9.form; subst hv9; clear hr9 hb9 H8 HX8 HR8)
                  | (go_at_call 30; refine (HP2.out _ _ _ HX9.out).mono ?_; clear HP2; rintro e w10 ⟨v10, rfl, hr10, hb10⟩; have HR10 := hid hr10; have HQ10 := hid (HR9.out.on hb10); have H10 := hid (H9.out.on hb10); obtain ⟨a10, c10, hv10⟩ := hr10.form; subst hv10; clear hr10 hb10 H9 HX9 HR9)
                  | (go_at_call 22; refine (HSM.out _ _ _ _ _ HQ10.out HR10.out).mono ?_; clear HSM; rintro e w11 ⟨rfl, hb11⟩; have H11 := hid (H10.out.on hb11); clear hb11 H10))
                go_ret
                exact ⟨rfl, H11.out.below HBb.out HSb.out⟩
              | true =>
                rw [if_neg (by simp; exact ht0)] at f3
                have hpe : pgB d4.bs = pgB (appl b0 L) := f3.eq.pgB l1
                have h64 : 64 ≤ d4.bs.length := by rw [f3.eq.la]; exact l1
                have h20 : d4.bs.length ≤ 2048 := by rw [f3.eq.la]; omega
                have x64 : 64 ≤ (appl b0 L).length := by rw [f3.eq.lb]; exact l1
                have x20 : (appl b0 L).length ≤ 2048 := by rw [f3.eq.lb]; omega
                have hpl : (pgB d4.bs).length ≤ 100000 := by rw [pgB_len h64]; have := pgs_hi h20; omega
                have HP1 : Hid (∀ W5 B v, RowS W5 B v d4.bs → Calls Try.prog 30 #[v] W5 fun e w' => ∃ v', e = .returned v' ∧ RowS w' W5.heap.size v' (pgB d4.bs) ∧ Below W5.heap.size W5 w') := fun W5 B v h => pagesL_any W5 B v d4.bs h h64 h20
                have HP2 : Hid (∀ W5 B v, RowS W5 B v (appl b0 L) → Calls Try.prog 30 #[v] W5 fun e w' => ∃ v', e = .returned v' ∧ RowS w' W5.heap.size v' (pgB d4.bs) ∧ Below W5.heap.size W5 w') := fun W5 B v h => by rw [hpe]; exact pagesL_any W5 B v _ h x64 x20
                have HSM : Hid (∀ W5 B B' u v, RowS W5 B u (pgB d4.bs) → RowS W5 B' v (pgB d4.bs) → Calls Try.prog 22 #[u, v] W5 fun e w' => e = .returned (.bool true) ∧ Below W5.heap.size W5 w') := fun W5 B B' u v h1 h2 => same_self W5 B B' u v _ h1 h2 hpl
                have HRX : Hid (∀ W5, Wm wb S k d4 W5 → RowS W5 _ (.slice (some ⟨g5, 0, none⟩) N tc) (appl b0 L)) := fun W5 h => h.row HTr.out HTn.out
                clear hpe h64 h20 x64 x20 hpl f1 f2 f3 f4 HC
                go_wp2_with (first
                  | (go_at_call 25; refine hrc1.mono ?_; clear hrc1; rintro e w6 ⟨rfl, h6⟩; have H6 := hid h6; clear h6 HW)
                  | (go_at_call 25; refine (hrc2 _ H6.out).mono ?_; clear hrc2; rintro e w7 ⟨rfl, h7⟩; have H7 := hid h7; clear h7 H6)
                  | (go_at_call 23; refine (image_wm wb S k d4 _ H7.out).mono ?_; rintro e w8 ⟨v8, rfl, hr8, hb8⟩; have HR8 := hid hr8; have HX8 := hid ((HRX.out _ H7.out).on hb8); have H8 := hid (H7.out.on hb8); obtain ⟨a8, c8, hv8⟩ := hr8.form; subst hv8; clear hr8 hb8 H7 HRX)
                  | (go_at_call 30; refine (HP1.out _ _ _ HR8.out).mono ?_; clear HP1; rintro e w9 ⟨v9, rfl, hr9, hb9⟩; have HR9 := hid hr9; have HX9 := hid (HX8.out.on hb9); have H9 := hid (H8.out.on hb9); obtain ⟨a9, c9, hv9⟩ := hr9.form; subst hv9; clear hr9 hb9 H8 HX8 HR8)
                  | (go_at_call 30; refine (HP2.out _ _ _ HX9.out).mono ?_; clear HP2; rintro e w10 ⟨v10, rfl, hr10, hb10⟩; have HR10 := hid hr10; have HQ10 := hid (HR9.out.on hb10); have H10 := hid (H9.out.on hb10); obtain ⟨a10, c10, hv10⟩ := hr10.form; subst hv10; clear hr10 hb10 H9 HX9 HR9)
                  | (go_at_call 22; refine (HSM.out _ _ _ _ _ HQ10.out HR10.out).mono ?_; clear HSM; rintro e w11 ⟨rfl, hb11⟩; have H11 := hid (H10.out.on hb11); clear hb11 H10))
                go_ret
                exact ⟨rfl, H11.out.below HBb.out HSb.out⟩
        · skip
          have h1d : decide ((t : Int) < (u : Int)) = false := decide_eq_false (by omega)
          obtain ⟨r1, d4, f1, f2, f3, f4⟩ := HC.out.fin HG.out HB0.out HBZ.out
          have hlg := HC.out.lg
          have hlm := HM.out
          have hrc1 := recover_wm wb S k d wr HW.out (fit_small (by omega))
          rw [f1] at hrc1
          have hrc2 : ∀ W5, Wm wb S k d4 W5 → _ := fun W5 h => recover_wm wb S k d4 W5 h (fit_small (by omega))
          rw [f2] at hrc2
          clear hlg hlm
          by_cases hu0 : u = 0
          · have ht0 : t = 0 := by omega
            rw [if_pos (.inl ht0)] at f3
            have hu0b : ((u : Int) == 0) = true := by simp; exact hu0
            have hpe : pgB d4.bs = pgB (b0) := f3.eq.pgB l1
            have h64 : 64 ≤ d4.bs.length := by rw [f3.eq.la]; exact l1
            have h20 : d4.bs.length ≤ 2048 := by rw [f3.eq.la]; omega
            have x64 : 64 ≤ (b0).length := by rw [f3.eq.lb]; exact l1
            have x20 : (b0).length ≤ 2048 := by rw [f3.eq.lb]; omega
            have hpl : (pgB d4.bs).length ≤ 100000 := by rw [pgB_len h64]; have := pgs_hi h20; omega
            have HP1 : Hid (∀ W5 B v, RowS W5 B v d4.bs → Calls Try.prog 30 #[v] W5 fun e w' => ∃ v', e = .returned v' ∧ RowS w' W5.heap.size v' (pgB d4.bs) ∧ Below W5.heap.size W5 w') := fun W5 B v h => pagesL_any W5 B v d4.bs h h64 h20
            have HP2 : Hid (∀ W5 B v, RowS W5 B v (b0) → Calls Try.prog 30 #[v] W5 fun e w' => ∃ v', e = .returned v' ∧ RowS w' W5.heap.size v' (pgB d4.bs) ∧ Below W5.heap.size W5 w') := fun W5 B v h => by rw [hpe]; exact pagesL_any W5 B v _ h x64 x20
            have HSM : Hid (∀ W5 B B' u v, RowS W5 B u (pgB d4.bs) → RowS W5 B' v (pgB d4.bs) → Calls Try.prog 22 #[u, v] W5 fun e w' => e = .returned (.bool true) ∧ Below W5.heap.size W5 w') := fun W5 B B' u v h1 h2 => same_self W5 B B' u v _ h1 h2 hpl
            have HRX : Hid (∀ W5, Wm wb S k d4 W5 → RowS W5 _ (.slice wa N wc) (b0)) := fun W5 h => h.row HWb.out HWn.out
            clear hpe h64 h20 x64 x20 hpl f1 f2 f3 f4 HC
            go_wp2_with (first
              | (go_at_call 25; refine hrc1.mono ?_; clear hrc1; rintro e w6 ⟨rfl, h6⟩; have H6 := hid h6; clear h6 HW)
              | (go_at_call 25; refine (hrc2 _ H6.out).mono ?_; clear hrc2; rintro e w7 ⟨rfl, h7⟩; have H7 := hid h7; clear h7 H6)
              | (go_at_call 23; refine (image_wm wb S k d4 _ H7.out).mono ?_; rintro e w8 ⟨v8, rfl, hr8, hb8⟩; have HR8 := hid hr8; have HX8 := hid ((HRX.out _ H7.out).on hb8); have H8 := hid (H7.out.on hb8); obtain ⟨a8, c8, hv8⟩ := hr8.form; subst hv8; clear hr8 hb8 H7 HRX)
              | (go_at_call 30; refine (HP1.out _ _ _ HR8.out).mono ?_; clear HP1; rintro e w9 ⟨v9, rfl, hr9, hb9⟩; have HR9 := hid hr9; have HX9 := hid (HX8.out.on hb9); have H9 := hid (H8.out.on hb9); obtain ⟨a9, c9, hv9⟩ := hr9.form; subst hv9; clear hr9 hb9 H8 HX8 HR8)
              | (go_at_call 30; refine (HP2.out _ _ _ HX9.out).mono ?_; clear HP2; rintro e w10 ⟨v10, rfl, hr10, hb10⟩; have HR10 := hid hr10; have HQ10 := hid (HR9.out.on hb10); have H10 := hid (H9.out.on hb10); obtain ⟨a10, c10, hv10⟩ := hr10.form; subst hv10; clear hr10 hb10 H9 HX9 HR9)
              | (go_at_call 22; refine (HSM.out _ _ _ _ _ HQ10.out HR10.out).mono ?_; clear HSM; rintro e w11 ⟨rfl, hb11⟩; have H11 := hid (H10.out.on hb11); clear hb11 H10))
            go_ret
            exact ⟨rfl, H11.out.below HBb.out HSb.out⟩
          · have ht0 : ¬ t = 0 := by omega
            have hu0b : ((u : Int) == 0) = false := by simp; exact hu0
            cases wh with
            | false =>
              rw [if_pos (.inr rfl)] at f3
              have hpe : pgB d4.bs = pgB (b0) := f3.eq.pgB l1
              have h64 : 64 ≤ d4.bs.length := by rw [f3.eq.la]; exact l1
              have h20 : d4.bs.length ≤ 2048 := by rw [f3.eq.la]; omega
              have x64 : 64 ≤ (b0).length := by rw [f3.eq.lb]; exact l1
              have x20 : (b0).length ≤ 2048 := by rw [f3.eq.lb]; omega
              have hpl : (pgB d4.bs).length ≤ 100000 := by rw [pgB_len h64]; have := pgs_hi h20; omega
              have HP1 : Hid (∀ W5 B v, RowS W5 B v d4.bs → Calls Try.prog 30 #[v] W5 fun e w' => ∃ v', e = .returned v' ∧ RowS w' W5.heap.size v' (pgB d4.bs) ∧ Below W5.heap.size W5 w') := fun W5 B v h => pagesL_any W5 B v d4.bs h h64 h20
              have HP2 : Hid (∀ W5 B v, RowS W5 B v (b0) → Calls Try.prog 30 #[v] W5 fun e w' => ∃ v', e = .returned v' ∧ RowS w' W5.heap.size v' (pgB d4.bs) ∧ Below W5.heap.size W5 w') := fun W5 B v h => by rw [hpe]; exact pagesL_any W5 B v _ h x64 x20
              have HSM : Hid (∀ W5 B B' u v, RowS W5 B u (pgB d4.bs) → RowS W5 B' v (pgB d4.bs) → Calls Try.prog 22 #[u, v] W5 fun e w' => e = .returned (.bool true) ∧ Below W5.heap.size W5 w') := fun W5 B B' u v h1 h2 => same_self W5 B B' u v _ h1 h2 hpl
              have HRX : Hid (∀ W5, Wm wb S k d4 W5 → RowS W5 _ (.slice wa N wc) (b0)) := fun W5 h => h.row HWb.out HWn.out
              clear hpe h64 h20 x64 x20 hpl f1 f2 f3 f4 HC
              go_wp2_with (first
                | (go_at_call 25; refine hrc1.mono ?_; clear hrc1; rintro e w6 ⟨rfl, h6⟩; have H6 := hid h6; clear h6 HW)
                | (go_at_call 25; refine (hrc2 _ H6.out).mono ?_; clear hrc2; rintro e w7 ⟨rfl, h7⟩; have H7 := hid h7; clear h7 H6)
                | (go_at_call 23; refine (image_wm wb S k d4 _ H7.out).mono ?_; rintro e w8 ⟨v8, rfl, hr8, hb8⟩; have HR8 := hid hr8; have HX8 := hid ((HRX.out _ H7.out).on hb8); have H8 := hid (H7.out.on hb8); obtain ⟨a8, c8, hv8⟩ := hr8.form; subst hv8; clear hr8 hb8 H7 HRX)
                | (go_at_call 30; refine (HP1.out _ _ _ HR8.out).mono ?_; clear HP1; rintro e w9 ⟨v9, rfl, hr9, hb9⟩; have HR9 := hid hr9; have HX9 := hid (HX8.out.on hb9); have H9 := hid (H8.out.on hb9); obtain ⟨a9, c9, hv9⟩ := hr9.form; subst hv9; clear hr9 hb9 H8 HX8 HR8)
                | (go_at_call 30; refine (HP2.out _ _ _ HX9.out).mono ?_; clear HP2; rintro e w10 ⟨v10, rfl, hr10, hb10⟩; have HR10 := hid hr10; have HQ10 := hid (HR9.out.on hb10); have H10 := hid (H9.out.on hb10); obtain ⟨a10, c10, hv10⟩ := hr10.form; subst hv10; clear hr10 hb10 H9 HX9 HR9)
                | (go_at_call 22; refine (HSM.out _ _ _ _ _ HQ10.out HR10.out).mono ?_; clear HSM; rintro e w11 ⟨rfl, hb11⟩; have H11 := hid (H10.out.on hb11); clear hb11 H10))
              go_ret
              exact ⟨rfl, H11.out.below HBb.out HSb.out⟩
            | true =>
              rw [if_neg (by simp; exact ht0)] at f3
              have hpe : pgB d4.bs = pgB (appl b0 L) := f3.eq.pgB l1
              have h64 : 64 ≤ d4.bs.length := by rw [f3.eq.la]; exact l1
              have h20 : d4.bs.length ≤ 2048 := by rw [f3.eq.la]; omega
              have x64 : 64 ≤ (appl b0 L).length := by rw [f3.eq.lb]; exact l1
              have x20 : (appl b0 L).length ≤ 2048 := by rw [f3.eq.lb]; omega
              have hpl : (pgB d4.bs).length ≤ 100000 := by rw [pgB_len h64]; have := pgs_hi h20; omega
              have HP1 : Hid (∀ W5 B v, RowS W5 B v d4.bs → Calls Try.prog 30 #[v] W5 fun e w' => ∃ v', e = .returned v' ∧ RowS w' W5.heap.size v' (pgB d4.bs) ∧ Below W5.heap.size W5 w') := fun W5 B v h => pagesL_any W5 B v d4.bs h h64 h20
              have HP2 : Hid (∀ W5 B v, RowS W5 B v (appl b0 L) → Calls Try.prog 30 #[v] W5 fun e w' => ∃ v', e = .returned v' ∧ RowS w' W5.heap.size v' (pgB d4.bs) ∧ Below W5.heap.size W5 w') := fun W5 B v h => by rw [hpe]; exact pagesL_any W5 B v _ h x64 x20
              have HSM : Hid (∀ W5 B B' u v, RowS W5 B u (pgB d4.bs) → RowS W5 B' v (pgB d4.bs) → Calls Try.prog 22 #[u, v] W5 fun e w' => e = .returned (.bool true) ∧ Below W5.heap.size W5 w') := fun W5 B B' u v h1 h2 => same_self W5 B B' u v _ h1 h2 hpl
              have HRX : Hid (∀ W5, Wm wb S k d4 W5 → RowS W5 _ (.slice (some ⟨g5, 0, none⟩) N tc) (appl b0 L)) := fun W5 h => h.row HTr.out HTn.out
              clear hpe h64 h20 x64 x20 hpl f1 f2 f3 f4 HC
              go_wp2_with (first
                | (go_at_call 25; refine hrc1.mono ?_; clear hrc1; rintro e w6 ⟨rfl, h6⟩; have H6 := hid h6; clear h6 HW)
                | (go_at_call 25; refine (hrc2 _ H6.out).mono ?_; clear hrc2; rintro e w7 ⟨rfl, h7⟩; have H7 := hid h7; clear h7 H6)
                | (go_at_call 23; refine (image_wm wb S k d4 _ H7.out).mono ?_; rintro e w8 ⟨v8, rfl, hr8, hb8⟩; have HR8 := hid hr8; have HX8 := hid ((HRX.out _ H7.out).on hb8); have H8 := hid (H7.out.on hb8); obtain ⟨a8, c8, hv8⟩ := hr8.form; subst hv8; clear hr8 hb8 H7 HRX)
                | (go_at_call 30; refine (HP1.out _ _ _ HR8.out).mono ?_; clear HP1; rintro e w9 ⟨v9, rfl, hr9, hb9⟩; have HR9 := hid hr9; have HX9 := hid (HX8.out.on hb9); have H9 := hid (H8.out.on hb9); obtain ⟨a9, c9, hv9⟩ := hr9.form; subst hv9; clear hr9 hb9 H8 HX8 HR8)
                | (go_at_call 30; refine (HP2.out _ _ _ HX9.out).mono ?_; clear HP2; rintro e w10 ⟨v10, rfl, hr10, hb10⟩; have HR10 := hid hr10; have HQ10 := hid (HR9.out.on hb10); have H10 := hid (H9.out.on hb10); obtain ⟨a10, c10, hv10⟩ := hr10.form; subst hv10; clear hr10 hb10 H9 HX9 HR9)
                | (go_at_call 22; refine (HSM.out _ _ _ _ _ HQ10.out HR10.out).mono ?_; clear HSM; rintro e w11 ⟨rfl, hb11⟩; have H11 := hid (H10.out.on hb11); clear hb11 H10))
              go_ret
              exact ⟨rfl, H11.out.below HBb.out HSb.out⟩

theorem journalCuts_own : ownKnob Try.prog.godebug = none := by kernel_rfl
theorem journalCuts_laidOut : laidOutB Try.prog = true := by kernel_rfl

set_option maxRecDepth 100000 in
theorem journalCuts_lifted (os : Os) (started : os.Started) (H : Type) (enc : TypeId × Value → H) :
    ReturnsInHanded {} Try.checked os 6 .any (Rows.journalCutsSpec.pre6 enc Try.prog Try.f6 Rows.journalCutsRow.domain false) (Rows.journalCutsSpec.post enc Try.prog Try.f6 false true false false) := by
  refine returnsInHanded_of_change_sized (C := Try.checked) journalCuts_own started (by kernel_rfl) Try.func6
    (ChangeSpec.witness6 (enc := enc) (C := Try.checked) false ⟨#[], #[.int .i64 0, .slice none 0 0, .slice none 0 0], []⟩ 8 (by kernel_rfl) (by kernel_rfl) (by kernel_rfl) (by kernel_rfl)) ?_
  intro W base args ds gs before hval0 hW hcnd hsz0 _
  have hsz : (DataW.weightsEach Try.prog (Try.f6.params.toList ++ Rows.journalCutsSpec.plain.varTypes Try.prog) (ds ++ gs)).all (· ≤ reachBytes) = true := hsz0
  have hval : ∀ (j : Nat) t v, Try.f6.params[j]? = some t → args[j]? = some v → Value.okWide Try.prog W .any base t v := hval0
  have hW' := hW
  obtain ⟨p, q, hA0, hV, rfl, hfz, hnd⟩ := hW
  have hA : DataW.TrodAll enc Try.prog W 0 (fun _ => true) true Try.f6.params.toList args.toList ds p := hA0
  rw [Try.params6] at hA hval hsz
  obtain ⟨v0, vs0, d0, ds0, p0, q0, hargs, rfl, rfl, h0, r0⟩ := trodAll_cons hA
  obtain ⟨v1, vs1, d1, ds1, p1, q1, rfl, rfl, rfl, h1, r1⟩ := trodAll_cons r0
  obtain ⟨v2, vs2, d2, ds2, p2, q2, rfl, rfl, rfl, h2, r2⟩ := trodAll_cons r1
  obtain ⟨rfl, rfl, rfl⟩ := trodAll_nil r2
  obtain rfl : args = #[v0, v1, v2] := by cases args; simp_all
  obtain ⟨rfl, rfl⟩ := trodVars_none hV
  have k0 := h0
  have lt0 : ∀ x ∈ p0, x.block < W.heap.size := by obtain ⟨m, hm⟩ := k0; exact DataW.trod_lt m _ _ _ hm
  have k1 := h1
  have lt1 : ∀ x ∈ p1, x.block < W.heap.size := by obtain ⟨m, hm⟩ := k1; exact DataW.trod_lt m _ _ _ hm
  have k2 := h2
  have lt2 : ∀ x ∈ p2, x.block < W.heap.size := by obtain ⟨m, hm⟩ := k2; exact DataW.trod_lt m _ _ _ hm
  obtain ⟨a0, rfl, rfl, rfl, w0⟩ := open_int Try.underlying3 (hval 0 3 v0 rfl rfl) h0
  obtain ⟨L1, l1, z1⟩ := open_texts (hval 1 37 v1 rfl rfl) h1 (fun n hn => by simpa using List.all_eq_true.1 hsz n (DataW.weights_mem_each (j := 1) (t := 37) rfl rfl n hn))
  obtain ⟨L2, l2, z2⟩ := open_bytes (hval 2 49 v2 rfl rfl) h2 (fun n hn => by simpa using List.all_eq_true.1 hsz n (DataW.weights_mem_each (j := 2) (t := 49) rfl rfl n hn))
  clear hA0 hval0
  refine (journalCuts_walk a0 v1 L1 v2 L2 w0 W l1 z1 l2 z2).mono fun e W' ⟨he, bel⟩ => ?_
  subst he
  exact ⟨_, rfl, _, _, _, [], _, [], hW', trodAll_mk1 (shut_bool Try.underlying4 _), (trodAll_cons_mk (Below.trod journalCuts_laidOut (by kernel_rfl) (of_decide_eq_true (by kernel_rfl)) k0 bel lt0) (trodAll_cons_mk (Below.trod journalCuts_laidOut (by kernel_rfl) (of_decide_eq_true (by kernel_rfl)) k1 bel lt1) (trodAll_cons_mk (Below.trod journalCuts_laidOut (by kernel_rfl) (of_decide_eq_true (by kernel_rfl)) k2 bel lt2) trodAll_mk0))), rfl, bel.frame _, fun h => by cases h⟩

theorem journalCuts_holds : Rows.JournalCutsSaid :=
  OpenClaim.holds_of_wide 6 Try.f6 rfl rfl rfl rfl rfl rfl rfl ⟨rfl, rfl, rfl, rfl, rfl⟩ rfl rfl rfl rfl rfl (by kernel_rfl) Try.func6 (by kernel_rfl)
    (of_decide_eq_true (by kernel_rfl)) (by unfold Func.isWrapper; first | (rw [if_pos (by decide +kernel)]; kernel_rfl) | (rw [if_neg (by decide +kernel)]; exact ⟨rfl, rfl⟩))
    (fun os started H enc _ => journalCuts_lifted os started H enc)

#print axioms journalCuts_holds

end Go.Proofs.Ythinhlmefifffaa
