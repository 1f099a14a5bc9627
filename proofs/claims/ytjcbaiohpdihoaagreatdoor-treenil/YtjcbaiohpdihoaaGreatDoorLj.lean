/-
  join: lists as one, in memory of its own.
-/
import Derived.Test.YtjcbaiohpdihoaaGreatDoorRs
import Derived.Test.YtjcbaiohpdihoaaGreatDoorSf
namespace Go.Proofs.YtjcbaiohpdihoaaGreatDoor.Lf
open Go.Proofs.YtjcbaiohpdihoaaGreatDoor.Nu
open Go.RowKit
set_option linter.unusedVariables false
set_option linter.unusedSimpArgs false
set_option maxRecDepth 100000

theorem grow_any (w : World) (n : Nat) (hn : n ≤ 4398046511104) :
    Calls Tryz.prog 253 #[.slice none 0 0, .int .i64 (n : Nat)] w fun e w' => ∃ a c, e = .returned (.slice a 0 c) ∧ RowE w' w.heap.size (.slice a 0 c) [] ∧ Below w.heap.size w w' := by
  obtain ⟨i0, hi, hz0, hz1, hz2⟩ := info_parts infoE
  rcases Nat.eq_zero_or_pos n with rfl | h0
  · refine (Any8.slices_Grow_room Tryz.lays8_4 none 0 0 0 w (by omega) (by omega) (by omega) (by omega)).mono ?_
    rintro e w' ⟨rfl, rfl⟩
    exact ⟨none, 0, rfl, RowE.nil _ _, Below.refl _ _⟩
  · refine (Any8.slices_Grow_grow Tryz.lays8_4 i0 (.agg #[.string ⟨#[]⟩, .string ⟨#[]⟩]) hi hz0 (by rw [hz1]; decide) none 0 0 n [] w (Nat.le_refl _) (by omega) (by rw [hz2]; omega) (by omega) (by simp) (fun _ => rfl) (fun a h => by cases h)).mono ?_
    rintro e w' ⟨rfl, rfl⟩
    have hge := grownCap_ge w (0 + n) 0 59
    refine ⟨_, _, rfl, ?_, (Below.refl _ w).drew.alloc (Nat.le_refl _) _⟩
    exact World.ownsRow_made w.drew _ _ (Nat.le_refl _) (grownCap_le_maxLen _ _ _ _ (by unfold maxLen; omega)) (by
      simp only [Array.size_append, size_zeroCells, List.size_toArray, List.length_nil, Value.cells]
      show _ = grownCap w (0 + n) 0 59 * 2
      show 0 + (0 + n - 0) * 2 + (grownCap w (0 + n) 0 59 - (0 + n)) * 2 = _
      omega)

/-- lists, as they lie in memory -/
def LiesL (w : World) (v : Value) (K : List (List Ent)) : Prop :=
  ∃ (b : Nat) (cs : Array Value), v = .slice (some ⟨b, 0, none⟩) K.length K.length ∧ Blk w b cs 31 ∧ K.length ≤ 3 ∧ ∀ (k : Nat) (l : List Ent), K[k]? = some l → ∃ x, cs[k]? = some x ∧ LiesE w x l
theorem LiesL.on {w w' : World} {v : Value} {K : List (List Ent)} (h : LiesL w v K) (hb : Below w.heap.size w w') : LiesL w' v K := by
  obtain ⟨b, cs, h1, h2, h3, h4⟩ := h
  refine ⟨b, cs, h1, h2.on hb h2.lt, h3, fun k l hk => ?_⟩
  obtain ⟨x, hx, hl⟩ := h4 k l hk
  exact ⟨x, hx, hl.on hb⟩
theorem flat_take {K : List (List Ent)} {k : Nat} {l : List Ent} (h : K[k]? = some l) : (K.take (k + 1)).flatten = (K.take k).flatten ++ l := by
  rw [List.take_add_one, h, List.flatten_append]
  simp
theorem flat_take_le {K : List (List Ent)} (k : Nat) : (K.take k).flatten.length ≤ K.flatten.length := by
  have : K.flatten = (K.take k).flatten ++ (K.drop k).flatten := by rw [← List.flatten_append, List.take_append_drop]
  rw [this, List.length_append]
  omega

set_option maxHeartbeats 2000000 in
theorem concat_any (w : World) (v : Value) (K : List (List Ent)) (hv : LiesL w v K) (hn : K.flatten.length ≤ 4398046511000) :
    Calls Tryz.prog 245 #[v] w fun e w' => ∃ a c, e = .returned (.slice a K.flatten.length c) ∧ RowE w' w.heap.size (.slice a K.flatten.length c) K.flatten ∧ Below w.heap.size w w' := by
  have HV := hid hv
  have HGR : Hid (∀ w1 : World, Calls Tryz.prog 253 #[.slice none 0 0, .int .i64 (K.flatten.length : Nat)] w1 fun e w' => ∃ a c, e = .returned (.slice a 0 c) ∧ RowE w' w1.heap.size (.slice a 0 c) [] ∧ Below w1.heap.size w1 w') := fun w1 => grow_any w1 K.flatten.length (by omega)
  obtain ⟨N, hN⟩ : ∃ N, K.flatten.length = N := ⟨_, rfl⟩
  have HN := hid hN
  rw [hN] at HGR hn ⊢
  obtain ⟨b, cs, rfl, hbk, hk3, hcs⟩ := hv
  have HBK := hid hbk
  have HCS := hid hcs
  obtain ⟨q, hq⟩ : ∃ q, K.length = q := ⟨_, rfl⟩
  have HQ := hid hq
  rw [hq] at hk3 ⊢
  clear hN hbk hcs hq HV
  go_enter Tryz.func245, Tryz.ntmps245
  go_wp2_with fail
  go_loopw [3, 11] (fun s i wr => ∃ k : Nat, k ≤ q ∧ i = .int .i64 (k : Nat) ∧ s = .int .i64 ((K.take k).flatten.length : Nat) ∧ Hid (w = wr)) (fun _ i _ => q - (intOf i).toNat)
  case atStart => exact ⟨0, Nat.zero_le _, rfl, rfl, Eq.refl w⟩
  case round =>
    obtain ⟨k, hk, rfl, rfl, HW⟩ := hrel
    obtain rfl := HW.out
    have htk := flat_take_le (K := K) k
    rw [HN.out] at htk
    by_cases hlt : k < q
    · obtain ⟨l, hl⟩ : ∃ l, K[k]? = some l := ⟨_, List.getElem?_eq_getElem (by rw [HQ.out]; exact hlt)⟩
      obtain ⟨x, hx, hlx⟩ := HCS.out k l hl
      obtain ⟨xa, xc, rfl⟩ := hlx.form
      have c0 := HBK.out.cell hx
      have hki : (k : Int) < (q : Int) := by omega
      have HT : Hid ((K.take (k + 1)).flatten.length = (K.take k).flatten.length + l.length) := by show _ = _; rw [flat_take hl, List.length_append]
      have htk2 := flat_take_le (K := K) (k + 1)
      rw [HN.out, HT.out] at htk2
      generalize (K.take k).flatten.length = m at HT htk htk2 ⊢
      generalize l.length = ln at *
      have hwm : IntKind.i64.wrap ((m : Int) + (ln : Int)) = (m : Int) + (ln : Int) := by rw [IntKind.wrap_i64]; omega
      have hng : ¬ ((m : Int) + (ln : Int)) < 0 := by omega
      clear hl hx hlx
      go_wp2_with fail
      go_roundw
      case rel => exact ⟨k + 1, by omega, by go_num, by rw [HT.out]; go_num, hid trivial⟩
      case measure => simp [intOf]; omega
    · obtain rfl : k = q := by omega
      have hki : ¬ (k : Int) < (k : Int) := by omega
      have hK : K.take k = K := List.take_of_length_le (by rw [HQ.out]; exact Nat.le_refl _)
      rw [hK, HN.out]
      clear htk hK hlt
      go_wp2_with (go_at_call 253; refine (HGR.out _).mono ?_; clear HGR; rintro e w1 ⟨va, vc, rfl, ho1, hb1⟩; have HO1 := hid ho1; have HB1 := hid hb1; clear ho1 hb1)
      go_loopw [6, 27] (fun o i wr => ∃ (j m : Nat) (ba : Option Addr) (bc : Nat), j ≤ k ∧ i = .int .i64 (j : Nat) ∧ o = .slice ba m bc ∧ Hid ((K.take j).flatten.length = m) ∧ Hid (RowE wr w.heap.size (.slice ba m bc) (K.take j).flatten) ∧ Hid (Below w.heap.size w wr)) (fun _ i _ => k - (intOf i).toNat)
      case atStart => exact ⟨0, 0, va, vc, Nat.zero_le _, rfl, rfl, rfl, HO1, HB1⟩
      case round =>
        obtain ⟨j, m, ba, bc, hj, rfl, rfl, HL, HO, HB⟩ := hrel
        clear HO1 HB1
        by_cases hlt : j < k
        · obtain ⟨l, hl⟩ : ∃ l, K[j]? = some l := ⟨_, List.getElem?_eq_getElem (by rw [HQ.out]; exact hlt)⟩
          obtain ⟨x, hx, hlx⟩ := HCS.out j l hl
          have c0 := (HBK.out.on HB.out HBK.out.lt).cell hx
          have HLX := hid (hlx.on HB.out)
          obtain ⟨xa, xc, rfl⟩ := hlx.form
          have hki : (j : Int) < (k : Int) := by omega
          have HT := hid (flat_take hl)
          have htk2 := flat_take_le (K := K) (j + 1)
          rw [HN.out, HT.out, List.length_append, HL.out] at htk2
          clear hx hlx hl
          obtain ⟨ln, hln⟩ : ∃ ln, l.length = ln := ⟨_, rfl⟩
          have HLN := hid hln
          rw [hln] at HLX c0 htk2
          clear hln
          go_wp2_with (at_builtin; refine wpList_more _ w rfl (.tmp 31) (.tmp 32) rfl (.slice ba m bc) (K.take j).flatten m HL.out rfl HO.out HB.out (.slice xa ln xc) l ln HLN.out rfl HLX.out (by omega) ?_; intro va vc w6 hr6 hb6 _; have HO6 : Hid (RowE w6 w.heap.size (.slice va (m + ln) vc) (K.take (j + 1)).flatten) := (by show RowE _ _ _ _; rw [HT.out]; exact hr6); have HB6 := hid hb6; clear hr6 hb6)
          go_roundw
          case rel => exact ⟨j + 1, m + ln, va, vc, by omega, by go_num, rfl, (by show _ = _; rw [HT.out, List.length_append, HL.out, HLN.out]), HO6, HB6⟩
          case measure => simp [intOf]; omega
        · obtain rfl : j = k := by omega
          have hki : ¬ (j : Int) < (j : Int) := by omega
          have hK : K.take j = K := List.take_of_length_le (by rw [HQ.out]; exact Nat.le_refl _)
          rw [hK] at HL HO
          obtain rfl : m = N := by rw [← HL.out, HN.out]
          go_wp2_with fail
          go_ret
          exact ⟨_, _, rfl, HO.out, HB.out⟩
end Go.Proofs.YtjcbaiohpdihoaaGreatDoor.Lf

namespace Go.Proofs.YtjcbaiohpdihoaaGreatDoor.Lf
open Go.Proofs.YtjcbaiohpdihoaaGreatDoor.Nu
open Go.RowKit
set_option linter.unusedVariables false
set_option linter.unusedSimpArgs false
set_option maxRecDepth 100000

theorem set_same {α : Type} {L : List α} {k : Nat} {x : α} (h : L[k]? = some x) : L.set k x = L := by
  obtain ⟨hk, rfl⟩ := List.getElem?_eq_some_iff.1 h
  exact List.set_getElem_self hk

set_option maxHeartbeats 4000000 in
theorem join_any (w : World) (v : Value) (K : List (List Ent)) (hv : LiesL w v K) (hn : K.flatten.length ≤ 4398046511000) (hs : SmlL K.flatten) :
    Calls Tryz.prog 213 #[v] w fun e w' => ∃ a c, e = .returned (.slice a K.flatten.length c) ∧ RowE w' w.heap.size (.slice a K.flatten.length c) K.flatten ∧ Below w.heap.size w w' := by
  have HCC := hid (concat_any w v K hv hn)
  obtain ⟨L, hL⟩ : ∃ L, K.flatten = L := ⟨_, rfl⟩
  rw [hL] at HCC hn hs ⊢
  have HSM := hid hs
  obtain ⟨n, hn'⟩ : ∃ n, L.length = n := ⟨_, rfl⟩
  have HN := hid hn'
  rw [hn'] at HCC hn ⊢
  clear hL hv hs hn'
  go_enter Tryz.func213, Tryz.ntmps213
  go_wp2_with (go_at_call 245; refine HCC.out.mono ?_; clear HCC; rintro e w1 ⟨va, vc, rfl, ho1, hb1⟩; have HO1 := hid ho1; have HB1 := hid hb1; clear ho1 hb1)
  go_loopw [10] (fun i wr => ∃ j : Nat, j ≤ n ∧ i = .int .i64 (j : Nat) ∧ Hid (RowE wr w.heap.size (.slice va n vc) L) ∧ Hid (Below w.heap.size w wr)) (fun i _ => n - (intOf i).toNat)
  case atStart => exact ⟨0, Nat.zero_le _, rfl, HO1, HB1⟩
  case round =>
    obtain ⟨j, hj, rfl, HO, HB⟩ := hrel
    clear HO1 HB1
    by_cases hjm : j < n
    · have hji : (j : Int) < (n : Int) := by omega
      obtain ⟨x, hx⟩ : ∃ x, L[j]? = some x := ⟨_, List.getElem?_eq_getElem (by rw [HN.out]; exact hjm)⟩
      obtain ⟨s1, s2⟩ := HSM.out x (List.mem_of_getElem? hx)
      have HC1 : Hid (∀ w1 : World, Calls Tryz.prog 104 #[.string x.k] w1 fun e w' => e = .returned (.string x.k) ∧ Below w1.heap.size w1 w') := fun w1 => clone_any _ w1 (by unfold Sml at s1; omega)
      have HC2 : Hid (∀ w1 : World, Calls Tryz.prog 104 #[.string x.v] w1 fun e w' => e = .returned (.string x.v) ∧ Below w1.heap.size w1 w') := fun w1 => clone_any _ w1 (by unfold Sml at s2; omega)
      obtain ⟨g, vc', e1, v1, v2, hgB, hgl⟩ := own_some HO.out (by rw [HN.out]; omega)
      have hnn : L.length = n := HN.out
      injection e1 with e1 e2 e3
      subst e1
      subst e3
      obtain ⟨_, _, e4, _, _, hcc⟩ := own_cells HO.out
      cases e4
      obtain ⟨_, e5, _, _, c1, f1⟩ := hcc (j * 2) (.string x.k) (by rw [flatE_even, hx]; rfl)
      cases e5
      obtain ⟨_, e5, _, _, c2, f2⟩ := hcc (j * 2 + 1) (.string x.v) (by rw [flatE_odd, hx]; rfl)
      cases e5
      have HX := hid hx
      have hba : Below wr.heap.size wr (wr.alloc (.cells #[.string x.k, .string x.v] 59)) := (Below.refl _ wr).alloc (Nat.le_refl _) _
      have HBk := hid (Blk.made wr #[.string x.k, .string x.v] 59)
      have HOa := hid (HO.out.on hba)
      have HBa := hid (HB.out.trans (hba.mono HB.out.size))
      clear hcc hx s1 s2 hba HO HB hnn v1 v2 e2
      go_wp2_with fail
      clear c1 c2 f1 f2
      generalize wr.alloc (.cells #[.string x.k, .string x.v] 59) = wa at *
      generalize wr.heap.size = p at *
      obtain ⟨xk, xv⟩ := x
      simp only at HC1 HC2 HBk
      have hd0 : Below wa.heap.size wa wa.drew := (Below.refl _ wa).drew
      have HBk0 := hid (HBk.out.on hd0 HBk.out.lt)
      have HO0 := hid (HOa.out.on hd0)
      have HB0 := hid (HBa.out.trans (hd0.mono HBa.out.size))
      clear hd0 HBk HOa HBa
      refine wp_region_d (fun w' => w'.cell? ⟨p, 0, none⟩ = some (.string xk) ∧ w'.cell? ⟨p, 1, none⟩ = some (.string xv)) (fun _ => true) (by kernel_rfl) ?_
      generalize wa.drew = wd at *
      have hS : wd.cell? ⟨p, 0, none⟩ = some (.string xk) ∧ wd.cell? ⟨p, 1, none⟩ = some (.string xv) := ⟨HBk0.out.cell (i := 0) rfl, HBk0.out.cell (i := 1) rfl⟩
      refine wpAnyM_pick (i := 0) (some 15) (v := ?vz1) rfl rfl (by kernel_rfl) (by kernel_rfl) (by kernel_rfl) (by kernel_rfl) (fun _ _ _ h => h) (Or.inl ⟨by rfl, ?hz1⟩) hS ?rz1
      case hz1 => intro w hSw; (try have hs1 := hSw.1); (try have hs2 := hSw.2); go_simp; try with_reducible rfl
      try simp only [Act.put, List.setIfInBounds_toArray, List.set_cons_zero, List.set_cons_succ]
      refine wpAnyM_pick (i := 1) (some 16) (v := ?vz2) rfl rfl (by kernel_rfl) (by kernel_rfl) (by kernel_rfl) (by kernel_rfl) (fun _ _ _ h => h) (Or.inl ⟨by rfl, ?hz2⟩) hS ?rz2
      case hz2 => intro w hSw; (try have hs1 := hSw.1); (try have hs2 := hSw.2); go_simp; try with_reducible rfl
      try simp only [Act.put, List.setIfInBounds_toArray, List.set_cons_zero, List.set_cons_succ]
      refine wpAnyM_pick (i := 2) (some 17) (v := ?vz3) rfl rfl (by kernel_rfl) (by kernel_rfl) (by kernel_rfl) (by kernel_rfl) (fun _ _ _ h => h) (Or.inl ⟨by rfl, ?hz3⟩) hS ?rz3
      case hz3 => intro w hSw; (try have hs1 := hSw.1); (try have hs2 := hSw.2); go_simp; try with_reducible rfl
      try simp only [Act.put, List.setIfInBounds_toArray, List.set_cons_zero, List.set_cons_succ]
      refine wpAnyM_pick (i := 3) (some 18) (v := ?vz4) rfl rfl (by kernel_rfl) (by kernel_rfl) (by kernel_rfl) (by kernel_rfl) (fun _ _ _ h => h) (Or.inl ⟨by rfl, ?hz4⟩) hS ?rz4
      case hz4 => intro w hSw; (try have hs1 := hSw.1); (try have hs2 := hSw.2); go_simp; try with_reducible rfl
      try simp only [Act.put, List.setIfInBounds_toArray, List.set_cons_zero, List.set_cons_succ]
      refine wpAnyM_pick (i := 5) (some 20) (v := ?vz5) rfl rfl (by kernel_rfl) (by kernel_rfl) (by kernel_rfl) (by kernel_rfl) (fun _ _ _ h => h) (Or.inl ⟨by rfl, ?hz5⟩) hS ?rz5
      case hz5 => intro w hSw; (try have hs1 := hSw.1); (try have hs2 := hSw.2); go_simp; try with_reducible rfl
      try simp only [Act.put, List.setIfInBounds_toArray, List.set_cons_zero, List.set_cons_succ]
      refine wpAnyM_pick (i := 6) (some 21) (v := ?vz6) rfl rfl (by kernel_rfl) (by kernel_rfl) (by kernel_rfl) (by kernel_rfl) (fun _ _ _ h => h) (Or.inl ⟨by rfl, ?hz6⟩) hS ?rz6
      case hz6 => intro w hSw; (try have hs1 := hSw.1); (try have hs2 := hSw.2); go_simp; try with_reducible rfl
      try simp only [Act.put, List.setIfInBounds_toArray, List.set_cons_zero, List.set_cons_succ]
      refine wpAnyM_one (i := 4) (by kernel_rfl) rfl (fun K hK => ?_)
      go_simp
      go_at_call 104
      refine (HC1.out _).mono ?_
      rintro e w3 ⟨rfl, hb3⟩
      have HBk3 := hid (HBk0.out.on hb3 HBk0.out.lt)
      have HO3 := hid (HO0.out.on hb3)
      have HB3 := hid (HB0.out.trans (hb3.mono HB0.out.size))
      clear hb3 HBk0 HO0 HB0 hS HC1
      have hS : w3.cell? ⟨p, 0, none⟩ = some (.string xk) ∧ w3.cell? ⟨p, 1, none⟩ = some (.string xv) := ⟨HBk3.out.cell (i := 0) rfl, HBk3.out.cell (i := 1) rfl⟩
      go_wp2_with fail
      refine hK.out _ _ (fun _ => hS) ?_
      clear hK K
      try simp only [Act.put, List.setIfInBounds_toArray, List.set_cons_zero, List.set_cons_succ]
      refine wpAnyM_one (i := 7) (by kernel_rfl) rfl (fun K hK => ?_)
      go_simp
      go_at_call 104
      refine (HC2.out _).mono ?_
      rintro e w4 ⟨rfl, hb4⟩
      have HBk4 := hid (HBk3.out.on hb4 HBk3.out.lt)
      have HO4 := hid (HO3.out.on hb4)
      have HB4 := hid (HB3.out.trans (hb4.mono HB3.out.size))
      clear hb4 HBk3 HO3 HB3 hS HC2
      have hS : w4.cell? ⟨p, 0, none⟩ = some (.string xk) ∧ w4.cell? ⟨p, 1, none⟩ = some (.string xv) := ⟨HBk4.out.cell (i := 0) rfl, HBk4.out.cell (i := 1) rfl⟩
      go_wp2_with fail
      refine hK.out _ _ (fun _ => hS) ?_
      clear hK K
      try simp only [Act.put, List.setIfInBounds_toArray, List.set_cons_zero, List.set_cons_succ]
      refine wpAnyM_pick (i := 8) (some 23) (v := ?vz7) rfl rfl (by kernel_rfl) (by kernel_rfl) (by kernel_rfl) (by kernel_rfl) (fun _ _ _ h => h) (Or.inl ⟨by rfl, ?hz7⟩) hS ?rz7
      case hz7 => intro w hSw; (try have hs1 := hSw.1); (try have hs2 := hSw.2); go_simp; try with_reducible rfl
      try simp only [Act.put, List.setIfInBounds_toArray, List.set_cons_zero, List.set_cons_succ]
      refine wpAnyM_pick (i := 9) (some 24) (v := ?vz8) rfl rfl (by kernel_rfl) (by kernel_rfl) (by kernel_rfl) (by kernel_rfl) (fun _ _ _ h => h) (Or.inl ⟨by rfl, ?hz8⟩) hS ?rz8
      case hz8 => intro w hSw; (try have hs1 := hSw.1); (try have hs2 := hSw.2); go_simp; try with_reducible rfl
      try simp only [Act.put, List.setIfInBounds_toArray, List.set_cons_zero, List.set_cons_succ]
      obtain ⟨_, _, e4, _, _, hcc⟩ := own_cells HO4.out
      cases e4
      obtain ⟨_, e5, _, _, c1, f1⟩ := hcc (j * 2) (.string xk) (by rw [flatE_even, HX.out]; rfl)
      cases e5
      obtain ⟨_, e5, _, _, c2, f2⟩ := hcc (j * 2 + 1) (.string xv) (by rw [flatE_odd, HX.out]; rfl)
      cases e5
      have HO5 : Hid (RowE ((w4.setCell ⟨g, j * 2, none⟩ (.string xk)).setCell ⟨g, j * 2 + 1, none⟩ (.string xv)) w.heap.size (.slice (some ⟨g, 0, none⟩) L.length vc) L) := by
        have r1 := own_set (own_set HO4.out (j * 2) (.string xk)) (j * 2 + 1) (.string xv)
        rw [flatE_set L j ⟨xk, xv⟩, set_same HX.out] at r1
        exact r1
      have k1 : Keep (fun j => j = g) w4 ((w4.setCell ⟨g, j * 2, none⟩ (.string xk)).setCell ⟨g, j * 2 + 1, none⟩ (.string xv)) := (Keep.set (S := fun j => j = g) w4 rfl _ _).trans (Keep.set (S := fun j => j = g) _ rfl _ _) (fun _ _ h => h)
      have HB5 := hid (HB4.out.trans (k1.below (fun j hj => by rw [hj]; exact hgB) HB4.out.size))
      have HBk5 := hid (k1.blk HBk4.out (fun e => by omega))
      clear k1 hcc HO4 HB4 hS HBk4
      refine wpAnyM_one (i := 10) (by kernel_rfl) rfl (fun K hK => ?_)
      go_simp
      refine hK.out _ _ (fun _ => ⟨HBk5.out.cell (i := 0) rfl, HBk5.out.cell (i := 1) rfl⟩) ?_
      clear hK K
      try simp only [Act.put, List.setIfInBounds_toArray, List.set_cons_zero, List.set_cons_succ]
      refine wpAnyM_done (by kernel_rfl) ?_ _
      clear c1 c2 f1 f2 HBk5
      generalize (w4.setCell ⟨g, j * 2, none⟩ (.string xk)).setCell ⟨g, j * 2 + 1, none⟩ (.string xv) = w6 at *
      go_wp2_with fail
      go_roundw
      case rel => exact ⟨j + 1, by omega, by go_num, HO5, HB5⟩
      case measure => simp [intOf]; omega
    · obtain rfl : j = n := by omega
      have hji : ¬ (j : Int) < (j : Int) := by omega
      go_wp2_with fail
      go_ret
      exact ⟨_, _, rfl, HO.out, HB.out⟩
end Go.Proofs.YtjcbaiohpdihoaaGreatDoor.Lf
