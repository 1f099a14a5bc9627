/-
  What the document's Writes and Commit answer.
-/
import Derived.Test.YtoecopmbaoklkaaGreatRy
import Derived.Test.YtoecopmbaoklkaaGreatCp
namespace Go.Proofs.YtoecopmbaoklkaaGreat
open Go.RowKit
set_option linter.unusedVariables false
set_option linter.unusedSimpArgs false
set_option maxRecDepth 100000

theorem wp_pgs {o : Oper} {a : Act} {K : Act → World → Prop} {Q : Exit → Act → World → Prop} (W w0 : World) (s x : Operand)
    (ho : o.op = .call { callee := .builtin .append, args := #[s, x], argTypes := #[35, 35] }) (v : Value) (M : List Pg) (m : Nat) (hm : M.length = m) (hs : a.eval s = v) (hown : RowP W w0.heap.size v M) (hB : Below w0.heap.size w0 W)
    (ad : Addr) (N : List Pg) (k c : Nat) (hk : N.length = k) (hk0 : 0 < k) (hx : a.eval x = .slice (some ad) k c) (hc : ∀ j u, (flatP N)[j]? = some u → W.cell? (ad.add j) = some u) (hlen : m + k ≤ 5864062014635)
    (h : ∀ va vc w', RowP w' w0.heap.size (.slice va (m + k) vc) (M ++ N) → Below w0.heap.size w0 w' → W.grownBy w' v.ownBlock → K (a.put o.dst (.slice va (m + k) vc)) w') : o.wp Tryz.prog a W K Q := by
  obtain ⟨i0, hi, hz0, hz1, hz2⟩ := info_parts info54
  subst hm
  subst hk
  refine wp_append_blk W s x 35 ho w0.heap.size 75 i0 (.agg #[.int .i64 0, .string ⟨#[]⟩]) 2 24 Tryz.underlying35 hi hz0 hz1 hz2 rfl (by decide) v M.length (flatP M) hs hown ad N.length c (flatP N) hx (flatP_length N) hc (flatP_one N) hk0 (by unfold maxLen; omega) (by omega) hB.size ?_
  intro v' w' hown' hgrow _
  obtain ⟨va, vc, hv'⟩ := own_form hown'
  subst hv'
  refine h va vc w' ?_ (hB.grown hgrow hB.size (fun g hg => ((hown : W.ownsRow w0.heap.size 75 2 _ _ _).lt g hg).1)) hgrow
  unfold RowP
  rw [List.length_append, flatP_append]
  exact hown'
theorem wpList_pgs {ops : Array Oper} {rest : List Oper} {o : Oper} {a : Act} {Q : Exit → Act → World → Prop} (W w0 : World) (hgd : o.guard = none) (s x : Operand)
    (ho : o.op = .call { callee := .builtin .append, args := #[s, x], argTypes := #[35, 35] }) (v : Value) (M : List Pg) (m : Nat) (hm : M.length = m) (hs : a.eval s = v) (hown : RowP W w0.heap.size v M) (hB : Below w0.heap.size w0 W)
    (ad : Addr) (N : List Pg) (k c : Nat) (hk : N.length = k) (hk0 : 0 < k) (hx : a.eval x = .slice (some ad) k c) (hc : ∀ j u, (flatP N)[j]? = some u → W.cell? (ad.add j) = some u) (hlen : m + k ≤ 5864062014635)
    (h : ∀ va vc w', RowP w' w0.heap.size (.slice va (m + k) vc) (M ++ N) → Below w0.heap.size w0 w' → W.grownBy w' v.ownBlock → wpList Tryz.prog ops Q rest (a.put o.dst (.slice va (m + k) vc)) w') : wpList Tryz.prog ops Q (o :: rest) a W :=
  wpList_plain hgd fun K hK => wp_pgs W w0 s x ho v M m hm hs hown hB ad N k c hk hk0 hx hc hlen fun va vc w' h1 h2 h3 => hK _ _ (h va vc w' h1 h2 h3)
theorem copiesL_at {n : Nat} {L : List Pg} {j : Nat} {p : Pg} (h : L[j]? = some p) : (copiesL n L)[j]? = some ⟨((2 + lb (pgs n) + j : Nat) : Int), p.data⟩ := by
  unfold copiesL
  exact enumP_at (by rw [List.getElem?_map, h]; rfl)
theorem copiesL_len (n : Nat) (L : List Pg) : (copiesL n L).length = L.length := by unfold copiesL; rw [enumP_len, List.length_map]

set_option maxHeartbeats 8000000 in
theorem rWrites_any (n : Nat) (h1 : 64 ≤ n) (h2 : n ≤ 2048) (w : World) (S : Nat → Prop) (v : Value) (L : List Pg) (hl : LiesO w S v L) (hn : L.length ≤ 2048) (hp : ∀ p ∈ L, 0 ≤ p.pl ∧ p.pl < 65536) (h0 : L ≠ []) :
    Calls Tryz.prog 91 #[.int .i64 (n : Nat), v] w fun e w' => ∃ v', e = .returned v' ∧ RowP w' w.heap.size v' (savedL n L ++ settledL L) ∧ Below w.heap.size w w' := by
  obtain ⟨a, c, e1⟩ := hl.form
  subst e1
  obtain ⟨p0, hp0⟩ : ∃ p, L[0]? = some p := by cases L with | nil => exact absurd rfl h0 | cons p r => exact ⟨p, rfl⟩
  obtain ⟨b, off, hab, hblt, _⟩ := hl.at hp0
  subst hab
  have hN0 : 0 < L.length := (List.getElem?_eq_some_iff.1 hp0).1
  have hpg : ∀ w1, _ := fun w1 => rPages_any n h1 h2 w1
  have b2 := pgs_hi h2
  have hrw : ∀ w1, _ := fun w1 => rRows_any (pgs n) (by omega) w1
  have HLI : Hid (∀ w1, Below w.heap.size w w1 → Calls Tryz.prog 112 #[.slice (some ⟨b, off, none⟩) L.length c] w1 fun e w' => ∃ v', e = .returned v' ∧ RowS w' w1.heap.size v' (rows L) ∧ Below w1.heap.size w1 w') := fun w1 hb => rList_any w1 S _ L (hl.on hb) (by omega) hp
  have HHD : Hid (∀ w1, Below w.heap.size w w1 → Calls Tryz.prog 113 #[.slice (some ⟨b, off, none⟩) L.length c] w1 fun e w' => e = .returned (.string (hdB (rows L) L)) ∧ Below w1.heap.size w1 w') := fun w1 hb => rHead_any w1 S _ L (hl.on hb) hn hp
  have HBK : Hid (∀ w1, Calls Tryz.prog 114 #[.string ⟨#[]⟩] w1 fun e w' => e = .returned (.string Z) ∧ Below w1.heap.size w1 w') := fun w1 => by
    have h := rBlock_any ⟨#[]⟩ (by decide) w1
    rw [show Nu.padOf ⟨#[]⟩ 256 = Z from pad_nil] at h
    exact h
  have HL := hid hl
  have HFL := hid (lies_flat hl)
  have HBL := hid hblt
  obtain ⟨N, hN⟩ : ∃ N, L.length = N := ⟨_, rfl⟩
  have HN := hid hN
  obtain ⟨y, hy⟩ : ∃ y, lb (pgs n) = y := ⟨_, rfl⟩
  have HY := hid hy
  have hyb : y ≤ 20 := by rw [← hy]; unfold lb; omega
  rw [hN] at HLI HHD hn hN0 ⊢
  rw [hy] at hrw
  obtain ⟨qq, hqq⟩ : ∃ qq, pgs n = qq := ⟨_, rfl⟩
  rw [hqq] at hpg hrw
  have HLT : Hid (∀ j, j ≤ N → ((copiesL n L).take j).length = j) := fun j hj => by rw [List.length_take, copiesL_len, HN.out]; omega
  have HCP : Hid (∀ j p, L[j]? = some p → (copiesL n L).take (j + 1) = (copiesL n L).take j ++ [⟨2 + (y : Int) + (j : Int), p.data⟩]) := fun j p hj => by
    rw [take_snoc (copiesL_at hj), HY.out]
    have e1 : ((2 + y + j : Nat) : Int) = 2 + (y : Int) + (j : Int) := by omega
    rw [e1]
  obtain ⟨M, hM⟩ : ∃ M, (rows L).length = M := ⟨_, rfl⟩
  have HM := hid hM
  have hM2 : M ≤ 20 := by rw [← hM, rows_len, HN.out]; unfold lb; omega
  clear hl hp0 hN h0 hp hy hqq hM hblt b2
  have hN0b : ((N : Int) == 0) = false := by simp; omega
  go_enter Tryz.func91, Tryz.ntmps91
  go_wp2_with fail
  go_loopw [5, 15] (fun x i wr => ∃ (j : Nat) (ba : Option Addr) (bc : Nat), j ≤ N ∧ i = .int .i64 (j : Nat) ∧ x = .slice ba j bc ∧ Hid (RowP wr w.heap.size (.slice ba j bc) ((copiesL n L).take j)) ∧ Hid (Below w.heap.size w wr)) (fun _ i _ => N - (intOf i).toNat)
  case atStart => exact ⟨0, none, 0, Nat.zero_le _, rfl, rfl, World.ownsRow_nil _ _ _ _, Below.refl _ w⟩
  case round =>
    obtain ⟨j, ba, bc, hj, rfl, rfl, HR, HB⟩ := hrel
    by_cases hlt : j < N
    · have hji : (j : Int) < (N : Int) := by omega
      obtain ⟨p, hp⟩ : ∃ p, L[j]? = some p := ⟨_, List.getElem?_eq_getElem (by rw [HN.out]; exact hlt)⟩
      obtain ⟨b', off', hab, _, _, _, cp1, _, _⟩ := (HL.out.on HB.out).at hp
      cases hab
      have HSN := hid (HCP.out j p hp)
      have HLJ := hid (HLT.out j hj)
      obtain ⟨pl, data⟩ := p
      simp only at cp1 HSN
      have hw1 : IntKind.i64.wrap (2 + (y : Int)) = 2 + (y : Int) := by rw [IntKind.wrap_i64]; omega
      have hw2 : IntKind.i64.wrap (2 + (y : Int) + (j : Int)) = 2 + (y : Int) + (j : Int) := by rw [IntKind.wrap_i64]; omega
      have HR3 : Hid (RowP ((wr.alloc (.cells #[.int .i64 (2 + (y : Int) + (j : Int)), .string data] 75)).drew) w.heap.size (.slice ba j bc) ((copiesL n L).take j)) := HR.out.on (((Below.refl _ wr).alloc (Nat.le_refl _) _).drew)
      have HB3 : Hid (Below w.heap.size w ((wr.alloc (.cells #[.int .i64 (2 + (y : Int) + (j : Int)), .string data] 75)).drew)) := (HB.out.alloc HB.out.size _).drew
      have HCE : Hid (∀ k u, (flatP [⟨2 + (y : Int) + (j : Int), data⟩])[k]? = some u → ((wr.alloc (.cells #[.int .i64 (2 + (y : Int) + (j : Int)), .string data] 75)).drew).cell? ((⟨wr.heap.size, 0, none⟩ : Addr).add k) = some u) := cells_two wr.drew _ _ 75
      have HSW : wr.drew.cell? ⟨b, off + j * 2 + 1, none⟩ = some (.string data) := cp1
      have HS5 : Hid (∀ w5, Below w.heap.size w w5 → w5.cell? ⟨b, off + j * 2 + 1, none⟩ = some (.string data)) := fun w5 h5 => (h5.cell (p := ⟨b, off + j * 2 + 1, none⟩) HBL.out).trans ((HB.out.cell (p := ⟨b, off + j * 2 + 1, none⟩) HBL.out).symm.trans cp1)
      have HSA : ((wr.alloc (.cells #[.int .i64 (2 + (y : Int) + (j : Int)), .string data] 75)).drew).cell? ⟨b, off + j * 2 + 1, none⟩ = some (.string data) := HS5.out _ HB3.out
      clear hp
      go_wp2_with fail
      refine wp_region_d (fun w' => w'.cell? ⟨b, off + j * 2 + 1, none⟩ = some (.string data)) (fun _ => true) (by kernel_rfl) ?_
      refine wpAnyM_pick (i := 0) (some 18) (v := ?vz1) rfl rfl (by kernel_rfl) (by kernel_rfl) (by kernel_rfl) (by kernel_rfl) (fun _ _ _ h => h) (Or.inl ⟨by rfl, ?hz1⟩) HSW ?rz1
      case hz1 => intro w hSw; go_simp; try with_reducible rfl
      try simp only [Act.put, List.setIfInBounds_toArray, List.set_cons_zero, List.set_cons_succ]
      refine wpAnyM_pick (i := 1) (some 19) (v := ?vz2) rfl rfl (by kernel_rfl) (by kernel_rfl) (by kernel_rfl) (by kernel_rfl) (fun _ _ _ h => h) (Or.inl ⟨by rfl, ?hz2⟩) HSW ?rz2
      case hz2 => intro w hSw; go_simp; try with_reducible rfl
      try simp only [Act.put, List.setIfInBounds_toArray, List.set_cons_zero, List.set_cons_succ]
      refine wpAnyM_pick (i := 5) (some 23) (v := ?vz3) rfl rfl (by kernel_rfl) (by kernel_rfl) (by kernel_rfl) (by kernel_rfl) (fun _ _ _ h => h) (Or.inl ⟨by rfl, ?hz3⟩) HSW ?rz3
      case hz3 => intro w hSw; go_simp; try with_reducible rfl
      try simp only [Act.put, List.setIfInBounds_toArray, List.set_cons_zero, List.set_cons_succ]
      refine wpAnyM_pick (i := 7) (some 25) (v := ?vz4) rfl rfl (by kernel_rfl) (by kernel_rfl) (by kernel_rfl) (by kernel_rfl) (fun _ _ _ h => h) (Or.inl ⟨by rfl, ?hz4⟩) HSW ?rz4
      case hz4 => intro w hSw; go_simp; try with_reducible rfl
      try simp only [Act.put, List.setIfInBounds_toArray, List.set_cons_zero, List.set_cons_succ]
      refine wpAnyM_pick (i := 8) (some 26) (v := ?vz5) rfl rfl (by kernel_rfl) (by kernel_rfl) (by kernel_rfl) (by kernel_rfl) (fun _ _ _ h => h) (Or.inl ⟨by rfl, ?hz5⟩) HSW ?rz5
      case hz5 => intro w hSw; go_simp; try with_reducible rfl
      try simp only [Act.put, List.setIfInBounds_toArray, List.set_cons_zero, List.set_cons_succ]
      refine wpAnyM_pick (i := 9) (some 27) (v := ?vz6) rfl rfl (by kernel_rfl) (by kernel_rfl) (by kernel_rfl) (by kernel_rfl) (fun _ _ _ h => h) (Or.inl ⟨by rfl, ?hz6⟩) HSW ?rz6
      case hz6 => intro w hSw; go_simp; try with_reducible rfl
      try simp only [Act.put, List.setIfInBounds_toArray, List.set_cons_zero, List.set_cons_succ]
      refine wpAnyM_pick (i := 10) (some 28) (v := ?vz7) rfl rfl (by kernel_rfl) (by kernel_rfl) (by kernel_rfl) (by kernel_rfl) (fun _ _ _ h => h) (Or.inl ⟨by rfl, ?hz7⟩) HSW ?rz7
      case hz7 => intro w hSw; go_simp; try with_reducible rfl
      try simp only [Act.put, List.setIfInBounds_toArray, List.set_cons_zero, List.set_cons_succ]
      refine wpAnyM_pick (i := 11) (some 29) (v := ?vz8) rfl rfl (by kernel_rfl) (by kernel_rfl) (by kernel_rfl) (by kernel_rfl) (fun _ _ _ h => h) (Or.inl ⟨by rfl, ?hz8⟩) HSW ?rz8
      case hz8 => intro w hSw; go_simp; try with_reducible rfl
      try simp only [Act.put, List.setIfInBounds_toArray, List.set_cons_zero, List.set_cons_succ]
      refine wpAnyM_one (i := 2) (by kernel_rfl) rfl (fun K hK => ?_)
      go_simp
      go_at_call 83
      refine (hpg _).mono ?_
      clear hpg
      rintro e w3 ⟨rfl, rfl⟩
      try go_simp
      refine hK.out _ _ (fun _ => HSW) ?_
      clear hK K
      try simp only [Act.put, List.setIfInBounds_toArray, List.set_cons_zero, List.set_cons_succ]
      refine wpAnyM_one (i := 3) (by kernel_rfl) rfl (fun K hK => ?_)
      go_simp
      go_at_call 101
      refine (hrw _).mono ?_
      clear hrw
      rintro e w4 ⟨rfl, rfl⟩
      try go_simp
      refine hK.out _ _ (fun _ => HSW) ?_
      clear hK K
      try simp only [Act.put, List.setIfInBounds_toArray, List.set_cons_zero, List.set_cons_succ]
      refine wpAnyM_pick (i := 4) (some 22) (v := ?vz9) rfl rfl (by kernel_rfl) (by kernel_rfl) (by kernel_rfl) (by kernel_rfl) (fun _ _ _ h => h) (Or.inl ⟨by rfl, ?hz9⟩) HSW ?rz9
      case hz9 => intro w hSw; go_simp; try with_reducible rfl
      try simp only [Act.put, List.setIfInBounds_toArray, List.set_cons_zero, List.set_cons_succ]
      refine wpAnyM_pick (i := 6) (some 24) (v := ?vz10) rfl rfl (by kernel_rfl) (by kernel_rfl) (by kernel_rfl) (by kernel_rfl) (fun _ _ _ h => h) (Or.inl ⟨by rfl, ?hz10⟩) HSW ?rz10
      case hz10 => intro w hSw; go_simp; try with_reducible rfl
      try simp only [Act.put, List.setIfInBounds_toArray, List.set_cons_zero, List.set_cons_succ]
      refine wpAnyM_pick (i := 12) (some 30) (v := ?vz11) rfl rfl (by kernel_rfl) (by kernel_rfl) (by kernel_rfl) (by kernel_rfl) (fun _ _ _ h => h) (Or.inl ⟨by rfl, ?hz11⟩) HSW ?rz11
      case hz11 => intro w hSw; go_simp; try with_reducible rfl
      try simp only [Act.put, List.setIfInBounds_toArray, List.set_cons_zero, List.set_cons_succ]
      refine wpAnyM_one (i := 13) (by kernel_rfl) rfl (fun K hK => ?_)
      go_simp
      refine hK.out _ _ (fun _ => HSA) ?_
      clear hK K
      try simp only [Act.put, List.setIfInBounds_toArray, List.set_cons_zero, List.set_cons_succ]
      refine wpAnyM_one (i := 14) (by kernel_rfl) rfl (fun K hK => ?_)
      simp only [List.getElem_toArray, List.getElem_cons_succ, List.getElem_cons_zero]
      rw [if_pos (by rfl)]
      refine wp_pgs _ w (.tmp 18) (.tmp 31) rfl (.slice ba j bc) ((copiesL n L).take j) j HLJ.out rfl HR3.out HB3.out ⟨wr.heap.size, 0, none⟩ [⟨2 + (y : Int) + (j : Int), data⟩] 1 1 rfl (by decide) rfl HCE.out (by omega) ?_
      intro va vc w5 hr5 hb5 _
      have HR5 : Hid (RowP w5 w.heap.size (.slice va (j + 1) vc) ((copiesL n L).take (j + 1))) := by show RowP _ _ _ _; rw [HSN.out]; exact hr5
      have HB5 := hid hb5
      clear hr5 hb5
      refine hK.out _ _ (fun _ => HS5.out w5 HB5.out) ?_
      clear hK K
      try simp only [Act.put, List.setIfInBounds_toArray, List.set_cons_zero, List.set_cons_succ]
      refine wpAnyM_one (i := 15) (by kernel_rfl) rfl (fun K hK => ?_)
      go_simp
      refine hK.out _ _ (fun _ => HS5.out w5 HB5.out) ?_
      clear hK K
      try simp only [Act.put, List.setIfInBounds_toArray, List.set_cons_zero, List.set_cons_succ]
      refine wpAnyM_done (by kernel_rfl) ?_ _
      try simp only [Act.put, List.setIfInBounds_toArray, List.set_cons_zero, List.set_cons_succ]
      clear HSW HSA cp1
      go_wp2_with fail
      go_roundw
      case rel => exact ⟨j + 1, va, vc, by omega, by go_num, rfl, HR5, HB5⟩
      case measure => simp [intOf]; omega
    · obtain rfl : j = N := by omega
      have hji : ¬ (j : Int) < (j : Int) := by omega
      have HR0 : Hid (RowP wr w.heap.size (.slice ba j bc) (copiesL n L)) := by
        have := HR.out
        rw [List.take_of_length_le (by rw [copiesL_len, HN.out]; omega)] at this
        exact this
      clear HR hpg hrw
      go_wp2_with (go_at_call 112; refine (HLI.out _ HB.out).mono ?_; clear HLI; rintro e w1 ⟨v1, rfl, hr1, hb1⟩; have HL1 := hid hr1; have HR1 := hid (HR0.out.on hb1); have HB1 := hid (HB.out.trans (hb1.mono HB.out.size)); obtain ⟨la, lc, hlv⟩ := hr1.form; subst hlv; rw [HM.out] at HL1 ⊢; clear hr1 hb1 HR0)
      go_loopw [5, 38] (fun x i wq => ∃ (k : Nat) (ca : Option Addr) (cc : Nat), k ≤ M ∧ i = .int .i64 (k : Nat) ∧ x = .slice ca (j + k) cc ∧ Hid (RowP wq w.heap.size (.slice ca (j + k) cc) (copiesL n L ++ (enumP 2 (rows L)).take k)) ∧ Hid (Below w.heap.size w wq) ∧ Hid (RowS wq 0 (.slice la M lc) (rows L))) (fun _ i _ => M - (intOf i).toNat)
      case atStart => exact ⟨0, ba, bc, Nat.zero_le _, rfl, rfl, (by show RowP _ _ _ _; rw [List.take_zero, List.append_nil]; exact HR1.out), HB1, own_base HL1.out (Nat.zero_le _)⟩
      case round =>
        obtain ⟨k, ca, cc, hk, rfl, rfl, HR2, HB2, HL2⟩ := hrel
        clear HR1 HB1 HL1 HB
        by_cases hkM : k < M
        · have hki : (k : Int) < (M : Int) := by omega
          obtain ⟨s, hs⟩ : ∃ s, (rows L)[k]? = some s := ⟨_, List.getElem?_eq_getElem (by rw [HM.out]; exact hkM)⟩
          obtain ⟨g, hab, _, hgl⟩ := row_some (HL2.out : wr.ownsRow _ 9 1 _ _ _) (by rw [HM.out]; omega)
          subst hab
          obtain ⟨cs, _⟩ := RowS.at HL2.out hs
          have HSN : Hid ((enumP 2 (rows L)).take (k + 1) = (enumP 2 (rows L)).take k ++ [⟨2 + (k : Int), s⟩]) := by
            show _ = _
            rw [take_snoc (enumP_at hs)]
            have e1 : ((2 + k : Nat) : Int) = 2 + (k : Int) := by omega
            rw [e1]
          have HLN : Hid ((copiesL n L ++ (enumP 2 (rows L)).take k).length = j + k) := by show _ = _; rw [List.length_append, copiesL_len, HN.out, List.length_take, enumP_len, HM.out]; omega
          clear hs
          go_wp2_with (at_builtin; refine wpList_pgs _ w rfl (.tmp 41) (.tmp 49) rfl (.slice ca (j + k) cc) (copiesL n L ++ (enumP 2 (rows L)).take k) (j + k) HLN.out rfl (HR2.out.alloc (.cells #[.int .i64 (2 + (k : Int)), .string s] 75)) (HB2.out.alloc HB2.out.size _) ⟨wr.heap.size, 0, none⟩ [⟨2 + (k : Int), s⟩] 1 1 rfl (by decide) rfl (cells_two wr _ _ 75) (by omega) ?_)
          intro va vc w5 hr5 hb5 hg5
          have HR5 : Hid (RowP w5 w.heap.size (.slice va (j + (k + 1)) vc) (copiesL n L ++ (enumP 2 (rows L)).take (k + 1))) := by
            show RowP _ _ _ _
            rw [HSN.out]
            exact hr5
          have HB5 := hid hb5
          have HL5 : Hid (RowS w5 0 (.slice (some ⟨g, 0, none⟩) M lc) (rows L)) := World.ownsRow.kept (HL2.out.alloc _) hg5 (.inr (fun e => rows_ne HL2.out HR2.out (by decide) rfl e.symm))
          clear hr5 hb5 hg5 cs
          go_wp2_with fail
          go_roundw
          case rel => exact ⟨k + 1, va, vc, by omega, by go_num, rfl, HR5, HB5, HL5⟩
          case measure => simp [intOf]; omega
        · obtain rfl : k = M := by omega
          have hki : ¬ (k : Int) < (k : Int) := by omega
          have HLN : Hid ((copiesL n L ++ enumP 2 (rows L)).length = j + k) := by show _ = _; rw [List.length_append, copiesL_len, HN.out, enumP_len, HM.out]
          have HR3 : Hid (RowP wr w.heap.size (.slice ca (j + k) cc) (copiesL n L ++ enumP 2 (rows L))) := by
            have := HR2.out
            rw [List.take_of_length_le (by rw [enumP_len, HM.out]; omega)] at this
            exact this
          have HEND : Hid (copiesL n L ++ enumP 2 (rows L) ++ [⟨1, hdB (rows L) L⟩] ++ L ++ [⟨1, Z⟩] = savedL n L ++ settledL L) := by
            show _ = _
            unfold savedL settledL
            simp only [List.append_assoc]
          have HLL : Hid (L.length = j) := HN
          clear HR2 HL2 HCP HLT HN HM
          generalize copiesL n L ++ enumP 2 (rows L) = A at *
          generalize hdB (rows L) L = hd at *
          go_wp2_with (first
            | (go_at_call 113; refine (HHD.out _ HB2.out).mono ?_; clear HHD; rintro e w1 ⟨rfl, hb1⟩; have HR1 := hid (HR3.out.on hb1); have HB1 := hid (HB2.out.trans (hb1.mono HB2.out.size)); clear hb1 HR3 HB2)
            | (at_builtin; refine wpList_pgs _ w rfl (.tmp 52) (.tmp 56) rfl (.slice ca (j + k) cc) A (j + k) HLN.out rfl (HR1.out.alloc (.cells #[.int .i64 1, .string hd] 75)) (HB1.out.alloc HB1.out.size _) ⟨w1.heap.size, 0, none⟩ [⟨1, hd⟩] 1 1 rfl (by decide) rfl (cells_two w1 _ _ 75) (by omega) ?_))
          intro da dc w5 hr5 hb5 _
          obtain ⟨A5, hA5⟩ : ∃ A5, A ++ ([⟨1, hd⟩] : List Pg) = A5 := ⟨_, rfl⟩
          have HR5 : Hid (RowP w5 w.heap.size (.slice da (j + k + 1) dc) A5) := by
            show RowP _ _ _ _
            rw [← hA5]
            exact hr5
          have HB5 := hid hb5
          have HL5 : Hid (A5.length = j + k + 1) := by show _ = _; rw [← hA5, List.length_append, HLN.out]; rfl
          have HC5 : Hid (∀ i u, (flatP L)[i]? = some u → w5.cell? ((⟨b, off, none⟩ : Addr).add i) = some u) := fun i u hu => by
            have h := HFL.out i u hu
            rw [add_plain] at h ⊢
            exact (HB5.out.cell (p := ⟨b, off + i, none⟩) HBL.out).trans h
          have HA5 := hid hA5
          clear hr5 hb5 HR1 HB1 HLN HFL hA5
          go_wp2_with (at_builtin; refine wpList_pgs _ w rfl (.tmp 58) (.tmp 59) rfl (.slice da (j + k + 1) dc) A5 (j + k + 1) HL5.out rfl HR5.out HB5.out ⟨b, off, none⟩ L j c HLL.out hN0 rfl HC5.out (by omega) ?_)
          intro ea ec w6 hr6 hb6 _
          obtain ⟨A6, hA6⟩ : ∃ A6, A5 ++ L = A6 := ⟨_, rfl⟩
          have HR6 : Hid (RowP w6 w.heap.size (.slice ea (j + k + 1 + j) ec) A6) := by
            show RowP _ _ _ _
            rw [← hA6]
            exact hr6
          have HB6 := hid hb6
          have HL6 : Hid (A6.length = j + k + 1 + j) := by show _ = _; rw [← hA6, List.length_append, HL5.out, HLL.out]
          have HEND2 : Hid (A6 ++ [⟨1, Z⟩] = savedL n L ++ settledL L) := by show _ = _; rw [← HEND.out, ← hA6, ← HA5.out]
          clear hr6 hb6 HR5 HB5 HC5 HL5 hA6 HA5 HEND
          go_wp2_with (first
            | (go_at_call 114; refine (HBK.out _).mono ?_; clear HBK; rintro e w7 ⟨rfl, hb7⟩; have HR7 := hid (HR6.out.on hb7); have HB7 := hid (HB6.out.trans (hb7.mono HB6.out.size)); clear hb7 HR6 HB6)
            | (at_builtin; refine wpList_pgs _ w rfl (.tmp 61) (.tmp 64) rfl (.slice ea (j + k + 1 + j) ec) A6 (j + k + 1 + j) HL6.out rfl (HR7.out.alloc (.cells #[.int .i64 1, .string Z] 75)) (HB7.out.alloc HB7.out.size _) ⟨w7.heap.size, 0, none⟩ [⟨1, Z⟩] 1 1 rfl (by decide) rfl (cells_two w7 _ _ 75) (by omega) ?_))
          intro fa fc w8 hr8 hb8 _
          have HR8 := hid hr8
          have HB8 := hid hb8
          clear hr8 hb8 HR7 HB7 HL6
          go_wp2_with fail
          go_ret
          refine ⟨_, rfl, ?_, HB8.out⟩
          rw [← HEND2.out]
          exact HR8.out

end Go.Proofs.YtoecopmbaoklkaaGreat
