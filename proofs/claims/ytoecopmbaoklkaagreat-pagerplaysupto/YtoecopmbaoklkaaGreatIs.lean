/-
  The blocks by which a group is saved, handed out one by one.
-/
import Derived.Test.YtoecopmbaoklkaaGreatIt
namespace Go.Proofs.YtoecopmbaoklkaaGreat
open Go.RowKit Go.Shelf
attribute [local go_sem] Oper.semAt_some
set_option linter.unusedVariables false
set_option linter.unusedSimpArgs false
set_option maxRecDepth 100000

theorem row_same' {w w' : World} {B : Nat} {e : TypeId} {size : Nat} {v : Value} {n : Nat} {xs : List Value} (h : w.ownsRow B e size v n xs) (hs : ∀ g, v.ownBlock = some g → w'.heap[g]? = w.heap[g]?) : w'.ownsRow B e size v n xs := by
  refine ⟨h.1, ?_⟩
  rcases h.2 with hn | ⟨g, cap, cur, rfl, hB, hg, rest⟩
  · exact .inl hn
  · exact .inr ⟨g, cap, cur, rfl, hB, (hs g rfl).trans hg, rest⟩
/-- a new row is outside the disk -/
theorem row_pr {k : Nat} {wr w1 : World} {v : Value} {L : List ByteArray} (hr : RowS w1 wr.heap.size v L) (hb : Below wr.heap.size wr w1) (hk : k < wr.heap.size) (hfo : footOk k wr) : ∀ g, v.ownBlock = some g → Pr k w1 g := by
  intro g hg
  have hlo := ((hr : w1.ownsRow wr.heap.size 9 1 v _ _).lt g hg).1
  rcases (hr : w1.ownsRow wr.heap.size 9 1 v _ _).2 with ⟨e, _⟩ | ⟨g', cap, cur, e, _, hgg, _⟩
  · rw [e] at hg; simp [Value.ownBlock] at hg
  · rw [e] at hg
    simp [Value.ownBlock] at hg
    subst hg
    refine ⟨⟨_, hgg, rfl⟩, fun hf => ?_⟩
    have h2 := hfo g' ((foot_same (hb.block k hk) g').1 hf)
    omega
theorem saved_copy {n : Nat} {L : List Pg} {j : Nat} {p : Pg} (h : L[j]? = some p) : (savedL n L)[j]? = some ⟨((2 + lb (pgs n) + j : Nat) : Int), p.data⟩ := by
  have hj := (List.getElem?_eq_some_iff.1 h).1
  unfold savedL copiesL
  rw [List.getElem?_append_left (by rw [List.length_append, enumP_len, enumP_len, List.length_map]; omega), List.getElem?_append_left (by rw [enumP_len, List.length_map]; exact hj)]
  exact enumP_at (by rw [List.getElem?_map, h]; rfl)
theorem saved_row {n : Nat} {L : List Pg} {j : Nat} {s : ByteArray} (h : (rows L)[j]? = some s) : (savedL n L)[L.length + j]? = some ⟨((2 + j : Nat) : Int), s⟩ := by
  have hj := (List.getElem?_eq_some_iff.1 h).1
  unfold savedL copiesL
  rw [List.getElem?_append_left (by rw [List.length_append, enumP_len, enumP_len, List.length_map]; omega), List.getElem?_append_right (by rw [enumP_len, List.length_map]; omega), enumP_len, List.length_map, Nat.add_sub_cancel_left]
  exact enumP_at h
theorem saved_head (n : Nat) (L : List Pg) : (savedL n L)[L.length + (rows L).length]? = some ⟨1, hdB (rows L) L⟩ := by
  unfold savedL copiesL
  rw [List.getElem?_append_right (by rw [List.length_append, enumP_len, enumP_len, List.length_map]; omega), List.length_append, enumP_len, enumP_len, List.length_map, Nat.sub_self]
  rfl

set_option maxHeartbeats 8000000 in
theorem saved_stops (n : Nat) (hn : 1 ≤ n) (w0 : World) (k bl bm : Nat) (v : Value) (L : List Pg) (D : Nat) (hD1 : 64 ≤ D) (hD2 : D ≤ 2048) (hbx : Blk w0 bl #[v] 35) (hbn : ¬ foot k w0 bl) (hmx : Blk w0 bm #[.int .i64 (pgs D : Nat)] 3) (hmn : ¬ foot k w0 bm) (hl : LiesO w0 (foot k w0) v L) (hk : k < w0.heap.size) (hfo : footOk k w0) (hN : L.length ≤ 2048) (hp : ∀ p ∈ L, 0 ≤ p.pl ∧ p.pl < 65536) :
    SeqStopsK Fence.wide n Tryz.prog 104 #[.pointer (some ⟨bl, 0, none⟩), .pointer (some ⟨bm, 0, none⟩)] encP (Kj k) (fun ys => ys = savedL D L) (fun pre => ∃ j, pre = (savedL D L).take j) (savedL D L).length w0 := by
  intro l J Jx W hW hJ _ hY h0
  have hro : Fence.wide.round = none := rfl
  have HK0 := hid (Kj.of_below hW hk)
  obtain ⟨a, c, e1⟩ := hl.form
  subst e1
  have HL := hid hl
  have HBX := hid hbx
  have HMX := hid hmx
  have HLL : Hid (∀ w1, Kj k w0 w1 → Calls Tryz.prog 106 #[.slice a L.length c] w1 fun e w' => ∃ v', e = .returned v' ∧ RowS w' w1.heap.size v' (rows L) ∧ Below w1.heap.size w1 w') := fun w1 h => listOf_any w1 (foot k w1) _ L (hl.kjs h) (by omega) hp
  have HHD : Hid (∀ w1 B u, Kj k w0 w1 → RowS w1 B u (rows L) → Calls Tryz.prog 107 #[u, .slice a L.length c] w1 fun e w' => e = .returned (.string (hdB (rows L) L)) ∧ Below w1.heap.size w1 w') := fun w1 B u h hu => headOf_any w1 (foot k w1) B u _ (rows L) L hu (hl.kjs h) (by omega) (by rw [rows_len]; unfold lb; omega) (fun s hs => rows_size hs)
  have HAT : Hid (∀ (j : Nat) (p : Pg), L[j]? = some p → (savedL D L)[j]? = some (⟨((2 + lb (pgs D) + j : Nat) : Int), p.data⟩ : Pg)) := fun j p h => saved_copy h
  have HAR : Hid (∀ (j : Nat) (s : ByteArray), (rows L)[j]? = some s → (savedL D L)[L.length + j]? = some (⟨((2 + j : Nat) : Int), s⟩ : Pg)) := fun j s h => saved_row h
  have HAH := hid (saved_head D L)
  have HRL : Hid (∀ (j : Nat), j < (rows L).length → ∃ s, (rows L)[j]? = some s ∧ s.size = 256) := fun j h => ⟨_, List.getElem?_eq_getElem h, rows_size (List.getElem_mem h)⟩
  have hpg := pgs_hi hD2
  have hcp : ∀ w1, _ := fun w1 => copiesAt_any (pgs D) (by omega) w1
  have hcb : 2 + lb (pgs D) ≤ 2000 := by unfold lb; omega
  have HSL : Hid ((savedL D L).length = L.length + (rows L).length + 1) := by show _ = _; rw [savedL_len, rows_len]
  have hMb : (rows L).length ≤ 100 := by rw [rows_len]; unfold lb; omega
  obtain ⟨M, hM⟩ : ∃ M, (rows L).length = M := ⟨_, rfl⟩
  have HM := hid hM
  rw [hM] at HSL HAH HRL hMb
  obtain ⟨N, hNN⟩ : ∃ N, L.length = N := ⟨_, rfl⟩
  have HN := hid hNN
  rw [hNN] at hN HSL HAR HAH HLL HHD hbx
  obtain ⟨q, hq⟩ : ∃ q, pgs D = q := ⟨_, rfl⟩
  rw [hq] at hcp HAT HMX hpg hcb
  obtain ⟨y, hyy⟩ : ∃ y, 2 + lb q = y := ⟨_, rfl⟩
  rw [hyy] at hcp HAT hcb
  have c0 := (hbx.on hW hbx.lt).cell (i := 0) (v := .slice a N c) rfl
  rw [hNN] at HBX
  clear hl hNN hM hq hyy hbx hmx hp
  refine callsIn_of_wp Tryz.func104 rfl trivial ?_ hro
  simp only [Tryz.ntmps104, List.size_toArray, List.length_cons, List.length_nil, Nat.reduceAdd, Nat.reduceSub, Array.replicate_succ, Array.replicate_zero, List.push_toArray, List.append_toArray, List.nil_append, List.cons_append]
  gi_wp2
  gi_loopw [11] (fun i wr => ∃ j : Nat, j ≤ N ∧ i = .int .i64 (j : Nat) ∧ J ((savedL D L).take j) wr ∧ Hid (Kj k w0 wr)) (fun i _ => N - (intOf i).toNat)
  case atStart => exact ⟨0, Nat.zero_le _, rfl, by simpa using h0, HK0⟩
  case round =>
    obtain ⟨j, hj, rfl, hJs, HK⟩ := hrel
    clear HK0
    by_cases hlt : j < N
    · have hji : (j : Int) < (N : Int) := by omega
      obtain ⟨p, hp⟩ : ∃ p, L[j]? = some p := ⟨_, List.getElem?_eq_getElem (by rw [HN.out]; exact hlt)⟩
      obtain ⟨b, off, hab, hblt, cp0, cp1⟩ := HL.out.kj HK.out hp
      subst hab
      have hpre := take_snoc (HAT.out j p hp)
      have hb : Below wr.heap.size wr (wr.alloc (.cells #[.int .i64 p.pl, .string p.data] 75)).drew := ((Below.refl wr.heap.size wr).alloc (Nat.le_refl _) _).drew
      have HK2 := hid (HK.out.trans (Kj.of_below hb (Nat.lt_of_lt_of_le hk HK.out.size)))
      obtain ⟨fn, tmps, assign, body, hy, hR⟩ := hY _ ⟨((y + j : Nat) : Int), p.data⟩ _ (hJ _ _ _ none hJs (grown_of_below hb) (fun r e => by cases e)) (by rw [List.length_take, HSL.out]; omega)
      unfold encP at hy
      rw [← hpre] at hR
      have hX := Blk.made wr #[.int .i64 p.pl, .string p.data] 75
      have HSW : (wr.alloc (.cells #[.int .i64 p.pl, .string p.data] 75)).drew.cell? ⟨bm, 0, none⟩ = some (.int .i64 (q : Nat)) ∧ (wr.alloc (.cells #[.int .i64 p.pl, .string p.data] 75)).drew.cell? ⟨wr.heap.size, 1, none⟩ = some (.string p.data) := ⟨(HMX.out.kj hmn HK2.out).cell rfl, hX.cell rfl⟩
      obtain ⟨pl, data⟩ := p
      simp only [Int.natCast_add] at cp0 cp1 hy HSW
      have HRR := hid hR
      have hyj : IntKind.i64.wrap ((y : Int) + (j : Int)) = (y : Int) + (j : Int) := by rw [IntKind.wrap_i64]; omega
      clear hpre hp HK hb hX hR
      gi_wp2
      refine wpIn_region_m (fun w' => w'.cell? ⟨bm, 0, none⟩ = some (.int .i64 (q : Nat)) ∧ w'.cell? ⟨wr.heap.size, 1, none⟩ = some (.string data)) 8 (by kernel_rfl) ?_
      refine wpAnyInM_pick [8, 9] (i := 0) (some 16) (v := ?vz1) hro rfl rfl (by kernel_rfl) (by kernel_rfl) (by kernel_rfl) (by kernel_rfl) (fun _ _ _ h => h) ⟨Or.inl ⟨by rfl, ?hz1⟩, fun _ => rfl⟩ HSW ?rz1
      case hz1 => intro w hSw; go_simp; try with_reducible rfl
      try simp only [Act.put, List.setIfInBounds_toArray, List.set_cons_zero, List.set_cons_succ]
      refine wpAnyInM_pick [2, 8, 9] (i := 1) (some 17) (v := ?vz2) hro rfl rfl (by kernel_rfl) (by kernel_rfl) (by kernel_rfl) (by kernel_rfl) (fun _ _ _ h => h) ⟨Or.inl ⟨by rfl, ?hz2⟩, fun _ => rfl⟩ HSW ?rz2
      case hz2 => intro w hSw; go_simp; try with_reducible rfl
      try simp only [Act.put, List.setIfInBounds_toArray, List.set_cons_zero, List.set_cons_succ]
      refine wpAnyInM_pick [4, 7, 8, 9] (i := 3) (some 19) (v := ?vz3) hro rfl rfl (by kernel_rfl) (by kernel_rfl) (by kernel_rfl) (by kernel_rfl) (fun _ _ _ h => h) ⟨Or.inl ⟨by rfl, ?hz3⟩, fun _ => rfl⟩ HSW ?rz3
      case hz3 => intro w hSw; go_simp; try with_reducible rfl
      try simp only [Act.put, List.setIfInBounds_toArray, List.set_cons_zero, List.set_cons_succ]
      refine wpAnyInM_pick [6, 7, 8, 9] (i := 5) (some 21) (v := ?vz4) hro rfl rfl (by kernel_rfl) (by kernel_rfl) (by kernel_rfl) (by kernel_rfl) (fun _ _ _ h => h) ⟨Or.inl ⟨by rfl, ?hz4⟩, fun _ => rfl⟩ HSW ?rz4
      case hz4 => intro w hSw; go_simp; try with_reducible rfl
      try simp only [Act.put, List.setIfInBounds_toArray, List.set_cons_zero, List.set_cons_succ]
      refine wpAnyInM_pick [7, 8, 9] (i := 6) (some 22) (v := ?vz5) hro rfl rfl (by kernel_rfl) (by kernel_rfl) (by kernel_rfl) (by kernel_rfl) (fun _ _ _ h => h) ⟨Or.inl ⟨by rfl, ?hz5⟩, fun _ => rfl⟩ HSW ?rz5
      case hz5 => intro w hSw; go_simp; try with_reducible rfl
      try simp only [Act.put, List.setIfInBounds_toArray, List.set_cons_zero, List.set_cons_succ]
      refine wpAnyInM_one (i := 2) (by kernel_rfl) rfl (fun K hK => ?_)
      go_simp
      refine ⟨trivial, ?_⟩
      gi_at_call 105
      refine ((callsIn_wide (n := _)).2 (hcp _)).mono ?_
      rintro e w2 ⟨rfl, rfl⟩
      gi_wp2_with fail
      refine hK _ _ (fun _ => HSW) ?_
      clear hK K
      try simp only [Act.put, List.setIfInBounds_toArray, List.set_cons_zero, List.set_cons_succ]
      refine wpAnyInM_pick [7, 8, 9] (i := 4) (some 20) (v := ?vz6) hro rfl rfl (by kernel_rfl) (by kernel_rfl) (by kernel_rfl) (by kernel_rfl) (fun _ _ _ h => h) ⟨Or.inl ⟨by rfl, ?hz6⟩, fun _ => rfl⟩ HSW ?rz6
      case hz6 => intro w hSw; go_simp; try with_reducible rfl
      try simp only [Act.put, List.setIfInBounds_toArray, List.set_cons_zero, List.set_cons_succ]
      refine wpAnyInM_pick [8, 9] (i := 7) (some 23) (v := ?vz7) hro rfl rfl (by kernel_rfl) (by kernel_rfl) (by kernel_rfl) (by kernel_rfl) (fun _ _ _ h => h) ⟨Or.inl ⟨by rfl, ?hz7⟩, fun _ => rfl⟩ HSW ?rz7
      case hz7 => intro w hSw; go_simp; try with_reducible rfl
      try simp only [Act.put, List.setIfInBounds_toArray, List.set_cons_zero, List.set_cons_succ]
      refine wpAnyInM_one (i := 8) (by kernel_rfl) rfl (fun K hK => ?_)
      go_simp
      refine HRR.out.mono ?_
      clear hy HSW HRR
      rintro e W3 (⟨rfl, hJ3, hk3⟩ | ⟨rfl, hJx3⟩)
      · gi_wp2_with fail
        refine hK _ _ (fun h => absurd h (by decide)) ?_
        clear hK K
        try simp only [Act.put, List.setIfInBounds_toArray, List.set_cons_zero, List.set_cons_succ]
        refine wpAnyInM_one (i := 9) (by kernel_rfl) rfl (fun K hK => ?_)
        go_simp
        refine hK _ _ (fun h => absurd h (by decide)) ?_
        clear hK K
        refine wpAnyInM_done (by kernel_rfl) ?_ _
        try simp only [Act.put, List.setIfInBounds_toArray, List.set_cons_zero, List.set_cons_succ]
        gi_wp2
        go_roundw
        case rel => exact ⟨j + 1, by omega, by go_num, hJ3, HK2.out.trans hk3⟩
        case measure => (simp [intOf]; try omega)
      · gi_wp2_with fail
        refine hK _ _ (fun h => absurd h (by decide)) ?_
        clear hK K
        try simp only [Act.put, List.setIfInBounds_toArray, List.set_cons_zero, List.set_cons_succ]
        refine wpAnyInM_one (i := 9) (by kernel_rfl) rfl (fun K hK => ?_)
        go_simp
        refine hK _ _ (fun h => absurd h (by decide)) ?_
        clear hK K
        refine wpAnyInM_done (by kernel_rfl) ?_ _
        try simp only [Act.put, List.setIfInBounds_toArray, List.set_cons_zero, List.set_cons_succ]
        gi_wp2
        refine bodyPost_ret (results_none rfl _ _ _) rfl ?_
        exact ⟨⟨_, rfl⟩, .inr ⟨_, ⟨j + 1, rfl⟩, hJx3⟩⟩
    · have hji : ¬ (j : Int) < (N : Int) := by omega
      obtain rfl : j = N := by omega
      have cB : wr.cell? ⟨bl, 0, none⟩ = some (.slice a j c) := (HBX.out.kj hbn HK.out).cell rfl
      gi_wp2_with (refine ⟨trivial, ?_⟩; gi_at_call 106; refine ((callsIn_wide (n := _)).2 (HLL.out _ HK.out)).mono ?_; rintro e w1 ⟨v1, rfl, hr1, hb1⟩; have HK1 := hid (HK.out.trans (Kj.of_below hb1 (Nat.lt_of_lt_of_le hk HK.out.size))); have hJ1 := hJ _ _ _ none hJs (grown_of_below hb1) (fun r e => by cases e); have HR1 : Hid (RowS w1 0 v1 (rows L)) := own_base hr1 (Nat.zero_le _); obtain ⟨ra, rc, hrv⟩ := hr1.form; have HFO := hid (row_pr hr1 hb1 (Nat.lt_of_lt_of_le hk HK.out.size) (HK.out.ok hfo)); rw [HM.out] at hrv; subst hrv; clear hr1 hb1 hJs)
      gi_loopw [31] (fun i wr => ∃ t : Nat, t ≤ M ∧ i = .int .i64 (t : Nat) ∧ J ((savedL D L).take (j + t)) wr ∧ Hid (Kj k w1 wr)) (fun i _ => M - (intOf i).toNat)
      case atStart => exact ⟨0, Nat.zero_le _, rfl, hJ1, ⟨Nat.le_refl _, fun g hg => ⟨rfl, hg.2⟩, fun h => h⟩⟩
      case round =>
        obtain ⟨t, ht, rfl, hJt, HKt⟩ := hrel
        have HRt : Hid (RowS wr 0 (.slice ra M rc) (rows L)) := row_same' HR1.out (fun g hg => (HKt.out.keep g (HFO.out g hg)).1)
        clear hJ1
        by_cases htl : t < M
        · have hti : (t : Int) < (M : Int) := by omega
          obtain ⟨s, hs, _⟩ := HRL.out t htl
          obtain ⟨g, x1, _, _⟩ := row_some HRt.out (by rw [HM.out]; omega)
          subst x1
          have c1 := (HRt.out.at hs).1
          have hpre := take_snoc (HAR.out t s hs)
          obtain ⟨fn, tmps, assign, body, hy, hR⟩ := hY _ ⟨((2 + t : Nat) : Int), s⟩ _ hJt (by rw [List.length_take, HSL.out]; omega)
          unfold encP at hy
          rw [← hpre] at hR
          simp only at hy
          rw [show ((2 + t : Nat) : Int) = 2 + (t : Int) by omega] at hy
          clear hpre hs
          gi_wp2
          refine hR.mono ?_
          rintro e W3 (⟨rfl, hJ3, hk3⟩ | ⟨rfl, hJx3⟩)
          · gi_wp2
            go_roundw
            case rel => exact ⟨t + 1, by omega, by go_num, hJ3, HKt.out.trans hk3⟩
            case measure => (simp [intOf]; try omega)
          · gi_wp2
            refine bodyPost_ret (results_none rfl _ _ _) rfl ?_
            exact ⟨⟨_, rfl⟩, .inr ⟨_, ⟨j + t + 1, rfl⟩, hJx3⟩⟩
        · have hti : ¬ (t : Int) < (M : Int) := by omega
          obtain rfl : t = M := by omega
          have HKw := hid (HK1.out.trans HKt.out)
          have cB2 : wr.cell? ⟨bl, 0, none⟩ = some (.slice a j c) := (HBX.out.kj hbn HKw.out).cell rfl
          have HPR := hid (take_snoc HAH.out)
          have HAL : Hid ((savedL D L).take (j + t + 1) = savedL D L) := List.take_of_length_le (by rw [HSL.out]; omega)
          have hhd := HHD.out wr _ _ HKw.out HRt.out
          generalize hdB (rows L) L = hd at hhd HPR
          gi_wp2_with (refine ⟨trivial, ?_⟩; gi_at_call 107; refine ((callsIn_wide (n := _)).2 hhd).mono ?_; clear hhd; rintro e w2 ⟨rfl, hb2⟩; obtain ⟨fn, tmps, assign, body, hy, hR⟩ := hY _ ⟨1, hd⟩ w2 (hJ _ _ _ none hJt (grown_of_below hb2) (fun r e => by cases e)) (by rw [List.length_take, HSL.out]; omega); unfold encP at hy; simp only at hy; rw [← HPR.out, HAL.out] at hR)
          refine hR.mono ?_
          rintro e W3 (⟨rfl, hJ3, hk3⟩ | ⟨rfl, hJx3⟩)
          · gi_wp2
            go_end0
            first | exact ⟨⟨_, rfl⟩, .inl ⟨_, rfl, hJ3⟩⟩ | exact ⟨⟨_, rfl⟩, .inl hJ3⟩
          · gi_wp2
            go_end0
            exact ⟨⟨_, rfl⟩, .inr ⟨_, ⟨j + t + 1, HAL.out.symm⟩, hJx3⟩⟩

end Go.Proofs.YtoecopmbaoklkaaGreat
