/-
  Pages that were handed in; why they are no group.
-/
import Derived.Test.YtglallhblcjffaaGreatDoorEq
import Derived.Test.YtglallhblcjffaaGreatDoorJn
namespace Go.Proofs.YtglallhblcjffaaGreatDoor
open Go.RowKit
set_option linter.unusedVariables false
set_option linter.unusedSimpArgs false
set_option maxRecDepth 100000

theorem listBlocks_any (m : Nat) (h : m ≤ 100000) (w : World) : Calls Tryz.prog 100 #[.int .i64 (m : Nat)] w fun e w' => e = .returned (.int .i64 (lb m : Nat)) ∧ w = w' := by
  have HL : Hid ((((lb m : Nat) : Int)) = ((m : Int) + 128 - 1) / 128) := by show _ = _; unfold lb; omega
  go_enter Tryz.func100, Tryz.ntmps100
  go_wp2
  go_ret
  exact ⟨by rw [HL.out]; rfl, rfl⟩
theorem copiesAt_any (m : Nat) (h : m ≤ 100000) (w : World) : Calls Tryz.prog 101 #[.int .i64 (m : Nat)] w fun e w' => e = .returned (.int .i64 (2 + lb m : Nat)) ∧ w = w' := by
  have hl := listBlocks_any m h w
  have hb : lb m ≤ 100000 := by unfold lb; omega
  generalize lb m = x at hl hb
  go_enter Tryz.func101, Tryz.ntmps101
  go_wp2_with (go_at_call 100; refine hl.mono ?_; rintro e w1 ⟨rfl, rfl⟩)
  go_ret
  exact ⟨rfl, rfl⟩
theorem firstPage_any (m : Nat) (h : m ≤ 100000) (w : World) : Calls Tryz.prog 143 #[.int .i64 (m : Nat)] w fun e w' => e = .returned (.int .i64 (2 + lb m + m : Nat)) ∧ w = w' := by
  have hl := copiesAt_any m h w
  have hb : 2 + lb m ≤ 100002 := by unfold lb; omega
  generalize 2 + lb m = x at hl hb
  go_enter Tryz.func143, Tryz.ntmps143
  go_wp2_with (go_at_call 101; refine hl.mono ?_; rintro e w1 ⟨rfl, rfl⟩)
  go_ret
  exact ⟨rfl, rfl⟩

theorem pages_no (n : Int) (h : n < 64 ∨ 2048 < n) (w : World) : Calls Tryz.prog 97 #[.int .i64 n] w fun e w' => e = .returned (.int .i64 0) ∧ w = w' := by
  rcases h with h | h
  · have hd : decide (n < 64) = true := decide_eq_true h
    go_enter Tryz.func97, Tryz.ntmps97
    go_wp2
    go_ret
    exact ⟨rfl, rfl⟩
  · have hd : decide (n < 64) = false := decide_eq_false (by omega)
    go_enter Tryz.func97, Tryz.ntmps97
    go_wp2
    go_ret
    exact ⟨rfl, rfl⟩
theorem pages_any (n : Nat) (h1 : 64 ≤ n) (h2 : n ≤ 2048) (w : World) : Calls Tryz.prog 97 #[.int .i64 (n : Nat)] w fun e w' => e = .returned (.int .i64 (pgs n : Nat)) ∧ w = w' := by
  have hd : decide ((n : Int) < 64) = false := decide_eq_false (by omega)
  have f1 := pgs_fit h1
  have f3 := pgs_hi h2
  have f2 : ∀ m, pgs n < m → n < 2 * m + 1 + lb m := fun m hm => by
    have := pgs_more h1
    have := @lb_mono (pgs n + 1) m hm
    omega
  have hl : ∀ m : Nat, m ≤ 2048 → _ := fun m hm => listBlocks_any m (by omega) w
  have hlb : ∀ m : Nat, m ≤ 2048 → lb m ≤ 20 := fun m hm => by unfold lb; omega
  generalize pgs n = q at *
  go_enter Tryz.func97, Tryz.ntmps97
  go_wp2
  go_loop [3] (fun x => ∃ m : Nat, q ≤ m ∧ m ≤ 2048 ∧ x = .int .i64 (m : Nat)) (fun x => (intOf x).toNat)
  case atStart => exact ⟨n / 2, by omega, by omega, by go_num⟩
  case round =>
    obtain ⟨m, hm1, hm2, rfl⟩ := hrel
    have hlm := hl m hm2
    have hbm := hlb m hm2
    by_cases hlt : q < m
    · have hf := f2 m hlt
      generalize lb m = x at hlm hbm hf
      go_wp2_with (go_at_call 100; refine hlm.mono ?_; rintro e w1 ⟨rfl, rfl⟩)
      go_round
      case rel => exact ⟨m - 1, by omega, by omega, by go_num⟩
      case measure => simp [intOf]; omega
    · obtain rfl : m = q := by omega
      generalize lb m = x at hlm hbm f1
      go_wp2_with (go_at_call 100; refine hlm.mono ?_; rintro e w1 ⟨rfl, rfl⟩)
      go_ret
      exact ⟨rfl, rfl⟩
theorem first_no (n : Int) (h : n < 64 ∨ 2048 < n) (w : World) : Calls Tryz.prog 111 #[.int .i64 n] w fun e w' => e = .returned (.int .i64 0) ∧ w = w' := by
  have hp := pages_no n h w
  go_enter Tryz.func111, Tryz.ntmps111
  go_wp2_with (go_at_call 97; refine hp.mono ?_; rintro e w1 ⟨rfl, rfl⟩)
  go_ret
  exact ⟨rfl, rfl⟩
theorem first_any (n : Nat) (h1 : 64 ≤ n) (h2 : n ≤ 2048) (w : World) : Calls Tryz.prog 111 #[.int .i64 (n : Nat)] w fun e w' => e = .returned (.int .i64 (frs n : Nat)) ∧ w = w' := by
  have hp := pages_any n h1 h2 w
  have hf := firstPage_any (pgs n) (by have := pgs_hi h2; omega) w
  rw [show 2 + lb (pgs n) + pgs n = frs n from rfl] at hf
  have h0 : ¬ ((pgs n : Nat) : Int) = 0 := by have := pgs_lo h1; omega
  generalize pgs n = q at hp hf h0
  generalize frs n = r at hf
  go_enter Tryz.func111, Tryz.ntmps111
  go_wp2_with (first | (go_at_call 97; refine hp.mono ?_; rintro e w1 ⟨rfl, rfl⟩) | (go_at_call 143; refine hf.mono ?_; rintro e w1 ⟨rfl, rfl⟩))
  go_ret
  exact ⟨rfl, rfl⟩
theorem isPage_any (n : Nat) (h1 : 64 ≤ n) (h2 : n ≤ 2048) (a : Int) (w : World) : Calls Tryz.prog 137 #[.int .i64 (pgs n : Nat), .int .i64 a] w fun e w' => e = .returned (.bool (decide (isPg n a))) ∧ w = w' := by
  have hf : ∀ w, _ := fun w => firstPage_any (pgs n) (by have := pgs_hi h2; omega) w
  rw [show 2 + lb (pgs n) + pgs n = frs n from rfl] at hf
  have b1 := pgs_lo h1
  have b2 := pgs_hi h2
  have b3 : frs n ≤ 100000 := by have := frs_end h1; omega
  obtain ⟨b, hb⟩ : ∃ b, b = decide (isPg n a) := ⟨_, rfl⟩
  rw [← hb]
  have hB : b = true ↔ (a = 0 ∨ ((frs n : Nat) : Int) ≤ a ∧ a < ((frs n + pgs n - 1 : Nat) : Int)) := by rw [hb, decide_eq_true_iff]; exact Iff.rfl
  clear hb
  generalize pgs n = q at *
  generalize frs n = r at *
  by_cases c0 : a = 0
  · have hd : b = true := hB.2 (.inl c0)
    have e0 : (a == 0) = true := by simp [c0]
    subst hd
    clear hB c0
    go_enter Tryz.func137, Tryz.ntmps137
    go_wp2
    go_ret
    exact ⟨rfl, rfl⟩
  · have e0 : (a == 0) = false := by simp [c0]
    by_cases c1 : (r : Int) ≤ a
    · have e1 : decide ((r : Int) ≤ a) = true := decide_eq_true c1
      by_cases c2 : a < ((r + q - 1 : Nat) : Int)
      · have hd : b = true := hB.2 (.inr ⟨c1, c2⟩)
        have e2 : decide (a < (r : Int) + (q : Int) - 1) = true := decide_eq_true (by omega)
        subst hd
        clear hB c0
        go_enter Tryz.func137, Tryz.ntmps137
        go_wp2_with (go_at_call 143; refine (hf _).mono ?_; rintro e w1 ⟨rfl, rfl⟩)
        go_ret
        exact ⟨rfl, rfl⟩
      · have hd : b = false := by cases b with | false => rfl | true => have := hB.1 rfl; omega
        have e2 : decide (a < (r : Int) + (q : Int) - 1) = false := decide_eq_false (by omega)
        subst hd
        clear hB c0
        go_enter Tryz.func137, Tryz.ntmps137
        go_wp2_with (go_at_call 143; refine (hf _).mono ?_; rintro e w1 ⟨rfl, rfl⟩)
        go_ret
        exact ⟨rfl, rfl⟩
    · have e1 : decide ((r : Int) ≤ a) = false := decide_eq_false c1
      have hd : b = false := by cases b with | false => rfl | true => have := hB.1 rfl; omega
      subst hd
      clear hB c0
      go_enter Tryz.func137, Tryz.ntmps137
      go_wp2_with (go_at_call 143; refine (hf _).mono ?_; rintro e w1 ⟨rfl, rfl⟩)
      go_ret
      exact ⟨rfl, rfl⟩

/-- pages as they lie in memory, outside S -/
def LiesO (w : World) (S : Nat → Prop) (v : Value) (L : List Pg) : Prop :=
  ∃ (a : Option Addr) (cap : Nat), v = .slice a L.length cap ∧ L.length ≤ cap ∧ cap ≤ maxLen ∧ ∀ k p, L[k]? = some p → ∃ b off, a = some ⟨b, off, none⟩ ∧ b < w.heap.size ∧ ¬ S b ∧ w.cell? ⟨b, off + k * 2, none⟩ = some (.int .i64 p.pl) ∧ w.cell? ⟨b, off + k * 2 + 1, none⟩ = some (.string p.data) ∧ (-9223372036854775808 ≤ p.pl ∧ p.pl ≤ 9223372036854775807) ∧ p.data.size ≤ maxLen
theorem LiesO.keep {w w' : World} {S S' : Nat → Prop} {v : Value} {L : List Pg} (h : LiesO w S v L) (hk : Keep S w w') (hg : Grows S S' w) : LiesO w' S' v L := by
  obtain ⟨a, cap, h1, h2, h3, h4⟩ := h
  refine ⟨a, cap, h1, h2, h3, fun k p hp => ?_⟩
  obtain ⟨b, off, ha, hb, hs, c1, c2, r⟩ := h4 k p hp
  have e := hk.block b hb hs
  exact ⟨b, off, ha, Nat.lt_of_lt_of_le hb hk.size, fun h' => (hg b h').elim hs (fun h' => by omega), (World.cell?_of_block (a := ⟨b, off + k * 2, none⟩) e).trans c1, (World.cell?_of_block (a := ⟨b, off + k * 2 + 1, none⟩) e).trans c2, r⟩
theorem LiesO.on {w w' : World} {S : Nat → Prop} {v : Value} {L : List Pg} (h : LiesO w S v L) (hb : Below w.heap.size w w') : LiesO w' S v L := by
  obtain ⟨a, cap, h1, h2, h3, h4⟩ := h
  refine ⟨a, cap, h1, h2, h3, fun k p hp => ?_⟩
  obtain ⟨b, off, ha, hlt, hs, c1, c2, r⟩ := h4 k p hp
  exact ⟨b, off, ha, Nat.lt_of_lt_of_le hlt hb.size, hs, (hb.cell (p := ⟨b, off + k * 2, none⟩) hlt).trans c1, (hb.cell (p := ⟨b, off + k * 2 + 1, none⟩) hlt).trans c2, r⟩
theorem LiesO.out {w : World} {S S' : Nat → Prop} {v : Value} {L : List Pg} (h : LiesO w S v L) (hs : ∀ j, j < w.heap.size → S' j → S j) : LiesO w S' v L := by
  obtain ⟨a, cap, h1, h2, h3, h4⟩ := h
  refine ⟨a, cap, h1, h2, h3, fun k p hp => ?_⟩
  obtain ⟨b, off, ha, hlt, hn, r⟩ := h4 k p hp
  exact ⟨b, off, ha, hlt, fun h' => hn (hs b hlt h'), r⟩
theorem LiesO.form {w : World} {S : Nat → Prop} {v : Value} {L : List Pg} (h : LiesO w S v L) : ∃ a c, v = .slice a L.length c := by obtain ⟨a, c, h, _⟩ := h; exact ⟨a, c, h⟩
theorem LiesO.at {w : World} {S : Nat → Prop} {a : Option Addr} {n c : Nat} {L : List Pg} (h : LiesO w S (.slice a n c) L) {k : Nat} {p : Pg} (hk : L[k]? = some p) : ∃ b off, a = some ⟨b, off, none⟩ ∧ b < w.heap.size ∧ ¬ S b ∧ w.cell? ⟨b, off + k * 2, none⟩ = some (.int .i64 p.pl) ∧ w.cell? ⟨b, off + k * 2 + 1, none⟩ = some (.string p.data) ∧ (-9223372036854775808 ≤ p.pl ∧ p.pl ≤ 9223372036854775807) ∧ p.data.size ≤ maxLen := by
  obtain ⟨a', c', h1, _, _, h4⟩ := h
  injection h1 with e1 _ _
  subst e1
  exact h4 k p hk
theorem LiesO.fit {w : World} {S : Nat → Prop} {v : Value} {L : List Pg} (h : LiesO w S v L) : ∀ p ∈ L, (-9223372036854775808 ≤ p.pl ∧ p.pl ≤ 9223372036854775807) ∧ p.data.size ≤ maxLen := by
  obtain ⟨a, c, h1, h2, h3, h4⟩ := h
  intro p hp
  obtain ⟨k, hk⟩ := List.mem_iff_getElem?.1 hp
  obtain ⟨_, _, _, _, _, _, _, h5, h6⟩ := h4 k p hk
  exact ⟨h5, h6⟩
theorem LiesO.len {w : World} {S : Nat → Prop} {v : Value} {L : List Pg} (h : LiesO w S v L) : L.length ≤ maxLen := by
  obtain ⟨a, c, h1, h2, h3, h4⟩ := h
  omega
theorem RowP.lies {w : World} {B : Nat} {S : Nat → Prop} {v : Value} {L : List Pg} (h : RowP w B v L) (hS : ∀ g, v.ownBlock = some g → ¬ S g) (hf : ∀ p ∈ L, (-9223372036854775808 ≤ p.pl ∧ p.pl ≤ 9223372036854775807) ∧ p.data.size ≤ maxLen) : LiesO w S v L := by
  obtain ⟨a, cap, e1, h1, h2, hcc⟩ := own_cells h
  refine ⟨a, cap, e1, h1, h2, fun k p hp => ?_⟩
  obtain ⟨g, hg, _, hlt, c0, _⟩ := hcc (k * 2) (.int .i64 p.pl) (by rw [flatP_even, hp]; rfl)
  obtain ⟨g', hg', _, _, c1, _⟩ := hcc (k * 2 + 1) (.string p.data) (by rw [flatP_odd, hp]; rfl)
  subst hg
  cases hg'
  obtain ⟨f1, f2⟩ := hf p (List.mem_of_getElem? hp)
  refine ⟨g, 0, rfl, hlt, hS g (by rw [e1]; rfl), ?_, ?_, f1, f2⟩
  · rw [Nat.zero_add]; exact c0
  · rw [Nat.zero_add]; exact c1

theorem info4 : (Tryz.prog.info? 4).map (fun i => (i.zero, i.size, i.bytes)) = some (some (.bool false), 1, 1) := by kernel_rfl
/-- which numbers stood ahead -/
def marks (n : Nat) (seen : List Int) : List Value := (List.range n).map fun (j : Nat) => .bool (decide (((j : Nat) : Int) ∈ seen))
theorem marks_nil (n : Nat) : (madeCells (Value.bool false).cells (n * 1)).toList = marks n [] := by
  simp [marks, Value.cells, toList_madeCells_one]
  rw [List.map_const']
  simp
theorem marks_at {n : Nat} {seen : List Int} {q : Nat} (h : q < n) : (marks n seen)[q]? = some (.bool (decide ((q : Int) ∈ seen))) := by
  simp [marks, h]
theorem marks_set {n : Nat} {seen : List Int} {q : Nat} (h : q < n) : (marks n seen).set q (.bool true) = marks n (seen ++ [(q : Int)]) := by
  apply List.ext_getElem?
  intro i
  rw [List.getElem?_set]
  by_cases hi : i < n
  · rw [marks_at hi, marks_at hi]
    by_cases e : q = i
    · subst e
      rw [if_pos rfl, if_pos (by simp [marks]; exact h)]
      simp
    · rw [if_neg e]
      have : ((i : Int) ∈ seen ++ [(q : Int)]) ↔ (i : Int) ∈ seen := by simp; omega
      simp only [this]
  · have l1 : (marks n seen)[i]? = none := List.getElem?_eq_none (by simp [marks]; omega)
    have l2 : (marks n (seen ++ [(q : Int)]))[i]? = none := List.getElem?_eq_none (by simp [marks]; omega)
    rw [l1, l2]
    split
    · rename_i e; subst e; exact absurd h hi
    · rfl

set_option maxHeartbeats 4000000 in
theorem check_any (n : Nat) (h1 : 64 ≤ n) (h2 : n ≤ 2048) (w : World) (S : Nat → Prop) (v : Value) (L : List Pg) (hl : LiesO w S v L) :
    Calls Tryz.prog 103 #[.int .i64 (n : Nat), v] w fun e w' => e = .returned (.int .i64 (ck n L : Nat)) ∧ Below w.heap.size w w' := by
  obtain ⟨i0, hi, hz0, hz1, hz2⟩ := info_parts info4
  obtain ⟨a, c, e1⟩ := hl.form
  subst e1
  have HL := hid hl
  have hlen := hl.len
  unfold maxLen at hlen
  have hpg := pages_any n h1 h2 w
  have hq := pgs_hi h2
  have hip : ∀ (x : Int) w1, _ := fun x w1 => isPage_any n h1 h2 x w1
  have HIP : Hid (∀ a, isPg n a → 0 ≤ a ∧ a < n) := fun a h => isPg_lt h1 h
  obtain ⟨N, hN⟩ : ∃ N, L.length = N := ⟨_, rfl⟩
  have HN := hid hN
  obtain ⟨e, he⟩ : ∃ e, ck n L = e := ⟨_, rfl⟩
  rw [he]
  have HE := hid he
  rw [hN] at hlen ⊢
  clear hl hN he
  obtain ⟨q, hqq⟩ : ∃ q, pgs n = q := ⟨_, rfl⟩
  rw [hqq] at hpg hip hq
  have HQ := hid hqq
  clear hqq
  by_cases hm : q < N
  · have hmi : (q : Int) < (N : Int) := by omega
    obtain rfl : 10 = e := by rw [← HE.out]; unfold ck; rw [HQ.out, HN.out, if_pos hm]
    go_enter Tryz.func103, Tryz.ntmps103
    go_wp2_with (go_at_call 97; refine hpg.mono ?_; rintro e w1 ⟨rfl, rfl⟩)
    go_ret
    exact ⟨rfl, Below.refl _ _⟩
  have hmi : ¬ (q : Int) < (N : Int) := by omega
  have HC0 : Hid (e = ckL n ((L.take 0).map Pg.pl) (L.drop 0)) := by
    show _ = _
    rw [← HE.out]
    unfold ck
    rw [HQ.out, HN.out, if_neg hm]
    rfl
  clear HE
  go_enter Tryz.func103, Tryz.ntmps103
  go_wp2_with (first
    | (go_at_call 97; refine hpg.mono ?_; clear hpg; rintro e w1 ⟨rfl, rfl⟩)
    | (at_make; refine wpList_make_full _ rfl (.tmp 15) (.tmp 15) 53 rfl w.heap.size 4 i0 (.bool false) 1 Tryz.underlying53 hi hz0 hz1 .i64 .i64 _ _ n rfl rfl rfl rfl (by rw [hz2]; omega) (by unfold maxLen; omega) (Nat.le_refl _) ?_; intro w1 hown hgrow; have HB1 := hid ((Below.refl _ w).grown hgrow (Nat.le_refl _) (fun k hk => by cases hk)); rw [marks_nil] at hown; have HO1 := hid hown; clear hown hgrow))
  go_loopw [19] (fun i wr => ∃ k : Nat, k ≤ N ∧ i = .int .i64 (k : Nat) ∧ Hid (wr.ownsRow w.heap.size 4 1 (.slice (some ⟨w.heap.size, 0, none⟩) n n) n (marks n ((L.take k).map Pg.pl))) ∧ Hid (Below w.heap.size w wr) ∧ Hid (e = ckL n ((L.take k).map Pg.pl) (L.drop k))) (fun i _ => N - (intOf i).toNat)
  case atStart => exact ⟨0, Nat.zero_le _, rfl, HO1, HB1, HC0⟩
  case round =>
    obtain ⟨k, hk, rfl, HO, HB, HC⟩ := hrel
    clear HO1 HB1 HC0
    by_cases hlt : k < N
    · have hki : (k : Int) < (N : Int) := by omega
      obtain ⟨p, hp⟩ : ∃ p, L[k]? = some p := ⟨_, List.getElem?_eq_getElem (by rw [HN.out]; exact hlt)⟩
      obtain ⟨b, off, hab, hblt, _, cp0, cp1, hpl, hpd⟩ := (HL.out.on HB.out).at hp
      subst hab
      have HC2 : Hid _ := HC.out.trans (ckL_at hp)
      have HSN := hid (take_snoc hp)
      have hmk : ∀ q, (q : Nat) < n → wr.cell? ⟨w.heap.size, q, none⟩ = some (.bool (decide ((q : Int) ∈ (L.take k).map Pg.pl))) := fun q hq => by rw [HO.out.cellAt q (by omega), marks_at hq]
      have hip1 := hip p.pl
      obtain ⟨pl, data⟩ := p
      simp only at cp0 cp1 hpl hpd hip1 HC2
      unfold maxLen at hpd
      have HBX := hid (HB.out.alloc HB.out.size (.cells #[.int .i64 pl, .string data] 101))
      by_cases g1 : isPg n pl
      · rw [decide_eq_true g1] at hip1
        have HC3 : Hid _ := HC2.out.trans (if_neg (fun h => h g1))
        have g1' := HIP.out pl g1
        obtain ⟨q', rfl⟩ : ∃ q' : Nat, pl = (q' : Int) := ⟨pl.toNat, by omega⟩
        have hqn : q' < n := by omega
        by_cases g2 : data.size = 256
        · have HC4 : Hid _ := HC3.out.trans (if_neg (fun h => h g2))
          have g2i : ((data.size : Int) != 256) = false := by simp; omega
          by_cases g3 : (q' : Int) ∈ (L.take k).map Pg.pl
          · obtain rfl : e = 9 := HC4.out.trans (if_pos g3)
            have cm : (wr.alloc (.cells #[.int .i64 (q' : Int), .string data] 101)).cell? ⟨w.heap.size, q', none⟩ = some (.bool true) := by
              have := hmk q' hqn
              rw [decide_eq_true g3] at this
              exact ((Below.refl _ wr).alloc (Nat.le_refl _) _ |>.cell (p := ⟨w.heap.size, q', none⟩) ((HO.out.lt w.heap.size rfl).2)).trans this
            clear hmk HC HC2 HC3 HC4 hp HSN g1 g3 HL HO hip HIP
            go_wp2_with (go_at_call 137; refine (hip1 _).mono ?_; clear hip1; rintro e w1 ⟨rfl, rfl⟩)
            go_ret
            exact ⟨rfl, HBX.out⟩
          · have HC5 : Hid (e = ckL n ((L.take (k + 1)).map Pg.pl) (L.drop (k + 1))) := HC4.out.trans (if_neg g3)
            have hO1 := HO.out.alloc (.cells #[.int .i64 (q' : Int), .string data] 101)
            have cm : (wr.alloc (.cells #[.int .i64 (q' : Int), .string data] 101)).cell? ⟨w.heap.size, q', none⟩ = some (.bool false) := by
              rw [hO1.cellAt q' (by omega), marks_at hqn, decide_eq_false g3]
            have fm : (wr.alloc (.cells #[.int .i64 (q' : Int), .string data] 101)).frozen? ⟨w.heap.size, q', none⟩ = false := hO1.frozenAt q'
            have HO4 : Hid (((wr.alloc (.cells #[.int .i64 (q' : Int), .string data] 101)).setCell ⟨w.heap.size, q', none⟩ (.bool true)).ownsRow w.heap.size 4 1 (.slice (some ⟨w.heap.size, 0, none⟩) n n) n (marks n ((L.take (k + 1)).map Pg.pl))) := by
              have h := own_set hO1 q' (.bool true)
              rw [marks_set hqn] at h
              rw [HSN.out, List.map_append]
              exact h
            have HB4 := hid (HBX.out.setCell (p := ⟨w.heap.size, q', none⟩) (Nat.le_refl _) (.bool true))
            clear hmk HC HC2 HC3 HC4 hp HSN g1 g3 HL HO hip HIP hO1 HBX
            go_wp2_with (go_at_call 137; refine (hip1 _).mono ?_; clear hip1; rintro e w1 ⟨rfl, rfl⟩)
            go_roundw
            case rel => exact ⟨k + 1, by omega, by go_num, HO4, HB4, HC5⟩
            case measure => simp [intOf]; omega
        · obtain rfl : e = 3 := HC3.out.trans (if_pos g2)
          have g2i : ((data.size : Int) != 256) = true := by simp; omega
          clear hmk HC HC2 HC3 hp HSN g1 HL HO hip HIP
          go_wp2_with (go_at_call 137; refine (hip1 _).mono ?_; clear hip1; rintro e w1 ⟨rfl, rfl⟩)
          go_ret
          exact ⟨rfl, HBX.out⟩
      · obtain rfl : e = 1 := HC2.out.trans (if_pos g1)
        rw [decide_eq_false g1] at hip1
        clear hmk HC HC2 hp HSN g1 HL HO hip HIP
        go_wp2_with (go_at_call 137; refine (hip1 _).mono ?_; clear hip1; rintro e w1 ⟨rfl, rfl⟩)
        go_ret
        exact ⟨rfl, HBX.out⟩
    · have hki : ¬ (k : Int) < (N : Int) := by omega
      obtain rfl : k = N := by omega
      have HC9 : Hid (e = 0) := by
        have := HC.out
        rw [List.drop_eq_nil_of_le (by rw [HN.out]; omega)] at this
        exact this
      go_wp2_with fail
      go_ret
      exact ⟨by rw [HC9.out]; rfl, HB.out⟩

end Go.Proofs.YtglallhblcjffaaGreatDoor
