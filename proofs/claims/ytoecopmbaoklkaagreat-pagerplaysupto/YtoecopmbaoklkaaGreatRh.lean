/-
  What the document's Head answers.
-/
import Derived.Test.YtoecopmbaoklkaaGreatLo
import Derived.Test.YtoecopmbaoklkaaGreatRl
namespace Go.Proofs.YtoecopmbaoklkaaGreat
open Go.RowKit
set_option linter.unusedVariables false
set_option linter.unusedSimpArgs false
set_option maxRecDepth 100000

/-- the sum, some of the pages gone through -/
def sumK (lst : List ByteArray) (L : List Pg) (k : Nat) : Nat := Nu.more 1 (catB lst ++ catB ((L.take k).map Pg.data))
theorem sumK_lt (lst : List ByteArray) (L : List Pg) (k : Nat) : sumK lst L k < 4294967296 := Nu.more_lt _ _
theorem sumK_zero (lst : List ByteArray) (L : List Pg) : sumK lst L 0 = Nu.more 1 (catB lst) := by
  unfold sumK
  simp [catB]
theorem sumK_step {lst : List ByteArray} {L : List Pg} {k : Nat} {p : Pg} (h : L[k]? = some p) : Nu.more (sumK lst L k) p.data.data.toList = sumK lst L (k + 1) := by
  unfold sumK
  rw [Nu.more_more, take_snoc h, List.map_append, catB_append, List.append_assoc]
  simp [catB]
theorem sumK_all {lst : List ByteArray} {L : List Pg} {k : Nat} (h : L.length ≤ k) : sumK lst L k = sumOf lst L := by
  unfold sumK sumOf
  rw [List.take_of_length_le h]

set_option maxHeartbeats 4000000 in
theorem headOf_any (w : World) (S : Nat → Prop) (B : Nat) (u v : Value) (lst : List ByteArray) (L : List Pg) (hu : RowS w B u lst) (hl : LiesO w S v L) (hn : L.length < 65536) (h1 : lst.length ≤ 100) (h2 : ∀ s ∈ lst, s.size = 256) :
    Calls Tryz.prog 107 #[u, v] w fun e w' => e = .returned (.string (hdB lst L)) ∧ Below w.heap.size w w' := by
  have hj := join_any w B u lst hu h1 h2
  have hsu : ∀ w1, _ := fun w1 => Nu.sum_any (bt (catB lst)) w1 (by rw [bt_size, catB_len h2]; unfold maxLen; omega)
  rw [bt_data, ← sumK_zero lst L] at hsu
  obtain ⟨a, c, e1⟩ := hl.form
  subst e1
  obtain ⟨a', c', e2⟩ := hu.form
  subst e2
  have HL := hid hl
  obtain ⟨N, hN⟩ : ∃ N, L.length = N := ⟨_, rfl⟩
  have HN := hid hN
  rw [hN] at hn ⊢
  have hNw : IntKind.u64.wrap (N : Int) = (N : Int) := by rw [IntKind.wrap_u64]; omega
  have hp2 : ∀ w1, Calls Tryz.prog 118 #[.int .u64 (N : Nat), .int .i64 2] w1 fun e w' => e = .returned (.string (bt (Nu.be N 2))) ∧ Below w1.heap.size w1 w' := fun w1 => put_any N 2 (by omega) (by omega) (by omega) w1
  obtain ⟨t, ht⟩ : ∃ t, bt (Nu.be N 2) = t := ⟨_, rfl⟩
  have htz : t.size = 2 := by rw [← ht, bt_size, Nu.be_length]
  have HT := hid ht
  rw [ht] at hp2
  obtain ⟨J, hJ⟩ : ∃ J, bt (catB lst) = J := ⟨_, rfl⟩
  rw [hJ] at hj hsu
  clear hl hu hN ht hJ
  obtain ⟨n', hn'⟩ : ∃ n', lst.length = n' := ⟨_, rfl⟩
  rw [hn'] at hj ⊢
  clear hn' h1 h2
  go_enter Tryz.func107, Tryz.ntmps107
  go_wp2_with (first
    | (go_at_call 120; refine hj.mono ?_; clear hj; rintro e w1 ⟨rfl, hb1⟩; have HB1 := hid hb1; clear hb1)
    | (go_at_call 119; refine (hsu _).mono ?_; clear hsu; rintro e w2 ⟨rfl, rfl⟩))
  go_loopw [5, 13] (fun x i wr => ∃ (k s : Nat), k ≤ N ∧ i = .int .i64 (k : Nat) ∧ x = .int .u32 (s : Nat) ∧ Hid (sumK lst L k = s) ∧ Hid (Below w.heap.size w wr)) (fun _ i _ => N - (intOf i).toNat)
  case atStart => exact ⟨0, _, Nat.zero_le _, rfl, rfl, (rfl : sumK lst L 0 = _), HB1⟩
  case round =>
    obtain ⟨k, s, hk, rfl, rfl, HS, HB⟩ := hrel
    clear HB1
    have hs : s < 4294967296 := by rw [← HS.out]; exact sumK_lt _ _ _
    by_cases hlt : k < N
    · have hki : (k : Int) < (N : Int) := by omega
      obtain ⟨p, hp⟩ : ∃ p, L[k]? = some p := ⟨_, List.getElem?_eq_getElem (by rw [HN.out]; exact hlt)⟩
      obtain ⟨b, off, hab, hblt, _, cp0, cp1, _, hpd⟩ := (HL.out.on HB.out).at hp
      subst hab
      have HST := hid (sumK_step (lst := lst) hp)
      rw [HS.out] at HST
      have hmo : ∀ w1, _ := fun w1 => Nu.more_any s p.data w1 hs hpd
      obtain ⟨x, hx⟩ : ∃ x, Nu.more s p.data.data.toList = x := ⟨_, rfl⟩
      rw [hx] at hmo HST
      obtain ⟨pl, data⟩ := p
      simp only at cp0 cp1 hmo
      have HB2 := hid (HB.out.alloc HB.out.size (.cells #[.int .i64 pl, .string data] 75))
      clear hp hx HS HB hpd
      go_wp2_with (go_at_call 121; refine (hmo _).mono ?_; clear hmo; rintro e w2 ⟨rfl, rfl⟩)
      go_roundw
      case rel => exact ⟨k + 1, x, by omega, by go_num, by go_num, HST.out.symm, HB2⟩
      case measure => simp [intOf]; omega
    · have hki : ¬ (k : Int) < (N : Int) := by omega
      obtain rfl : k = N := by omega
      rw [sumK_all (by rw [HN.out]; omega)] at HS
      have hp4 : ∀ w1, Calls Tryz.prog 118 #[.int .u64 (s : Nat), .int .i64 4] w1 fun e w' => e = .returned (.string (bt (Nu.be s 4))) ∧ Below w1.heap.size w1 w' := fun w1 => put_any s 4 (by omega) (by omega) (by omega) w1
      obtain ⟨r, hr⟩ : ∃ r, bt (Nu.be s 4) = r := ⟨_, rfl⟩
      have hrz : r.size = 4 := by rw [← hr, bt_size, Nu.be_length]
      have HR := hid hr
      rw [hr] at hp4
      have hz : (((⟨#[106, 114, 110, 108]⟩ : ByteArray) ++ t) ++ r).size ≤ 256 := by
        rw [ByteArray.size_append, ByteArray.size_append, htz, hrz]
        decide
      have hbk : ∀ w1, _ := fun w1 => block_any (((⟨#[106, 114, 110, 108]⟩ : ByteArray) ++ t) ++ r) hz w1
      have HE : Hid (Nu.padOf (((⟨#[106, 114, 110, 108]⟩ : ByteArray) ++ t) ++ r) 256 = hdB lst L) := by
        show _ = _
        rw [← HT.out, ← HR.out, show (⟨#[106, 114, 110, 108]⟩ : ByteArray) = bt [106, 114, 110, 108] from rfl, bt_append, bt_append, ← HS.out, ← HN.out]
        rfl
      rw [HE.out] at hbk
      clear hr hz
      go_wp2_with (first
        | (go_at_call 118; refine (hp2 _).mono ?_; clear hp2; rintro e w3 ⟨rfl, hb3⟩; have HB3 := hid (HB.out.trans (hb3.mono HB.out.size)); clear hb3)
        | (go_at_call 118; refine ((fun (h : Hid (Below w.heap.size w w3)) => hp4 _) HB3).mono ?_; clear hp4; rintro e w4 ⟨rfl, hb4⟩; have HB4 := hid (HB3.out.trans (hb4.mono HB3.out.size)); clear hb4)
        | (go_at_call 110; refine (hbk _).mono ?_; clear hbk; rintro e w5 ⟨rfl, hb5⟩; have HB5 := hid (HB4.out.trans (hb5.mono HB4.out.size)); clear hb5))
      go_ret
      exact ⟨rfl, HB5.out⟩

/-- the sum, some of the list gone through -/
def sumR (lst : List ByteArray) (k : Nat) : Nat := Nu.more 1 (catB (lst.take k))
theorem sumR_lt (lst : List ByteArray) (k : Nat) : sumR lst k < 4294967296 := Nu.more_lt _ _
theorem sumR_step {lst : List ByteArray} {k : Nat} {s : ByteArray} (h : lst[k]? = some s) : Nu.more (sumR lst k) s.data.toList = sumR lst (k + 1) := by
  unfold sumR
  rw [Nu.more_more, take_snoc h, catB_append]
  simp [catB]
theorem sumR_all {lst : List ByteArray} {L : List Pg} {k : Nat} (h : lst.length ≤ k) : sumR lst k = sumK lst L 0 := by
  rw [sumK_zero]
  unfold sumR
  rw [List.take_of_length_le h]

set_option maxHeartbeats 4000000 in
theorem rHead_any (w : World) (S : Nat → Prop) (v : Value) (L : List Pg) (hl : LiesO w S v L) (hn : L.length ≤ 2048) (hp : ∀ p ∈ L, 0 ≤ p.pl ∧ p.pl < 65536) :
    Calls Tryz.prog 113 #[v] w fun e w' => e = .returned (.string (hdB (rows L) L)) ∧ Below w.heap.size w w' := by
  have hli : ∀ w1, Below w.heap.size w w1 → Calls Tryz.prog 112 #[v] w1 fun e w' => ∃ v', e = .returned v' ∧ RowS w' w1.heap.size v' (rows L) ∧ Below w1.heap.size w1 w' := fun w1 hb => rList_any w1 S v L (hl.on hb) (by omega) hp
  have hsu : ∀ w1, Calls Tryz.prog 124 #[.string ⟨#[]⟩] w1 fun e w' => e = .returned (.int .u32 ((1 : Nat) : Int)) ∧ w1 = w' := fun w1 => (Nu.rSum_any ⟨#[]⟩ w1 (by decide)).mono fun e w' h => ⟨h.1, h.2⟩
  obtain ⟨a, c, e1⟩ := hl.form
  subst e1
  have HL := hid hl
  obtain ⟨N, hN⟩ : ∃ N, L.length = N := ⟨_, rfl⟩
  have HN := hid hN
  rw [hN] at hn hli ⊢
  have hNw : IntKind.u64.wrap (N : Int) = (N : Int) := by rw [IntKind.wrap_u64]; omega
  have hp2 : ∀ w1, Calls Tryz.prog 123 #[.int .u64 (N : Nat), .int .i64 2] w1 fun e w' => e = .returned (.tuple #[.string (bt (Nu.be N 2)), .int .i64 0]) ∧ Below w1.heap.size w1 w' := fun w1 => Nu.rPut_ok N 2 w1 (by omega) (by omega) (by omega)
  obtain ⟨t, ht⟩ : ∃ t, bt (Nu.be N 2) = t := ⟨_, rfl⟩
  have htz : t.size = 2 := by rw [← ht, bt_size, Nu.be_length]
  have HT := hid ht
  rw [ht] at hp2
  have HRS : Hid (∀ s ∈ rows L, s.size = 256) := fun s hs => rows_size hs
  obtain ⟨lst, hls⟩ : ∃ lst, rows L = lst := ⟨_, rfl⟩
  rw [hls] at hli HRS ⊢
  obtain ⟨M, hM⟩ : ∃ M, lst.length = M := ⟨_, rfl⟩
  have HM := hid hM
  have hM2 : M ≤ 1000 := by rw [← hM, ← hls, rows_len, HN.out]; unfold lb; omega
  clear hl hN ht hp hls hM
  go_enter Tryz.func113, Tryz.ntmps113
  go_wp2_with (first
    | (go_at_call 124; refine (hsu _).mono ?_; clear hsu; rintro e w2 ⟨rfl, rfl⟩)
    | (go_at_call 112; refine (hli _ (Below.refl _ _)).mono ?_; clear hli; rintro e w1 ⟨v', rfl, hr1, hb1⟩; have HB1 := hid hb1; have HR1 := hid hr1; obtain ⟨a', c', e2⟩ := own_form hr1; subst e2; rw [HM.out] at HR1 ⊢; clear hb1 hr1))
  go_loopw [3, 16] (fun x i wr => ∃ (k s : Nat), k ≤ M ∧ i = .int .i64 (k : Nat) ∧ x = .int .u32 (s : Nat) ∧ Hid (sumR lst k = s) ∧ w1 = wr) (fun _ i _ => M - (intOf i).toNat)
  case atStart => exact ⟨0, 1, Nat.zero_le _, rfl, rfl, (by show _ = _; unfold sumR; simp [catB]; rfl), rfl⟩
  case round =>
    obtain ⟨k, s, hk, rfl, rfl, HS, rfl⟩ := hrel
    have hs : s < 4294967296 := by rw [← HS.out]; exact sumR_lt _ _
    by_cases hlt : k < M
    · have hki : (k : Int) < (M : Int) := by omega
      obtain ⟨p, hp⟩ : ∃ p, lst[k]? = some p := ⟨_, List.getElem?_eq_getElem (by rw [HM.out]; exact hlt)⟩
      obtain ⟨b, hab, _, hbl⟩ := row_some (HR1.out : w1.ownsRow _ 9 1 _ _ _) (by rw [HM.out]; omega)
      subst hab
      obtain ⟨cp0, _⟩ := RowS.at HR1.out hp
      have HST := hid (sumR_step hp)
      rw [HS.out] at HST
      have hmo : ∀ w1, _ := fun w1 => Nu.rMore_any s p w1 hs (by rw [HRS.out p (List.mem_of_getElem? hp)]; decide)
      obtain ⟨x, hx⟩ : ∃ x, Nu.more s p.data.toList = x := ⟨_, rfl⟩
      rw [hx] at hmo HST
      clear hp hx HS
      go_wp2_with (go_at_call 125; refine (hmo _).mono ?_; clear hmo; rintro e w2 ⟨rfl, rfl⟩)
      go_roundw
      case rel => exact ⟨k + 1, x, by omega, by go_num, by go_num, HST.out.symm, trivial⟩
      case measure => simp [intOf]; omega
    · have hki : ¬ (k : Int) < (M : Int) := by omega
      obtain rfl : k = M := by omega
      rw [sumR_all (L := L) (by rw [HM.out]; omega)] at HS
      go_wp2_with fail
      go_loopw [3, 28] (fun x i wr => ∃ (k s : Nat), k ≤ N ∧ i = .int .i64 (k : Nat) ∧ x = .int .u32 (s : Nat) ∧ Hid (sumK lst L k = s) ∧ w1 = wr) (fun _ i _ => N - (intOf i).toNat)
      case atStart => exact ⟨0, _, Nat.zero_le _, rfl, rfl, HS, rfl⟩
      case round =>
        obtain ⟨q, z, hq, rfl, rfl, HZ, rfl⟩ := hrel
        have hs2 : z < 4294967296 := by rw [← HZ.out]; exact sumK_lt _ _ _
        by_cases hlq : q < N
        · have hqi : (q : Int) < (N : Int) := by omega
          obtain ⟨p, hp⟩ : ∃ p, L[q]? = some p := ⟨_, List.getElem?_eq_getElem (by rw [HN.out]; exact hlq)⟩
          obtain ⟨b, off, hab, hblt, _, cp0, cp1, _, hpd⟩ := (HL.out.on HB1.out).at hp
          subst hab
          have HST := hid (sumK_step (lst := lst) hp)
          rw [HZ.out] at HST
          have hmo : ∀ w1, _ := fun w1 => Nu.rMore_any z p.data w1 hs2 hpd
          obtain ⟨x, hx⟩ : ∃ x, Nu.more z p.data.data.toList = x := ⟨_, rfl⟩
          rw [hx] at hmo HST
          obtain ⟨pl, data⟩ := p
          simp only at cp0 cp1 hmo
          clear hp hx HZ hpd
          go_wp2_with (go_at_call 125; refine (hmo _).mono ?_; clear hmo; rintro e w2 ⟨rfl, rfl⟩)
          go_roundw
          case rel => exact ⟨q + 1, x, by omega, by go_num, by go_num, HST.out.symm, trivial⟩
          case measure => simp [intOf]; omega
        · have hqi : ¬ (q : Int) < (N : Int) := by omega
          obtain rfl : q = N := by omega
          rw [sumK_all (by rw [HN.out]; omega)] at HZ
          have hp4 : ∀ w1, Calls Tryz.prog 123 #[.int .u64 (z : Nat), .int .i64 4] w1 fun e w' => e = .returned (.tuple #[.string (bt (Nu.be z 4)), .int .i64 0]) ∧ Below w1.heap.size w1 w' := fun w1 => Nu.rPut_ok z 4 w1 (by omega) (by omega) (by omega)
          obtain ⟨r, hr⟩ : ∃ r, bt (Nu.be z 4) = r := ⟨_, rfl⟩
          have hrz : r.size = 4 := by rw [← hr, bt_size, Nu.be_length]
          have HR := hid hr
          rw [hr] at hp4
          have hz : (((⟨#[106, 114, 110, 108]⟩ : ByteArray) ++ t) ++ r).size ≤ 256 := by
            rw [ByteArray.size_append, ByteArray.size_append, htz, hrz]
            decide
          have hbk : ∀ w1, _ := fun w1 => rBlock_any (((⟨#[106, 114, 110, 108]⟩ : ByteArray) ++ t) ++ r) hz w1
          have HE : Hid (Nu.padOf (((⟨#[106, 114, 110, 108]⟩ : ByteArray) ++ t) ++ r) 256 = hdB lst L) := by
            show _ = _
            rw [← HT.out, ← HR.out, show (⟨#[106, 114, 110, 108]⟩ : ByteArray) = bt [106, 114, 110, 108] from rfl, bt_append, bt_append, ← HZ.out, ← HN.out]
            rfl
          rw [HE.out] at hbk
          have hzw : IntKind.u64.wrap (z : Int) = (z : Int) := by rw [IntKind.wrap_u64]; omega
          clear hr hz
          go_wp2_with (first
            | (go_at_call 123; refine (hp2 _).mono ?_; clear hp2; rintro e w3 ⟨rfl, hb3⟩; have HB3 := hid (HB1.out.trans (hb3.mono HB1.out.size)); clear hb3)
            | (go_at_call 123; refine ((fun (h : Hid (Below w.heap.size w w3)) => hp4 _) HB3).mono ?_; clear hp4; rintro e w4 ⟨rfl, hb4⟩; have HB4 := hid (HB3.out.trans (hb4.mono HB3.out.size)); clear hb4)
            | (go_at_call 114; refine (hbk _).mono ?_; clear hbk; rintro e w5 ⟨rfl, hb5⟩; have HB5 := hid (HB4.out.trans (hb5.mono HB4.out.size)); clear hb5))
          go_ret
          exact ⟨rfl, HB5.out⟩

end Go.Proofs.YtoecopmbaoklkaaGreat
