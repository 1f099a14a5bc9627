/-
  What the journal's headOf answers.
-/
import Derived.Test.YtoecopmbaoklkaaLo
namespace Go.Proofs.Ytoecopmbaoklkaa
open Go.RowKit
set_option linter.unusedVariables false
set_option linter.unusedSimpArgs false
set_option maxRecDepth 100000

/-- the sum, some of the pages gone through -/
def sumK (lst : List ByteArray) (L : List Pg) (k : Nat) : Nat := Nu.more 1 (catB lst ++ catB ((L.take k).map Pg.data))
theorem sumK_lt (lst : List ByteArray) (L : List Pg) (k : Nat) : sumK lst L k < 4294967296 := Nu.more_lt _ _
theorem sumK_zero (lst : List ByteArray) (L : List Pg) : sumK lst L 0 = Nu.more 1 (catB lst) := by
  unfold sumK
  simp [catB]
theorem sumK_step {lst : List ByteArray} {L : List Pg} {k : Nat} {p : Pg} (h : L[k]? = some p) : Nu.more (sumK lst L k) p.data.data.toList = sumK lst L (k + 1) := by
  unfold sumK
  rw [Nu.more_more, take_snoc h, List.map_append, catB_append, List.append_assoc]
  simp [catB]
theorem sumK_all {lst : List ByteArray} {L : List Pg} {k : Nat} (h : L.length ≤ k) : sumK lst L k = sumOf lst L := by
  unfold sumK sumOf
  rw [List.take_of_length_le h]

set_option maxHeartbeats 4000000 in
theorem headOf_any (w : World) (S : Nat → Prop) (B : Nat) (u v : Value) (lst : List ByteArray) (L : List Pg) (hu : RowS w B u lst) (hl : LiesO w S v L) (hn : L.length < 65536) (h1 : lst.length ≤ 100) (h2 : ∀ s ∈ lst, s.size = 256) :
    Calls Try.prog 79 #[u, v] w fun e w' => e = .returned (.string (hdB lst L)) ∧ Below w.heap.size w w' := by
  have hj := join_any w B u lst hu h1 h2
  have hsu : ∀ w1, _ := fun w1 => Nu.sum_any (bt (catB lst)) w1 (by rw [bt_size, catB_len h2]; unfold maxLen; omega)
  rw [bt_data, ← sumK_zero lst L] at hsu
  obtain ⟨a, c, e1⟩ := hl.form
  subst e1
  obtain ⟨a', c', e2⟩ := hu.form
  subst e2
  have HL := hid hl
  obtain ⟨N, hN⟩ : ∃ N, L.length = N := ⟨_, rfl⟩
  have HN := hid hN
  rw [hN] at hn ⊢
  have hNw : IntKind.u64.wrap (N : Int) = (N : Int) := by rw [IntKind.wrap_u64]; omega
  have hp2 : ∀ w1, Calls Try.prog 88 #[.int .u64 (N : Nat), .int .i64 2] w1 fun e w' => e = .returned (.string (bt (Nu.be N 2))) ∧ Below w1.heap.size w1 w' := fun w1 => put_any N 2 (by omega) (by omega) (by omega) w1
  obtain ⟨t, ht⟩ : ∃ t, bt (Nu.be N 2) = t := ⟨_, rfl⟩
  have htz : t.size = 2 := by rw [← ht, bt_size, Nu.be_length]
  have HT := hid ht
  rw [ht] at hp2
  obtain ⟨J, hJ⟩ : ∃ J, bt (catB lst) = J := ⟨_, rfl⟩
  rw [hJ] at hj hsu
  clear hl hu hN ht hJ
  obtain ⟨n', hn'⟩ : ∃ n', lst.length = n' := ⟨_, rfl⟩
  rw [hn'] at hj ⊢
  clear hn' h1 h2
  go_enter Try.func79, Try.ntmps79
  go_wp2_with (first
    | (go_at_call 90; refine hj.mono ?_; clear hj; rintro e w1 ⟨rfl, hb1⟩; have HB1 := hid hb1; clear hb1)
    | (go_at_call 89; refine (hsu _).mono ?_; clear hsu; rintro e w2 ⟨rfl, rfl⟩))
  go_loopw [5, 13] (fun x i wr => ∃ (k s : Nat), k ≤ N ∧ i = .int .i64 (k : Nat) ∧ x = .int .u32 (s : Nat) ∧ Hid (sumK lst L k = s) ∧ Hid (Below w.heap.size w wr)) (fun _ i _ => N - (intOf i).toNat)
  case atStart => exact ⟨0, _, Nat.zero_le _, rfl, rfl, (rfl : sumK lst L 0 = _), HB1⟩
  case round =>
    obtain ⟨k, s, hk, rfl, rfl, HS, HB⟩ := hrel
    clear HB1
    have hs : s < 4294967296 := by rw [← HS.out]; exact sumK_lt _ _ _
    by_cases hlt : k < N
    · have hki : (k : Int) < (N : Int) := by omega
      obtain ⟨p, hp⟩ : ∃ p, L[k]? = some p := ⟨_, List.getElem?_eq_getElem (by rw [HN.out]; exact hlt)⟩
      obtain ⟨b, off, hab, hblt, _, cp0, cp1, _, hpd⟩ := (HL.out.on HB.out).at hp
      subst hab
      have HST := hid (sumK_step (lst := lst) hp)
      rw [HS.out] at HST
      have hmo : ∀ w1, _ := fun w1 => Nu.more_any s p.data w1 hs hpd
      obtain ⟨x, hx⟩ : ∃ x, Nu.more s p.data.data.toList = x := ⟨_, rfl⟩
      rw [hx] at hmo HST
      obtain ⟨pl, data⟩ := p
      simp only at cp0 cp1 hmo
      have HB2 := hid (HB.out.alloc HB.out.size (.cells #[.int .i64 pl, .string data] 64))
      clear hp hx HS HB hpd
      go_wp2_with (go_at_call 91; refine (hmo _).mono ?_; clear hmo; rintro e w2 ⟨rfl, rfl⟩)
      go_roundw
      case rel => exact ⟨k + 1, x, by omega, by go_num, by go_num, HST.out.symm, HB2⟩
      case measure => simp [intOf]; omega
    · have hki : ¬ (k : Int) < (N : Int) := by omega
      obtain rfl : k = N := by omega
      rw [sumK_all (by rw [HN.out]; omega)] at HS
      have hp4 : ∀ w1, Calls Try.prog 88 #[.int .u64 (s : Nat), .int .i64 4] w1 fun e w' => e = .returned (.string (bt (Nu.be s 4))) ∧ Below w1.heap.size w1 w' := fun w1 => put_any s 4 (by omega) (by omega) (by omega) w1
      obtain ⟨r, hr⟩ : ∃ r, bt (Nu.be s 4) = r := ⟨_, rfl⟩
      have hrz : r.size = 4 := by rw [← hr, bt_size, Nu.be_length]
      have HR := hid hr
      rw [hr] at hp4
      have hz : (((⟨#[106, 114, 110, 108]⟩ : ByteArray) ++ t) ++ r).size ≤ 256 := by
        rw [ByteArray.size_append, ByteArray.size_append, htz, hrz]
        decide
      have hbk : ∀ w1, _ := fun w1 => block_any (((⟨#[106, 114, 110, 108]⟩ : ByteArray) ++ t) ++ r) hz w1
      have HE : Hid (Nu.padOf (((⟨#[106, 114, 110, 108]⟩ : ByteArray) ++ t) ++ r) 256 = hdB lst L) := by
        show _ = _
        rw [← HT.out, ← HR.out, show (⟨#[106, 114, 110, 108]⟩ : ByteArray) = bt [106, 114, 110, 108] from rfl, bt_append, bt_append, ← HS.out, ← HN.out]
        rfl
      rw [HE.out] at hbk
      clear hr hz
      go_wp2_with (first
        | (go_at_call 88; refine (hp2 _).mono ?_; clear hp2; rintro e w3 ⟨rfl, hb3⟩; have HB3 := hid (HB.out.trans (hb3.mono HB.out.size)); clear hb3)
        | (go_at_call 88; refine ((fun (h : Hid (Below w.heap.size w w3)) => hp4 _) HB3).mono ?_; clear hp4; rintro e w4 ⟨rfl, hb4⟩; have HB4 := hid (HB3.out.trans (hb4.mono HB3.out.size)); clear hb4)
        | (go_at_call 82; refine (hbk _).mono ?_; clear hbk; rintro e w5 ⟨rfl, hb5⟩; have HB5 := hid (HB4.out.trans (hb5.mono HB4.out.size)); clear hb5))
      go_ret
      exact ⟨rfl, HB5.out⟩

end Go.Proofs.Ytoecopmbaoklkaa
