/-
  What the document's List, Head and May answer.
-/
import Derived.Test.YtoecopmbaoklkaaGreatCk
import Derived.Test.YtoecopmbaoklkaaGreatNm
import Derived.Test.YtoecopmbaoklkaaGreatApp
import Derived.Test.YtoecopmbaoklkaaGreatRs
import Derived.Test.YtoecopmbaoklkaaGreatRw
namespace Go.Proofs.YtoecopmbaoklkaaGreat
open Go.RowKit Go.Shelf
set_option linter.unusedVariables false
set_option linter.unusedSimpArgs false
set_option maxRecDepth 100000

theorem part_at {L : List Pg} {q r : Nat} {p : Pg} (hr : r < 128) (h : L[128 * q + r]? = some p) : (part L q)[r]? = some p := by
  unfold part
  rw [List.getElem?_take, if_pos hr, List.getElem?_drop]
  exact h
theorem part_count (L : List Pg) (q : Nat) : (part L q).length = min 128 (L.length - 128 * q) := by unfold part; rw [List.length_take, List.length_drop]
theorem nums_snoc {A : List Pg} {r : Nat} {p : Pg} (h : A[r]? = some p) : nums (A.take (r + 1)) = nums (A.take r) ++ Nu.be p.pl.toNat 2 := by
  rw [take_snoc h, nums_append]
  simp [nums]

set_option maxHeartbeats 8000000 in
theorem rList_any (w : World) (S : Nat → Prop) (v : Value) (L : List Pg) (hl : LiesO w S v L) (hn : L.length ≤ 100000) (hp : ∀ p ∈ L, 0 ≤ p.pl ∧ p.pl < 65536) :
    Calls Tryz.prog 112 #[v] w fun e w' => ∃ v', e = .returned v' ∧ RowS w' w.heap.size v' (rows L) ∧ Below w.heap.size w w' := by
  obtain ⟨i0, hi, hz0, hz1, hz2⟩ := info_parts info9
  obtain ⟨a, c, e1⟩ := hl.form
  subst e1
  have HL := hid hl
  have HP := hid hp
  obtain ⟨N, hN⟩ : ∃ N, L.length = N := ⟨_, rfl⟩
  have HN := hid hN
  rw [hN] at hn ⊢
  obtain ⟨M, hM⟩ : ∃ M, lb N = M := ⟨_, rfl⟩
  have HMM : Hid (∀ q, q < M ↔ 128 * q < N) := fun q => by rw [← hM]; unfold lb; omega
  have hM2 : M ≤ 1000 := by rw [← hM]; unfold lb; omega
  have HR : Hid ((rows L).length = M) := by show _ = _; rw [rows_len, hN, hM]
  have HRT : Hid (∀ q, q ≤ M → ((rows L).take q).length = q) := fun q hq => by rw [List.length_take, HR.out]; omega
  clear hl hp hN hM
  go_enter Tryz.func112, Tryz.ntmps112
  go_wp2_with fail
  go_loopw [3, 4] (fun x i W => ∃ (q : Nat) (ba : Option Addr) (bc : Nat), q ≤ M ∧ i = .int .i64 ((128 : Int) * (q : Int)) ∧ x = .slice ba q bc ∧ Hid (RowS W w.heap.size (.slice ba q bc) ((rows L).take q)) ∧ Hid (Below w.heap.size w W)) (fun _ i _ => 200000 - (intOf i).toNat)
  case atStart => exact ⟨0, none, 0, Nat.zero_le _, rfl, rfl, World.ownsRow_nil _ _ _ _, Below.refl _ w⟩
  case round =>
    obtain ⟨q, ba, bc, hq, rfl, rfl, HO, HB⟩ := hrel
    by_cases hlt : q < M
    · have hqN := (HMM.out q).1 hlt
      have hqi : (128 : Int) * (q : Int) < (N : Int) := by omega
      have HPC := hid (part_count L q)
      rw [HN.out] at HPC
      obtain ⟨z, hz⟩ : ∃ z, (part L q).length = z := ⟨_, rfl⟩
      have HZ := hid hz
      have HZZ : Hid (z = min 128 (N - 128 * q)) := by show _ = _; rw [← hz]; exact HPC.out
      clear hz HPC
      go_upto_region 7 with fail
      go_loopw [5, 6] (fun x i W => ∃ (r : Nat) (s : ByteArray), r ≤ z ∧ i = .int .i64 ((128 : Int) * (q : Int) + (r : Int)) ∧ x = .string s ∧ Hid (s = bt (nums ((part L q).take r))) ∧ Hid (RowS W w.heap.size (.slice ba q bc) ((rows L).take q)) ∧ Hid (Below w.heap.size w W)) (fun _ i _ => 200000 - (intOf i).toNat)
      case atStart => exact ⟨0, ⟨#[]⟩, Nat.zero_le _, (by rw [show (128 : Int) * (q : Int) + ((0 : Nat) : Int) = 128 * (q : Int) by omega]), rfl, (by show _ = _; simp [nums, bt]), HO, HB⟩
      case round =>
        obtain ⟨r, s, hr, rfl, rfl, HS, HO2, HB2⟩ := hrel
        clear HO HB
        by_cases hrz : r < z
        · have hz9 := HZZ.out
          have h1 : (r : Int) < 128 := by omega
          have h1' : ¬ (128 : Int) ≤ (r : Int) := by omega
          have h2 : (128 : Int) * (q : Int) + (r : Int) < (N : Int) := by omega
          obtain ⟨p, hp⟩ : ∃ p, L[128 * q + r]? = some p := ⟨_, List.getElem?_eq_getElem (by rw [HN.out]; omega)⟩
          have hpa := part_at (q := q) (show r < 128 by omega) hp
          have hpb := HP.out p (List.mem_of_getElem? hp)
          obtain ⟨b, off, hab, hblt, _, cp0, cp1, _, _⟩ := (HL.out.on HB2.out).at hp
          subst hab
          have HSN : Hid (s ++ bt (Nu.be p.pl.toNat 2) = bt (nums ((part L q).take (r + 1)))) := by
            show _ = _
            rw [HS.out, bt_append, nums_snoc hpa]
          have hsz : s.size ≤ 256 := by rw [HS.out, bt_size, nums_len, List.length_take]; have := part_len L q; omega
          obtain ⟨pl, data⟩ := p
          simp only at cp0 hpb HSN
          obtain ⟨x, rfl⟩ : ∃ x : Nat, pl = (x : Int) := ⟨pl.toNat, by omega⟩
          rw [Int.toNat_natCast] at HSN
          have hxw : IntKind.u64.wrap (x : Int) = (x : Int) := by rw [IntKind.wrap_u64]; omega
          have hpu : ∀ w1, Calls Tryz.prog 123 #[.int .u64 (x : Nat), .int .i64 2] w1 fun e w' => e = .returned (.tuple #[.string (bt (Nu.be x 2)), .int .i64 0]) ∧ Below w1.heap.size w1 w' := fun w1 => Nu.rPut_ok x 2 w1 (by omega) (by omega) (by omega)
          obtain ⟨t, ht⟩ : ∃ t, bt (Nu.be x 2) = t := ⟨_, rfl⟩
          have htz : t.size = 2 := by rw [← ht, bt_size, Nu.be_length]
          rw [ht] at hpu HSN
          clear hp hpa hpb ht cp1 HS hz9
          go_wp2_with (go_at_call 123; refine (hpu _).mono ?_; clear hpu; rintro e w3 ⟨rfl, hb3⟩; have HO3 := hid (HO2.out.on hb3); have HB3 := hid (HB2.out.trans (hb3.mono HB2.out.size)); clear hb3 HO2 HB2)
          go_roundw
          case rel => exact ⟨r + 1, s ++ t, by omega, (by rw [show (128 : Int) * (q : Int) + ((r + 1 : Nat) : Int) = 128 * (q : Int) + (r : Int) + 1 by omega]), rfl, HSN, HO3, HB3⟩
          case measure => simp [intOf]; omega
        · obtain rfl : r = z := by omega
          have HS2 : Hid (s = bt (nums (part L q))) := by
            have := HS.out
            rw [List.take_of_length_le (by rw [HZ.out]; omega)] at this
            exact this
          have hsz : s.size ≤ 256 := by rw [HS2.out, bt_size, nums_len]; have := part_len L q; omega
          have hbk : ∀ w1, _ := fun w1 => rBlock_any s hsz w1
          have hrq : (rows L)[q]? = some (Nu.padOf s 256) := by
            rw [rows_at (show q < lb L.length by rw [← rows_len, HR.out]; exact hlt), HS2.out]
            rfl
          obtain ⟨t, ht⟩ : ∃ t, Nu.padOf s 256 = t := ⟨_, rfl⟩
          rw [ht] at hbk hrq
          have HSN := hid (take_snoc hrq)
          have HLQ := hid (HRT.out q hq)
          have hcond : ((128 : Int) ≤ (r : Int) ∧ ¬ (r : Int) < 128) ∨ (¬ (128 : Int) ≤ (r : Int) ∧ (r : Int) < 128) ∧ ¬ (128 : Int) * (q : Int) + (r : Int) < (N : Int) := by
            have hz9 := HZZ.out
            by_cases h : r < 128
            · exact .inr ⟨⟨by omega, by omega⟩, by omega⟩
            · exact .inl ⟨by omega, by omega⟩
          clear ht hrq HS HS2
          rcases hcond with ⟨hc1, hc3⟩ | ⟨⟨hc1, hc3⟩, hc2⟩
          · go_wp2_with (first
              | (go_at_call 114; refine (hbk _).mono ?_; clear hbk; rintro e w3 ⟨rfl, hb3⟩; have HO3 := hid (HO2.out.on hb3); have HB3 := hid (HB2.out.trans (hb3.mono HB2.out.size)); clear hb3 HO2 HB2)
              | (at_builtin; refine wpList_append_blk _ rfl (.tmp 41) (.tmp 44) 46 rfl w.heap.size 9 i0 (.string ⟨#[]⟩) 1 16 Tryz.underlying46 hi hz0 hz1 hz2 rfl (by decide) _ q (flatS ((rows L).take q)) rfl (by have h := HO3.out.alloc (.cells #[.string t] 9); rw [HLQ.out] at h; exact h) ⟨w3.heap.size, 0, none⟩ 1 1 [.string t] rfl rfl (cells_one w3 _ 9) (fun u hu => by simp at hu; subst hu; rfl) (by decide) (by unfold maxLen; omega) (by omega) (by have := HB3.out.size; simp; omega) ?_))
            intro v' w4 hown' hgrow hmv
            have HB4 := hid ((HB3.out.alloc HB3.out.size (.cells #[.string t] 9)).grown hgrow (by have := HB3.out.size; simp; omega) (fun g hg => by have h := HO3.out; exact ((h : w3.ownsRow w.heap.size 9 1 _ _ _).lt g hg).1))
            have HO4 : Hid (RowS w4 w.heap.size v' ((rows L).take (q + 1))) := by
              refine hid ?_
              unfold RowS
              rw [HSN.out, flatS_append, List.length_append, HLQ.out]
              exact hown'
            obtain ⟨va, vc, hv'⟩ := own_form hown'
            subst hv'
            clear hown' hgrow hmv HO3 HB3
            go_wp2_with fail
            go_roundw
            case rel => exact ⟨q + 1, va, vc, by omega, (by rw [show (128 : Int) * ((q + 1 : Nat) : Int) = 128 * (q : Int) + 128 by omega]), rfl, HO4, HB4⟩
            case measure => simp [intOf]; omega
          · go_wp2_with (first
              | (go_at_call 114; refine (hbk _).mono ?_; clear hbk; rintro e w3 ⟨rfl, hb3⟩; have HO3 := hid (HO2.out.on hb3); have HB3 := hid (HB2.out.trans (hb3.mono HB2.out.size)); clear hb3 HO2 HB2)
              | (at_builtin; refine wpList_append_blk _ rfl (.tmp 41) (.tmp 44) 46 rfl w.heap.size 9 i0 (.string ⟨#[]⟩) 1 16 Tryz.underlying46 hi hz0 hz1 hz2 rfl (by decide) _ q (flatS ((rows L).take q)) rfl (by have h := HO3.out.alloc (.cells #[.string t] 9); rw [HLQ.out] at h; exact h) ⟨w3.heap.size, 0, none⟩ 1 1 [.string t] rfl rfl (cells_one w3 _ 9) (fun u hu => by simp at hu; subst hu; rfl) (by decide) (by unfold maxLen; omega) (by omega) (by have := HB3.out.size; simp; omega) ?_))
            intro v' w4 hown' hgrow hmv
            have HB4 := hid ((HB3.out.alloc HB3.out.size (.cells #[.string t] 9)).grown hgrow (by have := HB3.out.size; simp; omega) (fun g hg => by have h := HO3.out; exact ((h : w3.ownsRow w.heap.size 9 1 _ _ _).lt g hg).1))
            have HO4 : Hid (RowS w4 w.heap.size v' ((rows L).take (q + 1))) := by
              refine hid ?_
              unfold RowS
              rw [HSN.out, flatS_append, List.length_append, HLQ.out]
              exact hown'
            obtain ⟨va, vc, hv'⟩ := own_form hown'
            subst hv'
            clear hown' hgrow hmv HO3 HB3
            go_wp2_with fail
            go_roundw
            case rel => exact ⟨q + 1, va, vc, by omega, (by rw [show (128 : Int) * ((q + 1 : Nat) : Int) = 128 * (q : Int) + 128 by omega]), rfl, HO4, HB4⟩
            case measure => simp [intOf]; omega
    · obtain rfl : q = M := by omega
      have hqi : ¬ (128 : Int) * (q : Int) < (N : Int) := by have := (HMM.out q); omega
      have HO8 : Hid (RowS wr w.heap.size (.slice ba q bc) (rows L)) := by
        have := HO.out
        rw [List.take_of_length_le (by rw [HR.out]; omega)] at this
        exact this
      go_wp2_with fail
      go_ret
      exact ⟨_, rfl, HO8.out, HB.out⟩

end Go.Proofs.YtoecopmbaoklkaaGreat
