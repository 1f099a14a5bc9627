/-
  slices.Grow, slices.Concat and join: lists put together in memory of their own.
-/
import Derived.Test.YtjocbkhjbbpkjabRs
import Derived.Test.YtjocbkhjbbpkjabSf
namespace Go.Proofs.Ytjocbkhjbbpkjab
open Go.RowKit
set_option linter.unusedVariables false
set_option linter.unusedSimpArgs false
set_option maxRecDepth 100000

theorem grow_any (w : World) (n : Nat) (hn : n ≤ 4398046511104) :
    Calls Try.prog 30 #[.slice none 0 0, .int .i64 (n : Nat)] w fun e w' => ∃ a c, e = .returned (.slice a 0 c) ∧ RowE w' w.heap.size (.slice a 0 c) [] ∧ Below w.heap.size w w' := by
  obtain ⟨i0, hi, hz0, hz1, hz2⟩ := info_parts infoE
  rcases Nat.eq_zero_or_pos n with rfl | h0
  · refine (Any8.slices_Grow_room Try.lays8_4 none 0 0 0 w (by omega) (by omega) (by omega) (by omega)).mono ?_
    rintro e w' ⟨rfl, rfl⟩
    exact ⟨none, 0, rfl, RowE.nil _ _, Below.refl _ _⟩
  · refine (Any8.slices_Grow_grow Try.lays8_4 i0 (.agg #[.string ⟨#[]⟩, .string ⟨#[]⟩]) hi hz0 (by rw [hz1]; decide) none 0 0 n [] w (Nat.le_refl _) (by omega) (by rw [hz2]; omega) (by omega) (by simp) (fun _ => rfl) (fun a h => by cases h)).mono ?_
    rintro e w' ⟨rfl, rfl⟩
    have hge := grownCap_ge w (0 + n) 0 26
    refine ⟨_, _, rfl, ?_, (Below.refl _ w).drew.alloc (Nat.le_refl _) _⟩
    exact World.ownsRow_made w.drew _ _ (Nat.le_refl _) (grownCap_le_maxLen _ _ _ _ (by unfold maxLen; omega)) (by
      simp only [Array.size_append, size_zeroCells, List.size_toArray, List.length_nil, Value.cells]
      show _ = grownCap w (0 + n) 0 26 * 2
      show 0 + (0 + n - 0) * 2 + (grownCap w (0 + n) 0 26 - (0 + n)) * 2 = _
      omega)

/-- lists, as they lie in memory -/
def LiesL (w : World) (v : Value) (K : List (List Ent)) : Prop :=
  ∃ (b : Nat) (cs : Array Value), v = .slice (some ⟨b, 0, none⟩) K.length K.length ∧ Blk w b cs 22 ∧ K.length ≤ 3 ∧ ∀ (k : Nat) (l : List Ent), K[k]? = some l → ∃ x, cs[k]? = some x ∧ LiesE w x l
theorem LiesL.on {w w' : World} {v : Value} {K : List (List Ent)} (h : LiesL w v K) (hb : Below w.heap.size w w') : LiesL w' v K := by
  obtain ⟨b, cs, h1, h2, h3, h4⟩ := h
  refine ⟨b, cs, h1, h2.on hb h2.lt, h3, fun k l hk => ?_⟩
  obtain ⟨x, hx, hl⟩ := h4 k l hk
  exact ⟨x, hx, hl.on hb⟩
theorem flat_take {K : List (List Ent)} {k : Nat} {l : List Ent} (h : K[k]? = some l) : (K.take (k + 1)).flatten = (K.take k).flatten ++ l := by
  rw [List.take_add_one, h, List.flatten_append]
  simp
theorem flat_take_le {K : List (List Ent)} (k : Nat) : (K.take k).flatten.length ≤ K.flatten.length := by
  have : K.flatten = (K.take k).flatten ++ (K.drop k).flatten := by rw [← List.flatten_append, List.take_append_drop]
  rw [this, List.length_append]
  omega

set_option maxHeartbeats 2000000 in
theorem concat_any (w : World) (v : Value) (K : List (List Ent)) (hv : LiesL w v K) (hn : K.flatten.length ≤ 4398046511000) :
    Calls Try.prog 22 #[v] w fun e w' => ∃ a c, e = .returned (.slice a K.flatten.length c) ∧ RowE w' w.heap.size (.slice a K.flatten.length c) K.flatten ∧ Below w.heap.size w w' := by
  have HV := hid hv
  have HGR : Hid (∀ w1 : World, Calls Try.prog 30 #[.slice none 0 0, .int .i64 (K.flatten.length : Nat)] w1 fun e w' => ∃ a c, e = .returned (.slice a 0 c) ∧ RowE w' w1.heap.size (.slice a 0 c) [] ∧ Below w1.heap.size w1 w') := fun w1 => grow_any w1 K.flatten.length (by omega)
  obtain ⟨N, hN⟩ : ∃ N, K.flatten.length = N := ⟨_, rfl⟩
  have HN := hid hN
  rw [hN] at HGR hn ⊢
  obtain ⟨b, cs, rfl, hbk, hk3, hcs⟩ := hv
  have HBK := hid hbk
  have HCS := hid hcs
  obtain ⟨q, hq⟩ : ∃ q, K.length = q := ⟨_, rfl⟩
  have HQ := hid hq
  rw [hq] at hk3 ⊢
  clear hN hbk hcs hq HV
  go_enter Try.func22, Try.ntmps22
  go_wp2_with fail
  go_loopw [3, 11] (fun s i wr => ∃ k : Nat, k ≤ q ∧ i = .int .i64 (k : Nat) ∧ s = .int .i64 ((K.take k).flatten.length : Nat) ∧ Hid (w = wr)) (fun _ i _ => q - (intOf i).toNat)
  case atStart => exact ⟨0, Nat.zero_le _, rfl, rfl, Eq.refl w⟩
  case round =>
    obtain ⟨k, hk, rfl, rfl, HW⟩ := hrel
    obtain rfl := HW.out
    have htk := flat_take_le (K := K) k
    rw [HN.out] at htk
    by_cases hlt : k < q
    · obtain ⟨l, hl⟩ : ∃ l, K[k]? = some l := ⟨_, List.getElem?_eq_getElem (by rw [HQ.out]; exact hlt)⟩
      obtain ⟨x, hx, hlx⟩ := HCS.out k l hl
      obtain ⟨xa, xc, rfl⟩ := hlx.form
      have c0 := HBK.out.cell hx
      have hki : (k : Int) < (q : Int) := by omega
      have HT : Hid ((K.take (k + 1)).flatten.length = (K.take k).flatten.length + l.length) := by show _ = _; rw [flat_take hl, List.length_append]
      have htk2 := flat_take_le (K := K) (k + 1)
      rw [HN.out, HT.out] at htk2
      generalize (K.take k).flatten.length = m at HT htk htk2 ⊢
      generalize l.length = ln at *
      have hwm : IntKind.i64.wrap ((m : Int) + (ln : Int)) = (m : Int) + (ln : Int) := by rw [IntKind.wrap_i64]; omega
      have hng : ¬ ((m : Int) + (ln : Int)) < 0 := by omega
      clear hl hx hlx
      go_wp2_with fail
      go_roundw
      case rel => exact ⟨k + 1, by omega, by go_num, by rw [HT.out]; go_num, hid trivial⟩
      case measure => simp [intOf]; omega
    · obtain rfl : k = q := by omega
      have hki : ¬ (k : Int) < (k : Int) := by omega
      have hK : K.take k = K := List.take_of_length_le (by rw [HQ.out]; exact Nat.le_refl _)
      rw [hK, HN.out]
      clear htk hK hlt
      go_wp2_with (go_at_call 30; refine (HGR.out _).mono ?_; clear HGR; rintro e w1 ⟨va, vc, rfl, ho1, hb1⟩; have HO1 := hid ho1; have HB1 := hid hb1; clear ho1 hb1)
      go_loopw [6, 27] (fun o i wr => ∃ (j m : Nat) (ba : Option Addr) (bc : Nat), j ≤ k ∧ i = .int .i64 (j : Nat) ∧ o = .slice ba m bc ∧ Hid ((K.take j).flatten.length = m) ∧ Hid (RowE wr w.heap.size (.slice ba m bc) (K.take j).flatten) ∧ Hid (Below w.heap.size w wr)) (fun _ i _ => k - (intOf i).toNat)
      case atStart => exact ⟨0, 0, va, vc, Nat.zero_le _, rfl, rfl, rfl, HO1, HB1⟩
      case round =>
        obtain ⟨j, m, ba, bc, hj, rfl, rfl, HL, HO, HB⟩ := hrel
        clear HO1 HB1
        by_cases hlt : j < k
        · obtain ⟨l, hl⟩ : ∃ l, K[j]? = some l := ⟨_, List.getElem?_eq_getElem (by rw [HQ.out]; exact hlt)⟩
          obtain ⟨x, hx, hlx⟩ := HCS.out j l hl
          have c0 := (HBK.out.on HB.out HBK.out.lt).cell hx
          have HLX := hid (hlx.on HB.out)
          obtain ⟨xa, xc, rfl⟩ := hlx.form
          have hki : (j : Int) < (k : Int) := by omega
          have HT := hid (flat_take hl)
          have htk2 := flat_take_le (K := K) (j + 1)
          rw [HN.out, HT.out, List.length_append, HL.out] at htk2
          clear hx hlx hl
          obtain ⟨ln, hln⟩ : ∃ ln, l.length = ln := ⟨_, rfl⟩
          have HLN := hid hln
          rw [hln] at HLX c0 htk2
          clear hln
          go_wp2_with (at_builtin; refine wpList_more _ w rfl (.tmp 31) (.tmp 32) rfl (.slice ba m bc) (K.take j).flatten m HL.out rfl HO.out HB.out (.slice xa ln xc) l ln HLN.out rfl HLX.out (by omega) ?_; intro va vc w6 hr6 hb6 _; have HO6 : Hid (RowE w6 w.heap.size (.slice va (m + ln) vc) (K.take (j + 1)).flatten) := (by show RowE _ _ _ _; rw [HT.out]; exact hr6); have HB6 := hid hb6; clear hr6 hb6)
          go_roundw
          case rel => exact ⟨j + 1, m + ln, va, vc, by omega, by go_num, rfl, (by show _ = _; rw [HT.out, List.length_append, HL.out, HLN.out]), HO6, HB6⟩
          case measure => simp [intOf]; omega
        · obtain rfl : j = k := by omega
          have hki : ¬ (j : Int) < (j : Int) := by omega
          have hK : K.take j = K := List.take_of_length_le (by rw [HQ.out]; exact Nat.le_refl _)
          rw [hK] at HL HO
          obtain rfl : m = N := by rw [← HL.out, HN.out]
          go_wp2_with fail
          go_ret
          exact ⟨_, _, rfl, HO.out, HB.out⟩
end Go.Proofs.Ytjocbkhjbbpkjab

