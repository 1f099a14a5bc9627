/-
  The fixed facts that each statement asks ahead.
-/
import Derived.Test.YthohopbolalpcaaSr
namespace Go.Proofs.Ythohopbolalpcaa
open Go.RowKit
set_option linter.unusedVariables false
set_option linter.unusedSimpArgs false
set_option maxRecDepth 100000

theorem rdd_self {s : ByteArray} {b : Bk} (ho : BkOk b) (hs : s.data.toList = pageB b) : Rdd s b b.nodes.length := by
  obtain ⟨h1, h2⟩ := page_head ho hs
  refine ⟨by rw [h1]; have := ho.d0; omega, by rw [h2]; have := ho.n0; omega, ho.len, ?_, fun k hk => page_used hs hk, ?_⟩
  · apply List.ext_getElem?
    intro k
    rw [List.getElem?_map]
    by_cases hk : k < b.nodes.length
    · obtain ⟨x, hx⟩ : ∃ x, b.nodes[k]? = some x := ⟨_, List.getElem?_eq_getElem hk⟩
      rw [List.getElem?_range hk, hx]
      show some x = some (ndR s (16 + 48 * k))
      rw [ndR_slot (ho.nd hx) (page_slot hs hx)]
    · rw [List.getElem?_eq_none (by omega), List.getElem?_eq_none (by simp; omega)]
      rfl
  · rcases Nat.lt_or_ge b.nodes.length 5 with h | h
    · right
      rw [page_stop hs h]
      decide
    · left
      have := ho.len
      omega
theorem page_inj {b c : Bk} (hb : bkE b = 0) (hc : bkE c = 0) (h : pageB b = pageB c) : b = c :=
  rdd_page (s := ⟨(pageB b).toArray⟩) (BkOk.of hc) h (rdd_self (BkOk.of hb) rfl)

/-- the node that the fixed facts pack -/
def x0 : Nd := ⟨hs ⟨#[97]⟩ [] * 65536 + 1, ⟨#[97]⟩, [], 3, false, 0⟩
def b0 : Bk := ⟨2, 9, [x0]⟩
theorem ct0 : ctE (⟨#[97]⟩ : ByteArray).data.toList [] = 0 := by decide
theorem isA_mk {h s : Nat} (hh : h < 4294967296) (h1 : 1 ≤ s) (h2 : s ≤ 65535) : isA (h * 65536 + s) = true := by
  simp only [isA, Bool.and_eq_true, decide_eq_true_eq]
  omega
theorem x0_ok : ndE x0 = 0 := by
  have hl := hs_lt ⟨#[97]⟩ []
  unfold ndE
  rw [if_neg (by show ¬ ctE (⟨#[97]⟩ : ByteArray).data.toList [] ≠ 0; rw [ct0]; decide), if_neg (by
    intro h
    rcases h with h | h | h
    · exact absurd h (by decide)
    · exact absurd h (by decide)
    · exact h.1 rfl), if_neg]
  intro h
  rcases h with h | h
  · have : isA x0.at' = true := isA_mk hl (Nat.le_refl _) (by decide)
    rw [this] at h
    cases h
  · apply h
    show (hs ⟨#[97]⟩ [] * 65536 + 1) / 65536 = hs ⟨#[97]⟩ []
    omega
theorem b0_ok : bkE b0 = 0 := by
  unfold bkE
  rw [if_neg (by show ¬ ((2 : Int) < 0 ∨ 5 < (2 : Int) ∨ (9 : Int) < 0 ∨ 2048 ≤ (9 : Int)); decide), if_neg (by show ¬ 5 < 1; decide)]
  show nsK [x0] 1 = 0
  rw [nsK, if_neg (by show ¬ nsK [x0] 0 ≠ 0; decide)]
  show (if ndE x0 ≠ 0 then ndE x0 else if hasN ([x0].take 0) x0.at' then 9 else 0) = 0
  rw [if_neg (by rw [x0_ok]; decide)]
  rfl

/-- what the fixed facts see of what is unpacked -/
def UnW (w : World) (e : Ending) (w' : World) : Prop := ∃ g c, e = .returned (.tuple #[.agg #[.int .i64 2, .int .i64 9, .slice (some ⟨g, 0, none⟩) 1 c], .int .i64 0]) ∧ g < w'.heap.size ∧ w'.cell? ⟨g, 3, none⟩ = some (.int .i64 3) ∧ Below w.heap.size w w'
theorem unp0 (w : World) : Calls Try.prog 19 #[.string ⟨(pageB b0).toArray⟩] w fun e w' => UnW w e w' := by
  have hsz : (⟨(pageB b0).toArray⟩ : ByteArray).size ≤ maxLen := by rw [Lib.size_eq]; show (pageB b0).length ≤ maxLen; rw [pageB_len (BkOk.of b0_ok)]; unfold maxLen; omega
  refine (sUnpack_any _ w hsz).mono fun e w' h => ?_
  rcases h with ⟨b, v, M, h0, hp, rfl, hM, hO, hb⟩ | ⟨h, _⟩
  · have hbb : b = b0 := page_inj h0 b0_ok hp
    subst hbb
    have hl : M.length = 1 := by have := congrArg List.length hM; simpa [b0] using this
    match M, hl with
    | [(y, kv)], _ =>
      have hy : y = x0 := by simpa [b0] using hM
      subst hy
      obtain ⟨a, cap, e1, _, _, hcc⟩ := own_cells hO.row
      obtain ⟨g, hg, _, hlt, c0, _⟩ := hcc (0 * 6 + 3) _ (flatN_at (M := [(x0, kv)]) (k := 0) rfl 3 _ rfl)
      subst e1
      subst hg
      exact ⟨g, cap, rfl, hlt, c0, hb⟩
  · exact absurd rfl (h b0 b0_ok)

set_option maxHeartbeats 4000000 in
theorem wakes_any (w : World) : Calls Try.prog 9 #[] w fun e w' => e = .returned (.bool true) ∧ Below w.heap.size w w' := by
  have HA1 : Hid (∀ w1, Calls Try.prog 13 #[.int .u32 1, .int .i64 1] w1 fun e w' => e = .returned (.tuple #[.int .u64 65537, .int .i64 0]) ∧ w1 = w') := fun w1 => addr_yes 1 1 w1 (by decide) (by decide) (by decide)
  have HPA : Hid (∀ w1, Calls Try.prog 14 #[.int .u64 65536] w1 fun e w' => e = .returned (.tuple #[.int .u32 0, .int .i64 0, .bool false]) ∧ w1 = w') := fun w1 => parts_no 65536 w1 (by decide) (by decide)
  have HH : Hid (∀ w1, Calls Try.prog 10 #[.string ⟨#[97]⟩, .slice none 0 0] w1 fun e w' => e = .returned (.tuple #[.int .u32 (hs ⟨#[97]⟩ [] : Nat), .int .i64 0]) ∧ Below w1.heap.size w1 w') := fun w1 => by
    have := sHash_any ⟨#[97]⟩ (.slice none 0 0) [] w1 (by decide) (LiesK.nil _)
    rw [ct0] at this
    exact this
  have hl := hs_lt ⟨#[97]⟩ []
  have HA2 : Hid (∀ w1, Calls Try.prog 13 #[.int .u32 (hs ⟨#[97]⟩ [] : Nat), .int .i64 1] w1 fun e w' => e = .returned (.tuple #[.int .u64 (hs ⟨#[97]⟩ [] * 65536 + 1 : Nat), .int .i64 0]) ∧ w1 = w') := fun w1 => addr_yes _ 1 w1 hl (by decide) (by decide)
  have HP : Hid (∀ (w1 : World) (ad : Nat), Blk w1 ad #[.int .u64 (hs ⟨#[97]⟩ [] * 65536 + 1 : Nat), .string ⟨#[97]⟩, .slice none 0 0, .int .i64 3, .bool false, .int .u64 0] 57 → Calls Try.prog 16 #[.agg #[.int .i64 2, .int .i64 9, .slice (some ⟨ad, 0, none⟩) 1 1]] w1 fun e w' => e = .returned (.tuple #[.string ⟨(pageB b0).toArray⟩, .int .i64 0]) ∧ Below w1.heap.size w1 w') := fun w1 ad hb => by
    have hL : LiesN w1 (.slice (some ⟨ad, 0, none⟩) 1 1) b0.nodes := by
      refine ⟨some ⟨ad, 0, none⟩, 1, rfl, by show 1 ≤ 1; omega, by unfold maxLen; omega, fun k x hk => ?_⟩
      match k, hk with
      | 0, hk =>
        have hx : x = x0 := by simpa [b0] using hk.symm
        subst hx
        refine ⟨ad, 0, .slice none 0 0, rfl, hb.lt, fun i u hu => ?_, ⟨LiesK.nil _, by have e : x0.at' = hs ⟨#[97]⟩ [] * 65536 + 1 := rfl; omega, by show 0 < 18446744073709551616; omega, by show 1 ≤ 140737488351232; omega, by show -9223372036854775808 ≤ (3 : Int); omega, by show (3 : Int) ≤ 9223372036854775807; omega⟩⟩
        rw [show 0 + 0 * 6 + i = i by omega]
        exact hb.cell hu
      | k + 1, hk => simp [b0] at hk
    have := sPack_any b0 _ w1 hL
    rw [b0_ok, if_pos rfl] at this
    exact this
  have HU : Hid (∀ w1, _) := fun w1 => unp0 w1
  have hP : (⟨(pageB b0).toArray⟩ : ByteArray).size = 256 := by rw [Lib.size_eq]; exact pageB_len (BkOk.of b0_ok)
  have HPL : Hid ((⟨(pageB b0).toArray⟩ : ByteArray).data.toList.take 4 = [3, 2, 0, 9]) := by
    show List.take 4 (pageB b0) = _
    unfold pageB
    rw [List.append_assoc, List.take_append_of_le_length (by rw [headB_len]; decide)]
    rfl
  have hx4 : ((⟨(pageB b0).toArray⟩ : ByteArray).extract 0 4).toList = [3, 2, 0, 9] := by
    rw [Lib.toList_data, ByteArray.data_extract, ← HPL.out]
    simp
  clear HPL
  generalize hs ⟨#[97]⟩ [] * 65536 + 1 = A at *
  generalize hs ⟨#[97]⟩ [] = H at *
  generalize (⟨(pageB b0).toArray⟩ : ByteArray) = P at *
  clear hl
  go_enter Try.func9, Try.ntmps9
  go_wp2_with (first
    | (go_at_call 14; refine (HPA.out _).mono ?_; clear HPA; rintro e w1 ⟨rfl, rfl⟩)
    | (go_at_call 10; refine (HH.out _).mono ?_; clear HH; rintro e w2 ⟨rfl, hb2⟩)
    | (go_at_call 13; first | (refine (HA1.out _).mono ?_; clear HA1; rintro e w1 ⟨rfl, rfl⟩) | (refine (HA2.out _).mono ?_; clear HA2; rintro e w1 ⟨rfl, rfl⟩))
    | (go_at_call 16; refine (HP.out _ _ (Blk.made _ _ 57)).mono ?_; clear HP; rintro e w3 ⟨rfl, hb3⟩)
    | (go_at_call 19; refine (HU.out _).mono ?_; clear HU; rintro e w4 ⟨g, c, rfl, hg, hc, hb4⟩))
  go_ret
  refine ⟨rfl, ?_⟩
  have a2 := (Below.refl w2.heap.size w2).alloc (Nat.le_refl _) (.cells #[.int .u64 (A : Nat), .string ⟨#[97]⟩, .slice none 0 0, .int .i64 3, .bool false, .int .u64 0] 57)
  have k1 := hb2.trans ((a2.trans (hb3.mono a2.size)).mono hb2.size)
  have k2 := k1.trans (hb4.mono k1.size)
  exact k2.alloc k2.size _
end Go.Proofs.Ythohopbolalpcaa

