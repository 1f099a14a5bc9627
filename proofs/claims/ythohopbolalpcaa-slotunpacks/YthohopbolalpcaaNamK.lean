/-
  What the program's Kind, and the document's, answer, at every text.
-/
import Derived.Test.YthohopbolalpcaaProg
import Derived.Test.YthohopbolalpcaaNames
import Derived.WalkKit
import Derived.WalkSpells
import Derived.WalkLawsBesides
namespace Go.Proofs.Ythohopbolalpcaa
open Go.RowKit
set_option maxRecDepth 100000
set_option linter.unusedVariables false

def sgN (n : Nat) : Nat := if 97 ≤ n ∧ n ≤ 122 then 1 else if 65 ≤ n ∧ n ≤ 90 then 2 else if 48 ≤ n ∧ n ≤ 57 then 3 else 0
theorem sg_eq (c : UInt8) : sg c = sgN c.toNat := rfl
theorem sgN_le (n : Nat) : sgN n ≤ 3 := by unfold sgN; (repeat' split) <;> omega

theorem sign_nat (n : Nat) (h : n ≤ 255) (w : World) :
    Calls Try.prog 55 #[.int .u8 (n : Int)] w fun e w' => e = .returned (.int .i64 (sgN n : Nat)) ∧ w = w' := by
  by_cases h1 : 97 ≤ n ∧ n ≤ 122
  · have a1 : (97 : Int) ≤ n := by omega
    have a2 : (n : Int) ≤ 122 := by omega
    have e : sgN n = 1 := by unfold sgN; rw [if_pos h1]
    go_enter Try.func55, Try.ntmps55
    go_wp2
    go_ret
    exact ⟨by rw [e]; rfl, rfl⟩
  · go_enter Try.func55, Try.ntmps55
    go_wp2
    all_goals go_ret
    all_goals first
      | exact ⟨by have e : sgN n = 0 := (by unfold sgN; (repeat' split) <;> omega); rw [e]; rfl, rfl⟩
      | exact ⟨by have e : sgN n = 2 := (by unfold sgN; (repeat' split) <;> omega); rw [e]; rfl, rfl⟩
      | exact ⟨by have e : sgN n = 3 := (by unfold sgN; (repeat' split) <;> omega); rw [e]; rfl, rfl⟩

theorem sign_any (c : UInt8) (w : World) :
    Calls Try.prog 55 #[.int .u8 (c.toNat : Int)] w fun e w' => e = .returned (.int .i64 (sg c : Nat)) ∧ w = w' :=
  sign_nat c.toNat (by have := c.toNat_lt; omega) w

theorem size_list (s : ByteArray) : s.data.toList.length = s.size := (Lib.size_eq s).symm
theorem get_list (s : ByteArray) (k : Nat) (h : k < s.size) : s.data.toList.getD k 0 = s[k] := by
  have hk : k < s.data.toList.length := h
  rw [List.getD_eq_getElem?_getD, List.getElem?_eq_getElem hk]
  rfl
theorem full_list (s : ByteArray) (h : 0 < s.size) : ¬ s.toList = [] := by
  rw [ByteArray.toList_eq]
  intro e
  have := size_list s
  rw [e] at this
  simp at this; omega
theorem full_isEmpty (s : ByteArray) (h : 0 < s.size) : s.toList.isEmpty = false := by
  have := full_list s h
  cases e : s.toList with
  | nil => exact absurd e this
  | cons _ _ => rfl
theorem empty_of (s : ByteArray) (h : s.size = 0) : s = ⟨#[]⟩ := ByteArray.ext (Array.eq_empty_of_size_eq_zero h)

theorem kind_none (s : ByteArray) (w : World) (h : s.size = 0 ∨ 8 < s.size) (hs : s.size ≤ maxLen) :
    Calls Try.prog 39 #[.string s] w fun e w' => e = .returned (.int .i64 (kind s.data.toList : Nat)) ∧ w = w' := by
  have hk : Hid (kind s.data.toList = 0) := kind_out (by rw [size_list]; omega)
  unfold maxLen at hs
  rcases h with h | h
  · have := empty_of s h
    subst this
    go_enter Try.func39, Try.ntmps39
    go_wp2
    go_ret
    exact ⟨by rw [hk.out]; rfl, rfl⟩
  · have n1 := full_list s (by omega)
    have n2 := full_isEmpty s (by omega)
    have h8 : (8 : Int) < s.size := by omega
    go_enter Try.func39, Try.ntmps39
    go_wp2
    go_ret
    exact ⟨by rw [hk.out]; rfl, rfl⟩

theorem kind_some (s : ByteArray) (w : World) (h0 : 0 < s.size) (h8 : s.size ≤ 8) :
    Calls Try.prog 39 #[.string s] w fun e w' => e = .returned (.int .i64 (kind s.data.toList : Nat)) ∧ w = w' := by
  have n1 := full_list s h0
  have n2 := full_isEmpty s h0
  obtain ⟨q, hq⟩ : ∃ q, sg s[0] = q := ⟨_, rfl⟩
  have h80 : (s.size : Int) ≤ 8 := by omega
  go_enter Try.func39, Try.ntmps39
  go_wp2_with (go_at_call 55; refine (sign_any _ _).mono ?_; rintro e w1 ⟨rfl, rfl⟩; rw [hq])
  clear n1 n2
  have HQ : Hid (sg s[0] = q) := hq
  clear hq
  go_loop [4] (fun i => ∃ k : Nat, 0 < k ∧ k ≤ s.size ∧ Hid (∀ j, 0 < j → j < k → sg (s.data.toList.getD j 0) = q ∨ sg (s.data.toList.getD j 0) = 3) ∧ i = .int .i64 k) (fun i => s.size - (intOf i).toNat)
  case atStart => exact ⟨1, by omega, by omega, fun j h1 h2 => by omega, rfl⟩
  case round =>
    obtain ⟨k, hk0, hk, hall, rfl⟩ := hrel
    by_cases hlt : k < s.size
    · obtain ⟨c, hc⟩ : ∃ c, sg s[k] = c := ⟨_, rfl⟩
      have hget := get_list s k hlt
      have HG : Hid (sg (s.data.toList.getD k 0) = c) := by show _ = _; rw [hget, hc]
      clear hget
      have hc0 : Hid (sg s[k] = c) := hc
      clear hc
      by_cases hok : c = q ∨ c = 3
      · have HN : Hid (∀ j, 0 < j → j < k + 1 → sg (s.data.toList.getD j 0) = q ∨ sg (s.data.toList.getD j 0) = 3) := by
          intro j h1 h2
          by_cases hj : j = k
          · subst hj
            rcases hok with h' | h'
            · exact .inl (HG.out.trans h')
            · exact .inr (HG.out.trans h')
          · exact hall j h1 (by omega)
        have hb : ((c : Int) != (q : Int)) = false ∨ ((c : Int) != 3) = false := by
          rcases hok with h' | h'
          · left; simp [h']
          · right; simp [h']
        clear hok hall
        rcases hb with hb | hb
        all_goals
          go_wp2_with (go_at_call 55; refine (sign_any _ _).mono ?_; rintro e w1 ⟨rfl, rfl⟩; rw [hc0.out])
        all_goals
          go_round
          case rel => exact ⟨k + 1, by omega, by omega, HN, by go_num⟩
          case measure => simp [intOf]; omega
      · have h1 : ¬ (c : Int) = (q : Int) := by omega
        have h3 : ¬ (c : Int) = 3 := by omega
        have g1 : ((c : Int) != (q : Int)) = true := by simpa using h1
        have g3 : ((c : Int) != 3) = true := by simpa using h3
        have HB : Hid (kind s.data.toList = 0) := by
          refine kind_bad k hk0 (by rw [size_list]; exact hlt) ?_ ?_
          · rw [HG.out, get_list s 0 h0, HQ.out]; omega
          · rw [HG.out]; omega
        go_wp2_with (go_at_call 55; refine (sign_any _ _).mono ?_; rintro e w1 ⟨rfl, rfl⟩; rw [hc0.out])
        go_ret
        exact ⟨by rw [HB.out]; rfl, rfl⟩
    · have hkc : k = s.size := by omega
      subst hkc
      have HK : Hid (kind s.data.toList = if q = 1 then 1 else if q = 2 then 2 else 0) := by
        have := kind_good (l := s.data.toList) (by rw [size_list]; omega) (fun j h1 h2 => by
          rw [get_list s 0 h0, HQ.out]
          exact hall j h1 (by rw [size_list] at h2; exact h2))
        rw [get_list s 0 h0, HQ.out] at this
        exact this
      by_cases q1 : q = 1
      · subst q1
        go_wp2
        go_ret
        exact ⟨by rw [HK.out]; rfl, rfl⟩
      by_cases q2 : q = 2
      · subst q2
        go_wp2
        go_ret
        exact ⟨by rw [HK.out]; rfl, rfl⟩
      have f1 : ((q : Int) == 1) = false := by simp; omega
      have f2 : ((q : Int) == 2) = false := by simp; omega
      go_wp2
      go_ret
      exact ⟨by rw [HK.out, if_neg q1, if_neg q2]; rfl, rfl⟩

theorem kind_any (s : ByteArray) (w : World) (hs : s.size ≤ maxLen) :
    Calls Try.prog 39 #[.string s] w fun e w' => e = .returned (.int .i64 (kind s.data.toList : Nat)) ∧ w = w' := by
  by_cases h : s.size = 0 ∨ 8 < s.size
  · exact kind_none s w h hs
  · exact kind_some s w (by omega) (by omega)

theorem rKind_none (s : ByteArray) (w : World) (h : s.size = 0 ∨ 8 < s.size) (hs : s.size ≤ maxLen) :
    Calls Try.prog 25 #[.string s] w fun e w' => e = .returned (.int .i64 (kind s.data.toList : Nat)) ∧ w = w' := by
  have hk : Hid (kind s.data.toList = 0) := kind_out (by rw [size_list]; omega)
  unfold maxLen at hs
  rcases h with h | h
  · have := empty_of s h
    subst this
    go_enter Try.func25, Try.ntmps25
    go_wp2
    go_ret
    exact ⟨by rw [hk.out]; rfl, rfl⟩
  · have h1 : decide ((s.size : Int) < 1) = false := by simp; omega
    have h8 : (8 : Int) < s.size := by omega
    go_enter Try.func25, Try.ntmps25
    go_wp2
    go_ret
    exact ⟨by rw [hk.out]; rfl, rfl⟩

theorem okAt_nat (q k : Nat) (c : UInt8) (hq : q ≠ 3) : okAt q k c = (decide (sgN c.toNat = q) || (decide (sgN c.toNat = 3) && decide (0 < k))) := by
  unfold okAt
  rw [sg_eq]
  rfl
theorem okAt_one (k n : Nat) : (decide (sgN n = 1) || (decide (sgN n = 3) && decide (0 < k))) = ((decide ((97 : Int) ≤ n) && decide ((n : Int) ≤ 122)) || (decide ((48 : Int) ≤ n) && decide ((n : Int) ≤ 57) && decide (0 < (k : Int)))) := by
  rw [Bool.eq_iff_iff]
  simp only [Bool.or_eq_true, Bool.and_eq_true, decide_eq_true_eq]
  unfold sgN
  (repeat' split) <;> omega
theorem okAt_two (k n : Nat) : (decide (sgN n = 2) || (decide (sgN n = 3) && decide (0 < k))) = ((decide ((65 : Int) ≤ n) && decide ((n : Int) ≤ 90)) || (decide ((48 : Int) ≤ n) && decide ((n : Int) ≤ 57) && decide (0 < (k : Int)))) := by
  rw [Bool.eq_iff_iff]
  simp only [Bool.or_eq_true, Bool.and_eq_true, decide_eq_true_eq]
  unfold sgN
  (repeat' split) <;> omega

theorem next_one {s : ByteArray} {k : Nat} {b X : Bool} (hlt : k < s.size) (H : b = fits 1 s.data.toList k)
    (hX : X = true ↔ b = true ∧ (((97 : Int) ≤ (s[k].toNat : Int) ∧ (s[k].toNat : Int) ≤ 122) ∨ ((48 : Int) ≤ (s[k].toNat : Int) ∧ (s[k].toNat : Int) ≤ 57) ∧ 0 < k)) : X = fits 1 s.data.toList (k + 1) := by
  rw [fits_succ, ← H, get_list s k hlt, okAt_nat 1 k _ (by decide), okAt_one, Bool.eq_iff_iff, hX]
  simp only [Bool.or_eq_true, Bool.and_eq_true, decide_eq_true_eq]
  constructor
  · rintro ⟨h, h' | ⟨h', h''⟩⟩
    · exact ⟨h, .inl h'⟩
    · exact ⟨h, .inr ⟨h', by omega⟩⟩
  · rintro ⟨h, h' | ⟨h', h''⟩⟩
    · exact ⟨h, .inl h'⟩
    · exact ⟨h, .inr ⟨h', by omega⟩⟩
theorem next_two {s : ByteArray} {k : Nat} {b X : Bool} (hlt : k < s.size) (H : b = fits 2 s.data.toList k)
    (hX : X = true ↔ b = true ∧ (((65 : Int) ≤ (s[k].toNat : Int) ∧ (s[k].toNat : Int) ≤ 90) ∨ ((48 : Int) ≤ (s[k].toNat : Int) ∧ (s[k].toNat : Int) ≤ 57) ∧ 0 < k)) : X = fits 2 s.data.toList (k + 1) := by
  rw [fits_succ, ← H, get_list s k hlt, okAt_nat 2 k _ (by decide), okAt_two, Bool.eq_iff_iff, hX]
  simp only [Bool.or_eq_true, Bool.and_eq_true, decide_eq_true_eq]
  constructor
  · rintro ⟨h, h' | ⟨h', h''⟩⟩
    · exact ⟨h, .inl h'⟩
    · exact ⟨h, .inr ⟨h', by omega⟩⟩
  · rintro ⟨h, h' | ⟨h', h''⟩⟩
    · exact ⟨h, .inl h'⟩
    · exact ⟨h, .inr ⟨h', by omega⟩⟩

set_option maxHeartbeats 1000000 in
theorem rKind_some (s : ByteArray) (w : World) (h0 : 0 < s.size) (h8 : s.size ≤ 8) :
    Calls Try.prog 25 #[.string s] w fun e w' => e = .returned (.int .i64 (kind s.data.toList : Nat)) ∧ w = w' := by
  have h81 : (s.size : Int) ≤ 8 := by omega
  have h01 : (1 : Int) ≤ s.size := by omega
  go_enter Try.func25, Try.ntmps25
  go_wp2
  go_loop [3, 4, 5] (fun x y i => ∃ k : Nat, k ≤ s.size ∧ ∃ bx by_ : Bool, Hid (bx = fits 1 s.data.toList k) ∧ Hid (by_ = fits 2 s.data.toList k) ∧ x = .bool bx ∧ y = .bool by_ ∧ i = .int .i64 k) (fun _ _ i => s.size - (intOf i).toNat)
  case atStart => exact ⟨0, by omega, true, true, rfl, rfl, rfl, rfl, rfl⟩
  case round =>
    obtain ⟨k, hk, b1, b2, H1, H2, rfl, rfl, rfl⟩ := hrel
    by_cases hlt : k < s.size
    · have hby : (s[k].toNat : Int) ≤ 255 := by have := s[k].toNat_lt; omega
      go_wp2
      all_goals
        go_round
        case rel => exact ⟨k + 1, by omega, _, _, next_one hlt H1.out (by grind), next_two hlt H2.out (by grind), rfl, rfl, by go_num⟩
        case measure => simp [intOf]; omega
    · have hkc : k = s.size := by omega
      subst hkc
      have HK : Hid (kind s.data.toList = if b1 = true then 1 else if b2 = true then 2 else 0) := by
        show _ = _
        unfold kind
        rw [if_neg (by rw [size_list]; omega), size_list, ← H1.out, ← H2.out]
      clear H1 H2
      cases b1
      · cases b2
        · go_wp2
          go_ret
          exact ⟨by rw [HK.out]; rfl, rfl⟩
        · go_wp2
          go_ret
          exact ⟨by rw [HK.out]; rfl, rfl⟩
      · go_wp2
        go_ret
        exact ⟨by rw [HK.out]; rfl, rfl⟩

theorem rKind_any (s : ByteArray) (w : World) (hs : s.size ≤ maxLen) :
    Calls Try.prog 25 #[.string s] w fun e w' => e = .returned (.int .i64 (kind s.data.toList : Nat)) ∧ w = w' := by
  by_cases h : s.size = 0 ∨ 8 < s.size
  · exact rKind_none s w h hs
  · exact rKind_some s w (by omega) (by omega)

end Go.Proofs.Ythohopbolalpcaa
