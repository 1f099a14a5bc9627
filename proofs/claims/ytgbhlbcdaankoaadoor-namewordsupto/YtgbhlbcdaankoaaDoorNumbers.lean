/-
  What the program's Number and Write, and the document's, answer, at every input.
-/
import Derived.Test.YtgbhlbcdaankoaaDoorNames
import Derived.Test.YtgbhlbcdaankoaaDoorEnv
import Derived.Lib.BufferWrite
import Derived.Laws.MakeOwn
namespace Go.Proofs.YtgbhlbcdaankoaaDoor
open Go.RowKit
set_option linter.unusedVariables false

/-- what is written of a number -/
def text (n : Int) : ByteArray := ⟨(Lib.itoa n).toArray⟩
theorem text_list (n : Int) : (text n).data.toList = Lib.itoa n := by simp [text]
theorem text_size {n : Int} (h0 : -9223372036854775808 ≤ n) (h1 : n ≤ 9223372036854775807) : (text n).size ≤ 21 := by
  rw [Lib.size_eq, text_list]; exact Lib.itoa_length_le n h0 h1

theorem clone_any (s : ByteArray) (w : World) (hs : s.size ≤ 281474976710656) :
    Calls Tryd.prog 21 #[.string s] w fun e w' => e = .returned (.string s) ∧ Below w.heap.size w w' := by
  go_enter Tryd.func21, Tryd.ntmps21
  go_wp2_with (go_at_call 25; refine (Tryd.stringslite_Clone s _ hs).mono ?_; rintro e w1 ⟨rfl, hb1⟩)
  go_ret
  exact ⟨rfl, hb1⟩

theorem below_grow (w : World) (k : Nat) (os : Array Obj) : Below w.heap.size w (Sort.grow (w.drewN k) os) :=
  ⟨rfl, rfl, rfl, by simp [Sort.grow], fun i hi => by
    show (w.heap ++ os)[i]? = _
    rw [Array.getElem?_append_left hi]⟩

theorem write_any (n : Int) (w : World) (env : Env w) (h0 : -9223372036854775808 ≤ n) (h1 : n ≤ 9223372036854775807) :
    Calls Tryd.prog 17 #[.int .i64 n] w fun e w' => e = .returned (.string (text n)) ∧ Below w.heap.size w w' := by
  have hz := text_size h0 h1
  have ht := env.tab
  go_enter Tryd.func17, Tryd.ntmps17
  go_wp2_with (first
    | (go_at_call 23; refine (Tryd.strconv_FormatInt_10 n h0 h1 _ ht).mono ?_; rintro e w1 ⟨rfl, k, os, rfl⟩; have hb := below_grow w k os; generalize Sort.grow (w.drewN k) os = w1 at hb ⊢)
    | (go_at_call 21; refine (clone_any (text n) _ (by omega)).mono ?_; rintro e w2 ⟨rfl, hb2⟩; replace hb := hb.trans (hb2.mono hb.size); clear hb2))
  go_ret
  exact ⟨rfl, hb⟩

theorem same_texts {s t : ByteArray} (h : s.data.toList = t.data.toList) : (s.toList == t.toList) = true := by
  rw [ByteArray.toList_eq, ByteArray.toList_eq, h]
  simp
theorem other_texts {s t : ByteArray} (h : s.data.toList ≠ t.data.toList) : (s.toList == t.toList) = false := by
  rw [ByteArray.toList_eq, ByteArray.toList_eq]
  simpa using h

def numV (l : List UInt8) : Int := (num l).getD 0
def numE (l : List UInt8) : Int := if num l = none then 13 else 0

set_option maxHeartbeats 400000 in
theorem number_any (s : ByteArray) (w : World) (env : Env w) (hs : s.size ≤ reachBytes) :
    Calls Tryd.prog 15 #[.string s] w fun e w' => e = .returned (.tuple #[.int .i64 (numV s.data.toList), .int .i64 (numE s.data.toList)]) ∧ Below w.heap.size w w' := by
  have hs' : s.size ≤ 9223372036854775806 := by unfold reachBytes at hs; omega
  have hs2 : s.size ≤ 281474976710656 := by unfold reachBytes at hs; omega
  rcases hp : Lib.parseIntB 64 s.data.toList with v | _ | _
  · skip
    obtain ⟨b0, b1⟩ := Lib.parseIntB_bounds hp
    have b0 : -9223372036854775808 ≤ v := by simpa using b0
    have b1 : v ≤ 9223372036854775807 := by have : v < 9223372036854775808 := by simpa using b1
                                            omega
    have HP : Hid (Lib.parseIntB 64 s.data.toList = .ok v) := hp
    by_cases hi : Lib.itoa v = s.data.toList
    · have hn : num s.data.toList = some v := (num_iff _ _).2 ⟨hp, hi⟩
      have HR : Hid (numV s.data.toList = v ∧ numE s.data.toList = 0) := by
        constructor
        · unfold numV; rw [hn]; rfl
        · unfold numE; rw [hn]; rfl
      have ht : ((text v).toList == s.toList) = true := same_texts (by rw [text_list]; exact hi)
      clear hn hi hp hs
      go_enter Tryd.func15, Tryd.ntmps15
      go_wp2_with (first
        | (go_at_call 22; refine (Tryd.strconv_ParseInt_10_at64_ok s hs' v HP.out _).mono ?_; rintro e w1 ⟨rfl, hw1⟩; have hb : Below w.heap.size w w1 := (by rcases hw1 with rfl | ⟨t, rfl⟩; exact Below.refl _ _; exact Lib.bytesWorld_below _ _ _); clear hw1; have env1 := env.on hb)
        | (go_at_call 17; refine (write_any v _ env1 b0 b1).mono ?_; rintro e w2 ⟨rfl, hb2⟩; replace hb := hb.trans (hb2.mono hb.size); clear hb2))
      go_ret2
      exact ⟨by rw [HR.out.1, HR.out.2]; rfl, hb⟩
    · have hn : num s.data.toList = none := by
        cases hc : num s.data.toList with
        | none => rfl
        | some u =>
          obtain ⟨h1, h2⟩ := (num_iff _ _).1 hc
          rw [hp] at h1
          cases h1
          exact absurd h2 hi
      have HR : Hid (numV s.data.toList = 0 ∧ numE s.data.toList = 13) := by
        constructor
        · unfold numV; rw [hn]; rfl
        · unfold numE; rw [hn]; rfl
      have ht : ((text v).toList == s.toList) = false := other_texts (by rw [text_list]; exact hi)
      clear hn hi hp hs
      go_enter Tryd.func15, Tryd.ntmps15
      go_wp2_with (first
        | (go_at_call 22; refine (Tryd.strconv_ParseInt_10_at64_ok s hs' v HP.out _).mono ?_; rintro e w1 ⟨rfl, hw1⟩; have hb : Below w.heap.size w w1 := (by rcases hw1 with rfl | ⟨t, rfl⟩; exact Below.refl _ _; exact Lib.bytesWorld_below _ _ _); clear hw1; have env1 := env.on hb)
        | (go_at_call 17; refine (write_any v _ env1 b0 b1).mono ?_; rintro e w2 ⟨rfl, hb2⟩; replace hb := hb.trans (hb2.mono hb.size); clear hb2))
      go_ret2
      exact ⟨by rw [HR.out.1, HR.out.2]; rfl, hb⟩
  · skip
    have hn : num s.data.toList = none := by
      cases hc : num s.data.toList with
      | none => rfl
      | some u => have := ((num_iff _ _).1 hc).1; rw [hp] at this; cases this
    have HR : Hid (numV s.data.toList = 0 ∧ numE s.data.toList = 13) := by
      constructor
      · unfold numV; rw [hn]; rfl
      · unfold numE; rw [hn]; rfl
    have HP : Hid (Lib.parseIntB 64 s.data.toList = Lib.parseIntB 64 []) := hp
    obtain ⟨tp, p, hv⟩ := env.syn
    clear hn hp hs
    go_enter Tryd.func15, Tryd.ntmps15
    go_wp2_with (go_at_call 22; refine (Tryd.strconv_ParseInt_10_at64_unread_var s hs2 HP.out tp p _ hv).mono ?_; rintro e w1 ⟨N, rfl, -, -, hb⟩)
    go_ret2
    exact ⟨by rw [HR.out.1, HR.out.2]; rfl, hb⟩
  · skip
    have hn : num s.data.toList = none := by
      cases hc : num s.data.toList with
      | none => rfl
      | some u => have := ((num_iff _ _).1 hc).1; rw [hp] at this; cases this
    have HR : Hid (numV s.data.toList = 0 ∧ numE s.data.toList = 13) := by
      constructor
      · unfold numV; rw [hn]; rfl
      · unfold numE; rw [hn]; rfl
    have HP : Hid (Lib.parseIntB 64 s.data.toList = .range) := hp
    obtain ⟨tp, p, hv⟩ := env.rng
    generalize hg : Lib.intSat 64 s.data.toList = sat
    have hR := Tryd.strconv_ParseInt_10_at64_range_var s hs2 hp tp p w hv
    rw [hg] at hR
    clear hn hp hs hg
    go_enter Tryd.func15, Tryd.ntmps15
    go_wp2_with (go_at_call 22; refine hR.mono ?_; rintro e w1 ⟨N, rfl, -, -, hb⟩)
    go_ret2
    exact ⟨by rw [HR.out.1, HR.out.2]; rfl, hb⟩

/-! ## The document's Number -/

theorem head_of (s : ByteArray) (h : 0 < s.size) : s.data.toList.head? = some s[0] := by
  have e := get_list s 0 h
  have hl : 0 < s.data.toList.length := h
  cases hc : s.data.toList with
  | nil => rw [hc] at hl; simp at hl
  | cons a b => rw [hc] at e; simp at e; rw [e]; rfl
theorem byte_ne {c : UInt8} {n : Nat} (h : n < 256) (hne : c ≠ UInt8.ofNat n) : ((c.toNat : Int) == (n : Int)) = false := by
  simp only [beq_eq_false_iff_ne, ne_eq]
  intro e
  apply hne
  have e2 : c.toNat = n := by omega
  rw [← e2]; simp

theorem decFrom_lt : ∀ (l : List UInt8) (acc n : Nat), Lib.decFrom acc l = some n → n < (acc + 1) * 10 ^ l.length
  | [], acc, n, h => by simp only [Lib.decFrom, Option.some.injEq] at h; simp; omega
  | b :: r, acc, n, h => by
    simp only [Lib.decFrom] at h
    cases hb : Lib.digitVal b with
    | none => rw [hb] at h; cases h
    | some d =>
      rw [hb] at h
      have hd := (digitVal_some hb).1
      have ih := decFrom_lt r _ _ h
      have : (acc * 10 + d + 1) * 10 ^ r.length ≤ ((acc + 1) * 10) * 10 ^ r.length := Nat.mul_le_mul_right _ (by omega)
      rw [List.length_cons, Nat.pow_succ, Nat.mul_comm (10 ^ r.length) 10, ← Nat.mul_assoc]
      exact Nat.lt_of_lt_of_le ih this
theorem decFrom_bad : ∀ (l : List UInt8) (j acc m : Nat) (b : UInt8), Lib.decFrom acc (l.take j) = some m → l[j]? = some b → Lib.digitVal b = none → Lib.decFrom acc l = none
  | [], j, acc, m, b, h, hb, hd => by simp at hb
  | c :: r, 0, acc, m, b, h, hb, hd => by
    simp at hb; subst hb
    simp only [Lib.decFrom, hd]
  | c :: r, j + 1, acc, m, b, h, hb, hd => by
    simp only [List.take_succ_cons, Lib.decFrom] at h ⊢
    cases hc : Lib.digitVal c with
    | none => rfl
    | some d =>
      rw [hc] at h
      exact decFrom_bad r j _ m b h (by simpa using hb) hd

theorem num_early {l : List UInt8} (h : early l = true) : numV l = 0 ∧ numE l = 13 := by
  have e : num l = none := by unfold num; rw [if_pos h]
  constructor
  · unfold numV; rw [e]; rfl
  · unfold numE; rw [e]; rfl
theorem num_bad {l : List UInt8} (h : Lib.decFrom 0 (body l) = none) : numV l = 0 ∧ numE l = 13 := by
  have e : num l = none := by unfold num; rw [h]; split <;> rfl
  constructor
  · unfold numV; rw [e]; rfl
  · unfold numE; rw [e]; rfl
theorem num_neg {l : List UInt8} {m : Nat} (he : early l = false) (hh : l.head? = some 45) (h : Lib.decFrom 0 (body l) = some m) :
    (m ≤ 9223372036854775808 → numV l = -(m : Int) ∧ numE l = 0) ∧ (9223372036854775808 < m → numV l = 0 ∧ numE l = 13) := by
  constructor
  · intro hm
    have e : num l = some (-(m : Int)) := by unfold num; rw [he, h]; simp only [Bool.false_eq_true, if_false]; rw [if_pos hh, if_neg (by omega)]
    exact ⟨by unfold numV; rw [e]; rfl, by unfold numE; rw [e]; rfl⟩
  · intro hm
    have e : num l = none := by unfold num; rw [he, h]; simp only [Bool.false_eq_true, if_false]; rw [if_pos hh, if_pos hm]
    exact ⟨by unfold numV; rw [e]; rfl, by unfold numE; rw [e]; rfl⟩
theorem num_pos {l : List UInt8} {m : Nat} (he : early l = false) (hh : ¬ l.head? = some 45) (h : Lib.decFrom 0 (body l) = some m) :
    (m < 9223372036854775808 → numV l = (m : Int) ∧ numE l = 0) ∧ (9223372036854775808 ≤ m → numV l = 0 ∧ numE l = 13) := by
  constructor
  · intro hm
    have e : num l = some (m : Int) := by unfold num; rw [he, h]; simp only [Bool.false_eq_true, if_false]; rw [if_neg hh, if_neg (by omega)]
    exact ⟨by unfold numV; rw [e]; rfl, by unfold numE; rw [e]; rfl⟩
  · intro hm
    have e : num l = none := by unfold num; rw [he, h]; simp only [Bool.false_eq_true, if_false]; rw [if_neg hh, if_pos hm]
    exact ⟨by unfold numV; rw [e]; rfl, by unfold numE; rw [e]; rfl⟩

theorem get_drop (s : ByteArray) (a j : Nat) (h : a + j < s.size) : (s.data.toList.drop a)[j]? = some (s[a + j]'h) := by
  rw [List.getElem?_drop]
  have hl : a + j < s.data.toList.length := h
  rw [List.getElem?_eq_getElem hl]
  rfl
theorem get_drop0 (s : ByteArray) (j : Nat) (h : j < s.size) : (s.data.toList.drop 0)[j]? = some (s[j]'h) := by
  have hl : j < s.data.toList.length := h
  rw [List.drop_zero, List.getElem?_eq_getElem hl]
  rfl
theorem head_ne (s : ByteArray) (h0 : 0 < s.size) (h : ((s[0].toNat : Int) == 45) = false) : ¬ s.data.toList.head? = some 45 := by
  rw [head_of s h0]
  intro e
  have e2 : s[0] = 45 := by simpa using e
  rw [e2] at h
  exact absurd h (by decide)
theorem head_eq (s : ByteArray) (h0 : 0 < s.size) (h : (s[0].toNat : Int) = 45) : s.data.toList.head? = some 45 := by
  rw [head_of s h0]
  have e2 : s[0].toNat = (45 : UInt8).toNat := by have : (45 : UInt8).toNat = 45 := rfl
                                                  omega
  rw [UInt8.toNat_inj.1 e2]

theorem digit_of {c : UInt8} (h1 : (48 : Int) ≤ c.toNat) (h2 : (c.toNat : Int) ≤ 57) : Lib.digitVal c = some (c.toNat - 48) := by
  unfold Lib.digitVal; rw [if_pos (by omega)]
theorem digit_no {c : UInt8} (h : (c.toNat : Int) < 48 ∨ (57 : Int) < c.toNat) : Lib.digitVal c = none := by
  unfold Lib.digitVal; rw [if_neg (by omega)]

theorem body_neg (s : ByteArray) (h0 : 0 < s.size) (h : (s[0].toNat : Int) = 45) : body s.data.toList = s.data.toList.drop 1 := by
  unfold body; rw [if_pos (head_eq s h0 h)]; simp
theorem body_pos (s : ByteArray) (h0 : 0 < s.size) (h : ((s[0].toNat : Int) == 45) = false) : body s.data.toList = s.data.toList.drop 0 := by
  unfold body; rw [if_neg (head_ne s h0 h)]; simp

set_option maxHeartbeats 1000000 in
theorem rNumber_neg (s : ByteArray) (w : World) (hlo : 2 ≤ s.size) (hhi : s.size ≤ 20) (h45 : (s[0].toNat : Int) = 45) (hz : ((s[1].toNat : Int) == 48) = false) :
    Calls Tryd.prog 16 #[.string s] w fun e w' => e = .returned (.tuple #[.int .i64 (numV s.data.toList), .int .i64 (numE s.data.toList)]) ∧ w = w' := by
  have HB : Hid (body s.data.toList = s.data.toList.drop 1) := body_neg s (by omega) h45
  have HH : Hid (s.data.toList.head? = some 45) := head_eq s (by omega) h45
  have hlen : (s.data.toList.drop 1).length = s.size - 1 := by rw [List.length_drop, size_list]
  have HE : Hid (early s.data.toList = false) := by
    show _ = _
    unfold early
    rw [HB.out]
    simp only [Bool.or_eq_false_iff, Bool.and_eq_false_iff, decide_eq_false_iff_not]
    refine ⟨⟨fun e => ?_, by omega⟩, .inl fun e => ?_⟩
    · rw [e] at hlen; simp at hlen; omega
    · rw [List.head?_eq_getElem?, get_drop s 1 0 (by omega)] at e
      have e2 : s[1] = 48 := by simpa using e
      rw [e2] at hz
      exact absurd hz (by decide)
  have HM : Hid (∀ m, Lib.decFrom 0 (s.data.toList.drop 1) = some m → 0 < m) := by
    intro m hm
    cases hd : s.data.toList.drop 1 with
    | nil => rw [hd] at hlen; simp at hlen; omega
    | cons c r =>
      rw [hd] at hm
      have hc : c = s[1] := by have := get_drop s 1 0 (by omega); rw [hd] at this; simpa using this
      simp only [Lib.decFrom] at hm
      cases hv : Lib.digitVal c with
      | none => rw [hv] at hm; cases hm
      | some d =>
        rw [hv] at hm
        have h2 := (digitVal_some hv).2
        have h3 := decFrom_ge _ _ _ hm
        rw [hc] at h2
        have h4 : ¬ ((s[1].toNat : Int) = 48) := by simpa using hz
        omega
  clear hlen
  have g1 : ((2 : Nat) : Int) ≤ s.size := by omega
  have g2 : (s.size : Int) ≤ 20 := by omega
  have g3 : decide ((s.size : Int) - 1 > 19) = false := by simp; omega
  have g4 : ((s.size : Int) == 1) = false := by simp; omega
  have g5 : (0 : Int) < s.size := by omega
  go_enter Tryd.func16, Tryd.ntmps16
  go_wp2
  go_loop [5, 6] (fun x i => ∃ j m : Nat, 1 + j ≤ s.size ∧ Hid (Lib.decFrom 0 ((s.data.toList.drop 1).take j) = some m) ∧ i = .int .i64 ((1 + j : Nat) : Int) ∧ x = .int .u64 m) (fun _ i => s.size - (intOf i).toNat)
  case atStart => exact ⟨0, 0, by omega, rfl, rfl, rfl⟩
  case round =>
    obtain ⟨j, m, hj, HD, rfl, rfl⟩ := hrel
    have hlt10 := decFrom_lt _ _ _ HD.out
    rw [Nat.zero_add, Nat.one_mul] at hlt10
    by_cases hlt : 1 + j < s.size
    · have hj18 : j ≤ 18 := by omega
      have hm18 : m < 10 ^ 18 := by
        have h1 : ((s.data.toList.drop 1).take j).length ≤ 18 := by rw [List.length_take]; omega
        exact Nat.lt_of_lt_of_le hlt10 (Nat.pow_le_pow_right (by decide) h1)
      have hmi : (m : Int) ≤ 999999999999999999 := by omega
      clear hlt10 hm18
      have hby : (s[1 + j].toNat : Int) ≤ 255 := by have := s[1 + j].toNat_lt; omega
      by_cases hd : (48 : Int) ≤ s[1 + j].toNat ∧ (s[1 + j].toNat : Int) ≤ 57
      · obtain ⟨hd1, hd2⟩ := hd
        have HN : Hid (Lib.decFrom 0 ((s.data.toList.drop 1).take (j + 1)) = some (m * 10 + (s[1 + j].toNat - 48))) :=
          Lib.decFrom_take _ _ _ _ _ _ HD.out (get_drop s 1 j hlt) (digit_of hd1 hd2)
        go_wp2
        go_round
        case rel => exact ⟨j + 1, m * 10 + (s[1 + j].toNat - 48), by omega, HN, by go_num, by go_num⟩
        case measure => simp [intOf]; omega
      · have HX : Hid (numV s.data.toList = 0 ∧ numE s.data.toList = 13) := by
          refine num_bad ?_
          rw [HB.out]
          exact decFrom_bad _ j 0 m _ HD.out (get_drop s 1 j hlt) (digit_no (by omega))
        have hor : (s[1 + j].toNat : Int) < 48 ∨ ((57 : Int) < s[1 + j].toNat ∧ decide ((s[1 + j].toNat : Int) < 48) = false) := by
          by_cases h : (s[1 + j].toNat : Int) < 48
          · exact .inl h
          · right; exact ⟨by omega, by simp; omega⟩
        rcases hor with h | ⟨h, h'⟩
        all_goals
          go_wp2
          go_ret2
          exact ⟨by rw [HX.out.1, HX.out.2]; rfl, rfl⟩
    · obtain rfl : j = s.size - 1 := by omega
      have hall : (s.data.toList.drop 1).take (s.size - 1) = s.data.toList.drop 1 := by
        apply List.take_of_length_le; rw [List.length_drop, size_list]; omega
      have HD2 : Hid (Lib.decFrom 0 (s.data.toList.drop 1) = some m) := by have := HD.out; rw [hall] at this; exact this
      have hm19 : m < 10 ^ 19 := by
        have h1 : ((s.data.toList.drop 1).take (s.size - 1)).length ≤ 19 := by rw [List.length_take]; omega
        exact Nat.lt_of_lt_of_le hlt10 (Nat.pow_le_pow_right (by decide) h1)
      have hmi : (m : Int) ≤ 9999999999999999999 := by omega
      have hki : (((1 + (s.size - 1) : Nat) : Int) = s.size) := by omega
      clear hall hlt10 hm19
      have hm0 : 0 < m := HM.out m HD2.out
      obtain ⟨n1, n2⟩ := num_neg HE.out HH.out (by rw [HB.out]; exact HD2.out)
      by_cases hle : m ≤ 9223372036854775808
      · have HX : Hid (numV s.data.toList = -(m : Int) ∧ numE s.data.toList = 0) := n1 hle
        clear n1 n2
        have hle' : (m : Int) ≤ 9223372036854775808 := by omega
        have hm1 : (1 : Int) ≤ m := by omega
        by_cases heq : m = 9223372036854775808
        · subst heq
          go_wp2
          go_ret2
          exact ⟨by rw [HX.out.1, HX.out.2]; rfl, rfl⟩
        · have hne : ((m : Int) == 9223372036854775808) = false := by simp; omega
          go_wp2
          go_ret2
          exact ⟨by rw [HX.out.1, HX.out.2, show (-(m : Int)) = -((m : Int) - 1) - 1 by omega]; rfl, rfl⟩
      · have HX : Hid (numV s.data.toList = 0 ∧ numE s.data.toList = 13) := n2 (by omega)
        clear n1 n2
        have hle' : (9223372036854775808 : Int) < m := by omega
        go_wp2
        go_ret2
        exact ⟨by rw [HX.out.1, HX.out.2]; rfl, rfl⟩

set_option maxHeartbeats 1000000 in
theorem rNumber_pos (s : ByteArray) (w : World) (hlo : 1 ≤ s.size) (hhi : s.size ≤ 19) (h45 : ((s[0].toNat : Int) == 45) = false) (hz : ((s[0].toNat : Int) == 48) = false ∨ s.size = 1) :
    Calls Tryd.prog 16 #[.string s] w fun e w' => e = .returned (.tuple #[.int .i64 (numV s.data.toList), .int .i64 (numE s.data.toList)]) ∧ w = w' := by
  have HB : Hid (body s.data.toList = s.data.toList.drop 0) := body_pos s (by omega) h45
  have HH : Hid (¬ s.data.toList.head? = some 45) := head_ne s (by omega) h45
  have hlen : (s.data.toList.drop 0).length = s.size - 0 := by rw [List.length_drop, size_list]
  have HE : Hid (early s.data.toList = false) := by
    show _ = _
    unfold early
    rw [HB.out]
    simp only [Bool.or_eq_false_iff, Bool.and_eq_false_iff, decide_eq_false_iff_not]
    refine ⟨⟨fun e => ?_, by omega⟩, ?_⟩
    · rw [e] at hlen; simp at hlen; omega
    · rcases hz with hz | hz
      · left
        intro e
        rw [List.head?_eq_getElem?, get_drop s 0 0 (by omega)] at e
        have e2 : s[0] = 48 := by simpa using e
        rw [e2] at hz
        exact absurd hz (by decide)
      · right; rw [size_list]; omega
  clear hlen
  have g1 : ((1 : Nat) : Int) ≤ s.size := by omega
  have g2 : (s.size : Int) ≤ 19 := by omega
  have g3 : decide ((s.size : Int) > 19) = false := by simp; omega
  have g4 : ((s.size : Int) == 0) = false := beq_eq_false_iff_ne.2 (by omega)
  have g5 : (0 : Int) < s.size := by omega
  have hg : ((s[0].toNat : Int) == 48) = false ∨ ((s[0].toNat : Int) = 48 ∧ decide ((1 : Int) < s.size) = false) := by
    rcases hz with hz | hz
    · exact .inl hz
    · by_cases h48 : (s[0].toNat : Int) = 48
      · right; exact ⟨h48, by simp; omega⟩
      · left; simpa using h48
  clear hz
  rcases hg with hz | ⟨hz, hz1⟩
  all_goals
    go_enter Tryd.func16, Tryd.ntmps16
    go_wp2
    go_loop [5, 6] (fun x i => ∃ j m : Nat, j ≤ s.size ∧ Hid (Lib.decFrom 0 ((s.data.toList.drop 0).take j) = some m) ∧ i = .int .i64 (j : Int) ∧ x = .int .u64 m) (fun _ i => s.size - (intOf i).toNat)
    case atStart => exact ⟨0, 0, by omega, rfl, rfl, rfl⟩
    case round =>
      obtain ⟨j, m, hj, HD, rfl, rfl⟩ := hrel
      have hlt10 := decFrom_lt _ _ _ HD.out
      rw [Nat.zero_add, Nat.one_mul] at hlt10
      by_cases hlt : j < s.size
      · have hj18 : j ≤ 18 := by omega
        have hm18 : m < 10 ^ 18 := by
          have h1 : ((s.data.toList.drop 0).take j).length ≤ 18 := by rw [List.length_take]; omega
          exact Nat.lt_of_lt_of_le hlt10 (Nat.pow_le_pow_right (by decide) h1)
        have hmi : (m : Int) ≤ 999999999999999999 := by omega
        clear hlt10 hm18
        have hby : (s[j].toNat : Int) ≤ 255 := by have := s[j].toNat_lt; omega
        by_cases hd : (48 : Int) ≤ s[j].toNat ∧ (s[j].toNat : Int) ≤ 57
        · obtain ⟨hd1, hd2⟩ := hd
          have HN : Hid (Lib.decFrom 0 ((s.data.toList.drop 0).take (j + 1)) = some (m * 10 + (s[j].toNat - 48))) :=
            Lib.decFrom_take _ _ _ _ _ _ HD.out (get_drop0 s j hlt) (digit_of hd1 hd2)
          go_wp2
          go_round
          case rel => exact ⟨j + 1, m * 10 + (s[j].toNat - 48), by omega, HN, by go_num, by go_num⟩
          case measure => simp [intOf]; omega
        · have HX : Hid (numV s.data.toList = 0 ∧ numE s.data.toList = 13) := by
            refine num_bad ?_
            rw [HB.out]
            exact decFrom_bad _ j 0 m _ HD.out (get_drop0 s j hlt) (digit_no (by omega))
          have hor : (s[j].toNat : Int) < 48 ∨ ((57 : Int) < s[j].toNat ∧ decide ((s[j].toNat : Int) < 48) = false) := by
            by_cases h : (s[j].toNat : Int) < 48
            · exact .inl h
            · right; exact ⟨by omega, by simp; omega⟩
          rcases hor with h | ⟨h, h'⟩
          all_goals
            go_wp2
            go_ret2
            exact ⟨by rw [HX.out.1, HX.out.2]; rfl, rfl⟩
      · obtain rfl : j = s.size - 0 := by omega
        have hall : (s.data.toList.drop 0).take (s.size - 0) = s.data.toList.drop 0 := by
          apply List.take_of_length_le; rw [List.length_drop, size_list]; omega
        have HD2 : Hid (Lib.decFrom 0 (s.data.toList.drop 0) = some m) := by have := HD.out; rw [hall] at this; exact this
        have hm19 : m < 10 ^ 19 := by
          have h1 : ((s.data.toList.drop 0).take (s.size - 0)).length ≤ 19 := by rw [List.length_take]; omega
          exact Nat.lt_of_lt_of_le hlt10 (Nat.pow_le_pow_right (by decide) h1)
        have hmi : (m : Int) ≤ 9999999999999999999 := by omega
        have hki : ((s.size - 0 : Nat) : Int) = s.size := by omega
        clear hall hlt10 hm19
        obtain ⟨n1, n2⟩ := num_pos HE.out HH.out (by rw [HB.out]; exact HD2.out)
        by_cases hle : m < 9223372036854775808
        · have HX : Hid (numV s.data.toList = (m : Int) ∧ numE s.data.toList = 0) := n1 hle
          clear n1 n2
          have hle' : (m : Int) ≤ 9223372036854775807 := by omega
          have q1 : ((m : Int) == 9223372036854775808) = false := beq_eq_false_iff_ne.2 (by omega)
          have q2 : decide ((m : Int) > 9223372036854775808) = false := decide_eq_false (by omega)
          clear hle hmi
          go_wp2
          go_ret2
          exact ⟨by rw [HX.out.1, HX.out.2]; rfl, rfl⟩
        · have HX : Hid (numV s.data.toList = 0 ∧ numE s.data.toList = 13) := n2 (by omega)
          clear n1 n2
          by_cases heq : m = 9223372036854775808
          · have q1 : ((m : Int) == 9223372036854775808) = true := beq_iff_eq.2 (by omega)
            have q2 : decide ((m : Int) > 9223372036854775808) = false := decide_eq_false (by omega)
            clear heq
            go_wp2
            go_ret2
            exact ⟨by rw [HX.out.1, HX.out.2]; rfl, rfl⟩
          · have hle' : (9223372036854775808 : Int) < m := by omega
            go_wp2
            go_ret2
            exact ⟨by rw [HX.out.1, HX.out.2]; rfl, rfl⟩

theorem rNumber_negEarly (s : ByteArray) (w : World) (h0 : 0 < s.size) (hs : s.size ≤ reachBytes) (h45 : (s[0].toNat : Int) = 45)
    (h : s.size = 1 ∨ 20 < s.size ∨ ∃ h1 : 1 < s.size, (s[1].toNat : Int) = 48) :
    Calls Tryd.prog 16 #[.string s] w fun e w' => e = .returned (.tuple #[.int .i64 (numV s.data.toList), .int .i64 (numE s.data.toList)]) ∧ w = w' := by
  have HX : Hid (numV s.data.toList = 0 ∧ numE s.data.toList = 13) := by
    refine num_early ?_
    unfold early
    rw [body_neg s h0 h45]
    simp only [Bool.or_eq_true, Bool.and_eq_true, decide_eq_true_eq]
    have hlen : (s.data.toList.drop 1).length = s.size - 1 := by rw [List.length_drop, size_list]
    rcases h with h | h | ⟨h1, h⟩
    · left; left; exact List.eq_nil_of_length_eq_zero (by omega)
    · left; right; omega
    · right
      refine ⟨?_, by rw [size_list]; omega⟩
      rw [List.head?_eq_getElem?, get_drop s 1 0 (by omega)]
      have e2 : s[1].toNat = (48 : UInt8).toNat := by have : (48 : UInt8).toNat = 48 := rfl
                                                      omega
      show some s[1] = some 48
      rw [UInt8.toNat_inj.1 e2]
  unfold reachBytes at hs
  have g0 : (0 : Int) < s.size := by omega
  rcases h with h | h | ⟨h1, h⟩
  · have g1 : (s.size : Int) = 1 := by omega
    go_enter Tryd.func16, Tryd.ntmps16
    go_wp2
    go_ret2
    exact ⟨by rw [HX.out.1, HX.out.2]; rfl, rfl⟩
  · have g1 : ((s.size : Int) == 1) = false := by simp; omega
    have g2 : (19 : Int) < (s.size : Int) - 1 := by omega
    go_enter Tryd.func16, Tryd.ntmps16
    go_wp2
    go_ret2
    exact ⟨by rw [HX.out.1, HX.out.2]; rfl, rfl⟩
  · have g1 : ((s.size : Int) == 1) = false := by simp; omega
    have g3 : (1 : Int) < s.size := by omega
    by_cases hb : (19 : Int) < (s.size : Int) - 1
    · go_enter Tryd.func16, Tryd.ntmps16
      go_wp2
      go_ret2
      exact ⟨by rw [HX.out.1, HX.out.2]; rfl, rfl⟩
    · have g2 : decide ((19 : Int) < (s.size : Int) - 1) = false := by simp; omega
      go_enter Tryd.func16, Tryd.ntmps16
      go_wp2
      go_ret2
      exact ⟨by rw [HX.out.1, HX.out.2]; rfl, rfl⟩

theorem rNumber_posEarly (s : ByteArray) (w : World) (h0 : 0 < s.size) (hs : s.size ≤ reachBytes) (h45 : ((s[0].toNat : Int) == 45) = false)
    (h : 19 < s.size ∨ ((s[0].toNat : Int) = 48 ∧ 1 < s.size)) :
    Calls Tryd.prog 16 #[.string s] w fun e w' => e = .returned (.tuple #[.int .i64 (numV s.data.toList), .int .i64 (numE s.data.toList)]) ∧ w = w' := by
  have HX : Hid (numV s.data.toList = 0 ∧ numE s.data.toList = 13) := by
    refine num_early ?_
    unfold early
    rw [body_pos s h0 h45]
    simp only [Bool.or_eq_true, Bool.and_eq_true, decide_eq_true_eq]
    have hlen : (s.data.toList.drop 0).length = s.size - 0 := by rw [List.length_drop, size_list]
    rcases h with h | ⟨h, h1⟩
    · left; right; omega
    · right
      refine ⟨?_, by rw [size_list]; omega⟩
      rw [List.head?_eq_getElem?, get_drop s 0 0 (by omega)]
      have e2 : s[0].toNat = (48 : UInt8).toNat := by have : (48 : UInt8).toNat = 48 := rfl
                                                      omega
      show some s[0] = some 48
      rw [UInt8.toNat_inj.1 e2]
  unfold reachBytes at hs
  have g0 : (0 : Int) < s.size := by omega
  have g1 : ((s.size : Int) == 0) = false := beq_eq_false_iff_ne.2 (by omega)
  by_cases hb : 19 < s.size
  · have g2 : (19 : Int) < (s.size : Int) := by omega
    go_enter Tryd.func16, Tryd.ntmps16
    go_wp2
    go_ret2
    exact ⟨by rw [HX.out.1, HX.out.2]; rfl, rfl⟩
  · have g2 : decide ((19 : Int) < (s.size : Int)) = false := by simp; omega
    obtain ⟨h48, h1⟩ := h.resolve_left hb
    have g3 : (1 : Int) < s.size := by omega
    go_enter Tryd.func16, Tryd.ntmps16
    go_wp2
    go_ret2
    exact ⟨by rw [HX.out.1, HX.out.2]; rfl, rfl⟩

theorem rNumber_none (w : World) :
    Calls Tryd.prog 16 #[.string ⟨#[]⟩] w fun e w' => e = .returned (.tuple #[.int .i64 0, .int .i64 13]) ∧ w = w' := by
  go_enter Tryd.func16, Tryd.ntmps16
  go_wp2
  go_ret2
  exact ⟨rfl, rfl⟩

theorem rNumber_any (s : ByteArray) (w : World) (hs : s.size ≤ reachBytes) :
    Calls Tryd.prog 16 #[.string s] w fun e w' => e = .returned (.tuple #[.int .i64 (numV s.data.toList), .int .i64 (numE s.data.toList)]) ∧ w = w' := by
  by_cases h0 : s.size = 0
  · have := empty_of s h0
    subst this
    exact rNumber_none w
  by_cases h45 : (s[0].toNat : Int) = 45
  · by_cases h : s.size = 1 ∨ 20 < s.size ∨ ∃ h1 : 1 < s.size, (s[1].toNat : Int) = 48
    · exact rNumber_negEarly s w (by omega) hs h45 h
    · have h1 : 2 ≤ s.size := by omega
      refine rNumber_neg s w h1 (by omega) h45 ?_
      simp only [beq_eq_false_iff_ne, ne_eq]
      intro e
      exact h (.inr (.inr ⟨by omega, e⟩))
  · have h45' : ((s[0].toNat : Int) == 45) = false := by simpa using h45
    by_cases h : 19 < s.size ∨ ((s[0].toNat : Int) = 48 ∧ 1 < s.size)
    · exact rNumber_posEarly s w (by omega) hs h45' h
    · refine rNumber_pos s w (by omega) (by omega) h45' ?_
      by_cases h48 : (s[0].toNat : Int) = 48
      · right; omega
      · left; simpa using h48

end Go.Proofs.YtgbhlbcdaankoaaDoor
