/-
  Layer 3 as plain functions of lists of bytes: the kind of a name, the words of a line, the number that a text says; and what is known of them.
-/
import Derived.Lib.ParseIntBTie
import Derived.Lib.ParseIntBCases
import Derived.Lib.ItoaLen
import Derived.Lib.Atoi
import Derived.Lib.SplitLaws
namespace Go.Proofs.YtgbhlbcdaankoaaDoor
open Go.Lib
set_option linter.unusedVariables false

/-! ## Numbers -/

theorem digitVal_some {b : UInt8} {d : Nat} (h : digitVal b = some d) : d < 10 ∧ b.toNat = 48 + d := by
  unfold digitVal at h
  split at h
  · simp at h; omega
  · cases h
theorem digitVal_of {d : Nat} (h : d < 10) : digitVal (UInt8.ofNat (48 + d)) = some d := by
  have e : (UInt8.ofNat (48 + d)).toNat = 48 + d := by
    rw [UInt8.toNat_ofNat']; exact Nat.mod_eq_of_lt (by omega)
  unfold digitVal
  rw [e, if_pos (by omega)]
  congr 1; omega
theorem byte_of {b : UInt8} {d : Nat} (h : b.toNat = 48 + d) : b = UInt8.ofNat (48 + d) := by
  rw [← h]; simp

theorem decFrom_snoc (b : UInt8) : ∀ (l : List UInt8) (acc : Nat), decFrom acc (l ++ [b]) = (decFrom acc l).bind fun n => (digitVal b).map fun d => n * 10 + d
  | [], acc => by
    simp only [List.nil_append, decFrom, Option.bind_some]
    cases digitVal b <;> rfl
  | c :: r, acc => by
    simp only [List.cons_append, decFrom]
    cases hc : digitVal c with
    | none => rfl
    | some d => simp only; exact decFrom_snoc b r _

theorem decFrom_digits (n : Nat) : decFrom 0 (decDigits n) = some n := by
  induction n using Nat.strongRecOn with
  | _ n ih =>
    rw [decDigits]
    by_cases h : n < 10
    · rw [dif_pos h]
      simp only [decFrom]
      rw [digitVal_of h]
      simp
    · rw [dif_neg h, decFrom_snoc, ih (n / 10) (by omega), digitVal_of (by omega)]
      simp only [Option.bind_some, Option.map_some]
      congr 1; omega

/-- digits behind a number that is not nought -/
theorem digits_from : ∀ (l : List UInt8) (acc n : Nat), 0 < acc → decFrom acc l = some n → decDigits n = decDigits acc ++ l
  | [], acc, n, h0, h => by
    simp only [decFrom, Option.some.injEq] at h
    subst h; simp
  | b :: r, acc, n, h0, h => by
    simp only [decFrom] at h
    cases hb : digitVal b with
    | none => rw [hb] at h; cases h
    | some d =>
      rw [hb] at h
      obtain ⟨hd, hbd⟩ := digitVal_some hb
      have e := digits_from r (acc * 10 + d) n (by omega) h
      rw [e, decDigits, dif_neg (by omega), show (acc * 10 + d) / 10 = acc by omega, show (acc * 10 + d) % 10 = d by omega, byte_of hbd]
      simp

theorem decFrom_ge : ∀ (l : List UInt8) (acc n : Nat), decFrom acc l = some n → acc ≤ n
  | [], acc, n, h => by simp only [decFrom, Option.some.injEq] at h; omega
  | b :: r, acc, n, h => by
    simp only [decFrom] at h
    cases hb : digitVal b with
    | none => rw [hb] at h; cases h
    | some d => rw [hb] at h; have := decFrom_ge r _ _ h; omega

theorem parseM_of : ∀ (l : List UInt8) (acc n : Nat), decFrom acc l = some n → n ≤ 9223372036854775808 → parseUintM 18446744073709551615 acc l = .ok n
  | [], acc, n, h, hn => by simp only [decFrom, Option.some.injEq] at h; subst h; rfl
  | b :: r, acc, n, h, hn => by
    simp only [decFrom] at h
    cases hb : digitVal b with
    | none => rw [hb] at h; cases h
    | some d =>
      rw [hb] at h
      obtain ⟨hd, hbd⟩ := digitVal_some hb
      have hge := decFrom_ge r _ _ h
      rw [parseUintM, if_pos (by omega), if_neg (by omega), show b.toNat - 48 = d by omega, if_neg (by omega)]
      exact parseM_of r _ _ h hn

/-- the head of a number's digits -/
theorem digits_head (n : Nat) : ∃ c r, decDigits n = c :: r ∧ 48 ≤ c.toNat ∧ c.toNat ≤ 57 ∧ (c.toNat = 48 → n = 0) := by
  induction n using Nat.strongRecOn with
  | _ n ih =>
    by_cases h : n < 10
    · refine ⟨UInt8.ofNat (48 + n), [], by rw [decDigits, dif_pos h], ?_⟩
      have e : (UInt8.ofNat (48 + n)).toNat = 48 + n := by rw [UInt8.toNat_ofNat']; exact Nat.mod_eq_of_lt (by omega)
      rw [e]; omega
    · obtain ⟨c, r, e, h1, h2, h3⟩ := ih (n / 10) (by omega)
      refine ⟨c, r ++ [UInt8.ofNat (48 + n % 10)], by rw [decDigits, dif_neg h, e]; rfl, h1, h2, fun hc => ?_⟩
      have := h3 hc
      omega

theorem nDigits_le19 {n : Nat} (h : n ≤ 9223372036854775808) : (decDigits n).length ≤ 19 := by
  rw [decDigits_length]
  have step : ∀ (k m : Nat), m < 10 ^ (k + 1) → nDigits m ≤ k + 1 := by
    intro k
    induction k with
    | zero => intro m hm; rw [nDigits_small (by omega)]; omega
    | succ k ih =>
      intro m hm
      by_cases h10 : m < 10
      · rw [nDigits_small h10]; omega
      · rw [nDigits_big h10]
        have : m / 10 < 10 ^ (k + 1) := by
          have e : 10 ^ (k + 1 + 1) = 10 ^ (k + 1) * 10 := Nat.pow_succ ..
          omega
        have := ih _ this
        omega
  exact step 18 n (by omega)

theorem parse_itoa {v : Int} (h0 : -9223372036854775808 ≤ v) (h1 : v ≤ 9223372036854775807) : parseIntB 64 (itoa v) = .ok v := by
  unfold itoa
  by_cases hv : v < 0
  · rw [if_pos hv, parseIntB_minus]
    obtain ⟨c, r, e, _⟩ := digits_head v.natAbs
    have hm := parseM_of _ 0 _ (decFrom_digits v.natAbs) (by omega)
    have hu : parseUintB 64 (decDigits v.natAbs) = .ok v.natAbs := by
      unfold parseUintB
      rw [if_neg (by rw [e]; simp)]
      exact hm
    rw [hu]
    show (if 2 ^ (64 - 1) < v.natAbs then _ else _) = _
    rw [if_neg (by omega)]
    congr 1; omega
  · rw [if_neg hv]
    obtain ⟨c, r, e, c1, c2, _⟩ := digits_head v.toNat
    have hm := parseM_of _ 0 _ (decFrom_digits v.toNat) (by omega)
    have hu : parseUintB 64 (decDigits v.toNat) = .ok v.toNat := by
      unfold parseUintB
      rw [if_neg (by rw [e]; simp)]
      exact hm
    rw [e] at hu ⊢
    rw [parseIntB_plain 64 c r (by omega) (by omega), hu]
    show (if 2 ^ (64 - 1) ≤ v.toNat then _ else _) = _
    rw [if_neg (by omega)]
    congr 1; omega

/-- the digits of a text, behind its sign -/
def body (l : List UInt8) : List UInt8 := if l.head? = some 45 then l.tail else l
/-- may these digits be read? -/
def early (l : List UInt8) : Bool := decide (body l = []) || decide (19 < (body l).length) || (decide ((body l).head? = some 48) && decide (1 < l.length))
/-- the number that a text says -/
def num (l : List UInt8) : Option Int :=
  if early l then none else
  match decFrom 0 (body l) with
  | none => none
  | some n => if l.head? = some 45 then (if 9223372036854775808 < n then none else some (-(n : Int))) else if 9223372036854775808 ≤ n then none else some n

theorem num_itoa {v : Int} (h0 : -9223372036854775808 ≤ v) (h1 : v ≤ 9223372036854775807) : num (itoa v) = some v := by
  unfold itoa
  by_cases hv : v < 0
  · rw [if_pos hv]
    obtain ⟨c, r, e, c1, c2, c3⟩ := digits_head v.natAbs
    have hb : body (45 :: decDigits v.natAbs) = decDigits v.natAbs := by simp [body]
    have hl := nDigits_le19 (n := v.natAbs) (by omega)
    have hne : ¬ (c.toNat = 48) := fun h => by have := c3 h; omega
    have hc : c ≠ 48 := fun h => hne (by rw [h]; rfl)
    have he : early (45 :: decDigits v.natAbs) = false := by
      unfold early
      rw [hb]
      simp only [Bool.or_eq_false_iff, Bool.and_eq_false_iff, decide_eq_false_iff_not]
      refine ⟨⟨by rw [e]; simp, by omega⟩, .inl (by rw [e]; simpa using hc)⟩
    unfold num
    rw [he, hb, decFrom_digits]
    simp only [Bool.false_eq_true, if_false, List.head?_cons, if_true]
    rw [if_neg (by omega)]
    congr 1; omega
  · rw [if_neg hv]
    obtain ⟨c, r, e, c1, c2, c3⟩ := digits_head v.toNat
    have hc45 : c ≠ 45 := fun h => by rw [h] at c1; revert c1; decide
    have hh : ¬ ((decDigits v.toNat).head? = some 45) := by rw [e]; simpa using hc45
    have hb : body (decDigits v.toNat) = decDigits v.toNat := by unfold body; rw [if_neg hh]
    have hl := nDigits_le19 (n := v.toNat) (by omega)
    have he : early (decDigits v.toNat) = false := by
      unfold early
      rw [hb]
      simp only [Bool.or_eq_false_iff, Bool.and_eq_false_iff, decide_eq_false_iff_not]
      refine ⟨⟨by rw [e]; simp, by omega⟩, ?_⟩
      by_cases hz : c.toNat = 48
      · right
        rw [c3 hz]
        decide +kernel
      · left
        rw [e]
        simp only [List.head?_cons, Option.some.injEq]
        exact fun h => hz (by rw [h]; rfl)
    unfold num
    rw [he, hb, decFrom_digits]
    simp only [Bool.false_eq_true, if_false]
    rw [if_neg hh, if_neg (by omega)]
    congr 1; omega

theorem itoa_num {l : List UInt8} {v : Int} (h : num l = some v) : itoa v = l ∧ -9223372036854775808 ≤ v ∧ v ≤ 9223372036854775807 := by
  unfold num at h
  by_cases he : early l = true
  · rw [if_pos he] at h; cases h
  rw [if_neg he] at h
  have he : early l = false := by simpa using he
  unfold early at he
  simp only [Bool.or_eq_false_iff, Bool.and_eq_false_iff, decide_eq_false_iff_not] at he
  obtain ⟨⟨hne, hlen⟩, hz⟩ := he
  cases hd : decFrom 0 (body l) with
  | none => rw [hd] at h; cases h
  | some n =>
    rw [hd] at h
    simp only at h
    have hdig : decDigits n = body l ∨ (body l = [48] ∧ n = 0) := by
      cases hb : body l with
      | nil => exact absurd hb hne
      | cons c r =>
        rw [hb] at hd
        simp only [decFrom] at hd
        cases hc : digitVal c with
        | none => rw [hc] at hd; cases hd
        | some d =>
          rw [hc] at hd
          simp only [Nat.zero_mul, Nat.zero_add] at hd
          obtain ⟨h10, hcd⟩ := digitVal_some hc
          by_cases hd0 : d = 0
          · subst hd0
            have hc48 : c = 48 := by rw [byte_of hcd]; rfl
            rw [hb] at hz
            have hl1 : ¬ 1 < l.length := by
              rcases hz with hz | hz
              · exact absurd (by rw [hc48]; rfl) hz
              · exact hz
            have hbl : (body l).length ≤ l.length := by unfold body; split <;> simp
            rw [hb] at hbl
            have hr : r = [] := by
              cases r with
              | nil => rfl
              | cons x y => simp at hbl; omega
            subst hr
            simp only [decFrom, Option.some.injEq] at hd
            right; exact ⟨by rw [hc48], hd.symm⟩
          · left
            have := digits_from r d n (by omega) hd
            rw [this, decDigits, dif_pos h10, byte_of hcd]; rfl
    by_cases h45 : l.head? = some 45
    · rw [if_pos h45] at h
      split at h
      · cases h
      rename_i hn
      simp only [Option.some.injEq] at h
      have hb : body l = l.tail := by unfold body; rw [if_pos h45]
      have hl : l = 45 :: body l := by
        cases l with
        | nil => cases h45
        | cons a b => simp at h45; rw [hb, h45]; rfl
      have hdig : decDigits n = body l := by
        rcases hdig with h' | ⟨h', _⟩
        · exact h'
        · exfalso
          rcases hz with hz | hz
          · exact hz (by rw [h']; rfl)
          · rw [hl, h'] at hz; exact hz (by decide)
      have hn0 : 0 < n := by
        by_cases h0 : n = 0
        · exfalso
          subst h0
          have e0 : decDigits 0 = [48] := by decide +kernel
          rw [e0] at hdig
          rcases hz with hz | hz
          · exact hz (by rw [← hdig]; rfl)
          · rw [hl, ← hdig] at hz; exact hz (by decide)
        · omega
      subst h
      refine ⟨?_, by omega, by omega⟩
      unfold itoa
      rw [if_pos (by omega), show (-(n : Int)).natAbs = n by omega, hdig]
      exact hl.symm
    · rw [if_neg h45] at h
      split at h
      · cases h
      rename_i hn
      simp only [Option.some.injEq] at h
      have hb : body l = l := by unfold body; rw [if_neg h45]
      subst h
      refine ⟨?_, by omega, by omega⟩
      unfold itoa
      rw [if_neg (by omega), show ((n : Int)).toNat = n by omega]
      rcases hdig with h' | ⟨h', h0⟩
      · rw [h', hb]
      · subst h0
        rw [← hb, h']
        decide +kernel

/-- THE ONE TEXT OF A NUMBER: what the program tests -/
theorem num_iff (l : List UInt8) (v : Int) : num l = some v ↔ parseIntB 64 l = .ok v ∧ itoa v = l := by
  constructor
  · intro h
    obtain ⟨h1, h2, h3⟩ := itoa_num h
    exact ⟨by rw [← h1]; exact parse_itoa h2 h3, h1⟩
  · rintro ⟨h, rfl⟩
    obtain ⟨h1, h2⟩ := parseIntB_bounds h
    exact num_itoa (by simpa using h1) (by have : v < 9223372036854775808 := by simpa using h2
                                           omega)

/-! ## Names -/

/-- what a byte of a name is: 1 a small letter, 2 a great one, 3 a digit, 0 another -/
def sg (c : UInt8) : Nat :=
  if 97 ≤ c.toNat ∧ c.toNat ≤ 122 then 1 else if 65 ≤ c.toNat ∧ c.toNat ≤ 90 then 2 else if 48 ≤ c.toNat ∧ c.toNat ≤ 57 then 3 else 0
def okAt (q j : Nat) (c : UInt8) : Bool := sg c == q || (sg c == 3 && decide (0 < j))
/-- are the first k bytes fit for a name whose letters are of the sort q? -/
def fits (q : Nat) (l : List UInt8) (k : Nat) : Bool := (List.range k).all fun j => okAt q j (l.getD j 0)
/-- the kind of a name -/
def kind (l : List UInt8) : Nat :=
  if l.length < 1 ∨ 8 < l.length then 0 else if fits 1 l l.length then 1 else if fits 2 l l.length then 2 else 0

theorem fits_zero (q : Nat) (l : List UInt8) : fits q l 0 = true := rfl
theorem fits_succ (q : Nat) (l : List UInt8) (k : Nat) : fits q l (k + 1) = (fits q l k && okAt q k (l.getD k 0)) := by
  unfold fits
  rw [List.range_succ, List.all_append]
  simp
theorem fits_at {q : Nat} {l : List UInt8} {n : Nat} (h : fits q l n = true) (k : Nat) (hk : k < n) : okAt q k (l.getD k 0) = true :=
  List.all_eq_true.1 h k (List.mem_range.2 hk)
theorem fits_of {q : Nat} {l : List UInt8} {n : Nat} (h : ∀ k, k < n → okAt q k (l.getD k 0) = true) : fits q l n = true :=
  List.all_eq_true.2 fun k hk => h k (List.mem_range.1 hk)

theorem kind_out {l : List UInt8} (h : l.length < 1 ∨ 8 < l.length) : kind l = 0 := by unfold kind; rw [if_pos h]
/-- the sort of the first byte decides; a byte behind it that fits neither spoils it -/
theorem kind_bad {l : List UInt8} (k : Nat) (h0 : 0 < k) (hk : k < l.length) (h1 : sg (l.getD k 0) ≠ sg (l.getD 0 0)) (h3 : sg (l.getD k 0) ≠ 3) : kind l = 0 := by
  unfold kind
  split
  · rfl
  have no : ∀ q, q ≠ 3 → fits q l l.length = false := by
    intro q hq
    cases hf : fits q l l.length with
    | false => rfl
    | true =>
      have a0 := fits_at hf 0 (by omega)
      have ak := fits_at hf k hk
      simp only [okAt, Bool.or_eq_true, beq_iff_eq, Bool.and_eq_true, decide_eq_true_eq] at a0 ak
      omega
  rw [no 1 (by decide), no 2 (by decide)]
  simp
theorem kind_good {l : List UInt8} (hn : ¬ (l.length < 1 ∨ 8 < l.length)) (h : ∀ k, 0 < k → k < l.length → sg (l.getD k 0) = sg (l.getD 0 0) ∨ sg (l.getD k 0) = 3) :
    kind l = if sg (l.getD 0 0) = 1 then 1 else if sg (l.getD 0 0) = 2 then 2 else 0 := by
  unfold kind
  rw [if_neg hn]
  have yes : ∀ q, q ≠ 3 → fits q l l.length = decide (sg (l.getD 0 0) = q) := by
    intro q hq
    by_cases hs : sg (l.getD 0 0) = q
    · rw [decide_eq_true hs]
      refine fits_of fun k hk => ?_
      simp only [okAt, Bool.or_eq_true, beq_iff_eq, Bool.and_eq_true, decide_eq_true_eq]
      by_cases k0 : k = 0
      · subst k0; exact .inl hs
      · rcases h k (by omega) hk with h' | h'
        · exact .inl (h'.trans hs)
        · exact .inr ⟨h', by omega⟩
    · rw [decide_eq_false hs]
      cases hf : fits q l l.length with
      | false => rfl
      | true =>
        have a0 := fits_at hf 0 (by omega)
        simp only [okAt, Bool.or_eq_true, beq_iff_eq, Bool.and_eq_true, decide_eq_true_eq] at a0
        omega
  rw [yes 1 (by decide), yes 2 (by decide)]
  simp

/-! ## Words -/

def one (w : List UInt8) : List (List UInt8) := if w = [] then [] else [w]
/-- the words of what is left, behind the word that is under way -/
def wordsFrom (cur : List UInt8) : List UInt8 → List (List UInt8)
  | [] => one cur
  | c :: r => if c = 32 then one cur ++ wordsFrom [] r else wordsFrom (cur ++ [c]) r
def words (l : List UInt8) : List (List UInt8) := wordsFrom [] l

theorem wordsFrom_word : ∀ (a : List UInt8) (cur r : List UInt8), (∀ c ∈ a, c ≠ 32) → wordsFrom cur (a ++ r) = wordsFrom (cur ++ a) r
  | [], cur, r, h => by simp
  | c :: a, cur, r, h => by
    have hc : c ≠ 32 := h c (by simp)
    simp only [List.cons_append, wordsFrom]
    rw [if_neg hc, wordsFrom_word a _ r (fun x hx => h x (by simp [hx]))]
    simp

theorem index_byte_some : ∀ {l : List UInt8} {c : UInt8} {i : Nat}, index l [c] = (i : Int) → ∃ a r, l = a ++ c :: r ∧ a.length = i ∧ ∀ x ∈ a, x ≠ c
  | [], c, i, h => by simp [index] at h
  | b :: l, c, i, h => by
    by_cases hb : b = c
    · subst hb
      have : index (b :: l) [b] = 0 := by rw [index]; simp [List.isPrefixOf]
      rw [this] at h
      refine ⟨[], l, rfl, by simp; omega, by simp⟩
    · have hp : ([c] : List UInt8).isPrefixOf (b :: l) = false := by simp [List.isPrefixOf, Ne.symm hb]
      have hix : index (b :: l) [c] = if index l [c] == -1 then -1 else index l [c] + 1 := by rw [index, hp]; simp
      rw [hix] at h
      split at h
      · omega
      · rename_i hm
        have hge := index_ge l [c]
        obtain ⟨j, hj⟩ : ∃ j : Nat, index l [c] = j := ⟨(index l [c]).toNat, by have : index l [c] ≠ -1 := fun e => hm (beq_iff_eq.2 e); omega⟩
        obtain ⟨a, r, e, ha, hx⟩ := index_byte_some hj
        refine ⟨b :: a, r, by rw [e]; rfl, by simp; omega, fun x hx' => ?_⟩
        rcases List.mem_cons.1 hx' with rfl | h'
        · exact hb
        · exact hx x h'
theorem index_byte_none : ∀ {l : List UInt8} {c : UInt8}, index l [c] = -1 → ∀ x ∈ l, x ≠ c
  | [], c, _, x, hx => by cases hx
  | b :: l, c, h, x, hx => by
    by_cases hb : b = c
    · subst hb
      have : index (b :: l) [b] = 0 := by rw [index]; simp [List.isPrefixOf]
      rw [this] at h; cases h
    · have hp : ([c] : List UInt8).isPrefixOf (b :: l) = false := by simp [List.isPrefixOf, Ne.symm hb]
      have hix : index (b :: l) [c] = if index l [c] == -1 then -1 else index l [c] + 1 := by rw [index, hp]; simp
      rw [hix] at h
      split at h
      · rename_i hm
        rcases List.mem_cons.1 hx with rfl | h'
        · exact hb
        · exact index_byte_none (beq_iff_eq.1 hm) x h'
      · have := index_ge l [c]; omega

theorem split_words : ∀ (k : Nat) (l : List UInt8), count l [32] = k → (splitK [32] 0 k l).filter (fun w => decide (w ≠ [])) = words l
  | 0, l, hk => by
    have hn : index l [32] = -1 := by
      by_cases h : index l [32] = -1
      · exact h
      · have hge := index_ge l [32]
        obtain ⟨j, hj⟩ : ∃ j : Nat, index l [32] = j := ⟨(index l [32]).toNat, by omega⟩
        rw [count_hit (by simp) hj] at hk; omega
    have := wordsFrom_word l [] [] (index_byte_none hn)
    simp only [List.append_nil, List.nil_append] at this
    unfold words
    rw [this]
    simp only [splitK, wordsFrom, one]
    by_cases hl : l = [] <;> simp [hl]
  | k + 1, l, hk => by
    by_cases h : index l [32] = -1
    · rw [count_miss h] at hk; omega
    have hge := index_ge l [32]
    obtain ⟨j, hj⟩ : ∃ j : Nat, index l [32] = j := ⟨(index l [32]).toNat, by omega⟩
    have hc := count_hit (sub := [32]) (by simp) hj
    obtain ⟨a, r, e, ha, hx⟩ := index_byte_some hj
    have hd : l.drop (j + 1) = r := by
      rw [e, ← ha, ← List.drop_drop]; simp
    have ht : l.take j = a := by rw [e, ← ha]; simp
    have hl1 : ([32] : List UInt8).length = 1 := rfl
    rw [hl1, hd] at hc
    have ih := split_words k r (by omega)
    have hm : ¬ (index l [32] == -1) = true := fun e => h (beq_iff_eq.1 e)
    have ej : (index l [32]).toNat = j := by omega
    rw [splitK, if_neg hm, ej, hl1, hd, Nat.add_zero, ht, List.filter_cons, ih]
    have hw : words l = one a ++ words r := by
      unfold words
      rw [e, wordsFrom_word a [] (32 :: r) hx]
      simp [wordsFrom]
    rw [hw]
    by_cases h0 : a = [] <;> simp [h0, one]

/-- a word has bytes, and no blank among them -/
def Word (w : List UInt8) : Prop := w ≠ [] ∧ ∀ c ∈ w, c ≠ 32
theorem words_are : ∀ (l cur : List UInt8), (∀ c ∈ cur, c ≠ 32) → ∀ w ∈ wordsFrom cur l, Word w
  | [], cur, h, w, hw => by
    simp only [wordsFrom, one] at hw
    split at hw
    · cases hw
    · rename_i hne
      simp at hw; subst hw; exact ⟨hne, h⟩
  | c :: r, cur, h, w, hw => by
    simp only [wordsFrom] at hw
    split at hw
    · rcases List.mem_append.1 hw with h' | h'
      · simp only [one] at h'
        split at h'
        · cases h'
        · rename_i hne
          simp at h'; subst h'; exact ⟨hne, h⟩
      · exact words_are r [] (by simp) w h'
    · rename_i hc
      exact words_are r (cur ++ [c]) (fun x hx => by
        rcases List.mem_append.1 hx with h' | h'
        · exact h x h'
        · simp at h'; subst h'; exact hc) w hw
theorem words_length : ∀ (l cur : List UInt8), (wordsFrom cur l).length ≤ l.length + 1
  | [], cur => by simp only [wordsFrom, one]; split <;> simp
  | c :: r, cur => by
    simp only [wordsFrom]
    split
    · have := words_length r []
      have h1 : (one cur).length ≤ 1 := by simp only [one]; split <;> simp
      simp; omega
    · have := words_length r (cur ++ [c]); simp; omega
theorem word_length : ∀ (l cur : List UInt8), ∀ w ∈ wordsFrom cur l, w.length ≤ cur.length + l.length
  | [], cur, w, hw => by
    simp only [wordsFrom, one] at hw
    split at hw
    · cases hw
    · simp at hw; subst hw; simp
  | c :: r, cur, w, hw => by
    simp only [wordsFrom] at hw
    split at hw
    · rcases List.mem_append.1 hw with h' | h'
      · simp only [one] at h'
        split at h'
        · cases h'
        · simp at h'; subst h'; simp
      · have := word_length r [] w h'; simp at this ⊢; omega
    · have := word_length r (cur ++ [c]) w hw; simp at this ⊢; omega

/-- words with blanks ahead of each -/
def joined : List (Nat × List UInt8) → List UInt8
  | [] => []
  | (n, w) :: r => List.replicate n 32 ++ w ++ joined r
theorem words_blanks : ∀ (n : Nat) (r : List UInt8), words (List.replicate n 32 ++ r) = words r
  | 0, r => by simp
  | n + 1, r => by
    have := words_blanks n r
    unfold words at this ⊢
    rw [List.replicate_succ, List.cons_append, wordsFrom, if_pos rfl, this]
    simp [one]
theorem words_one {w : List UInt8} (h : Word w) : ∀ r, (r = [] ∨ ∃ t, r = 32 :: t) → words (w ++ r) = w :: words r := by
  intro r hr
  unfold words
  rw [wordsFrom_word w [] r h.2]
  rcases hr with rfl | ⟨t, rfl⟩
  · simp [wordsFrom, one, h.1]
  · simp [wordsFrom, one, h.1]
theorem words_joined : ∀ (L : List (Nat × List UInt8)) (e : List UInt8), (∀ x ∈ L, 0 < x.1 ∧ Word x.2) → (e = [] ∨ e = [32]) → words (joined L ++ e) = L.map (·.2)
  | [], e, _, he => by
    rcases he with rfl | rfl
    · rfl
    · decide +kernel
  | (n, w) :: L, e, h, he => by
    have ih := words_joined L e (fun x hx => h x (by simp [hx])) he
    have hw := (h (n, w) (by simp)).2
    simp only [joined, List.append_assoc]
    rw [words_blanks, words_one hw, ih]
    · rfl
    · cases L with
      | nil => rcases he with rfl | rfl
               · left; rfl
               · right; exact ⟨[], rfl⟩
      | cons y L =>
        obtain ⟨m, v⟩ := y
        have hm := (h (m, v) (by simp)).1
        right
        obtain ⟨m', rfl⟩ : ∃ m', m = m' + 1 := ⟨m - 1, by simp at hm; omega⟩
        exact ⟨List.replicate m' 32 ++ v ++ joined L ++ e, by simp [joined, List.replicate_succ]⟩
theorem joined_snoc (n : Nat) (w : List UInt8) : ∀ L, joined (L ++ [(n, w)]) = joined L ++ List.replicate n 32 ++ w
  | [] => by simp [joined]
  | (m, v) :: L => by
    simp only [List.cons_append, joined]
    rw [joined_snoc n w L]
    simp

end Go.Proofs.YtgbhlbcdaankoaaDoor
