/-
  Layer 7 as plain functions of lists: the order of texts, names that rise, and one name more among them.
-/
import Derived.Test.YtbdlokijednoiaaPlain
import Derived.Lib.Strings
namespace Go.Proofs.Ytbdlokijednoiaa
open Go.Lib
set_option linter.unusedVariables false
set_option maxRecDepth 100000
set_option linter.unusedSimpArgs false

def lt (x y : ByteArray) : Bool := Op.bytesLess x.toList y.toList
theorem bl_irr : ∀ x : List UInt8, Op.bytesLess x x = false
  | [] => rfl
  | a :: x => by simp [Op.bytesLess, bl_irr x]
theorem bl_trans : ∀ x y z : List UInt8, Op.bytesLess x y = true → Op.bytesLess y z = true → Op.bytesLess x z = true
  | [], [], _, h, _ => by simp [Op.bytesLess] at h
  | _ :: _, [], _, h, _ => by simp [Op.bytesLess] at h
  | _, _ :: _, [], _, h => by simp [Op.bytesLess] at h
  | [], b :: y, c :: z, _, _ => rfl
  | a :: x, b :: y, c :: z, h1, h2 => by
    simp only [Op.bytesLess, Bool.or_eq_true, decide_eq_true_eq, Bool.and_eq_true, beq_iff_eq] at h1 h2 ⊢
    rcases h1 with h1 | ⟨rfl, h1⟩
    · rcases h2 with h2 | ⟨rfl, h2⟩
      · exact .inl (UInt8.lt_trans h1 h2)
      · exact .inl h1
    · rcases h2 with h2 | ⟨rfl, h2⟩
      · exact .inl h2
      · exact .inr ⟨rfl, bl_trans x y z h1 h2⟩
theorem bl_tot : ∀ x y : List UInt8, Op.bytesLess x y = false → Op.bytesLess y x = false → x = y
  | [], [], _, _ => rfl
  | [], _ :: _, h, _ => by simp [Op.bytesLess] at h
  | _ :: _, [], _, h => by simp [Op.bytesLess] at h
  | a :: x, b :: y, h1, h2 => by
    simp only [Op.bytesLess, Bool.or_eq_false_iff, decide_eq_false_iff_not, Bool.and_eq_false_iff, beq_eq_false_iff_ne] at h1 h2
    have e : a = b := UInt8.le_antisymm (UInt8.not_lt.1 h2.1) (UInt8.not_lt.1 h1.1)
    subst e
    rcases h1.2 with h | h
    · exact absurd rfl h
    · rcases h2.2 with h' | h'
      · exact absurd rfl h'
      · rw [bl_tot x y h h']
theorem lt_irr (x : ByteArray) : lt x x = false := bl_irr _
theorem lt_trans {x y z : ByteArray} (h1 : lt x y = true) (h2 : lt y z = true) : lt x z = true := bl_trans _ _ _ h1 h2
theorem lt_tot {x y : ByteArray} (h1 : lt x y = false) (h2 : lt y x = false) : x = y := by
  have := bl_tot _ _ h1 h2
  rw [ByteArray.toList_eq, ByteArray.toList_eq] at this
  cases x; cases y
  simpa using this
theorem lt_asym {x y : ByteArray} (h : lt x y = true) : lt y x = false := by
  cases h2 : lt y x with
  | false => rfl
  | true => have := lt_trans h h2; rw [lt_irr] at this; cases this

/-- texts that rise -/
def Up (S : List ByteArray) : Prop := S.Pairwise fun x y => lt x y = true
/-- each above the one ahead -/
def ris : List ByteArray → Bool
  | [] => true
  | x :: r => (match r with | [] => true | y :: _ => lt x y) && ris r
theorem ris_up : ∀ S, ris S = true ↔ Up S
  | [] => by simp [ris, Up]
  | [x] => by simp [ris, Up]
  | x :: y :: r => by
    have ih := ris_up (y :: r)
    rw [ris, Bool.and_eq_true, ih]
    unfold Up
    rw [List.pairwise_cons (a := x)]
    constructor
    · rintro ⟨h1, h2⟩
      refine ⟨fun z hz => ?_, h2⟩
      rcases List.mem_cons.1 hz with rfl | hz
      · exact h1
      · exact lt_trans h1 ((List.pairwise_cons.1 h2).1 z hz)
    · rintro ⟨h1, h2⟩
      exact ⟨h1 y (by simp), h2⟩
theorem ris_iff : ∀ S : List ByteArray, ris S = true ↔ ∀ i x y, S[i]? = some x → S[i + 1]? = some y → lt x y = true
  | [] => by simp [ris]
  | [x] => by
    simp only [ris, Bool.and_true, true_iff]
    intro i a b h1 h2
    simp at h2
  | x :: y :: r => by
    rw [ris, Bool.and_eq_true, ris_iff (y :: r)]
    constructor
    · rintro ⟨h1, h2⟩ i a b ha hb
      cases i with
      | zero => simp at ha hb; subst ha; subst hb; exact h1
      | succ i => exact h2 i a b (by simpa using ha) (by simpa using hb)
    · intro h
      exact ⟨h 0 x y rfl rfl, fun i a b ha hb => h (i + 1) a b (by simpa using ha) (by simpa using hb)⟩

/-- one name more among names that rise -/
def jn1 : List ByteArray → ByteArray → List ByteArray
  | [], x => [x]
  | y :: r, x => if lt y x then y :: jn1 r x else if x = y then y :: r else x :: y :: r
def jn (S M : List ByteArray) : List ByteArray := M.foldl jn1 S
theorem jn1_mem : ∀ (S : List ByteArray) (x z : ByteArray), z ∈ jn1 S x ↔ z = x ∨ z ∈ S
  | [], x, z => by simp [jn1]
  | y :: r, x, z => by
    unfold jn1
    split
    · rw [List.mem_cons, jn1_mem r x z, List.mem_cons]
      constructor
      · rintro (h | h | h) <;> simp [h]
      · rintro (h | h | h) <;> simp [h]
    · split
      · rename_i h; subst h
        constructor
        · intro h; exact .inr h
        · rintro (h | h)
          · subst h; simp
          · exact h
      · simp
theorem jn1_up : ∀ (S : List ByteArray) (x : ByteArray), Up S → Up (jn1 S x)
  | [], x, _ => by simp [jn1, Up]
  | y :: r, x, h => by
    have h0 := h
    unfold Up at h
    rw [List.pairwise_cons] at h
    unfold jn1
    by_cases h1 : lt y x = true
    · rw [if_pos h1]
      unfold Up
      rw [List.pairwise_cons]
      refine ⟨fun z hz => ?_, jn1_up r x h.2⟩
      rcases (jn1_mem r x z).1 hz with rfl | hz
      · exact h1
      · exact h.1 z hz
    · rw [if_neg h1]
      split
      · exact h0
      · rename_i hne
        have hxy : lt x y = true := by
          cases h2 : lt x y with
          | true => rfl
          | false => exact absurd (lt_tot h2 (by simpa using h1)) hne
        unfold Up
        rw [List.pairwise_cons]
        refine ⟨fun z hz => ?_, h0⟩
        rcases List.mem_cons.1 hz with rfl | hz
        · exact hxy
        · exact lt_trans hxy (h.1 z hz)

/-- a name's place among all names -/
def dg (c : UInt8) : Nat := if 97 ≤ c.toNat then c.toNat - 86 else c.toNat - 47
def en : Nat → List UInt8 → Nat
  | 0, _ => 0
  | _ + 1, [] => 0
  | k + 1, c :: r => dg c * 37 ^ k + en k r
def okC (c : UInt8) : Prop := sg c = 1 ∨ sg c = 3
theorem dg_le {c : UInt8} (h : okC c) : 1 ≤ dg c ∧ dg c ≤ 36 := by
  unfold okC sg at h
  unfold dg
  (repeat' split at h) <;> (repeat' split) <;> omega
theorem dg_lt {a b : UInt8} (ha : okC a) (hb : okC b) (h : a < b) : dg a + 1 ≤ dg b := by
  rw [UInt8.lt_iff_toNat_lt] at h
  unfold okC sg at ha hb
  unfold dg
  (repeat' split at ha) <;> (repeat' split at hb) <;> (repeat' split) <;> omega
theorem en_lt : ∀ (k : Nat) (l : List UInt8), (∀ c ∈ l, okC c) → en k l < 37 ^ k
  | 0, _, _ => by simp [en]
  | k + 1, [], _ => by simp only [en]; exact Nat.pow_pos (by decide)
  | k + 1, c :: r, h => by
    have h1 := en_lt k r (fun d hd => h d (by simp [hd]))
    have h2 := (dg_le (h c (by simp))).2
    have h3 := Nat.mul_le_mul_right (37 ^ k) h2
    simp only [en]
    rw [Nat.pow_succ]
    omega
theorem en_mono : ∀ (k : Nat) (x y : List UInt8), (∀ c ∈ x, okC c) → (∀ c ∈ y, okC c) → x.length ≤ k → y.length ≤ k → Op.bytesLess x y = true → en k x < en k y
  | _, [], [], _, _, _, _, h => by simp [Op.bytesLess] at h
  | _, _ :: _, [], _, _, _, _, h => by simp [Op.bytesLess] at h
  | 0, [], _ :: _, _, _, _, hy, _ => by simp at hy
  | 0, _ :: _, _ :: _, _, _, _, hy, _ => by simp at hy
  | k + 1, [], b :: y, _, hb, _, _, _ => by
    have h2 := (dg_le (hb b (by simp))).1
    have h3 := Nat.mul_le_mul_right (37 ^ k) h2
    have h4 : 0 < 37 ^ k := Nat.pow_pos (by decide)
    simp only [en]
    omega
  | k + 1, a :: x, b :: y, ha, hb, hx, hy, h => by
    simp only [Op.bytesLess, Bool.or_eq_true, decide_eq_true_eq, Bool.and_eq_true, beq_iff_eq] at h
    simp only [List.length_cons] at hx hy
    simp only [en]
    rcases h with h | ⟨rfl, h⟩
    · have h2 := dg_lt (ha a (by simp)) (hb b (by simp)) h
      have h3 := Nat.mul_le_mul_right (37 ^ k) h2
      have h4 := en_lt k x (fun d hd => ha d (by simp [hd]))
      rw [Nat.add_mul] at h3
      omega
    · have := en_mono k x y (fun d hd => ha d (by simp [hd])) (fun d hd => hb d (by simp [hd])) (by omega) (by omega) h
      omega
theorem incr_len : ∀ (l : List Nat) (a b : Nat), l.Pairwise (· < ·) → (∀ x ∈ l, a ≤ x ∧ x < b) → l.length ≤ b - a
  | [], a, b, _, _ => by simp
  | x :: r, a, b, h, hb => by
    rw [List.pairwise_cons] at h
    have := incr_len r (x + 1) b h.2 (fun y hy => ⟨h.1 y hy, (hb y (by simp [hy])).2⟩)
    have := hb x (by simp)
    simp only [List.length_cons]
    omega
theorem kind_one {l : List UInt8} (h : kind l = 1) : l.length ≤ 8 ∧ ∀ c ∈ l, okC c := by
  unfold kind at h
  split at h
  · cases h
  · rename_i hn
    split at h
    · rename_i hf
      refine ⟨by omega, fun c hc => ?_⟩
      obtain ⟨k, hk⟩ := List.getElem?_of_mem hc
      have hk2 := (List.getElem?_eq_some_iff.1 hk).1
      have := fits_at hf k hk2
      rw [List.getD_eq_getElem?_getD, hk] at this
      simp only [Option.getD_some, okAt, Bool.or_eq_true, beq_iff_eq, Bool.and_eq_true] at this
      rcases this with h' | h'
      · exact .inl h'
      · exact .inr h'.1
    · split at h <;> cases h
/-- symbols that rise -/
structure Hds (S : List ByteArray) : Prop where
  sym : ∀ x ∈ S, kind x.data.toList = 1
  up : Up S
theorem Hds.size {S : List ByteArray} (h : Hds S) : ∀ x ∈ S, x.size ≤ 8 := fun x hx => by
  have := (kind_one (h.sym x hx)).1
  exact this
theorem Hds.len {S : List ByteArray} (h : Hds S) : S.length ≤ 3512479453921 := by
  have h1 : (S.map fun x => en 8 x.data.toList).Pairwise (· < ·) := by
    rw [List.pairwise_map]
    refine List.Pairwise.imp_of_mem ?_ h.up
    intro x y hx hy hxy
    have a := kind_one (h.sym x hx)
    have b := kind_one (h.sym y hy)
    unfold lt at hxy
    rw [ByteArray.toList_eq, ByteArray.toList_eq] at hxy
    exact en_mono 8 _ _ a.2 b.2 a.1 b.1 hxy
  have := incr_len _ 0 (37 ^ 8) h1 (fun x hx => by
    obtain ⟨y, hy, rfl⟩ := List.mem_map.1 hx
    exact ⟨Nat.zero_le _, en_lt 8 _ (kind_one (h.sym y hy)).2⟩)
  rw [List.length_map] at this
  exact this
theorem Hds.more {S : List ByteArray} (h : Hds S) {x : ByteArray} (hx : kind x.data.toList = 1) : Hds (jn1 S x) :=
  ⟨fun z hz => by
    rcases (jn1_mem S x z).1 hz with rfl | hz
    · exact hx
    · exact h.sym z hz, jn1_up S x h.up⟩
theorem Hds.many {M : List ByteArray} : ∀ {S : List ByteArray}, Hds S → (∀ x ∈ M, kind x.data.toList = 1) → Hds (jn S M) := by
  induction M with
  | nil => intro S h _; exact h
  | cons x r ih =>
    intro S h hm
    exact ih (h.more (hm x (by simp))) (fun y hy => hm y (by simp [hy]))
/-- where the name belongs: so many are below it -/
def low (S : List ByteArray) (x : ByteArray) : Nat := (S.takeWhile fun y => lt y x).length
theorem low_le (S : List ByteArray) (x : ByteArray) : low S x ≤ S.length := by
  unfold low
  exact (List.takeWhile_sublist _).length_le
theorem low_below : ∀ (S : List ByteArray) (x : ByteArray) (i : Nat) (y : ByteArray), i < low S x → S[i]? = some y → lt y x = true
  | [], x, i, y, h, hy => by simp at hy
  | z :: r, x, i, y, h, hy => by
    unfold low at h
    rw [List.takeWhile_cons] at h
    split at h
    · rename_i hz
      cases i with
      | zero => simp at hy; subst hy; exact hz
      | succ i => exact low_below r x i y (by simp only [List.length_cons] at h; unfold low; omega) (by simpa using hy)
    · simp at h
theorem low_above : ∀ (S : List ByteArray) (x : ByteArray), Up S → ∀ (i : Nat) (y : ByteArray), low S x ≤ i → S[i]? = some y → lt y x = false
  | [], x, _, i, y, h, hy => by simp at hy
  | z :: r, x, hu, i, y, h, hy => by
    unfold Up at hu
    rw [List.pairwise_cons] at hu
    unfold low at h
    rw [List.takeWhile_cons] at h
    split at h
    · cases i with
      | zero => simp at h
      | succ i => exact low_above r x hu.2 i y (by simp only [List.length_cons] at h; unfold low; omega) (by simpa using hy)
    · rename_i hz
      cases i with
      | zero => simp at hy; subst hy; simpa using hz
      | succ i =>
        have hm := hu.1 y (List.mem_of_getElem? (by simpa using hy))
        cases h2 : lt y x with
        | false => rfl
        | true => exact absurd (lt_trans hm h2) hz
theorem jn1_at : ∀ (S : List ByteArray) (x : ByteArray), jn1 S x = if S[low S x]? = some x then S else S.take (low S x) ++ x :: S.drop (low S x)
  | [], x => by simp [jn1, low]
  | y :: r, x => by
    unfold jn1
    by_cases h : lt y x = true
    · have e : low (y :: r) x = low r x + 1 := by unfold low; rw [List.takeWhile_cons, if_pos h]; rfl
      rw [if_pos h, e, jn1_at r x]
      simp only [List.getElem?_cons_succ, List.take_succ_cons, List.drop_succ_cons, List.cons_append]
      split <;> rfl
    · have e : low (y :: r) x = 0 := by unfold low; rw [List.takeWhile_cons, if_neg h]; rfl
      rw [if_neg h, e]
      simp only [List.getElem?_cons_zero, Option.some.injEq, List.take_zero, List.drop_zero, List.nil_append]
      by_cases h2 : x = y
      · rw [if_pos h2, if_pos h2.symm]
      · rw [if_neg h2, if_neg (fun e => h2 e.symm)]

end Go.Proofs.Ytbdlokijednoiaa
