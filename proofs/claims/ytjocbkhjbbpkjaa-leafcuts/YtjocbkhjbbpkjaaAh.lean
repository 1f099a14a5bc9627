/-
  The document's At and Has.
-/
import Derived.Test.YtjocbkhjbbpkjaaPn
namespace Go.Proofs.Ytjocbkhjbbpkjaa
open Go.RowKit
set_option linter.unusedVariables false
set_option linter.unusedSimpArgs false
set_option maxRecDepth 100000

/-- behind j rounds n is the place behind the last key that is below -/
def lowA (L : List Ent) (key : ByteArray) (j n : Nat) : Prop := n ≤ j ∧ (∀ (i : Nat) (x : Ent), n ≤ i → i < j → L[i]? = some x → lt x.k key = false) ∧ (n = 0 ∨ ∃ (i : Nat) (x : Ent), i + 1 = n ∧ L[i]? = some x ∧ lt x.k key = true)
theorem lowA_zero (L : List Ent) (key : ByteArray) : lowA L key 0 0 := ⟨Nat.le_refl _, fun i x h1 h2 => absurd h2 (Nat.not_lt_zero _), .inl rfl⟩
theorem lowA_yes {L : List Ent} {key : ByteArray} {j n : Nat} {x : Ent} (h : lowA L key j n) (hx : L[j]? = some x) (hk : lt x.k key = true) : lowA L key (j + 1) (j + 1) :=
  ⟨Nat.le_refl _, fun i y h1 h2 => by omega, .inr ⟨j, x, rfl, hx, hk⟩⟩
theorem lowA_no {L : List Ent} {key : ByteArray} {j n : Nat} {x : Ent} (h : lowA L key j n) (hx : L[j]? = some x) (hk : lt x.k key = false) : lowA L key (j + 1) n :=
  ⟨by have := h.1; omega, fun i y h1 h2 hy => by
    rcases Nat.lt_or_ge i j with c | c
    · exact h.2.1 i y h1 c hy
    · obtain rfl : i = j := by omega
      rw [hx] at hy
      cases hy
      exact hk, h.2.2⟩
theorem lowA_is {L : List Ent} {key : ByteArray} {n : Nat} (h : lowA L key L.length n) (hm : Mono L key) : IsAt L key n := by
  refine ⟨fun j x hj hx => ?_, fun j x hj hx => h.2.1 j x hj (List.getElem?_eq_some_iff.1 hx).1 hx⟩
  rcases h.2.2 with h0 | ⟨i, y, hi, hy, hk⟩
  · omega
  · exact hm j i x y (by omega) hx hy hk
def hasL (L : List Ent) (key : ByteArray) : Bool := L.any fun x => decide (x.k = key)
theorem hasL_iff {L : List Ent} {key : ByteArray} : hasL L key = true ↔ ∃ (j : Nat) (x : Ent), L[j]? = some x ∧ x.k = key := by
  unfold hasL
  rw [List.any_eq_true]
  constructor
  · rintro ⟨x, hx, hk⟩
    obtain ⟨j, hj⟩ := List.mem_iff_getElem?.1 hx
    exact ⟨j, x, hj, of_decide_eq_true hk⟩
  · rintro ⟨j, x, hj, hk⟩
    exact ⟨x, List.mem_of_getElem? hj, decide_eq_true hk⟩
theorem fnd_iff {L : List Ent} {key : ByteArray} {i : Nat} : fnd L key i = true ↔ ∃ x, L[i]? = some x ∧ x.k = key := by
  unfold fnd
  cases h : L[i]? with
  | none => simp
  | some x => simp
theorem fnd_has {L : List Ent} {key : ByteArray} {i : Nat} (h : ckE none L = 0) (ha : IsAt L key i) : fnd L key i = hasL L key := by
  rw [Bool.eq_iff_iff, fnd_iff, hasL_iff]
  constructor
  · rintro ⟨x, hx, hk⟩
    exact ⟨i, x, hx, hk⟩
  · rintro ⟨j, x, hx, rfl⟩
    have h1 : ¬ j < i := fun hj => by
      have := ha.1 j x hj hx
      rw [lt_self] at this
      cases this
    have h2 : ¬ i < j := fun hj => by
      obtain ⟨y, hy⟩ : ∃ y, L[i]? = some y := ⟨_, List.getElem?_eq_getElem (by have := (List.getElem?_eq_some_iff.1 hx).1; omega)⟩
      have h3 := ha.2 i y (Nat.le_refl _) hy
      rw [(ckE_rise h).2 i j y x hj hy hx] at h3
      cases h3
    obtain rfl : i = j := by omega
    exact ⟨x, hx, rfl⟩

set_option maxHeartbeats 1000000 in
theorem at_any (w : World) (v : Value) (L : List Ent) (key : ByteArray) (hl : LiesE w v L) :
    Calls Try.prog 20 #[v, .string key] w fun e w' => ∃ n : Nat, e = .returned (.int .i64 (n : Nat)) ∧ lowA L key L.length n ∧ Below w.heap.size w w' := by
  obtain ⟨a, c, hv⟩ := hl.form
  subst hv
  have hlen := hl.len
  unfold maxLen at hlen
  have HL := hid hl
  obtain ⟨m, hm⟩ : ∃ m, L.length = m := ⟨_, rfl⟩
  have HM := hid hm
  rw [hm] at HL hlen ⊢
  clear hm hl
  have H0 := hid (lowA_zero L key)
  go_enter Try.func20, Try.ntmps20
  go_wp2_with fail
  go_loopw [5, 9] (fun y i wr => ∃ (j n : Nat), j ≤ m ∧ y = .int .i64 (n : Nat) ∧ i = .int .i64 (j : Nat) ∧ Hid (lowA L key j n) ∧ Hid (Below w.heap.size w wr)) (fun _ i _ => m - (intOf i).toNat)
  case atStart => exact ⟨0, 0, Nat.zero_le _, rfl, rfl, H0, Below.refl _ _⟩
  case round =>
    obtain ⟨j, n, hj, rfl, rfl, HI, HB⟩ := hrel
    clear H0
    by_cases hjm : j < m
    · have hji : (j : Int) < (m : Int) := by omega
      obtain ⟨x, hx⟩ : ∃ x, L[j]? = some x := ⟨_, List.getElem?_eq_getElem (by rw [HM.out]; exact hjm)⟩
      obtain ⟨b, off, e1, hbl, c1, c2, _, _⟩ := (HL.out.on HB.out).at hx
      subst e1
      have HX := hid hx
      have hlt : Op.bytesLess x.k.toList key.toList = lt x.k key := rfl
      clear hx
      cases hk : lt x.k key with
      | true =>
        have HI2 := hid (lowA_yes HI.out HX.out hk)
        rw [hk] at hlt
        clear HX HI hk
        generalize x.k = xk at *
        generalize x.v = xv at *
        go_wp2_with fail
        go_roundw
        case rel => exact ⟨j + 1, j + 1, by omega, by go_num, by go_num, HI2, HB⟩
        case measure => simp [intOf]; omega
      | false =>
        have HI2 := hid (lowA_no HI.out HX.out hk)
        rw [hk] at hlt
        clear HX HI hk
        generalize x.k = xk at *
        generalize x.v = xv at *
        go_wp2_with fail
        go_roundw
        case rel => exact ⟨j + 1, n, by omega, rfl, by go_num, HI2, HB⟩
        case measure => simp [intOf]; omega
    · obtain rfl : j = m := by omega
      have hji : ¬ (j : Int) < (j : Int) := by omega
      go_wp2_with fail
      go_ret
      exact ⟨n, rfl, HI.out, HB.out⟩

set_option maxHeartbeats 1000000 in
theorem has_any (w : World) (v : Value) (L : List Ent) (key : ByteArray) (hl : LiesE w v L) :
    Calls Try.prog 21 #[v, .string key] w fun e w' => e = .returned (.bool (hasL L key)) ∧ Below w.heap.size w w' := by
  obtain ⟨a, c, hv⟩ := hl.form
  subst hv
  have hlen := hl.len
  unfold maxLen at hlen
  have HL := hid hl
  obtain ⟨m, hm⟩ : ∃ m, L.length = m := ⟨_, rfl⟩
  have HM := hid hm
  obtain ⟨r, hr⟩ : ∃ r, hasL L key = r := ⟨_, rfl⟩
  have HR := hid hr
  rw [hr]
  rw [hm] at HL hlen ⊢
  clear hm hl hr
  have H0 : Hid (∀ (i : Nat) (x : Ent), i < 0 → L[i]? = some x → x.k ≠ key) := fun i x h => absurd h (Nat.not_lt_zero _)
  go_enter Try.func21, Try.ntmps21
  go_wp2_with fail
  go_loopw [8] (fun i wr => ∃ j : Nat, j ≤ m ∧ i = .int .i64 (j : Nat) ∧ Hid (∀ (i : Nat) (x : Ent), i < j → L[i]? = some x → x.k ≠ key) ∧ Hid (Below w.heap.size w wr)) (fun i _ => m - (intOf i).toNat)
  case atStart => exact ⟨0, Nat.zero_le _, rfl, H0, Below.refl _ _⟩
  case round =>
    obtain ⟨j, hj, rfl, HI, HB⟩ := hrel
    clear H0
    by_cases hjm : j < m
    · have hji : (j : Int) < (m : Int) := by omega
      obtain ⟨x, hx⟩ : ∃ x, L[j]? = some x := ⟨_, List.getElem?_eq_getElem (by rw [HM.out]; exact hjm)⟩
      obtain ⟨b, off, e1, hbl, c1, c2, _, _⟩ := (HL.out.on HB.out).at hx
      subst e1
      have HX := hid hx
      have hq := eq_iff x.k key
      clear hx
      by_cases hk : x.k = key
      · obtain rfl : true = r := by rw [← HR.out, hasL_iff.2 ⟨j, x, HX.out, hk⟩]
        rw [decide_eq_true hk] at hq
        clear HX HI hk HR
        generalize x.k = xk at *
        generalize x.v = xv at *
        go_wp2_with fail
        go_ret
        exact ⟨rfl, HB.out⟩
      · have HI2 : Hid (∀ (i : Nat) (x : Ent), i < j + 1 → L[i]? = some x → x.k ≠ key) := fun i y hi hy => by
          rcases Nat.lt_or_ge i j with c | c
          · exact HI.out i y c hy
          · obtain rfl : i = j := by omega
            have := HX.out
            rw [hy] at this
            cases this
            exact hk
        rw [decide_eq_false hk] at hq
        clear HX HI hk
        generalize x.k = xk at *
        generalize x.v = xv at *
        go_wp2_with fail
        go_roundw
        case rel => exact ⟨j + 1, by omega, by go_num, HI2, HB⟩
        case measure => simp [intOf]; omega
    · obtain rfl : j = m := by omega
      have hji : ¬ (j : Int) < (j : Int) := by omega
      obtain rfl : false = r := by
        rw [← HR.out]
        symm
        rw [← Bool.not_eq_true]
        rw [hasL_iff]
        rintro ⟨i, x, hi, hk⟩
        exact HI.out i x (by have := (List.getElem?_eq_some_iff.1 hi).1; rw [HM.out] at this; exact this) hi hk
      go_wp2_with fail
      go_ret
      exact ⟨rfl, HB.out⟩
end Go.Proofs.Ytjocbkhjbbpkjaa

