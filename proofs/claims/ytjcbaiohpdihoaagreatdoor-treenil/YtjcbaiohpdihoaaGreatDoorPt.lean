/-
  Plain: what Put and Take make of a list in order; where a list is cut.
-/
import Derived.Test.YtjcbaiohpdihoaaGreatDoorAh
namespace Go.Proofs.YtjcbaiohpdihoaaGreatDoor.Lf
open Go.Proofs.YtjcbaiohpdihoaaGreatDoor.Nu
set_option linter.unusedVariables false
set_option maxRecDepth 100000
set_option linter.unusedSimpArgs false

/-- a list with an entry put in at i, in the place of d of its entries -/
def putAt (L : List Ent) (i d : Nat) (e : Ent) : List Ent := L.take i ++ [e] ++ L.drop (i + d)
def cutOut (L : List Ent) (i d : Nat) : List Ent := L.take i ++ L.drop (i + d)
def fd (b : Bool) : Nat := if b then 1 else 0
def below (L : List Ent) (key : ByteArray) : List Ent := L.filter fun x => lt x.k key
def above (L : List Ent) (key : ByteArray) : List Ent := L.filter fun x => lt key x.k
def others (L : List Ent) (key : ByteArray) : List Ent := L.filter fun x => !decide (x.k = key)

theorem filter_of {p : Ent → Bool} {A B : List Ent} (hA : ∀ x ∈ A, p x = true) (hB : ∀ x ∈ B, p x = false) : (A ++ B).filter p = A := by
  rw [List.filter_append, List.filter_eq_self.2 hA, List.filter_eq_nil_iff.2 (fun x hx => by rw [hB x hx]; simp), List.append_nil]
theorem filter_of2 {p : Ent → Bool} {A B : List Ent} (hA : ∀ x ∈ A, p x = false) (hB : ∀ x ∈ B, p x = true) : (A ++ B).filter p = B := by
  rw [List.filter_append, List.filter_eq_self.2 hB, List.filter_eq_nil_iff.2 (fun x hx => by rw [hA x hx]; simp), List.nil_append]
theorem at_take {L : List Ent} {key : ByteArray} {i : Nat} (h : IsAt L key i) : ∀ x ∈ L.take i, lt x.k key = true := fun x hx => by
  obtain ⟨j, hj⟩ := List.mem_iff_getElem?.1 hx
  rw [List.getElem?_take] at hj
  split at hj
  · exact h.1 j x (by assumption) hj
  · cases hj
theorem at_drop {L : List Ent} {key : ByteArray} {i : Nat} (h : IsAt L key i) : ∀ x ∈ L.drop i, lt x.k key = false := fun x hx => by
  obtain ⟨j, hj⟩ := List.mem_iff_getElem?.1 hx
  rw [List.getElem?_drop] at hj
  exact h.2 (i + j) x (by omega) hj
theorem at_behind {L : List Ent} {key : ByteArray} {i : Nat} (hc : ckE none L = 0) (h : IsAt L key i) : ∀ x ∈ L.drop (i + fd (fnd L key i)), lt key x.k = true := fun x hx => by
  obtain ⟨j, hj⟩ := List.mem_iff_getElem?.1 hx
  rw [List.getElem?_drop] at hj
  cases hf : fnd L key i with
  | true =>
    rw [hf] at hj
    obtain ⟨y, hy, rfl⟩ := fnd_iff.1 hf
    exact (ckE_rise hc).2 i _ y x (by unfold fd; simp; omega) hy hj
  | false =>
    rw [hf] at hj
    have h2 := h.2 _ x (by omega) hj
    rcases lt_total x.k key with h3 | h3 | h3
    · rw [h2] at h3; cases h3
    · exfalso
      have h4 : ¬ fnd L key i = true := by rw [hf]; simp
      apply h4
      rw [fnd_has hc h, hasL_iff]
      exact ⟨_, x, hj, h3⟩
    · exact h3
theorem lt_ne {a b : ByteArray} (h : lt a b = true) : a ≠ b := fun e => by subst e; rw [lt_self] at h; cases h
theorem parts_of {L : List Ent} {key : ByteArray} {i : Nat} (hf : fnd L key i = true) : ∃ y, y.k = key ∧ L = L.take i ++ y :: L.drop (i + 1) := by
  obtain ⟨y, hy, hk⟩ := fnd_iff.1 hf
  refine ⟨y, hk, ?_⟩
  rw [← drop_cons hy, List.take_append_drop]
theorem below_is {L : List Ent} {key : ByteArray} {i : Nat} (h : IsAt L key i) : below L key = L.take i := by
  unfold below
  conv => lhs; rw [← List.take_append_drop i L]
  exact filter_of (at_take h) (at_drop h)
theorem above_is {L : List Ent} {key : ByteArray} {i : Nat} (hc : ckE none L = 0) (h : IsAt L key i) : above L key = L.drop (i + fd (fnd L key i)) := by
  unfold above
  have hb := at_behind hc h
  conv => lhs; rw [← List.take_append_drop (i + fd (fnd L key i)) L]
  refine filter_of2 (fun x hx => ?_) hb
  cases hf : fnd L key i with
  | false =>
    rw [hf] at hx
    exact lt_asymm (at_take h x (by simpa [fd] using hx))
  | true =>
    rw [hf] at hx
    obtain ⟨y, hy, hk⟩ := fnd_iff.1 hf
    have : L.take (i + fd true) = L.take i ++ [y] := take_snoc hy
    rw [this] at hx
    rcases List.mem_append.1 hx with hx | hx
    · exact lt_asymm (at_take h x hx)
    · simp at hx
      subst hx
      rw [← hk]
      exact lt_self _
theorem others_is {L : List Ent} {key : ByteArray} {i : Nat} (hc : ckE none L = 0) (h : IsAt L key i) : others L key = cutOut L i (fd (fnd L key i)) := by
  have hb := at_behind hc h
  have h1 : ∀ x ∈ L.take i, (!decide (x.k = key)) = true := fun x hx => by simp [lt_ne (at_take h x hx)]
  have h2 : ∀ x ∈ L.drop (i + fd (fnd L key i)), (!decide (x.k = key)) = true := fun x hx => by simp [(lt_ne (hb x hx)).symm]
  unfold others cutOut
  cases hf : fnd L key i with
  | false =>
    rw [hf] at h2
    rw [show i + fd false = i from rfl] at h2 ⊢
    rw [List.take_append_drop]
    refine List.filter_eq_self.2 fun x hx => ?_
    rw [← List.take_append_drop i L] at hx
    rcases List.mem_append.1 hx with hx | hx
    · exact h1 x hx
    · exact h2 x hx
  | true =>
    rw [hf] at h2
    rw [show i + fd true = i + 1 from rfl] at h2 ⊢
    obtain ⟨y, hk, hL⟩ := parts_of hf
    conv => lhs; rw [hL]
    rw [List.filter_append, List.filter_cons_of_neg (by simp [hk]), List.filter_eq_self.2 h1, List.filter_eq_self.2 h2]
theorem put_is {L : List Ent} {key value : ByteArray} {i : Nat} (hc : ckE none L = 0) (h : IsAt L key i) : putAt L i (fd (fnd L key i)) ⟨key, value⟩ = below L key ++ [⟨key, value⟩] ++ above L key := by
  rw [below_is h, above_is hc h]
  rfl
theorem out_none {L : List Ent} {i : Nat} : cutOut L i (fd false) = L := List.take_append_drop i L
/-- in the list with the entry its key stands at i -/
theorem put_at {L : List Ent} {key value : ByteArray} {i : Nat} (hc : ckE none L = 0) (h : IsAt L key i) (hi : i ≤ L.length) : Mono (putAt L i (fd (fnd L key i)) ⟨key, value⟩) key ∧ IsAt (putAt L i (fd (fnd L key i)) ⟨key, value⟩) key i ∧ (putAt L i (fd (fnd L key i)) ⟨key, value⟩)[i]? = some ⟨key, value⟩ := by
  have hb := at_behind hc h
  have ht := at_take h
  generalize fd (fnd L key i) = d at hb ⊢
  have hl : (L.take i).length = i := by rw [List.length_take]; omega
  have q1 : ∀ (j : Nat) (x : Ent), j < i → (putAt L i d ⟨key, value⟩)[j]? = some x → lt x.k key = true := fun j x hj hx => by
    unfold putAt at hx
    rw [List.append_assoc, List.getElem?_append_left (by omega)] at hx
    exact ht x (List.mem_of_getElem? hx)
  have q2 : (putAt L i d ⟨key, value⟩)[i]? = some ⟨key, value⟩ := by
    unfold putAt
    rw [List.append_assoc, List.getElem?_append_right (by omega), hl, Nat.sub_self]
    rfl
  have q3 : ∀ (j : Nat) (x : Ent), i ≤ j → (putAt L i d ⟨key, value⟩)[j]? = some x → lt x.k key = false := fun j x hj hx => by
    rcases Nat.eq_or_lt_of_le hj with e | e
    · subst e
      rw [q2] at hx
      cases hx
      exact lt_self _
    · unfold putAt at hx
      rw [List.getElem?_append_right (by simp; omega)] at hx
      exact lt_asymm (hb x (List.mem_of_getElem? hx))
  refine ⟨fun a b x y hab hx hy hk => ?_, ⟨q1, q3⟩, q2⟩
  rcases Nat.lt_or_ge b i with hb | hb
  · exact q1 a x (by omega) hx
  · rw [q3 b y hb hy] at hk
    cases hk
theorem put_out (L : List Ent) (i d : Nat) (e : Ent) (hi : i ≤ L.length) : cutOut (putAt L i d e) i 1 = cutOut L i d := by
  unfold cutOut putAt
  have hl : (L.take i).length = i := by rw [List.length_take]; omega
  rw [List.append_assoc, List.take_append_of_le_length (by omega), List.take_of_length_le (by omega)]
  congr 1
  rw [← List.append_assoc, List.drop_left' (by simp; omega)]
theorem put_len {L : List Ent} {i d : Nat} {e : Ent} : (putAt L i d e).length ≤ L.length + 1 := by
  unfold putAt
  simp
  omega
theorem out_len {L : List Ent} {i d : Nat} : (cutOut L i d).length ≤ L.length := by
  unfold cutOut
  simp
  omega
theorem SmlL.take {L : List Ent} (h : SmlL L) (i : Nat) : SmlL (L.take i) := fun x hx => h x (List.mem_of_mem_take hx)
theorem SmlL.drop {L : List Ent} (h : SmlL L) (i : Nat) : SmlL (L.drop i) := fun x hx => h x (List.mem_of_mem_drop hx)
theorem SmlL.append {L M : List Ent} (h : SmlL L) (k : SmlL M) : SmlL (L ++ M) := fun x hx => by
  rcases List.mem_append.1 hx with hx | hx
  · exact h x hx
  · exact k x hx
theorem SmlL.one {x : Ent} (h1 : Sml x.k) (h2 : Sml x.v) : SmlL [x] := fun y hy => by
  simp at hy
  subst hy
  exact ⟨h1, h2⟩
theorem SmlL.put {L : List Ent} (h : SmlL L) (i d : Nat) {e : Ent} (h1 : Sml e.k) (h2 : Sml e.v) : SmlL (putAt L i d e) := ((h.take i).append (.one h1 h2)).append (h.drop _)
theorem SmlL.out {L : List Ent} (h : SmlL L) (i d : Nat) : SmlL (cutOut L i d) := (h.take i).append (h.drop _)
theorem SmlL.filter {L : List Ent} (h : SmlL L) (p : Ent → Bool) : SmlL (L.filter p) := fun x hx => h x (List.mem_filter.1 hx).1

/-- the greater side's size, where a list is cut at i -/
def gre (L : List Ent) (i : Nat) : Nat := max (2 + sumE (L.take i)) (2 + sumE (L.drop i))
/-- b is the first of the places 1 to j - 1 at which the greater side is least -/
def Best (L : List Ent) (j b : Nat) : Prop := 1 ≤ b ∧ b < j ∧ (∀ i, 1 ≤ i → i < j → gre L b ≤ gre L i) ∧ ∀ i, 1 ≤ i → i < b → gre L b < gre L i
theorem Best.uniq {L : List Ent} {j b c : Nat} (h : Best L j b) (k : Best L j c) : b = c := by
  obtain ⟨h1, h2, h3, h4⟩ := h
  obtain ⟨k1, k2, k3, k4⟩ := k
  rcases Nat.lt_trichotomy b c with e | e | e
  · have := k4 b h1 e
    have := h3 c k1 k2
    omega
  · exact e
  · have := h4 c k1 e
    have := k3 b h1 h2
    omega
theorem Best.one (L : List Ent) : Best L 2 1 := by
  refine ⟨Nat.le_refl _, by omega, fun i h1 h2 => ?_, fun i h1 h2 => by omega⟩
  obtain rfl : i = 1 := by omega
  exact Nat.le_refl _
theorem Best.yes {L : List Ent} {j b : Nat} (h : Best L j b) (hj : 1 ≤ j) (hl : gre L j < gre L b) : Best L (j + 1) j := by
  obtain ⟨h1, h2, h3, h4⟩ := h
  refine ⟨hj, by omega, fun i i1 i2 => ?_, fun i i1 i2 => ?_⟩
  · rcases Nat.lt_or_ge i j with c | c
    · have := h3 i i1 c
      omega
    · obtain rfl : i = j := by omega
      exact Nat.le_refl _
  · have := h3 i i1 i2
    omega
theorem Best.no {L : List Ent} {j b : Nat} (h : Best L j b) (hl : ¬ gre L j < gre L b) : Best L (j + 1) b := by
  obtain ⟨h1, h2, h3, h4⟩ := h
  refine ⟨h1, by omega, fun i i1 i2 => ?_, h4⟩
  rcases Nat.lt_or_ge i j with c | c
  · exact h3 i i1 c
  · obtain rfl : i = j := by omega
    omega
theorem sum_split (L : List Ent) (i : Nat) : sumE (L.take i) + sumE (L.drop i) = sumE L := by
  rw [← sumE_append, List.take_append_drop]
def cutAt (L : List Ent) (k : Nat) : Prop := (L.length < 2 ∧ k = L.length) ∨ (2 ≤ L.length ∧ Best L L.length k)
theorem cutAt.uniq {L : List Ent} {a b : Nat} (h : cutAt L a) (k : cutAt L b) : a = b := by
  rcases h with ⟨h, rfl⟩ | ⟨h, hb⟩
  · rcases k with ⟨_, rfl⟩ | ⟨k, _⟩
    · rfl
    · omega
  · rcases k with ⟨k, _⟩ | ⟨_, kb⟩
    · omega
    · exact hb.uniq kb
theorem cutAt.le {L : List Ent} {k : Nat} (h : cutAt L k) : k ≤ L.length := by
  rcases h with ⟨h, rfl⟩ | ⟨h, hb⟩
  · exact Nat.le_refl _
  · have := hb.2.1
    omega
/-- no entry of a list that is right is greater than 98 -/
theorem ckE_small : ∀ {L : List Ent} {p : Option ByteArray}, ckE p L = 0 → ∀ x ∈ L, x.sz ≤ 98
  | [], p, h, x, hx => by cases hx
  | y :: r, none, h, x, hx => by
    by_cases hl : 32 < y.k.size ∨ 64 < y.v.size
    · simp [ckE, hl] at h
    · have hs : y.sz ≤ 98 := by unfold Ent.sz; omega
      rcases List.mem_cons.1 hx with rfl | hx
      · exact hs
      · simp only [ckE, if_neg hl] at h
        exact ckE_small h x hx
  | y :: r, some q, h, x, hx => by
    by_cases hl : 32 < y.k.size ∨ 64 < y.v.size
    · simp [ckE, hl] at h
    · have hs : y.sz ≤ 98 := by unfold Ent.sz; omega
      rcases List.mem_cons.1 hx with rfl | hx
      · exact hs
      · simp only [ckE, if_neg hl] at h
        split at h
        · exact ckE_small h x hx
        · cases h
theorem sum_small : ∀ {L : List Ent}, (∀ x ∈ L, x.sz ≤ 98) → sumE L ≤ 98 * L.length
  | [], h => by simp [sumE]
  | x :: r, h => by
    have h1 := h x (List.mem_cons_self ..)
    have h2 := sum_small (L := r) fun y hy => h y (List.mem_cons_of_mem _ hy)
    simp only [sumE, List.length_cons]
    omega
theorem fit_cut {L : List Ent} (hs : ∀ x ∈ L, x.sz ≤ 98) (h2 : 2 ≤ L.length) (hS : sumE L ≤ 352) : ∃ c, 1 ≤ c ∧ c < L.length ∧ sumE (L.take c) ≤ 254 ∧ sumE (L.drop c) ≤ 254 := by
  have step : ∀ j, j < L.length → (∃ c, 1 ≤ c ∧ c < L.length ∧ sumE (L.take c) ≤ 254 ∧ sumE (L.drop c) ≤ 254) ∨ j = 0 ∨ sumE (L.take j) + 254 < sumE L := by
    intro j
    induction j with
    | zero => intro _; exact .inr (.inl rfl)
    | succ j ih =>
      intro hj
      rcases ih (by omega) with h | h
      · exact .inl h
      · obtain ⟨x, hx⟩ : ∃ x, L[j]? = some x := ⟨_, List.getElem?_eq_getElem (by omega)⟩
        have e1 := sumE_snoc hx
        have e2 := hs x (List.mem_of_getElem? hx)
        have e3 := sum_split L (j + 1)
        by_cases hlt : sumE (L.take (j + 1)) + 254 < sumE L
        · exact .inr (.inr hlt)
        · refine .inl ⟨j + 1, by omega, hj, ?_, by omega⟩
          rcases h with rfl | h
          · simp only [List.take_zero, sumE] at e1
            omega
          · omega
  rcases step (L.length - 1) (by omega) with h | h | h
  · exact h
  · omega
  · exfalso
    obtain ⟨x, hx⟩ : ∃ x, L[L.length - 1]? = some x := ⟨_, List.getElem?_eq_getElem (by omega)⟩
    have e1 := sumE_snoc hx
    have e2 := hs x (List.mem_of_getElem? hx)
    rw [show L.length - 1 + 1 = L.length by omega, List.take_length] at e1
    omega
theorem cut_fits {L : List Ent} {k i : Nat} {x : Ent} (hs : ∀ x ∈ L, x.sz ≤ 98) (h2 : 2 ≤ L.length) (hk : cutAt L k) (hx : L[i]? = some x) (hi : 2 + sumE L ≤ 256 + x.sz) : 2 + sumE (L.take k) ≤ 256 ∧ 2 + sumE (L.drop k) ≤ 256 := by
  have e2 := hs x (List.mem_of_getElem? hx)
  obtain ⟨c, c1, c2, c3, c4⟩ := fit_cut hs h2 (by omega)
  rcases hk with ⟨h, _⟩ | ⟨_, hb⟩
  · omega
  · have := hb.2.2.1 c c1 c2
    unfold gre at this
    omega
end Go.Proofs.YtjcbaiohpdihoaaGreatDoor.Lf

