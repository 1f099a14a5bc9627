/-
  What the space shows against what the document's space is: the lists, Alloc, a new one.
-/
import Derived.Test.YtglallhblcjffaaGreatDoorRb2
namespace Go.Proofs.YtglallhblcjffaaGreatDoor
open Go.RowKit
set_option linter.unusedVariables false
set_option linter.unusedSimpArgs false
set_option maxRecDepth 100000

section
variable {n : Nat} {f g : Int → ByteArray} {r : Rsp} {d : Ds}
/-- the lists of those whose mark is t -/
theorem Shw.usrL (h : Shw r.n f r) (t : Bool) : ∀ c, c ≤ r.taken.length → Go.Proofs.YtglallhblcjffaaGreatDoor.usrL (frs r.n) c (f (frs r.n : Nat)) t = ((List.range c).filter fun (j : Nat) => r.taken.getD j false == t).map fun (j : Nat) => (frs r.n : Int) + 1 + (j : Int) := fun c hc =>
  usrL_congr (fun j => r.taken.getD j false == t) (fun j hj => by
    obtain ⟨x, hx⟩ : ∃ x, r.taken[j]? = some x := ⟨_, List.getElem?_eq_getElem (by omega)⟩
    rw [h.tk j x hx, List.getD_eq_getElem?_getD, hx]
    rfl)
theorem Shw.taken (h : Shw d.bs.length f r) (hok : r.Ok) (hn : r.n = d.bs.length) : usr d.bs.length (f (mpg d)) true = tkL (frs r.n) r.taken.length r.taken := by
  unfold usr mpg
  rw [← hn] at h ⊢
  have htl := hok.tl
  rw [h.usrL true _ (by omega), ← htl]
  unfold tkL
  congr 2
  funext j
  cases r.taken.getD j false <;> rfl
theorem filter_both (T : Nat → Bool) (c : Nat) : ((List.range c).filter fun j => T j == false).length + ((List.range c).filter fun j => T j).length = c := by
  induction c with
  | zero => rfl
  | succ c ih =>
    rw [List.range_succ, List.filter_append, List.filter_append, List.length_append, List.length_append]
    have h1 : ((List.filter (fun j => T j == false) [c]).length + (List.filter (fun j => T j) [c]).length) = 1 := by
      cases e : T c <;> simp [e]
    omega
theorem Shw.free (h : Shw d.bs.length f r) (hok : r.Ok) (hn : r.n = d.bs.length) : (usr d.bs.length (f (mpg d)) false).length + (tkL (frs r.n) r.taken.length r.taken).length = r.pages.length := by
  unfold usr mpg
  rw [← hn] at h ⊢
  have htl := hok.tl
  have hpl := hok.pl
  rw [h.usrL false _ (by omega), ← htl]
  unfold tkL
  rw [List.length_map, List.length_map]
  have := filter_both (fun j => r.taken.getD j false) r.taken.length
  omega
theorem range_head (T : List Bool) : ∀ (c k : Nat), (∀ j, j < k → T.getD j false = true) → (k < c → T.getD k false = false → ∃ L, ((List.range c).filter fun j => T.getD j false == false) = k :: L) ∧ (c ≤ k → ((List.range c).filter fun j => T.getD j false == false) = [])
  | 0, k, h => ⟨fun h => absurd h (Nat.not_lt_zero _), fun _ => rfl⟩
  | c + 1, k, h => by
    obtain ⟨i1, i2⟩ := range_head T c k h
    rw [List.range_succ, List.filter_append]
    refine ⟨fun hk h0 => ?_, fun hc => ?_⟩
    · rcases Nat.lt_or_ge k c with hkc | hkc
      · obtain ⟨L, hL⟩ := i1 hkc h0
        rw [hL]
        exact ⟨_, rfl⟩
      · obtain rfl : k = c := by omega
        rw [i2 (Nat.le_refl _)]
        exact ⟨[], by rw [List.filter_cons_of_pos (p := fun j => T.getD j false == false) (by show (T.getD k false == false) = true; rw [h0]; rfl)]; rfl⟩
    · rw [i2 (by omega)]
      rw [List.filter_cons_of_neg (p := fun j => T.getD j false == false) (by show ¬ (T.getD c false == false) = true; rw [h c (by omega)]; decide)]
      rfl
theorem frI_facts : ∀ (T : List Bool), (∀ j, j < frI T → T.getD j false = true) ∧ (frI T < T.length → T.getD (frI T) false = false) ∧ frI T ≤ T.length
  | [] => ⟨fun j hj => absurd hj (Nat.not_lt_zero _), fun h => absurd h (Nat.lt_irrefl _), Nat.le_refl _⟩
  | x :: T => by
    obtain ⟨h1, h2, h3⟩ := frI_facts T
    have e : frI (x :: T) = if x = true then frI T + 1 else 0 := by
      unfold frI
      rw [List.findIdx_cons]
      cases x <;> rfl
    rw [e]
    cases x with
    | false => exact ⟨fun j hj => absurd hj (Nat.not_lt_zero _), fun _ => rfl, Nat.zero_le _⟩
    | true =>
      rw [if_pos rfl]
      refine ⟨fun j hj => ?_, fun h => ?_, by simpa using h3⟩
      · cases j with
        | zero => rfl
        | succ j => simpa using h1 j (by omega)
      · simpa using h2 (by simpa using h)
/-- Alloc: nothing is free -/
theorem Shw.full (h : Shw d.bs.length f r) (hok : r.Ok) (hn : r.n = d.bs.length) (hf : ¬ frI r.taken < r.taken.length) : usr d.bs.length (f (mpg d)) false = [] := by
  obtain ⟨h1, h2, h3⟩ := frI_facts r.taken
  unfold usr mpg
  rw [← hn] at h ⊢
  have htl := hok.tl
  rw [h.usrL false _ (by omega), ← htl, (range_head r.taken r.taken.length (frI r.taken) h1).2 (by omega)]
  rfl
/-- Alloc: the first that is free -/
theorem Shw.first (h : Shw d.bs.length f r) (hok : r.Ok) (hn : r.n = d.bs.length) (hf : frI r.taken < r.taken.length) : ∃ L, usr d.bs.length (f (mpg d)) false = ((frs r.n : Int) + 1 + (frI r.taken : Int)) :: L := by
  obtain ⟨h1, h2, h3⟩ := frI_facts r.taken
  unfold usr mpg
  rw [← hn] at h ⊢
  have htl := hok.tl
  obtain ⟨L, hL⟩ := (range_head r.taken r.taken.length (frI r.taken) h1).1 hf (h2 hf)
  rw [h.usrL false _ (by omega), ← htl, hL]
  exact ⟨_, rfl⟩
theorem Shw.al (h : Shw d.bs.length f r) (hok : r.Ok) (hn : r.n = d.bs.length) (hm : (f (mpg d)).size = 256) (hf : frI r.taken < r.taken.length) : Shw d.bs.length (alF d f ((frs r.n : Int) + 1 + (frI r.taken : Int))) r.al := by
  obtain ⟨b1, b2, b3, b4, b5⟩ := frs_small hok.lo hok.hi
  have htl := hok.tl
  have hpl := hok.pl
  unfold Rsp.al
  rw [if_pos hf]
  generalize frI r.taken = i at *
  unfold alF mpg at *
  rw [← hn] at h hm ⊢
  have e3 : ((frs r.n : Int) + 1 + (i : Int) - ((frs r.n : Nat) : Int)).toNat = i + 1 := by omega
  rw [e3]
  refine ⟨?_, fun j y hy => ?_, fun j y hj hy => ?_⟩
  · show (if (0 : Int) = ((frs r.n : Nat) : Int) then _ else if (0 : Int) = (frs r.n : Int) + 1 + (i : Int) then Z else f 0).extract 8 256 = r.top
    rw [if_neg (by omega), if_neg (by omega)]
    exact h.top
  · show hasB (if ((frs r.n : Nat) : Int) = ((frs r.n : Nat) : Int) then withB (f ((frs r.n : Nat) : Int)) (i + 1) true else _) (j + 1) = y
    rw [if_pos rfl, hasB_with hm (by omega)]
    have hy' : (r.taken.set i true)[j]? = some y := hy
    rw [List.getElem?_set] at hy'
    by_cases hij : i = j
    · subst hij
      rw [if_pos rfl, if_pos hf] at hy'
      rw [if_pos rfl]
      exact Option.some.inj hy'
    · rw [if_neg hij] at hy'
      rw [if_neg (by omega)]
      exact h.tk j y hy'
  · show (if (((frs r.n + 1 + j : Nat) : Nat) : Int) = ((frs r.n : Nat) : Int) then _ else if (((frs r.n + 1 + j : Nat) : Nat) : Int) = (frs r.n : Int) + 1 + (i : Int) then Z else f _) = y
    rw [if_neg (by omega)]
    have hj' : (r.taken.set i true)[j]? = some true := hj
    have hy' : (r.pages.set i ⟨(zs 256).toArray⟩)[j]? = some y := hy
    rw [List.getElem?_set] at hj' hy'
    by_cases hij : i = j
    · subst hij
      rw [if_pos rfl, if_pos (by omega)] at hy'
      rw [if_pos (by omega)]
      rw [← Option.some.inj hy']
      rfl
    · rw [if_neg hij] at hj' hy'
      rw [if_neg (by omega)]
      exact h.pg j y hj' hy'
end
end Go.Proofs.YtglallhblcjffaaGreatDoor
