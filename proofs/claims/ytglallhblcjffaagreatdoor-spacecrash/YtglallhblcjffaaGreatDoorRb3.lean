/-
  What the space shows against what the document's space is: the lists, Alloc, a new one.
-/
import Derived.Test.YtglallhblcjffaaGreatDoorRb1
namespace Go.Proofs.YtglallhblcjffaaGreatDoor
open Go.RowKit
set_option linter.unusedVariables false
set_option linter.unusedSimpArgs false
set_option maxRecDepth 100000

/-- what is shown is the document's space -/
structure Shw (n : Nat) (f : Int → ByteArray) (r : Rsp) : Prop where
  top : (f 0).extract 8 256 = r.top
  tk : ∀ (i : Nat) (x : Bool), r.taken[i]? = some x → hasB (f (frs n : Nat)) (i + 1) = x
  pg : ∀ (i : Nat) (y : ByteArray), r.taken[i]? = some true → r.pages[i]? = some y → f (((frs n + 1 + i : Nat) : Nat) : Int) = y
section
variable {n : Nat} {f g : Int → ByteArray} {r : Rsp} {d : Ds}
theorem Shw.congr (h : Shw n f r) (hok : r.Ok) (hn : r.n = n) (he : ∀ a, isPg n a → g a = f a) : Shw n g r := by
  subst hn
  obtain ⟨b1, b2, b3, b4, b5⟩ := frs_small hok.lo hok.hi
  refine ⟨by rw [he 0 (zero_pg _)]; exact h.top, fun i x hx => ?_, fun i y h1 h2 => ?_⟩
  · rw [he _ (.inr ⟨by omega, by omega⟩)]
    exact h.tk i x hx
  · have hi : i < r.pages.length := (List.getElem?_eq_some_iff.1 h2).1
    have := hok.pl
    rw [he _ (.inr ⟨by omega, by omega⟩)]
    exact h.pg i y h1 h2
theorem us_ix (hok : r.Ok) {a : Int} (hu : isUs r.n a) : ∃ i : Nat, r.ix a = i ∧ a = ((frs r.n + 1 + i : Nat) : Int) ∧ i < r.pages.length ∧ i < r.taken.length ∧ (a - (frs r.n : Int)).toNat = i + 1 := by
  obtain ⟨i1, i2⟩ := Rsp.ix_lt hok hu
  have h1 := hu.1
  refine ⟨r.ix a, rfl, ?_, i1, i2, ?_⟩
  · unfold Rsp.ix; omega
  · unfold Rsp.ix; omega
theorem Shw.gE (h : Shw d.bs.length f r) (hok : r.Ok) (hn : r.n = d.bs.length) (a : Int) : gtE d f a = r.gE a := by
  unfold gtE Rsp.gE tkn mpg
  rw [← hn] at h ⊢
  by_cases hu : isUs r.n a
  · have hnn : ¬ ¬ isUs r.n a := fun x => x hu
    rw [if_neg hnn, if_neg hnn]
    obtain ⟨i, e1, e2, h1, h2, e3⟩ := us_ix hok hu
    obtain ⟨x, hx⟩ : ∃ x, r.taken[i]? = some x := ⟨_, List.getElem?_eq_getElem h2⟩
    rw [e1, e3, h.tk i x hx, List.getD_eq_getElem?_getD, hx]
    rfl
  · rw [if_pos hu, if_pos hu]
theorem gE_zero (hok : r.Ok) {a : Int} (h : r.gE a = 0) : isUs r.n a ∧ r.taken[r.ix a]? = some true := by
  unfold Rsp.gE at h
  by_cases hu : isUs r.n a
  · rw [if_neg (fun x => x hu)] at h
    obtain ⟨i, e1, e2, h1, h2, e3⟩ := us_ix hok hu
    obtain ⟨x, hx⟩ : ∃ x, r.taken[i]? = some x := ⟨_, List.getElem?_eq_getElem h2⟩
    rw [e1, List.getD_eq_getElem?_getD, hx] at h
    rw [e1]
    cases x with
    | true => exact ⟨hu, hx⟩
    | false => cases h
  · rw [if_pos hu] at h
    cases h
theorem Shw.gS (h : Shw d.bs.length f r) (hok : r.Ok) (hn : r.n = d.bs.length) (a : Int) : gtS d f a = r.gS a := by
  unfold gtS Rsp.gS
  rw [h.gE hok hn a]
  by_cases h0 : r.gE a = 0
  · rw [if_pos h0, if_pos h0]
    obtain ⟨hu, ht⟩ := gE_zero hok h0
    obtain ⟨i, e1, e2, h1, h2, e3⟩ := us_ix hok hu
    obtain ⟨y, hy⟩ : ∃ y, r.pages[i]? = some y := ⟨_, List.getElem?_eq_getElem h1⟩
    rw [e1] at ht
    rw [e1, List.getD_eq_getElem?_getD, hy]
    have := h.pg i y ht hy
    rw [← hn, ← e2] at this
    exact this
  · rw [if_neg h0, if_neg h0]
theorem Shw.pE (h : Shw d.bs.length f r) (hok : r.Ok) (hn : r.n = d.bs.length) (a : Int) (x : ByteArray) : ptE d f a x = r.pE a x := by
  unfold ptE Rsp.pE
  rw [h.gE hok hn a]
theorem Shw.put (h : Shw d.bs.length f r) (hok : r.Ok) (hn : r.n = d.bs.length) {a : Int} (x : ByteArray) (h0 : r.gE a = 0) : Shw d.bs.length (fun b => if b = a then x else f b) { r with pages := r.pages.set (r.ix a) x } := by
  obtain ⟨hu, ht⟩ := gE_zero hok h0
  obtain ⟨i, e1, e2, h1, h2, e3⟩ := us_ix hok hu
  obtain ⟨b1, b2, b3, b4, b5⟩ := frs_small hok.lo hok.hi
  rw [← hn] at h ⊢
  rw [e1]
  refine ⟨?_, fun j y hy => ?_, fun j y hj hy => ?_⟩
  · show (if (0 : Int) = a then x else f 0).extract 8 256 = r.top
    rw [if_neg (by omega)]
    exact h.top
  · show hasB (if ((frs r.n : Nat) : Int) = a then x else f _) (j + 1) = y
    rw [if_neg (by omega)]
    exact h.tk j y hy
  · show (if (((frs r.n + 1 + j : Nat) : Nat) : Int) = a then x else f _) = y
    have hy' : (r.pages.set i x)[j]? = some y := hy
    rw [List.getElem?_set] at hy'
    by_cases hij : i = j
    · subst hij
      rw [if_pos rfl, if_pos h1] at hy'
      rw [if_pos e2.symm]
      exact Option.some.inj hy'
    · rw [if_neg hij] at hy'
      rw [if_neg (by omega)]
      exact h.pg j y hj hy'
theorem Shw.rel (h : Shw d.bs.length f r) (hok : r.Ok) (hn : r.n = d.bs.length) (hm : (f (mpg d)).size = 256) {a : Int} (h0 : r.gE a = 0) : Shw d.bs.length (rlF d f a) { r with taken := r.taken.set (r.ix a) false } := by
  obtain ⟨hu, ht⟩ := gE_zero hok h0
  obtain ⟨i, e1, e2, h1, h2, e3⟩ := us_ix hok hu
  obtain ⟨b1, b2, b3, b4, b5⟩ := frs_small hok.lo hok.hi
  unfold rlF mpg at *
  rw [← hn] at h hm ⊢
  rw [e1, e3]
  have hpl := hok.pl
  refine ⟨?_, fun j y hy => ?_, fun j y hj hy => ?_⟩
  · show (if (0 : Int) = ((frs r.n : Nat) : Int) then _ else f 0).extract 8 256 = r.top
    rw [if_neg (by omega)]
    exact h.top
  · show hasB (if ((frs r.n : Nat) : Int) = ((frs r.n : Nat) : Int) then withB (f ((frs r.n : Nat) : Int)) (i + 1) false else _) (j + 1) = y
    rw [if_pos rfl, hasB_with hm (by omega)]
    have hy' : (r.taken.set i false)[j]? = some y := hy
    rw [List.getElem?_set] at hy'
    by_cases hij : i = j
    · subst hij
      rw [if_pos rfl, if_pos h2] at hy'
      rw [if_pos rfl]
      exact Option.some.inj hy'
    · rw [if_neg hij] at hy'
      rw [if_neg (by omega)]
      exact h.tk j y hy'
  · show (if (((frs r.n + 1 + j : Nat) : Nat) : Int) = ((frs r.n : Nat) : Int) then _ else f _) = y
    rw [if_neg (by omega)]
    have hj' : (r.taken.set i false)[j]? = some true := hj
    rw [List.getElem?_set] at hj'
    by_cases hij : i = j
    · subst hij
      rw [if_pos rfl, if_pos h2] at hj'
      cases hj'
    · rw [if_neg hij] at hj'
      exact h.pg j y hj' hy
theorem head_extract (n : Nat) (x : ByteArray) (hx : x.size = 248) : (mkB n ++ x).extract 8 256 = x := by
  have h8 := mkB_size n
  have h : (mkB n ++ x).extract 8 256 = (mkB n).extract 8 256 ++ x.extract (8 - (mkB n).size) (256 - (mkB n).size) := ByteArray.extract_append
  rw [h8] at h
  rw [h]
  have e1 : (mkB n).extract 8 256 = ByteArray.empty := by
    have hs : ((mkB n).extract 8 256).size = 0 := by rw [ByteArray.size_extract]; omega
    apply ByteArray.ext
    exact Array.eq_empty_of_size_eq_zero hs
  have e2 : x.extract (8 - 8) (256 - 8) = x := by
    rw [show 256 - 8 = x.size by omega]
    simp
  rw [e1, e2]
  simp
theorem Shw.head (h : Shw n f r) (hok : r.Ok) (hn : r.n = n) (m : Nat) (x : ByteArray) (hx : x.size = 248) : Shw n (fun b => if b = 0 then mkB m ++ x else f b) { r with top := x } := by
  subst hn
  obtain ⟨b1, b2, b3, b4, b5⟩ := frs_small hok.lo hok.hi
  refine ⟨?_, fun j y hy => ?_, fun j y hj hy => ?_⟩
  · show (if (0 : Int) = 0 then mkB m ++ x else f 0).extract 8 256 = x
    rw [if_pos rfl]
    exact head_extract m x hx
  · show hasB (if ((frs r.n : Nat) : Int) = 0 then _ else f _) (j + 1) = y
    rw [if_neg (by omega)]
    exact h.tk j y hy
  · show (if (((frs r.n + 1 + j : Nat) : Nat) : Int) = 0 then _ else f _) = y
    rw [if_neg (by omega)]
    exact h.pg j y hj hy
end

section
variable {n : Nat} {f g : Int → ByteArray} {r : Rsp} {d : Ds}
/-- the lists of those whose mark is t -/
theorem Shw.usrL (h : Shw r.n f r) (t : Bool) : ∀ c, c ≤ r.taken.length → Go.Proofs.YtglallhblcjffaaGreatDoor.usrL (frs r.n) c (f (frs r.n : Nat)) t = ((List.range c).filter fun (j : Nat) => r.taken.getD j false == t).map fun (j : Nat) => (frs r.n : Int) + 1 + (j : Int) := fun c hc =>
  usrL_congr (fun j => r.taken.getD j false == t) (fun j hj => by
    obtain ⟨x, hx⟩ : ∃ x, r.taken[j]? = some x := ⟨_, List.getElem?_eq_getElem (by omega)⟩
    rw [h.tk j x hx, List.getD_eq_getElem?_getD, hx]
    rfl)
theorem Shw.taken (h : Shw d.bs.length f r) (hok : r.Ok) (hn : r.n = d.bs.length) : usr d.bs.length (f (mpg d)) true = tkL (frs r.n) r.taken.length r.taken := by
  unfold usr mpg
  rw [← hn] at h ⊢
  have htl := hok.tl
  rw [h.usrL true _ (by omega), ← htl]
  unfold tkL
  congr 2
  funext j
  cases r.taken.getD j false <;> rfl
theorem filter_both (T : Nat → Bool) (c : Nat) : ((List.range c).filter fun j => T j == false).length + ((List.range c).filter fun j => T j).length = c := by
  induction c with
  | zero => rfl
  | succ c ih =>
    rw [List.range_succ, List.filter_append, List.filter_append, List.length_append, List.length_append]
    have h1 : ((List.filter (fun j => T j == false) [c]).length + (List.filter (fun j => T j) [c]).length) = 1 := by
      cases e : T c <;> simp [e]
    omega
theorem Shw.free (h : Shw d.bs.length f r) (hok : r.Ok) (hn : r.n = d.bs.length) : (usr d.bs.length (f (mpg d)) false).length + (tkL (frs r.n) r.taken.length r.taken).length = r.pages.length := by
  unfold usr mpg
  rw [← hn] at h ⊢
  have htl := hok.tl
  have hpl := hok.pl
  rw [h.usrL false _ (by omega), ← htl]
  unfold tkL
  rw [List.length_map, List.length_map]
  have := filter_both (fun j => r.taken.getD j false) r.taken.length
  omega
theorem range_head (T : List Bool) : ∀ (c k : Nat), (∀ j, j < k → T.getD j false = true) → (k < c → T.getD k false = false → ∃ L, ((List.range c).filter fun j => T.getD j false == false) = k :: L) ∧ (c ≤ k → ((List.range c).filter fun j => T.getD j false == false) = [])
  | 0, k, h => ⟨fun h => absurd h (Nat.not_lt_zero _), fun _ => rfl⟩
  | c + 1, k, h => by
    obtain ⟨i1, i2⟩ := range_head T c k h
    rw [List.range_succ, List.filter_append]
    refine ⟨fun hk h0 => ?_, fun hc => ?_⟩
    · rcases Nat.lt_or_ge k c with hkc | hkc
      · obtain ⟨L, hL⟩ := i1 hkc h0
        rw [hL]
        exact ⟨_, rfl⟩
      · obtain rfl : k = c := by omega
        rw [i2 (Nat.le_refl _)]
        exact ⟨[], by rw [List.filter_cons_of_pos (p := fun j => T.getD j false == false) (by show (T.getD k false == false) = true; rw [h0]; rfl)]; rfl⟩
    · rw [i2 (by omega)]
      rw [List.filter_cons_of_neg (p := fun j => T.getD j false == false) (by show ¬ (T.getD c false == false) = true; rw [h c (by omega)]; decide)]
      rfl
theorem frI_facts : ∀ (T : List Bool), (∀ j, j < frI T → T.getD j false = true) ∧ (frI T < T.length → T.getD (frI T) false = false) ∧ frI T ≤ T.length
  | [] => ⟨fun j hj => absurd hj (Nat.not_lt_zero _), fun h => absurd h (Nat.lt_irrefl _), Nat.le_refl _⟩
  | x :: T => by
    obtain ⟨h1, h2, h3⟩ := frI_facts T
    have e : frI (x :: T) = if x = true then frI T + 1 else 0 := by
      unfold frI
      rw [List.findIdx_cons]
      cases x <;> rfl
    rw [e]
    cases x with
    | false => exact ⟨fun j hj => absurd hj (Nat.not_lt_zero _), fun _ => rfl, Nat.zero_le _⟩
    | true =>
      rw [if_pos rfl]
      refine ⟨fun j hj => ?_, fun h => ?_, by simpa using h3⟩
      · cases j with
        | zero => rfl
        | succ j => simpa using h1 j (by omega)
      · simpa using h2 (by simpa using h)
/-- Alloc: nothing is free -/
theorem Shw.full (h : Shw d.bs.length f r) (hok : r.Ok) (hn : r.n = d.bs.length) (hf : ¬ frI r.taken < r.taken.length) : usr d.bs.length (f (mpg d)) false = [] := by
  obtain ⟨h1, h2, h3⟩ := frI_facts r.taken
  unfold usr mpg
  rw [← hn] at h ⊢
  have htl := hok.tl
  rw [h.usrL false _ (by omega), ← htl, (range_head r.taken r.taken.length (frI r.taken) h1).2 (by omega)]
  rfl
/-- Alloc: the first that is free -/
theorem Shw.first (h : Shw d.bs.length f r) (hok : r.Ok) (hn : r.n = d.bs.length) (hf : frI r.taken < r.taken.length) : ∃ L, usr d.bs.length (f (mpg d)) false = ((frs r.n : Int) + 1 + (frI r.taken : Int)) :: L := by
  obtain ⟨h1, h2, h3⟩ := frI_facts r.taken
  unfold usr mpg
  rw [← hn] at h ⊢
  have htl := hok.tl
  obtain ⟨L, hL⟩ := (range_head r.taken r.taken.length (frI r.taken) h1).1 hf (h2 hf)
  rw [h.usrL false _ (by omega), ← htl, hL]
  exact ⟨_, rfl⟩
theorem Shw.al (h : Shw d.bs.length f r) (hok : r.Ok) (hn : r.n = d.bs.length) (hm : (f (mpg d)).size = 256) (hf : frI r.taken < r.taken.length) : Shw d.bs.length (alF d f ((frs r.n : Int) + 1 + (frI r.taken : Int))) r.al := by
  obtain ⟨b1, b2, b3, b4, b5⟩ := frs_small hok.lo hok.hi
  have htl := hok.tl
  have hpl := hok.pl
  unfold Rsp.al
  rw [if_pos hf]
  generalize frI r.taken = i at *
  unfold alF mpg at *
  rw [← hn] at h hm ⊢
  have e3 : ((frs r.n : Int) + 1 + (i : Int) - ((frs r.n : Nat) : Int)).toNat = i + 1 := by omega
  rw [e3]
  refine ⟨?_, fun j y hy => ?_, fun j y hj hy => ?_⟩
  · show (if (0 : Int) = ((frs r.n : Nat) : Int) then _ else if (0 : Int) = (frs r.n : Int) + 1 + (i : Int) then Z else f 0).extract 8 256 = r.top
    rw [if_neg (by omega), if_neg (by omega)]
    exact h.top
  · show hasB (if ((frs r.n : Nat) : Int) = ((frs r.n : Nat) : Int) then withB (f ((frs r.n : Nat) : Int)) (i + 1) true else _) (j + 1) = y
    rw [if_pos rfl, hasB_with hm (by omega)]
    have hy' : (r.taken.set i true)[j]? = some y := hy
    rw [List.getElem?_set] at hy'
    by_cases hij : i = j
    · subst hij
      rw [if_pos rfl, if_pos hf] at hy'
      rw [if_pos rfl]
      exact Option.some.inj hy'
    · rw [if_neg hij] at hy'
      rw [if_neg (by omega)]
      exact h.tk j y hy'
  · show (if (((frs r.n + 1 + j : Nat) : Nat) : Int) = ((frs r.n : Nat) : Int) then _ else if (((frs r.n + 1 + j : Nat) : Nat) : Int) = (frs r.n : Int) + 1 + (i : Int) then Z else f _) = y
    rw [if_neg (by omega)]
    have hj' : (r.taken.set i true)[j]? = some true := hj
    have hy' : (r.pages.set i ⟨(zs 256).toArray⟩)[j]? = some y := hy
    rw [List.getElem?_set] at hj' hy'
    by_cases hij : i = j
    · subst hij
      rw [if_pos rfl, if_pos (by omega)] at hy'
      rw [if_pos (by omega)]
      rw [← Option.some.inj hy']
      rfl
    · rw [if_neg hij] at hj' hy'
      rw [if_neg (by omega)]
      exact h.pg j y hj' hy'
end

end Go.Proofs.YtglallhblcjffaaGreatDoor
