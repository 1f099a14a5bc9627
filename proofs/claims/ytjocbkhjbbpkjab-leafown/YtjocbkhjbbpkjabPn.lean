/-
  Plain: what is packed is unpacked; lists that are right are in order.
-/
import Derived.Test.YtjocbkhjbbpkjabUq
import Derived.Test.YtjocbkhjbbpkjabFe
namespace Go.Proofs.Ytjocbkhjbbpkjab
open Go.RowKit
set_option linter.unusedVariables false
set_option linter.unusedSimpArgs false
set_option maxRecDepth 100000

theorem goR_cons : ∀ n p, goR (n + 1) p = ((ent1 p).1 :: (goR n (ent1 p).2).1, (goR n (ent1 p).2).2)
  | 0, p => rfl
  | n + 1, p => by
    rw [show goR (n + 1 + 1) p = ((goR (n + 1) p).1 ++ [(ent1 (goR (n + 1) p).2).1], (ent1 (goR (n + 1) p).2).2) from rfl, goR_cons n p]
    rfl
theorem rdT_by (s R : List UInt8) (h : s.length ≤ 255) : rdT (by1 s.length ++ s ++ R) = some (s, R) := by
  have e : (UInt8.ofNat s.length).toNat = s.length := by rw [UInt8.toNat_ofNat']; omega
  show rdT (UInt8.ofNat s.length :: (s ++ R)) = _
  simp only [rdT]
  rw [e, if_neg (by rw [List.length_append]; omega)]
  simp
theorem data_len (s : ByteArray) : s.data.toList.length = s.size := by rw [Array.length_toList]; rfl
theorem ent1_of (x : Ent) (R : List UInt8) (h1 : x.k.size ≤ 255) (h2 : x.v.size ≤ 255) : ent1 (entB x ++ R, false) = (x, R, false) := by
  have e1 : entB x ++ R = by1 x.k.data.toList.length ++ x.k.data.toList ++ (by1 x.v.data.toList.length ++ x.v.data.toList ++ R) := by
    rw [data_len, data_len]
    unfold entB
    simp [List.append_assoc]
  have t1 := rdT_by x.k.data.toList (by1 x.v.data.toList.length ++ x.v.data.toList ++ R) (by rw [data_len]; exact h1)
  have t2 := rdT_by x.v.data.toList R (by rw [data_len]; exact h2)
  unfold ent1
  show ((⟨bt (txt (entB x ++ R) false).1, bt (txt (txt (entB x ++ R) false).2.1 (txt (entB x ++ R) false).2.2).1⟩ : Ent), (txt (txt (entB x ++ R) false).2.1 (txt (entB x ++ R) false).2.2).2) = _
  rw [e1, txt_some t1]
  show ((⟨bt x.k.data.toList, bt (txt (by1 x.v.data.toList.length ++ x.v.data.toList ++ R) false).1⟩ : Ent), (txt (by1 x.v.data.toList.length ++ x.v.data.toList ++ R) false).2) = _
  rw [txt_some t2, bt_self]
  show ((⟨x.k, bt x.v.data.toList⟩ : Ent), R, false) = _
  rw [bt_self]
theorem goR_of : ∀ (L : List Ent) (R : List UInt8), (∀ x ∈ L, x.k.size ≤ 255 ∧ x.v.size ≤ 255) → goR L.length (entsB L ++ R, false) = (L, R, false)
  | [], R, _ => rfl
  | x :: r, R, h => by
    have hx := h x List.mem_cons_self
    have ih := goR_of r R (fun y hy => h y (List.mem_cons_of_mem _ hy))
    rw [List.length_cons, goR_cons]
    have e : entsB (x :: r) ++ R = entB x ++ (entsB r ++ R) := by simp [entsB, List.append_assoc]
    rw [e, ent1_of x _ hx.1 hx.2]
    show (x :: (goR r.length (entsB r ++ R, false)).1, (goR r.length (entsB r ++ R, false)).2) = _
    rw [ih]
theorem page_data (k : Nat) (L : List Ent) : (pageB k L).data.toList = by1 k ++ by1 L.length ++ entsB L ++ List.replicate (256 - (2 + sumE L)) 0 := by
  unfold pageB
  rw [padOf_list, bt_size, frontB_len]
  show (bt (frontB k L)).data.toList ++ _ = _
  rw [bt_data]
  rfl
theorem page_size {k : Nat} {L : List Ent} (h : 2 + sumE L ≤ 256) : (pageB k L).size = 256 := padOf_size _ _ (by rw [bt_size, frontB_len]; exact h)
theorem rdS_page {k : Nat} {L : List Ent} (hk : k ≤ 255) (hf : Fits L) : rdS (pageB k L).data.toList = (k, L, true) := by
  have e1 : (UInt8.ofNat k).toNat = k := by rw [UInt8.toNat_ofNat']; omega
  have e2 : (UInt8.ofNat L.length).toNat = L.length := by have := hf.len; rw [UInt8.toNat_ofNat']; omega
  have hg := goR_of L (List.replicate (256 - (2 + sumE L)) 0) (fun x hx => ⟨by have := hf.key x hx; omega, by have := hf.val x hx; omega⟩)
  rw [page_data]
  have e3 : (by1 k ++ by1 L.length ++ entsB L ++ List.replicate (256 - (2 + sumE L)) (0 : UInt8) : List UInt8) = UInt8.ofNat k :: UInt8.ofNat L.length :: (entsB L ++ List.replicate (256 - (2 + sumE L)) (0 : UInt8)) := by unfold by1; simp [List.append_assoc]
  rw [e3]
  generalize List.replicate (256 - (2 + sumE L)) (0 : UInt8) = R at *
  unfold rdS
  show ((UInt8.ofNat k).toNat, (goR (UInt8.ofNat L.length).toNat (entsB L ++ R, false)).1, !(goR (UInt8.ofNat L.length).toNat (entsB L ++ R, false)).2.2) = _
  rw [e1, e2, hg]
  rfl
/-- what is packed is unpacked -/
theorem unp_page {k : Int} {L : List Ent} (h : packE k L = 0) : unp (packS k L).data.toList = some (k.toNat, L) := by
  obtain ⟨h1, h2, h3⟩ := packE_zero h
  have hk : ((k.toNat : Nat) : Int) = k := by omega
  have e : packS k L = pageB k.toNat L := by unfold packS; rw [if_pos h]
  unfold unp
  rw [e, rdS_page (by omega) (fits_of h2 h3)]
  show (if true = true ∧ packE ((k.toNat : Nat) : Int) L = 0 ∧ packS ((k.toNat : Nat) : Int) L = bt (pageB k.toNat L).data.toList then some (k.toNat, L) else none) = _
  rw [hk, if_pos ⟨rfl, h, by rw [bt_self, e]⟩]
theorem unp_some {l : List UInt8} {k : Nat} {M : List Ent} (h : unp l = some (k, M)) : packE (k : Int) M = 0 ∧ packS (k : Int) M = bt l := by
  unfold unp at h
  by_cases hc : (rdS l).2.2 = true ∧ packE ((rdS l).1 : Nat) (rdS l).2.1 = 0 ∧ packS ((rdS l).1 : Nat) (rdS l).2.1 = bt l
  · rw [if_pos hc] at h
    have e1 : (rdS l).1 = k := by injection h with h; exact congrArg Prod.fst h
    have e2 : (rdS l).2.1 = M := by injection h with h; exact congrArg Prod.snd h
    rw [e1, e2] at hc
    exact hc.2
  · rw [if_neg hc] at h; cases h
theorem unp_sml {l : List UInt8} {k : Nat} {M : List Ent} (h : unp l = some (k, M)) : SmlL M ∧ M.length ≤ 255 := by
  unfold unp at h
  by_cases hc : (rdS l).2.2 = true ∧ packE ((rdS l).1 : Nat) (rdS l).2.1 = 0 ∧ packS ((rdS l).1 : Nat) (rdS l).2.1 = bt l
  · rw [if_pos hc] at h
    have e2 : (rdS l).2.1 = M := by injection h with h; exact congrArg Prod.snd h
    rw [← e2]
    exact rdS_sml l
  · rw [if_neg hc] at h; cases h

/-- keys rise -/
theorem ckE_rise : ∀ {L : List Ent} {p : Option ByteArray}, ckE p L = 0 → (∀ q, p = some q → ∀ x ∈ L, lt q x.k = true) ∧ ∀ (a b : Nat) (x y : Ent), a < b → L[a]? = some x → L[b]? = some y → lt x.k y.k = true
  | [], p, _ => ⟨fun _ _ x hx => absurd hx List.not_mem_nil, fun a b x y _ hx _ => by rw [List.getElem?_nil] at hx; cases hx⟩
  | z :: r, p, h => by
    have hy : ¬ (32 < z.k.size ∨ 64 < z.v.size) := fun c => by cases p <;> simp [ckE, c] at h
    have hr : ckE (some z.k) r = 0 ∧ ∀ q, p = some q → lt q z.k = true := by
      cases p with
      | none => simp only [ckE] at h; rw [if_neg hy] at h; exact ⟨h, fun q hq => by cases hq⟩
      | some q =>
        simp only [ckE] at h
        rw [if_neg hy] at h
        by_cases hq : lt q z.k = true
        · rw [if_pos hq] at h; exact ⟨h, fun q' e => by cases e; exact hq⟩
        · rw [if_neg hq] at h; cases h
    obtain ⟨i1, i2⟩ := ckE_rise hr.1
    refine ⟨fun q hq x hx => ?_, fun a b x y hab hx hy => ?_⟩
    · rcases List.mem_cons.1 hx with rfl | hx
      · exact hr.2 q hq
      · exact lt_trans (hr.2 q hq) (i1 z.k rfl x hx)
    · cases b with
      | zero => omega
      | succ b =>
        rw [List.getElem?_cons_succ] at hy
        cases a with
        | zero =>
          simp at hx
          subst hx
          exact i1 _ rfl y (List.mem_of_getElem? hy)
        | succ a =>
          rw [List.getElem?_cons_succ] at hx
          exact i2 a b x y (by omega) hx hy
theorem mono_of {L : List Ent} (h : ckE none L = 0) (key : ByteArray) : Mono L key := fun a b x y hab hx hy hk => by
  rcases Nat.lt_or_ge a b with h1 | h1
  · exact lt_trans ((ckE_rise h).2 a b x y h1 hx hy) hk
  · obtain rfl : a = b := by omega
    rw [hx] at hy
    cases hy
    exact hk
theorem IsAt.uniq {L : List Ent} {key : ByteArray} {i j : Nat} (h : IsAt L key i) (k : IsAt L key j) (hi : i ≤ L.length) (hj : j ≤ L.length) : i = j := by
  rcases Nat.lt_trichotomy i j with c | c | c
  · obtain ⟨x, hx⟩ : ∃ x, L[i]? = some x := ⟨_, List.getElem?_eq_getElem (by omega)⟩
    have h1 := h.2 i x (Nat.le_refl _) hx
    rw [k.1 i x c hx] at h1
    cases h1
  · exact c
  · obtain ⟨x, hx⟩ : ∃ x, L[j]? = some x := ⟨_, List.getElem?_eq_getElem (by omega)⟩
    have h1 := k.2 j x (Nat.le_refl _) hx
    rw [h.1 j x c hx] at h1
    cases h1
end Go.Proofs.Ytjocbkhjbbpkjab

