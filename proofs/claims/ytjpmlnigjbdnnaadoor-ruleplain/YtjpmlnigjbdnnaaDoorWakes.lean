/-
  The fixed facts with which each law of layer 5 begins; copies; and what is known of Match and Fill together.
-/
import Derived.Test.YtjpmlnigjbdnnaaDoorFill
namespace Go.Proofs.YtjpmlnigjbdnnaaDoor
open Go.RowKit
set_option linter.unusedVariables false
set_option maxRecDepth 100000
set_option linter.unusedSimpArgs false

/-- cells in a new block -/
theorem own_lit (w : World) (L : List Cl) (h : L.length ≤ maxLen) : Owns (w.alloc (.cells (flatC L).toArray 33)) w.heap.size (.slice (some ⟨w.heap.size, 0, none⟩) L.length L.length) L :=
  ⟨flatC_length L, .inr ⟨w.heap.size, L.length, (flatC L).toArray, rfl, Nat.le_refl _, heap_alloc_new w _, Nat.le_refl _, h, by simp [flatC_length], by rw [← flatC_length]; simp⟩⟩
def wq1 : List Cl := [⟨⟨#[103]⟩, 2⟩, ⟨⟨#[88]⟩, 0⟩, ⟨⟨#[89]⟩, 0⟩]
def wq2 : List Cl := [⟨⟨#[103]⟩, 2⟩, ⟨⟨#[97]⟩, 0⟩, ⟨⟨#[98]⟩, 0⟩]
def wq3 : List Cl := [⟨⟨#[89]⟩, 0⟩]
def wq4 : List Bd := [⟨⟨#[88]⟩, [⟨⟨#[97]⟩, 0⟩]⟩, ⟨⟨#[89]⟩, [⟨⟨#[98]⟩, 0⟩]⟩]
theorem wk_mt : mt wq1 wq2 = some wq4 := by decide +kernel
theorem wk_ce : ce wq1 wq2 = 0 := by decide +kernel
theorem wk_fe : fillE wq3 wq4 = 0 := by decide +kernel
theorem wk_fm : fillM wq3 wq4 = [⟨⟨#[98]⟩, 0⟩] := by decide +kernel
theorem fine_small {L : List Cl} (h : ∀ c ∈ L, c.nm.size ≤ 8 ∧ 0 ≤ c.ar ∧ c.ar ≤ 4) : Fine L := fun c hc => by
  obtain ⟨h1, h2, h3⟩ := h c hc
  exact ⟨by omega, by omega, by omega⟩

theorem gather_zero : ∀ (l : List Bd) (seen : List ByteArray), (∀ b ∈ l, check b.val = 0 ∧ kind b.nm.data.toList = 2) → (seen ++ l.map (·.nm)).Nodup → gatherE seen l = 0
  | [], seen, _, _ => rfl
  | b :: r, seen, h, hn => by
    obtain ⟨h1, h2⟩ := h b (by simp)
    unfold gatherE
    rw [if_pos h2]
    have hns : ¬ inS b.nm seen = true := by
      intro hi
      rw [List.nodup_append] at hn
      exact hn.2.2 b.nm (inS_iff.1 hi) b.nm (by simp) rfl
    rw [if_neg hns, if_pos h1]
    exact gather_zero r _ (fun x hx => h x (by simp [hx])) (by rw [List.append_assoc]; simpa using hn)
/-- what fits, filled, is the term -/
theorem back {P T : List Cl} {acc : List Bd} (h : mt P T = some acc) : fillE P acc = 0 ∧ fillM P acc = T ∧ acc.length = (varsOf P).length := by
  obtain ⟨h1, h2, h3⟩ := mt_some h
  obtain ⟨n1, n2, n3, n4⟩ := mt_facts h
  have hg : gatherE [] acc = 0 := gather_zero acc [] n2 (by rw [List.nil_append, n1]; exact vars_nodup P [] (by simp))
  have h0 : fillE P acc = 0 := by
    unfold fillE
    rw [if_pos h1, if_pos hg, if_pos (told_iff.2 n4), if_pos (by rw [← n3]; exact (check_zero h2).1)]
  refine ⟨h0, by unfold fillM; rw [if_pos h0]; exact n3.symm, by rw [← n1, List.length_map]⟩
theorem var_ar {c : Cl} (h : cellErr c = 0) (hv : isV c = true) : c.ar = 0 := by
  have hk : kind c.nm.data.toList = 2 := by unfold isV at hv; simpa using hv
  rw [cellErr_parts, if_neg (by omega)] at h
  by_cases hz : c.ar = 0
  · exact hz
  · rw [if_pos (.inr (.inr ⟨hk, hz⟩))] at h; cases h
theorem sub_self : ∀ (T : List Cl), (∀ c ∈ T, cellErr c = 0) → sub (fun nm => [⟨nm, 0⟩]) T = T
  | [], _ => rfl
  | c :: r, h => by
    rw [sub_cons, sub_self r (fun d hd => h d (by simp [hd]))]
    by_cases hv : isV c = true
    · rw [if_pos hv]
      have := var_ar (h c (by simp)) hv
      obtain ⟨nm, ar⟩ := c
      simp only at this
      subst this
      rfl
    · rw [if_neg hv]; rfl
theorem mt_of {P T : List Cl} {s : ByteArray → List Cl} (hP : check P = 0) (hT : check T = 0) (he : T = sub s P) (hs : ∀ c ∈ P, isV c = true → fo 1 (s c.nm) = some []) : ∃ acc, mt P T = some acc ∧ ∀ nm v, look acc nm = some v → v = s nm := by
  obtain ⟨acc, h1, h2⟩ := fit_complete s P [] hs (by intro nm v h; cases h)
  refine ⟨acc, ?_, h2⟩
  have hc : ce P T = 0 := by unfold ce; rw [if_pos hP]; exact hT
  unfold mt
  rw [if_pos hc, he]
  exact h1
/-- a term fits itself -/
theorem mt_self {T : List Cl} (hT : check T = 0) : ∃ acc, mt T T = some acc := by
  have hc := cellsErr_zero.1 (check_zero hT).2.1
  obtain ⟨acc, h, _⟩ := mt_of (s := fun nm => [⟨nm, 0⟩]) hT hT (sub_self T hc).symm (fun c _ _ => rfl)
  exact ⟨acc, h⟩
theorem sub_sub (s t : ByteArray → List Cl) : ∀ P : List Cl, sub t (sub s P) = sub (fun nm => sub t (s nm)) P
  | [] => rfl
  | c :: r => by
    rw [sub_cons, sub_cons, ← sub_sub s t r]
    have ha : ∀ A B : List Cl, sub t (A ++ B) = sub t A ++ sub t B := fun A B => by unfold sub; rw [List.flatMap_append]
    rw [ha]
    by_cases hv : isV c = true
    · rw [if_pos hv, if_pos hv]
    · rw [if_neg hv, if_neg hv]
      congr 1
      unfold sub
      simp [hv]
theorem sub_mem {s : ByteArray → List Cl} {P : List Cl} {c d : Cl} (hc : c ∈ P) (hv : isV c = true) (hd : d ∈ s c.nm) : d ∈ sub s P := by
  unfold sub
  rw [List.mem_flatMap]
  exact ⟨c, hc, by rw [if_pos hv]; exact hd⟩
/-- a pattern that fits a pattern fits all that this one fits -/
theorem chain {P Q T : List Cl} {a b : List Bd} (h1 : mt P Q = some a) (h2 : mt Q T = some b) : ∃ c, mt P T = some c := by
  obtain ⟨hP, hQ, _⟩ := mt_some h1
  obtain ⟨_, hT, _⟩ := mt_some h2
  obtain ⟨_, n2, n3, n4⟩ := mt_facts h1
  obtain ⟨_, m2, m3, m4⟩ := mt_facts h2
  have hqc := cellsErr_zero.1 (check_zero hQ).2.1
  obtain ⟨c, hc, _⟩ := mt_of (s := fun nm => sub (at_ b) (at_ a nm)) hP hT (by rw [m3]; conv => lhs; rw [n3]; rw [sub_sub]) (fun x hx hv => by
    have hs := n4 x hx hv
    cases hl : look a x.nm with
    | none => rw [hl] at hs; cases hs
    | some v =>
      have hv0 := (n2 _ (look_mem hl)).1
      simp only at hv0
      have e : at_ a x.nm = v := by unfold at_; rw [hl]; rfl
      rw [e]
      have := fo_sub (at_ b) v 1 [] (check_zero hv0).2.2 (fun d hd hdv => by
        have hdq : d ∈ Q := by rw [n3]; exact sub_mem hx hv (by rw [e]; exact hd)
        refine ⟨var_ar (hqc d hdq) hdv, ?_⟩
        have hs2 := m4 d hdq hdv
        cases hl2 : look b d.nm with
        | none => rw [hl2] at hs2; cases hs2
        | some u =>
          have hu := (m2 _ (look_mem hl2)).1
          simp only at hu
          unfold at_
          rw [hl2]
          exact (check_zero hu).2.2)
      simpa [sub] using this)
  exact ⟨c, hc⟩
theorem vars_mem : ∀ (L : List Cl) (acc : List ByteArray) (nm : ByteArray), nm ∈ L.foldl varStep acc → nm ∈ acc ∨ ∃ c ∈ L, isV c = true ∧ c.nm = nm
  | [], acc, nm, h => .inl h
  | c :: r, acc, nm, h => by
    rw [List.foldl_cons] at h
    rcases vars_mem r _ nm h with h | ⟨d, hd, h2⟩
    · unfold varStep at h
      split at h
      · rename_i hc
        rcases List.mem_append.1 h with h | h
        · exact .inl h
        · simp at h
          exact .inr ⟨c, by simp, by unfold isV; simpa using hc.1, h.symm⟩
      · exact .inl h
    · exact .inr ⟨d, by simp [hd], h2⟩
/-- a pattern fits whatever it becomes, with just what was put there -/
theorem filled {P : List Cl} {l : List Bd} (h : fillE P l = 0) : check (fillM P l) = 0 ∧ ∃ acc, mt P (fillM P l) = some acc ∧ ∀ b ∈ acc, look l b.nm = some b.val := by
  obtain ⟨h1, h2, h3, h4⟩ := fillE_zero h
  have hr := (gather_right l [] h2).1
  have hm : fillM P l = sub (at_ l) P := by unfold fillM; rw [if_pos h]
  have hpc := cellsErr_zero.1 (check_zero h1).2.1
  have hat : ∀ c ∈ P, isV c = true → ∃ v, look l c.nm = some v ∧ at_ l c.nm = v ∧ check v = 0 := fun c hc hv => by
    have hs := told_iff.1 h3 c hc hv
    cases hl : look l c.nm with
    | none => rw [hl] at hs; cases hs
    | some v => exact ⟨v, rfl, by unfold at_; rw [hl]; rfl, (hr _ (look_mem hl)).1⟩
  have hT : check (sub (at_ l) P) = 0 := by
    refine check_ok h4 (cellsErr_zero.2 fun d hd => ?_) ?_
    · unfold sub at hd
      rw [List.mem_flatMap] at hd
      obtain ⟨c, hc, hd⟩ := hd
      by_cases hv : isV c = true
      · rw [if_pos hv] at hd
        obtain ⟨v, _, e, hvc⟩ := hat c hc hv
        rw [e] at hd
        exact cellsErr_zero.1 (check_zero hvc).2.1 d hd
      · rw [if_neg hv] at hd
        simp at hd
        subst hd
        exact hpc d hc
    · have := fo_sub (at_ l) P 1 [] (check_zero h1).2.2 (fun c hc hv => by
        obtain ⟨v, _, e, hvc⟩ := hat c hc hv
        exact ⟨var_ar (hpc c hc) hv, by rw [e]; exact (check_zero hvc).2.2⟩)
      simpa [sub] using this
  rw [hm]
  refine ⟨hT, ?_⟩
  obtain ⟨acc, ha, hb⟩ := mt_of (s := at_ l) h1 hT rfl (fun c hc hv => by
    obtain ⟨v, _, e, hvc⟩ := hat c hc hv
    rw [e]; exact (check_zero hvc).2.2)
  refine ⟨acc, ha, fun b hbm => ?_⟩
  obtain ⟨n1, _⟩ := mt_facts ha
  obtain ⟨i, hi⟩ := List.getElem?_of_mem hbm
  have hlk := look_at (by rw [n1]; exact vars_nodup P [] (by simp)) hi
  have e1 := hb _ _ hlk
  have hnv : b.nm ∈ varsOf P := by rw [← n1]; exact List.mem_map.2 ⟨b, hbm, rfl⟩
  rcases vars_mem P [] _ hnv with h5 | ⟨c, hc, hv, e2⟩
  · simp at h5
  · obtain ⟨v, hv1, hv2, _⟩ := hat c hc hv
    rw [e2] at hv1 hv2
    rw [hv1, e1, hv2]

end Go.Proofs.YtjpmlnigjbdnnaaDoor
