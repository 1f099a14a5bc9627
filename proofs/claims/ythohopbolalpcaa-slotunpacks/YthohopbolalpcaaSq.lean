/-
  A node read out of its slot is the node; a bucket read out of its page is the bucket.
-/
import Derived.Test.YthohopbolalpcaaSp
namespace Go.Proofs.Ythohopbolalpcaa
open Go.RowKit
set_option linter.unusedVariables false
set_option linter.unusedSimpArgs false
set_option maxRecDepth 100000

theorem be_val (l : List UInt8) : be (val l) l.length = l := by
  suffices h : ∀ k (l : List UInt8), l.length = k → be (val l) k = l by exact h _ l rfl
  intro k
  induction k with
  | zero => intro l h; have : l = [] := by simpa using h
            subst this; rfl
  | succ k ih =>
    intro l h
    have hne : l ≠ [] := by intro e; subst e; simp at h
    obtain ⟨m, b, rfl⟩ : ∃ m b, l = m ++ [b] := ⟨l.dropLast, l.getLast hne, (List.dropLast_concat_getLast hne).symm⟩
    have hm : m.length = k := by simpa using h
    have hb := b.toNat_lt
    rw [val_snoc, be, show (val m * 256 + b.toNat) / 256 = val m by omega, ih m hm]
    congr 2
    apply UInt8.toNat_inj.1
    rw [UInt8.toNat_ofNat']
    omega
/-- a name has no byte 0 at its end -/
theorem trim_name {s : ByteArray} (h : kind s.data.toList ≠ 0) : trimOf s = s := by
  have hk : 1 ≤ s.size ∧ s.size ≤ 8 ∧ ∃ q, q ≠ 0 ∧ q ≠ 3 ∧ fits q s.data.toList s.data.toList.length = true := by
    have hl : s.data.toList.length = s.size := (Lib.size_eq s).symm
    unfold kind at h
    split at h
    · exact absurd rfl h
    · rename_i h1
      split at h
      · rename_i h2; exact ⟨by omega, by omega, 1, by decide, by decide, h2⟩
      · split at h
        · rename_i h2; exact ⟨by omega, by omega, 2, by decide, by decide, h2⟩
        · exact absurd rfl h
  obtain ⟨h1, h8, q, q0, q3, hf⟩ := hk
  have hl : s.data.toList.length = s.size := (Lib.size_eq s).symm
  rw [hl] at hf
  have ha := fits_at hf (s.size - 1) (by omega)
  have hb : s.data.toList.getD (s.size - 1) 0 ≠ 0 := by
    intro h0
    rw [h0] at ha
    unfold okAt at ha
    have : sg 0 = 0 := by decide
    rw [this] at ha
    simp at ha
    omega
  have he : endAt s s.size = s.size := by
    obtain ⟨k, hk⟩ : ∃ k, s.size = k + 1 := ⟨s.size - 1, by omega⟩
    have hkl : k < s.size := by omega
    rw [hk, endAt_step s k hkl, if_pos]
    rw [bne_iff_ne, ← get_list s k hkl]
    rw [hk, Nat.add_sub_cancel] at hb
    intro h0
    apply hb
    apply UInt8.toNat_inj.1
    have : (0 : UInt8).toNat = 0 := rfl
    omega
  unfold trimOf
  rw [he]
  apply ByteArray.ext
  apply Array.toList_inj.1
  rw [ByteArray.data_extract]
  simp
  exact List.take_of_length_le (by rw [hl]; exact Nat.le_refl _)

/-- the numbers of a slot, wherever it stands -/
theorem num_slot {s : ByteArray} {p : Nat} {x : Nd} (ho : NdOk x) (hs : sub s p 48 = slotB x) {i : Nat} (hi : i < 11) : num s p i = tell x i := by
  have h1 := off_le hi
  have hsub : sub s (p + off i) (wd i) = be (tell x i) (wd i) := by
    have e1 : sub s (p + off i) (wd i) = ((sub s p 48).drop (off i)).take (wd i) := by
      unfold sub
      rw [List.drop_take, List.drop_drop, List.take_take, Nat.min_eq_left (by omega)]
    rw [e1, hs]
    have e2 : slotB x = slotP x i ++ be (tell x i) (wd i) ++ (slotB x).drop (off (i + 1)) := by
      have h3 : ∀ n, n ≤ 11 → ∃ r, slotB x = slotP x n ++ r := by
        intro n hn
        obtain ⟨d, hd⟩ : ∃ d, n + d = 11 := ⟨11 - n, by omega⟩
        induction d generalizing n with
        | zero => obtain rfl : n = 11 := by omega
                  exact ⟨[0], rfl⟩
        | succ d ih =>
          obtain ⟨r, hr⟩ := ih (n + 1) (by omega) (by omega)
          exact ⟨be (tell x n) (wd n) ++ r, by rw [hr, slotP_succ, List.append_assoc]⟩
      obtain ⟨r, hr⟩ := h3 (i + 1) (by omega)
      rw [← slotP_succ]
      conv => rhs; rw [hr]
      rw [List.drop_append_of_le_length (by rw [slotP_len]; exact Nat.le_refl _), List.drop_of_length_le (by rw [slotP_len]; exact Nat.le_refl _), List.nil_append]
      exact hr
    rw [e2, List.append_assoc, List.drop_append_of_le_length (by rw [slotP_len]; exact Nat.le_refl _), List.drop_of_length_le (by rw [slotP_len]; exact Nat.le_refl _), List.nil_append, List.take_append_of_le_length (by rw [be_length]; exact Nat.le_refl _), List.take_of_length_le (by rw [be_length]; exact Nat.le_refl _)]
  unfold num
  rw [hsub]
  exact val_be_of_lt (tell_lt ho hi)

theorem foldl_same {α β : Type} {f g : α → β → α} : ∀ (l : List β) (a : α), (∀ i ∈ l, ∀ y, f y i = g y i) → l.foldl f a = l.foldl g a
  | [], _, _ => rfl
  | b :: l, a, h => by
    rw [List.foldl_cons, List.foldl_cons, h b (List.mem_cons_self ..)]
    exact foldl_same l _ fun i hi y => h i (List.mem_cons_of_mem _ hi) y
theorem ndL_eq (s : ByteArray) (p : Nat) {x : Nd} (h : ∀ i, i < 11 → num s p i = tell x i) : ndL s p 11 = (List.range 11).foldl (fun y i => take y i (tell x i)) nd0 := by
  unfold ndL
  refine foldl_same _ _ fun i hi y => ?_
  rw [h i (List.mem_range.1 hi)]

theorem kids_back : ∀ (K : List Nat), K.length ≤ 4 → (∀ x ∈ K, x ≠ 0) → (let a := if K.getD 0 0 = 0 then [] else ([] : List Nat) ++ [K.getD 0 0]; let b := if K.getD 1 0 = 0 then a else a ++ [K.getD 1 0]; let c := if K.getD 2 0 = 0 then b else b ++ [K.getD 2 0]; if K.getD 3 0 = 0 then c else c ++ [K.getD 3 0]) = K
  | [], _, _ => rfl
  | [a], _, h => by have := h a (by simp); simp [this]
  | [a, b], _, h => by have h1 := h a (by simp); have h2 := h b (by simp); simp [h1, h2]
  | [a, b, c], _, h => by have h1 := h a (by simp); have h2 := h b (by simp); have h3 := h c (by simp); simp [h1, h2, h3]
  | [a, b, c, d], _, h => by have h1 := h a (by simp); have h2 := h b (by simp); have h3 := h c (by simp); have h4 := h d (by simp); simp [h1, h2, h3, h4]
  | _ :: _ :: _ :: _ :: _ :: _, h, _ => by simp at h

theorem isA_ne {a : Nat} (h : isA a = true) : a ≠ 0 ∧ a % 65536 ≠ 0 := by
  simp only [isA, Bool.and_eq_true, decide_eq_true_eq] at h
  exact ⟨by omega, h.2⟩

/-- a node read out of its slot -/
theorem ndR_slot {s : ByteArray} {p : Nat} {x : Nd} (ho : NdOk x) (hs' : sub s p 48 = slotB x) : ndR s p = x := by
  obtain ⟨h8, h4, hA⟩ := ctE_ok ho.ct
  have hkn : kind x.name.data.toList ≠ 0 := by
    intro h0
    have := ho.ct
    unfold ctE at this
    rw [if_pos h0] at this
    omega
  have hL := ndL_eq s p (fun i hi => num_slot ho hs' hi)
  have t3 : trimOf ⟨(be (tell x 3) 8).toArray⟩ = x.name := by
    have e : tell x 3 = val (padOf x.name 8).data.toList := rfl
    have h9 := be_val (padOf x.name 8).data.toList
    rw [pad8_len h8] at h9
    rw [e, h9]
    show trimOf (padOf x.name 8) = _
    rw [trimOf_pad x.name 8 h8, trim_name hkn]
  have hfold : ndL s p 11 = ⟨x.at' % 65536, x.name, x.kids, x.count, x.queued, x.next⟩ := by
    rw [hL]
    have e1 : tell x 1 = if x.queued then 1 else 0 := rfl
    have e2 : tell x 2 = x.at' % 65536 := rfl
    have e5 : tell x 5 = x.count.toNat := rfl
    have e6 : tell x 6 = x.next := rfl
    have e7 : tell x 7 = x.kids.getD 0 0 := rfl
    have e8 : tell x 8 = x.kids.getD 1 0 := rfl
    have e9 : tell x 9 = x.kids.getD 2 0 := rfl
    have e10 : tell x 10 = x.kids.getD 3 0 := rfl
    obtain ⟨T, hT⟩ : ∃ T : Nat → Nat, tell x = T := ⟨_, rfl⟩
    rw [hT] at t3 e1 e2 e5 e6 e7 e8 e9 e10 ⊢
    clear hT
    have hr : List.range 11 = [0, 1, 2, 3, 4, 5, 6, 7, 8, 9, 10] := rfl
    rw [hr]
    simp only [List.foldl_cons, List.foldl_nil]
    rw [tk0, tk1]
    try dsimp only
    rw [tk2]
    try dsimp only
    rw [tk3]
    try dsimp only
    rw [tk4, tk5]
    try dsimp only
    rw [tk6]
    try dsimp only
    rw [tk7 _ (show 7 ≤ 7 by decide)]
    try dsimp only
    rw [tk7 _ (show 7 ≤ 8 by decide)]
    try dsimp only
    rw [tk7 _ (show 7 ≤ 9 by decide)]
    try dsimp only
    rw [tk7 _ (show 7 ≤ 10 by decide)]
    try dsimp only
    rw [t3, e1, e2, e5, e6, e7, e8, e9, e10]
    have hc : ((x.count.toNat : Nat) : Int) = x.count := by have := ho.c0; omega
    have hq : decide ((if x.queued = true then 1 else 0) ≠ 0) = x.queued := by cases x.queued <;> rfl
    have hk := kids_back x.kids h4 (fun y hy => (isA_ne (hA y hy)).1)
    simp only [nd0] at hk ⊢
    rw [hk, hc, hq]
  have ha := isA_ne ho.at1
  unfold ndR
  rw [hfold]
  simp only
  rw [if_neg ha.2, ← ho.hash, show x.at' / 65536 * 65536 + x.at' % 65536 = x.at' by omega]
end Go.Proofs.Ythohopbolalpcaa

