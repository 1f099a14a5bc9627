/-
  The document's Unpack: plain.
-/
import Derived.Test.YtjocbkhjbbpkjaaRq
namespace Go.Proofs.Ytjocbkhjbbpkjaa
open Go.RowKit
set_option linter.unusedVariables false
set_option linter.unusedSimpArgs false
set_option maxRecDepth 100000

theorem rdT_end {l : List UInt8} {a : Nat} (h : l.length ≤ a) : rdT (l.drop a) = none := by
  rw [List.drop_eq_nil_of_le h]; rfl
theorem rdT_at {l : List UInt8} {a : Nat} {c : UInt8} (hl : l.length = 256) (hc : l[a]? = some c) : rdT (l.drop a) = if 255 - a < c.toNat then none else some ((l.drop (a + 1)).take c.toNat, l.drop (a + 1 + c.toNat)) := by
  have ha : a < 256 := by have := (List.getElem?_eq_some_iff.1 hc).1; omega
  rw [drop_cons hc]
  show (if (l.drop (a + 1)).length < c.toNat then none else some ((l.drop (a + 1)).take c.toNat, (l.drop (a + 1)).drop c.toNat)) = _
  rw [List.length_drop, hl, List.drop_drop]
  have e : 256 - (a + 1) = 255 - a := by omega
  rw [e]
/-- the two texts of an entry, one after the other -/
def Inn (l : List UInt8) (a k a' : Nat) (t0 t1 : ByteArray) : Prop :=
  (k = 0 ∧ a' = a ∧ t0 = ⟨#[]⟩ ∧ t1 = ⟨#[]⟩) ∨ (k = 1 ∧ ∃ t, rdT (l.drop a) = some (t, l.drop a') ∧ t0 = bt t ∧ t1 = ⟨#[]⟩) ∨ (k = 2 ∧ ∃ t m u, rdT (l.drop a) = some (t, m) ∧ rdT m = some (u, l.drop a') ∧ t0 = bt t ∧ t1 = bt u)
theorem Inn.zero (l : List UInt8) (a : Nat) : Inn l a 0 a ⟨#[]⟩ ⟨#[]⟩ := .inl ⟨rfl, rfl, rfl, rfl⟩
theorem Inn.step0 {l : List UInt8} {a a' a2 : Nat} {t0 t1 : ByteArray} {t : List UInt8} (h : Inn l a 0 a' t0 t1) (hr : rdT (l.drop a') = some (t, l.drop a2)) : Inn l a 1 a2 (bt t) t1 := by
  rcases h with ⟨_, rfl, _, h1⟩ | ⟨h0, _⟩ | ⟨h0, _⟩
  · exact .inr (.inl ⟨rfl, t, hr, rfl, h1⟩)
  · cases h0
  · cases h0
theorem Inn.step1 {l : List UInt8} {a a' a2 : Nat} {t0 t1 : ByteArray} {u : List UInt8} (h : Inn l a 1 a' t0 t1) (hr : rdT (l.drop a') = some (u, l.drop a2)) : Inn l a 2 a2 t0 (bt u) := by
  rcases h with ⟨h0, _⟩ | ⟨_, t, h1, h2, _⟩ | ⟨h0, _⟩
  · cases h0
  · exact .inr (.inr ⟨rfl, t, _, u, h1, hr, h2, rfl⟩)
  · cases h0
theorem txt_short (l : List UInt8) : (txt l true).2.2 = true := by
  cases h : rdT l with
  | none => rw [txt_none h]
  | some p => obtain ⟨t, m⟩ := p; rw [txt_some h]
theorem ent1_short (l : List UInt8) : (ent1 (l, true)).2.2 = true := by
  show (txt (txt l true).2.1 (txt l true).2.2).2.2 = true
  rw [txt_short]
  exact txt_short _
theorem Inn.fail {l : List UInt8} {a k a' : Nat} {t0 t1 : ByteArray} (h : Inn l a k a' t0 t1) (hk : k < 2) (hr : rdT (l.drop a') = none) : (ent1 (l.drop a, false)).2.2 = true := by
  show (txt (txt (l.drop a) false).2.1 (txt (l.drop a) false).2.2).2.2 = true
  rcases h with ⟨_, rfl, _, h1⟩ | ⟨_, t, h1, h2, _⟩ | ⟨h0, _⟩
  · rw [txt_none hr]
    exact txt_short _
  · rw [txt_some h1, txt_none hr]
  · omega
theorem Inn.done {l : List UInt8} {a a' : Nat} {t0 t1 : ByteArray} (h : Inn l a 2 a' t0 t1) : ent1 (l.drop a, false) = (⟨t0, t1⟩, l.drop a', false) := by
  show ((⟨bt (txt (l.drop a) false).1, bt (txt (txt (l.drop a) false).2.1 (txt (l.drop a) false).2.2).1⟩ : Ent), (txt (txt (l.drop a) false).2.1 (txt (l.drop a) false).2.2).2) = _
  rcases h with ⟨h0, _⟩ | ⟨h0, _⟩ | ⟨_, t, m, u, h1, h2, h3, h4⟩
  · cases h0
  · cases h0
  · rw [txt_some h1, txt_some h2, h3, h4]
theorem Inn.sml {l : List UInt8} {a a' : Nat} {t0 t1 : ByteArray} (h : Inn l a 2 a' t0 t1) : Sml t0 ∧ Sml t1 := by
  rcases h with ⟨h0, _⟩ | ⟨h0, _⟩ | ⟨_, t, m, u, h1, h2, h3, h4⟩
  · cases h0
  · cases h0
  · have := (rdT_len h1).1
    have := (rdT_len h2).1
    rw [h3, h4]
    unfold Sml
    rw [bt_len, bt_len]
    omega
theorem goR_short : ∀ (n m : Nat) (p : List UInt8 × Bool), (goR n p).2.2 = true → n ≤ m → (goR m p).2.2 = true
  | n, 0, p, h, hm => by obtain rfl : n = 0 := by omega
                         exact h
  | n, m + 1, p, h, hm => by
    rcases Nat.lt_or_ge m n with c | c
    · obtain rfl : n = m + 1 := by omega
      exact h
    · have h1 := goR_short n m p h c
      show (ent1 (goR m p).2).2.2 = true
      have e : (goR m p).2 = ((goR m p).2.1, true) := by rw [← h1]
      rw [e]
      exact ent1_short _
theorem unp_len {l : List UInt8} (h : l.length ≠ 256) : unp l = none := by
  cases hu : unp l with
  | none => rfl
  | some p =>
    obtain ⟨k, M⟩ := p
    obtain ⟨h1, h2⟩ := unp_some hu
    obtain ⟨_, _, h3⟩ := packE_zero h1
    have e : packS (k : Int) M = pageB ((k : Int)).toNat M := by unfold packS; rw [if_pos h1]
    have := page_size (k := ((k : Int)).toNat) h3
    rw [← e, h2, bt_len] at this
    exact absurd this h
theorem rdS_two (c d : UInt8) (l : List UInt8) : rdS (c :: d :: l) = (c.toNat, (goR d.toNat (l, false)).1, !(goR d.toNat (l, false)).2.2) := rfl
theorem unp_short {l : List UInt8} {c d : UInt8} {m : List UInt8} {n : Nat} (hl : l = c :: d :: m) (hn : n ≤ d.toNat) (h : (goR n (m, false)).2.2 = true) : unp l = none := by
  unfold unp
  rw [hl, rdS_two, goR_short n d.toNat _ h hn]
  rw [if_neg]
  rintro ⟨h, _⟩
  cases h
theorem unp_whole {l : List UInt8} {c d : UInt8} {m : List UInt8} (hl : l = c :: d :: m) (h : (goR d.toNat (m, false)).2.2 = false) : unp l = if packE (c.toNat : Nat) (goR d.toNat (m, false)).1 = 0 ∧ packS (c.toNat : Nat) (goR d.toNat (m, false)).1 = bt l then some (c.toNat, (goR d.toNat (m, false)).1) else none := by
  unfold unp
  rw [hl, rdS_two, h]
  simp
end Go.Proofs.Ytjocbkhjbbpkjaa

