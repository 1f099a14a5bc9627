/-
  What the document's Var and Fit answer.
-/
import Derived.Test.YtjpmlnigjbdnnaaDoorRefB
import Derived.Test.YtjpmlnigjbdnnaaDoorRKids
import Derived.Deep.RegionHeld3
namespace Go.Proofs.YtjpmlnigjbdnnaaDoor
open Go.RowKit
set_option linter.unusedVariables false
set_option maxRecDepth 100000
set_option linter.unusedSimpArgs false

theorem LiesB.at {w : World} {a : Option Addr} {n c : Nat} {l : List Bd} (h : LiesB w (.slice a n c) l) {i : Nat} {nm : ByteArray} {val : List Cl} (hi : l[i]? = some ⟨nm, val⟩) :
    ∃ g off x, a = some ⟨g, off, none⟩ ∧ g < w.heap.size ∧ w.cell? ⟨g, off + i * 2, none⟩ = some (.string nm) ∧ w.cell? ⟨g, off + i * 2 + 1, none⟩ = some x ∧ Lies w x val := by
  obtain ⟨a', c', hv', _, _, HC'⟩ := h
  injection hv' with e1 _ _
  subst e1
  obtain ⟨g, off, x, h1, h2, h3, h4, h5, h6⟩ := HC' i _ hi
  exact ⟨g, off, x, h1, h2, h3, h4, h5⟩
theorem LiesT.at {w : World} {a : Option Addr} {n c : Nat} {K : List (List Cl)} (h : LiesT w (.slice a n c) K) {i : Nat} {l : List Cl} (hi : K[i]? = some l) :
    ∃ g off x, a = some ⟨g, off, none⟩ ∧ g < w.heap.size ∧ w.cell? ⟨g, off + i, none⟩ = some x ∧ Lies w x l := by
  obtain ⟨a', c', hv', _, _, HC'⟩ := h
  injection hv' with e1 _ _
  subst e1
  exact HC' i _ hi
theorem OwnsT.form {w : World} {B : Nat} {v : Value} {K : List (List Cl)} (h : OwnsT w B v K) : ∃ a c, v = .slice a K.length c ∧ K.length ≤ c ∧ c ≤ maxLen := by
  obtain ⟨vs, h1, _⟩ := h
  obtain ⟨a, c, hv, h2, h3, _⟩ := own_cells h1
  exact ⟨a, c, hv, h2, h3⟩

/-- old memory below B, and all blocks that hold no binds, are as they were -/
structure Kp (B : Nat) (w w' : World) : Prop where
  low : Below B w w'
  keep : ∀ (k : Nat) (cur : Array Value) (t : TypeId), w.heap[k]? = some (.cells cur t (0, 0)) → t ≠ 102 → w'.heap[k]? = some (.cells cur t (0, 0))
theorem Kp.refl (B : Nat) (w : World) : Kp B w w := ⟨Below.refl _ _, fun _ _ _ h _ => h⟩
theorem Kp.trans {B : Nat} {a b c : World} (h : Kp B a b) (k : Kp B b c) : Kp B a c := ⟨h.low.trans k.low, fun i cur t h1 h2 => k.keep i cur t (h.keep i cur t h1 h2) h2⟩
theorem Kp.of {B : Nat} {w w' : World} (h : Below w.heap.size w w') (hB : B ≤ w.heap.size) : Kp B w w' :=
  ⟨h.mono hB, fun k cur t h1 _ => (h.block k (Array.getElem?_eq_some_iff.1 h1).1).trans h1⟩
theorem row_kp {w w' : World} {B B' : Nat} {e : TypeId} {size : Nat} {v : Value} {n : Nat} {xs : List Value} (h : w.ownsRow B e size v n xs) (hk : Kp B' w w') (he : e ≠ 102) : w'.ownsRow B e size v n xs := by
  refine ⟨h.1, ?_⟩
  rcases h.2 with hn | ⟨g, cap, cur, hv, hB, hg, rest⟩
  · exact .inl hn
  · exact .inr ⟨g, cap, cur, hv, hB, hk.keep g cur e hg he, rest⟩
theorem OwnsT.kp {w w' : World} {B B' : Nat} {v : Value} {K : List (List Cl)} (h : OwnsT w B v K) (hk : Kp B' w w') : OwnsT w' B v K := by
  obtain ⟨vs, h1, h2⟩ := h
  refine ⟨vs, row_kp h1 hk (by decide), fun j l hj => ?_⟩
  obtain ⟨x, hx, ho⟩ := h2 j l hj
  exact ⟨x, hx, row_kp ho hk (by decide)⟩
theorem grown_kp {B : Nat} {w W' : World} {v : Value} {n : Nat} {xs : List Value} {o : Obj} (hrow : w.ownsRow B 102 2 v n xs) (hB : B ≤ w.heap.size) (hg : (w.alloc o).grownBy W' v.ownBlock) : Kp B w W' := by
  refine ⟨((Below.refl B w).alloc hB o).grown hg (by simp; omega) (fun k hk => (hrow.lt k hk).1), fun k cur t h1 h2 => ?_⟩
  have hlt := (Array.getElem?_eq_some_iff.1 h1).1
  have e1 : (w.alloc o).heap[k]? = w.heap[k]? := heap_alloc_old w o hlt
  rw [hg.block k (by simp; omega) (fun e => ?_), e1, h1]
  rcases hrow.2 with ⟨rfl, _⟩ | ⟨g, cap, cur', rfl, _, hgg, _⟩
  · simp [Value.ownBlock] at e
  · simp only [Value.ownBlock, Option.some.injEq] at e
    subst e
    rw [h1] at hgg
    cases hgg
    exact h2 rfl

/-- right binds -/
def Good (acc : List Bd) : Prop := ∀ b ∈ acc, check b.val = 0 ∧ kind b.nm.data.toList = 2
theorem Good.fine {acc : List Bd} (h : Good acc) : ∀ b ∈ acc, Fine b.val ∧ b.nm.size ≤ 9223372036854775807 := fun b hb => by
  obtain ⟨h1, h2⟩ := h b hb
  exact ⟨fine_check h1, by have := nm_size h2; omega⟩
theorem Good.more {acc : List Bd} (h : Good acc) {nm : ByteArray} {v : List Cl} (hv : check v = 0) (hk : kind nm.data.toList = 2) : Good (acc ++ [⟨nm, v⟩]) := fun b hb => by
  rcases List.mem_append.1 hb with hb | hb
  · exact h b hb
  · simp at hb; subst hb; exact ⟨hv, hk⟩
theorem fitF_cons (nm nm' : ByteArray) (k k' r r' : Fo) (acc : List Bd) : fitF (.cons nm k r) (.cons nm' k' r') acc = (fitF (.cons nm k .nil) (.cons nm' k' .nil) acc).bind (fitF r r') := by
  rw [fitF, fitF]
  by_cases h : kind nm.data.toList = 2
  · rw [if_pos h, if_pos h]
    cases look acc nm with
    | none => rfl
    | some v =>
      simp only
      split
      · rfl
      · rfl
  · rw [if_neg h, if_neg h]
    split
    · cases fitF k k' acc <;> rfl
    · rfl
theorem fitF_good : ∀ (f g : Fo) (acc acc' : List Bd), fitF f g acc = some acc' → (∀ c ∈ g.flat, cellErr c = 0) → g.size ≤ 64 → Good acc → Good acc' ∧ acc'.length ≤ acc.length + f.size
  | .nil, .nil, acc, acc', h, _, _, hg => by cases h; exact ⟨hg, by omega⟩
  | .nil, .cons _ _ _, acc, acc', h, _, _, _ => by cases h
  | .cons _ _ _, .nil, acc, acc', h, _, _, _ => by cases h
  | .cons nm k r, .cons nm' k' r', acc, acc', h, hc, hs, hg => by
    rw [fitF] at h
    simp only [Fo.size] at hs
    have hcr : ∀ c ∈ r'.flat, cellErr c = 0 := fun c hc' => hc c (by simp [Fo.flat, hc'])
    have hck : ∀ c ∈ k'.flat, cellErr c = 0 := fun c hc' => hc c (by simp [Fo.flat, hc'])
    have hpc : check (Fo.cons nm' k' .nil).flat = 0 := check_of rfl (by simp only [Fo.size]; omega) (cellsErr_zero.2 fun c hc' => hc c (by rw [Fo.flat_cons]; exact List.mem_append.2 (.inl hc')))
    by_cases hk : kind nm.data.toList = 2
    · rw [if_pos hk] at h
      cases hl : look acc nm with
      | none =>
        rw [hl] at h
        obtain ⟨h1, h2⟩ := fitF_good r r' _ acc' h hcr (by omega) (hg.more hpc hk)
        refine ⟨h1, ?_⟩
        rw [List.length_append] at h2
        simp only [List.length_cons, List.length_nil] at h2
        simp only [Fo.size]
        omega
      | some v =>
        rw [hl] at h
        simp only at h
        split at h
        · obtain ⟨h1, h2⟩ := fitF_good r r' _ acc' h hcr (by omega) hg
          exact ⟨h1, by simp only [Fo.size]; omega⟩
        · cases h
    · rw [if_neg hk] at h
      split at h
      · cases h3 : fitF k k' acc with
        | none => rw [h3] at h; cases h
        | some a =>
          rw [h3] at h
          obtain ⟨h1, h2⟩ := fitF_good k k' acc a h3 hck (by omega) hg
          obtain ⟨h4, h5⟩ := fitF_good r r' a acc' h hcr (by omega) h1
          exact ⟨h4, by simp only [Fo.size]; omega⟩
      · cases h

theorem var_any (w : World) (v : Value) (nm : ByteArray) (kd : Fo) (hv : Lies w v (Fo.cons nm kd .nil).flat) (hE : check (Fo.cons nm kd .nil).flat = 0) :
    Calls Tryd.prog 37 #[v] w fun e w' => e = .returned (.bool (decide (kind nm.data.toList = 2))) ∧ w = w' := by
  have hcell := cellsErr_zero.1 (check_zero hE).2.1 ⟨nm, (kd.len : Nat)⟩ (by simp [Fo.flat])
  have hn8 : nm.size ≤ 8 := (name_len hcell).2
  have hkd := fun w => rKind_any nm w (by unfold maxLen; omega)
  have hpl := (plainly_of (.cons nm kd .nil) (cellsErr_zero.1 (check_zero hE).2.1)).1
  have hlen : (Fo.cons nm kd .nil).flat.length = kd.size + 1 := by rw [Fo.flat_length]; simp [Fo.size]
  obtain ⟨a, cap, rfl, hc1, hc2, _, HC⟩ := hv
  obtain ⟨b, off, rfl, _, d1, _⟩ := HC 0 ⟨nm, (kd.len : Nat)⟩ (by simp [Fo.flat])
  simp only [Nat.zero_mul, Nat.add_zero] at d1
  rw [hlen]
  clear HC hc1 hlen hE hcell
  by_cases hk : kind nm.data.toList = 2
  · have e := hpl hk
    subst e
    rw [decide_eq_true hk]
    rw [hk] at hkd
    have z : Fo.nil.size + 1 = 1 := rfl
    rw [z]
    clear hpl hk z
    go_enter Tryd.func37, Tryd.ntmps37
    go_wp2_with (first | (go_at_call 68; refine (hkd _).mono ?_; rintro e w1 ⟨rfl, rfl⟩))
    go_ret
    exact ⟨rfl, rfl⟩
  · rw [decide_eq_false hk]
    generalize kind nm.data.toList = q at hkd hk
    have q1 : ((q : Int) == 2) = false := by simp only [beq_eq_false_iff_ne]; omega
    have q2 : ¬ (q : Int) = 2 := by omega
    by_cases h0 : kd.size = 0
    · rw [h0]
      clear hpl hk h0
      go_enter Tryd.func37, Tryd.ntmps37
      go_wp2_with (first | (go_at_call 68; refine (hkd _).mono ?_; rintro e w1 ⟨rfl, rfl⟩))
      go_ret
      exact ⟨rfl, rfl⟩
    · generalize hZ : kd.size + 1 = Z
      have z1 : ((Z : Int) == 1) = false := by simp only [beq_eq_false_iff_ne]; omega
      have z2 : ¬ (Z : Int) = 1 := by omega
      have z3 : ¬ Z = 1 := by omega
      clear hpl hk h0 hZ
      go_enter Tryd.func37, Tryd.ntmps37
      go_wp2_with fail
      go_ret
      exact ⟨rfl, rfl⟩

/-- how the document's Fit ends -/
def RFits (B : Nat) (r : Option (List Bd)) (e : Ending) (w' : World) : Prop :=
  match r with
  | none => ∃ v', e = .returned (.tuple #[v', .bool false])
  | some acc => ∃ v', e = .returned (.tuple #[v', .bool true]) ∧ OwnsB w' B v' acc

end Go.Proofs.YtjpmlnigjbdnnaaDoor
