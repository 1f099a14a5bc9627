/-
  Entries: as plain data, in memory, in order.
-/
import Derived.Test.YtjocbkhjbbpkjabBld
import Derived.Test.YtjocbkhjbbpkjabRi
import Derived.Laws.Cover1
namespace Go.Proofs.Ytjocbkhjbbpkjab
open Go.RowKit
set_option linter.unusedVariables false
set_option linter.unusedSimpArgs false
set_option maxRecDepth 100000

structure Ent where
  k : ByteArray
  v : ByteArray
/-- no text is greater than can be -/
def Sml (s : ByteArray) : Prop := s.size ≤ 140737488351232
/-- entries, as they stand in memory -/
def flatE : List Ent → List Value
  | [] => []
  | p :: r => .string p.k :: .string p.v :: flatE r
theorem flatE_length : ∀ L, (flatE L).length = L.length * 2
  | [] => rfl
  | c :: r => by simp only [flatE, List.length_cons, flatE_length r]; omega
theorem flatE_append : ∀ L M, flatE (L ++ M) = flatE L ++ flatE M
  | [], M => rfl
  | c :: r, M => by simp only [List.cons_append, flatE, flatE_append r M]
theorem flatE_even : ∀ (L : List Ent) (k : Nat), (flatE L)[k * 2]? = (L[k]?).map fun c => .string c.k
  | [], k => by simp [flatE]
  | c :: r, 0 => rfl
  | c :: r, k + 1 => by
    rw [show (k + 1) * 2 = k * 2 + 1 + 1 by omega]
    simp only [flatE, List.getElem?_cons_succ]
    exact flatE_even r k
theorem flatE_odd : ∀ (L : List Ent) (k : Nat), (flatE L)[k * 2 + 1]? = (L[k]?).map fun c => .string c.v
  | [], k => by simp [flatE]
  | c :: r, 0 => rfl
  | c :: r, k + 1 => by
    rw [show (k + 1) * 2 + 1 = k * 2 + 1 + 1 + 1 by omega]
    simp only [flatE, List.getElem?_cons_succ]
    exact flatE_odd r k
theorem flatE_one : ∀ L, ∀ u ∈ flatE L, u.oneCell' = true
  | [], u, h => by simp [flatE] at h
  | c :: r, u, h => by
    simp only [flatE, List.mem_cons] at h
    rcases h with rfl | rfl | h
    · rfl
    · rfl
    · exact flatE_one r u h
theorem flatE_set : ∀ (L : List Ent) (k : Nat) (x : Ent), ((flatE L).set (k * 2) (.string x.k)).set (k * 2 + 1) (.string x.v) = flatE (L.set k x)
  | [], k, x => by simp [flatE]
  | c :: r, 0, x => rfl
  | c :: r, k + 1, x => by
    rw [show (k + 1) * 2 + 1 = k * 2 + 1 + 1 + 1 by omega, show (k + 1) * 2 = k * 2 + 1 + 1 by omega]
    simp only [flatE, List.set_cons_succ]
    rw [flatE_set r k x]
/-- a row of entries of the call's own -/
def RowE (w : World) (B : Nat) (v : Value) (L : List Ent) : Prop := w.ownsRow B 26 2 v L.length (flatE L)
theorem RowE.form {w : World} {B : Nat} {v : Value} {L : List Ent} (h : RowE w B v L) : ∃ a c, v = .slice a L.length c := own_form h
theorem RowE.on {w w' : World} {B : Nat} {v : Value} {L : List Ent} (h : RowE w B v L) (hb : Below w.heap.size w w') : RowE w' B v L := own_below h hb
theorem RowE.base {w : World} {B B' : Nat} {v : Value} {L : List Ent} (h : RowE w B v L) (hB : B' ≤ B) : RowE w B' v L := own_base h hB
theorem RowE.nil (w : World) (B : Nat) : RowE w B (.slice none 0 0) [] := World.ownsRow_nil _ _ _ _
/-- entries as they lie in memory -/
def LiesE (w : World) (v : Value) (L : List Ent) : Prop :=
  ∃ (a : Option Addr) (cap : Nat), v = .slice a L.length cap ∧ L.length ≤ cap ∧ cap ≤ maxLen ∧ ∀ k x, L[k]? = some x → ∃ b off, a = some ⟨b, off, none⟩ ∧ b < w.heap.size ∧ w.cell? ⟨b, off + k * 2, none⟩ = some (.string x.k) ∧ w.cell? ⟨b, off + k * 2 + 1, none⟩ = some (.string x.v) ∧ Sml x.k ∧ Sml x.v
theorem LiesE.on {w w' : World} {v : Value} {L : List Ent} (h : LiesE w v L) (hb : Below w.heap.size w w') : LiesE w' v L := by
  obtain ⟨a, cap, h1, h2, h3, h4⟩ := h
  refine ⟨a, cap, h1, h2, h3, fun k p hp => ?_⟩
  obtain ⟨b, off, ha, hlt, c1, c2, r⟩ := h4 k p hp
  exact ⟨b, off, ha, Nat.lt_of_lt_of_le hlt hb.size, (hb.cell (p := ⟨b, off + k * 2, none⟩) hlt).trans c1, (hb.cell (p := ⟨b, off + k * 2 + 1, none⟩) hlt).trans c2, r⟩
theorem LiesE.form {w : World} {v : Value} {L : List Ent} (h : LiesE w v L) : ∃ a c, v = .slice a L.length c := by obtain ⟨a, c, h, _⟩ := h; exact ⟨a, c, h⟩
theorem LiesE.at {w : World} {a : Option Addr} {n c : Nat} {L : List Ent} (h : LiesE w (.slice a n c) L) {k : Nat} {x : Ent} (hk : L[k]? = some x) : ∃ b off, a = some ⟨b, off, none⟩ ∧ b < w.heap.size ∧ w.cell? ⟨b, off + k * 2, none⟩ = some (.string x.k) ∧ w.cell? ⟨b, off + k * 2 + 1, none⟩ = some (.string x.v) ∧ Sml x.k ∧ Sml x.v := by
  obtain ⟨a', c', h1, _, _, h4⟩ := h
  injection h1 with e1 _ _
  subst e1
  exact h4 k x hk
/-- all texts of a list can be -/
def SmlL (L : List Ent) : Prop := ∀ x ∈ L, Sml x.k ∧ Sml x.v
theorem LiesE.sml {w : World} {v : Value} {L : List Ent} (h : LiesE w v L) : SmlL L := by
  obtain ⟨a, cap, h1, h2, h3, h4⟩ := h
  intro x hx
  obtain ⟨k, hk⟩ := List.mem_iff_getElem?.1 hx
  obtain ⟨_, _, _, _, _, _, r⟩ := h4 k x hk
  exact r
theorem LiesE.len {w : World} {v : Value} {L : List Ent} (h : LiesE w v L) : L.length ≤ maxLen := by
  obtain ⟨a, c, h1, h2, h3, h4⟩ := h
  omega
theorem RowE.lies {w : World} {B : Nat} {v : Value} {L : List Ent} (h : RowE w B v L) (hf : SmlL L) : LiesE w v L := by
  obtain ⟨a, cap, e1, h1, h2, hcc⟩ := own_cells h
  refine ⟨a, cap, e1, h1, h2, fun k p hp => ?_⟩
  obtain ⟨g, hg, _, hlt, c0, _⟩ := hcc (k * 2) (.string p.k) (by rw [flatE_even, hp]; rfl)
  obtain ⟨g', hg', _, _, c1, _⟩ := hcc (k * 2 + 1) (.string p.v) (by rw [flatE_odd, hp]; rfl)
  subst hg
  cases hg'
  obtain ⟨f1, f2⟩ := hf p (List.mem_of_getElem? hp)
  refine ⟨g, 0, rfl, hlt, ?_, ?_, f1, f2⟩
  · rw [Nat.zero_add]; exact c0
  · rw [Nat.zero_add]; exact c1
/-- a part of a list -/
theorem LiesE.part {w : World} {b off n cap i m : Nat} {L M : List Ent} (h : LiesE w (.slice (some ⟨b, off, none⟩) n cap) L) (hd : M = (L.drop i).take m) (hi : i + m ≤ L.length) : LiesE w (.slice (some ⟨b, off + i * 2, none⟩) m (cap - i)) M := by
  obtain ⟨a, cap', hv, c1, c2, hc⟩ := h
  cases hv
  have hml : M.length = m := by rw [hd, List.length_take, List.length_drop]; omega
  refine ⟨some ⟨b, off + i * 2, none⟩, cap - i, by rw [hml], by omega, by omega, fun k c hk => ?_⟩
  have hk' : L[i + k]? = some c := by
    rw [hd, List.getElem?_take] at hk
    split at hk
    · rw [← List.getElem?_drop]; exact hk
    · cases hk
  obtain ⟨b', off', ha, hlt, d1, d2, r⟩ := hc _ c hk'
  cases ha
  refine ⟨b, off + i * 2, rfl, hlt, ?_, ?_, r⟩
  · rw [show off + i * 2 + k * 2 = off + (i + k) * 2 by omega]; exact d1
  · rw [show off + i * 2 + k * 2 + 1 = off + (i + k) * 2 + 1 by omega]; exact d2
theorem LiesE.empty {w : World} (a : Option Addr) (c : Nat) (hc : c ≤ maxLen) : LiesE w (.slice a 0 c) [] := ⟨a, c, rfl, Nat.zero_le _, hc, fun k x hk => by simp at hk⟩

theorem infoE : (Try.prog.info? 26).map (fun i => (i.zero, i.size, i.bytes)) = some (some (.agg #[.string ⟨#[]⟩, .string ⟨#[]⟩]), 2, 32) := by kernel_rfl

/-- append, of entries, to a row of the call's own -/
theorem wp_ents {o : Oper} {a : Act} {K : Act → World → Prop} {Q : Exit → Act → World → Prop} (W w0 : World) (s x : Operand)
    (ho : o.op = .call { callee := .builtin .append, args := #[s, x], argTypes := #[22, 22] }) (v : Value) (M : List Ent) (m : Nat) (hm : M.length = m) (hs : a.eval s = v) (hown : RowE W w0.heap.size v M) (hB : Below w0.heap.size w0 W)
    (ad : Addr) (N : List Ent) (k c : Nat) (hk : N.length = k) (hk0 : 0 < k) (hx : a.eval x = .slice (some ad) k c) (hc : ∀ j u, (flatE N)[j]? = some u → W.cell? (ad.add j) = some u) (hlen : m + k ≤ 4398046511000)
    (h : ∀ va vc w', RowE w' w0.heap.size (.slice va (m + k) vc) (M ++ N) → Below w0.heap.size w0 w' → W.grownBy w' v.ownBlock → K (a.put o.dst (.slice va (m + k) vc)) w') : o.wp Try.prog a W K Q := by
  obtain ⟨i0, hi, hz0, hz1, hz2⟩ := info_parts infoE
  subst hm
  subst hk
  refine wp_append_blk W s x 22 ho w0.heap.size 26 i0 (.agg #[.string ⟨#[]⟩, .string ⟨#[]⟩]) 2 32 Try.underlying22 hi hz0 hz1 hz2 rfl (by decide) v M.length (flatE M) hs hown ad N.length c (flatE N) hx (flatE_length N) hc (flatE_one N) hk0 (by unfold maxLen; omega) (by omega) hB.size ?_
  intro v' w' hown' hgrow _
  obtain ⟨va, vc, hv'⟩ := own_form hown'
  subst hv'
  refine h va vc w' ?_ (hB.grown hgrow hB.size (fun g hg => ((hown : W.ownsRow w0.heap.size 26 2 _ _ _).lt g hg).1)) hgrow
  unfold RowE
  rw [List.length_append, flatE_append]
  exact hown'
theorem wpList_ents {ops : Array Oper} {rest : List Oper} {o : Oper} {a : Act} {Q : Exit → Act → World → Prop} (W w0 : World) (hgd : o.guard = none) (s x : Operand)
    (ho : o.op = .call { callee := .builtin .append, args := #[s, x], argTypes := #[22, 22] }) (v : Value) (M : List Ent) (m : Nat) (hm : M.length = m) (hs : a.eval s = v) (hown : RowE W w0.heap.size v M) (hB : Below w0.heap.size w0 W)
    (ad : Addr) (N : List Ent) (k c : Nat) (hk : N.length = k) (hk0 : 0 < k) (hx : a.eval x = .slice (some ad) k c) (hc : ∀ j u, (flatE N)[j]? = some u → W.cell? (ad.add j) = some u) (hlen : m + k ≤ 4398046511000)
    (h : ∀ va vc w', RowE w' w0.heap.size (.slice va (m + k) vc) (M ++ N) → Below w0.heap.size w0 w' → W.grownBy w' v.ownBlock → wpList Try.prog ops Q rest (a.put o.dst (.slice va (m + k) vc)) w') : wpList Try.prog ops Q (o :: rest) a W :=
  wpList_plain hgd fun K hK => wp_ents W w0 s x ho v M m hm hs hown hB ad N k c hk hk0 hx hc hlen fun va vc w' h1 h2 h3 => hK _ _ (h va vc w' h1 h2 h3)
/-- the cells of a list that lies somewhere -/
theorem LiesE.flat {w : World} {b off n c : Nat} {L : List Ent} (h : LiesE w (.slice (some ⟨b, off, none⟩) n c) L) : ∀ j u, (flatE L)[j]? = some u → w.cell? ((⟨b, off, none⟩ : Addr).add j) = some u := by
  intro j u hj
  rw [add_plain]
  rcases Nat.mod_two_eq_zero_or_one j with hm | hm
  · obtain ⟨k, rfl⟩ : ∃ k, j = k * 2 := ⟨j / 2, by omega⟩
    rw [flatE_even] at hj
    obtain ⟨x, hx, rfl⟩ := Option.map_eq_some_iff.1 hj
    obtain ⟨b', off', e, _, c1, _⟩ := h.at hx
    cases e
    exact c1
  · obtain ⟨k, rfl⟩ : ∃ k, j = k * 2 + 1 := ⟨j / 2, by omega⟩
    rw [flatE_odd] at hj
    obtain ⟨x, hx, rfl⟩ := Option.map_eq_some_iff.1 hj
    obtain ⟨b', off', e, _, _, c1, _⟩ := h.at hx
    cases e
    exact c1

/-- keys in order -/
def lt (a b : ByteArray) : Bool := Op.bytesLess a.toList b.toList
theorem bl_self : ∀ x : List UInt8, Op.bytesLess x x = false
  | [] => rfl
  | a :: x => by
    have h : ¬ a < a := fun h => by rw [UInt8.lt_iff_toNat_lt] at h; omega
    simp [Op.bytesLess, bl_self x, h]
theorem bl_trans : ∀ {x y z : List UInt8}, Op.bytesLess x y = true → Op.bytesLess y z = true → Op.bytesLess x z = true
  | x, [], _, h, _ => by simp [Op.bytesLess] at h
  | _, _ :: _, [], _, k => by simp [Op.bytesLess] at k
  | [], _ :: _, _ :: _, _, _ => rfl
  | a :: x, b :: y, c :: z, h, k => by
    simp only [Op.bytesLess, Bool.or_eq_true, Bool.and_eq_true, decide_eq_true_eq, beq_iff_eq] at h k ⊢
    rcases h with h | ⟨rfl, h⟩
    · rcases k with k | ⟨rfl, k⟩
      · left; rw [UInt8.lt_iff_toNat_lt] at *; omega
      · exact .inl h
    · rcases k with k | ⟨rfl, k⟩
      · exact .inl k
      · exact .inr ⟨rfl, bl_trans h k⟩
theorem bl_total : ∀ x y : List UInt8, Op.bytesLess x y = true ∨ x = y ∨ Op.bytesLess y x = true
  | [], [] => .inr (.inl rfl)
  | [], _ :: _ => .inl rfl
  | _ :: _, [] => .inr (.inr rfl)
  | a :: x, b :: y => by
    simp only [Op.bytesLess, Bool.or_eq_true, Bool.and_eq_true, decide_eq_true_eq, beq_iff_eq, List.cons.injEq]
    by_cases h : a = b
    · subst h
      rcases bl_total x y with h | h | h
      · exact .inl (.inr ⟨rfl, h⟩)
      · exact .inr (.inl ⟨rfl, h⟩)
      · exact .inr (.inr (.inr ⟨rfl, h⟩))
    · by_cases h2 : a < b
      · exact .inl (.inl h2)
      · refine .inr (.inr (.inl ?_))
        rw [UInt8.lt_iff_toNat_lt] at *
        have : a.toNat ≠ b.toNat := fun e => h (UInt8.toNat_inj.1 e)
        omega
theorem eq_iff (a b : ByteArray) : (a.toList == b.toList) = decide (a = b) := by
  rw [Lib.toList_data, Lib.toList_data]
  by_cases h : a = b
  · subst h; simp
  · rw [decide_eq_false h, beq_eq_false_iff_ne]
    intro e
    exact h (ByteArray.ext (Array.toList_inj.1 e))
theorem lt_self (a : ByteArray) : lt a a = false := bl_self _
theorem lt_trans {a b c : ByteArray} (h : lt a b = true) (k : lt b c = true) : lt a c = true := bl_trans h k
theorem lt_total (a b : ByteArray) : lt a b = true ∨ a = b ∨ lt b a = true := by
  rcases bl_total a.toList b.toList with h | h | h
  · exact .inl h
  · rw [Lib.toList_data, Lib.toList_data] at h
    exact .inr (.inl (ByteArray.ext (Array.toList_inj.1 h)))
  · exact .inr (.inr h)
theorem lt_asymm {a b : ByteArray} (h : lt a b = true) : lt b a = false := by
  cases k : lt b a
  · rfl
  · have := lt_trans h k
    rw [lt_self] at this
    cases this
end Go.Proofs.Ytjocbkhjbbpkjab

