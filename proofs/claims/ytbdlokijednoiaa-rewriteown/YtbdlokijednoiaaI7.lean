/-
  What slices.Insert does to a row of texts of the call's own; where slices.BinarySearch finds a text.
-/
import Derived.Test.YtbdlokijednoiaaBA
import Derived.Test.YtbdlokijednoiaaMany
import Derived.Deep.DeepAppendWide
import Derived.Test.YtbdlokijednoiaaShelf7
import Derived.Laws.IdiomCopy
import Derived.Lib.SliceRun
namespace Go.Proofs.Ytbdlokijednoiaa
open Go.RowKit
set_option linter.unusedVariables false
set_option linter.unusedSimpArgs false
set_option maxRecDepth 100000
set_option maxHeartbeats 2000000 in

theorem info71 : (Try.prog.info? 51).map (fun i => (i.zero, i.size, i.bytes)) = some (some (.agg #[.int .i64 0, .string ⟨#[]⟩, .int .i64 0, .slice none 0 0]), 4, 56) := by kernel_rfl
theorem info69 : (Try.prog.info? 56).map (fun i => (i.zero, i.size, i.bytes)) = some (some (.agg #[.int .i64 0, .slice none 0 0, .slice none 0 0]), 3, 56) := by kernel_rfl

/-- an op as it stands in memory: its kind, its cell, where its value is -/
structure Ow where
  k : Int
  c : Cl
  x : Value
def flatO : List Ow → List Value
  | [] => []
  | o :: r => .int .i64 o.k :: .string o.c.nm :: .int .i64 o.c.ar :: o.x :: flatO r
theorem flatO_length : ∀ l, (flatO l).length = l.length * 4
  | [] => rfl
  | o :: r => by simp only [flatO, List.length_cons, flatO_length r]; omega
theorem flatO_append : ∀ l m, flatO (l ++ m) = flatO l ++ flatO m
  | [], m => rfl
  | o :: r, m => by simp only [List.cons_append, flatO, flatO_append r m]
theorem flatO_at : ∀ (l : List Ow) (k : Nat) (o : Ow), l[k]? = some o → (flatO l)[k * 4]? = some (.int .i64 o.k) ∧ (flatO l)[k * 4 + 1]? = some (.string o.c.nm) ∧ (flatO l)[k * 4 + 2]? = some (.int .i64 o.c.ar) ∧ (flatO l)[k * 4 + 3]? = some o.x
  | [], k, o, h => by simp at h
  | a :: r, 0, o, h => by simp at h; subst h; exact ⟨rfl, rfl, rfl, rfl⟩
  | a :: r, k + 1, o, h => by
    have := flatO_at r k o (by simpa using h)
    simp only [show (k + 1) * 4 = k * 4 + 1 + 1 + 1 + 1 by omega, flatO, List.getElem?_cons_succ]
    exact this
theorem flatO_take : ∀ (l : List Ow) (k : Nat), (flatO l).take (k * 4) = flatO (l.take k)
  | [], k => by simp [flatO]
  | o :: r, 0 => by simp [flatO]
  | o :: r, k + 1 => by
    rw [show (k + 1) * 4 = k * 4 + 1 + 1 + 1 + 1 by omega]
    simp only [flatO, List.take_succ_cons, flatO_take r k]
theorem flatO_one : ∀ l : List Ow, (∀ o ∈ l, o.x.oneCell' = true) → ∀ u ∈ flatO l, u.oneCell' = true
  | [], _, u, h => by simp [flatO] at h
  | o :: r, hx, u, h => by
    simp only [flatO, List.mem_cons] at h
    rcases h with rfl | rfl | rfl | rfl | h
    · rfl
    · rfl
    · rfl
    · exact hx o (by simp)
    · exact flatO_one r (fun p hp => hx p (by simp [hp])) u h

/-- a part of a row of the call's own -/
theorem own_take {w : World} {B : Nat} {e : TypeId} {size : Nat} {a : Option Addr} {n cap m : Nat} {xs : List Value} (h : w.ownsRow B e size (.slice a n cap) n xs) (hm : m ≤ n) : w.ownsRow B e size (.slice a m cap) m (xs.take (m * size)) := by
  obtain ⟨h1, h2⟩ := h
  refine ⟨by rw [List.length_take, h1]; exact Nat.min_eq_left (Nat.mul_le_mul_right _ hm), ?_⟩
  rcases h2 with ⟨hv, hn⟩ | ⟨g, cap', cur, hv, hB, hg, q1, q2, q3, q4⟩
  · cases hv
    left
    exact ⟨by congr 1; omega, by omega⟩
  · cases hv
    right
    refine ⟨g, cap, cur, rfl, hB, hg, by omega, q2, q3, ?_⟩
    rw [← q4, List.take_take, Nat.min_eq_left (Nat.mul_le_mul_right _ hm)]
theorem own_apart7 {w w' : World} {B B' : Nat} {e e' : TypeId} {size size' : Nat} {v v' : Value} {n n' : Nat} {xs ys : List Value} (h : w.ownsRow B e size v n xs) (h' : w.ownsRow B' e' size' v' n' ys) (hne : e ≠ e') (hg : w.grownBy w' v'.ownBlock) : w'.ownsRow B e size v n xs := by
  refine h.kept hg ?_
  rcases h.2 with ⟨rfl, _⟩ | ⟨g, cap, cur, rfl, _, q, _⟩
  · exact .inl rfl
  · right
    rcases h'.2 with ⟨rfl, _⟩ | ⟨g', cap', cur', rfl, _, q', _⟩
    · simp [Value.ownBlock]
    · intro e2
      simp only [Value.ownBlock, Option.some.injEq] at e2
      subst e2
      rw [q] at q'
      cases q'
      exact hne rfl

/-- old memory below B, and all blocks of cells, are as they were -/
structure K7 (B : Nat) (w w' : World) : Prop where
  low : Below B w w'
  keep : ∀ (k : Nat) (cur : Array Value) (t : TypeId), w.heap[k]? = some (.cells cur t (0, 0)) → t = 49 ∨ t = 117 → w'.heap[k]? = some (.cells cur t (0, 0))
theorem K7.refl (B : Nat) (w : World) : K7 B w w := ⟨Below.refl _ _, fun _ _ _ h _ => h⟩
theorem K7.base {A B : Nat} {w w' : World} (h : K7 B w w') (hA : A ≤ B) : K7 A w w' := ⟨h.low.mono hA, h.keep⟩
theorem K7.trans {B : Nat} {a b c : World} (h : K7 B a b) (k : K7 B b c) : K7 B a c := ⟨h.low.trans k.low, fun i cur t h1 h2 => k.keep i cur t (h.keep i cur t h1 h2) h2⟩
theorem K7.of {B : Nat} {w w' : World} (h : Below w.heap.size w w') (hB : B ≤ w.heap.size) : K7 B w w' :=
  ⟨h.mono hB, fun k cur t h1 _ => (h.block k (Array.getElem?_eq_some_iff.1 h1).1).trans h1⟩
theorem K7.grown {B : Nat} {w w' : World} {row : Option Nat} (hg : w.grownBy w' row) (hB : B ≤ w.heap.size) (hr : ∀ k, row = some k → B ≤ k ∧ ∃ cur t, w.heap[k]? = some (.cells cur t (0, 0)) ∧ t ≠ 49 ∧ t ≠ 117) : K7 B w w' := by
  refine ⟨(Below.refl B w).grown hg hB (fun k hk => (hr k hk).1), fun k cur t h1 ht => ?_⟩
  have hlt := (Array.getElem?_eq_some_iff.1 h1).1
  rw [hg.block k hlt (fun e => ?_), h1]
  obtain ⟨_, cur', t', h2, h3, h4⟩ := hr k e.symm
  rw [h1] at h2
  cases h2
  rcases ht with rfl | rfl
  · exact h3 rfl
  · exact h4 rfl
theorem K7.row {B : Nat} {w w' : World} {e : TypeId} {size : Nat} {v : Value} {n : Nat} {xs : List Value} (h : w.ownsRow B e size v n xs) (he : e ≠ 49 ∧ e ≠ 117) (hB : B ≤ w.heap.size) (hg : w.grownBy w' v.ownBlock) : K7 B w w' := by
  refine K7.grown hg hB fun k hk => ?_
  rcases h.2 with ⟨rfl, _⟩ | ⟨g, cap, cur, rfl, hBg, q, _⟩
  · simp [Value.ownBlock] at hk
  · simp only [Value.ownBlock, Option.some.injEq] at hk
    subst hk
    exact ⟨hBg, cur, e, q, he⟩
theorem K7.blk {B : Nat} {w : World} {p i : Nat} {cs : Array Value} {t : TypeId} (h : Blk w p cs t) (ht : t ≠ 49 ∧ t ≠ 117) (hB : B ≤ p) (u : Value) : K7 B w (w.setCell ⟨p, i, none⟩ u) := by
  have := h.lt
  exact K7.grown (set_grown w p i u) (by omega) (fun k hk => by cases hk; exact ⟨hB, cs, t, h, ht⟩)

/-- a term that lies in old memory, or in a block of cells -/
def VL (B : Nat) (w : World) (x : Value) (L : List Cl) : Prop :=
  Lies w x L ∧ ∀ a n c, L ≠ [] → x = .slice (some a) n c → a.block < B ∨ ∃ cur, w.heap[a.block]? = some (.cells cur 49 (0, 0))
theorem VL.on {B : Nat} {w w' : World} {x : Value} {L : List Cl} (h : VL B w x L) (hk : K7 B w w') : VL B w' x L := by
  obtain ⟨⟨a, cap, hv, h2, h3, hf, h4⟩, h5⟩ := h
  have hbl : L ≠ [] → ∀ ad, a = some ad → w'.heap[ad.block]? = w.heap[ad.block]? := by
    intro hne ad ha
    subst ha
    rcases h5 ad _ _ hne hv with h | ⟨cur, h⟩
    · exact hk.low.block _ h
    · exact (hk.keep _ _ _ h (.inl rfl)).trans h.symm
  refine ⟨⟨a, cap, hv, h2, h3, hf, fun k c hc => ?_⟩, fun ad n c hne hx => ?_⟩
  · obtain ⟨b, off, ha, hlt, c1, c2⟩ := h4 k c hc
    have hb : w'.heap[b]? = w.heap[b]? := hbl (fun e => by rw [e] at hc; simp at hc) _ ha
    have hlt' : b < w'.heap.size := by
      rcases Nat.lt_or_ge b w'.heap.size with h' | h'
      · exact h'
      · rw [Array.getElem?_eq_none h', Array.getElem?_eq_getElem hlt] at hb
        cases hb
    exact ⟨b, off, ha, hlt', (World.cell?_of_block (a := ⟨b, off + k * 2, none⟩) hb).trans c1, (World.cell?_of_block (a := ⟨b, off + k * 2 + 1, none⟩) hb).trans c2⟩
  · rcases h5 ad n c hne hx with h | ⟨cur, h⟩
    · exact .inl h
    · exact .inr ⟨cur, hk.keep _ _ _ h (.inl rfl)⟩
theorem row_k7 {w w' : World} {B B' : Nat} {e : TypeId} {size : Nat} {v : Value} {n : Nat} {xs : List Value} (h : w.ownsRow B e size v n xs) (hk : K7 B' w w') (he : e = 49 ∨ e = 117) : w'.ownsRow B e size v n xs := by
  refine ⟨h.1, ?_⟩
  rcases h.2 with hn | ⟨g, cap, cur, hv, hB, hg, rest⟩
  · exact .inl hn
  · exact .inr ⟨g, cap, cur, hv, hB, hk.keep g cur e hg he, rest⟩
theorem VL.lies {B : Nat} {w : World} {x : Value} {L : List Cl} (h : VL B w x L) : Lies w x L := h.1
theorem VL.old {B : Nat} {w : World} {x : Value} {L : List Cl} (h : Lies w x L) (hB : w.heap.size ≤ B) : VL B w x L := by
  refine ⟨h, fun a n c hne hx => ?_⟩
  obtain ⟨a', cap, hv, h2, h3, hf, h4⟩ := h
  cases L with
  | nil => exact absurd rfl hne
  | cons c0 r =>
    obtain ⟨b, off, ha, hlt, _⟩ := h4 0 c0 rfl
    rw [hx] at hv
    cases hv
    cases ha
    exact .inl (Nat.lt_of_lt_of_le hlt hB)
theorem VL.own {B B' : Nat} {w : World} {x : Value} {L : List Cl} (h : Owns w B' x L) (hf : Fine L) : VL B w x L := by
  refine ⟨Owns.lies h hf, fun a n c hne hx => ?_⟩
  rcases h.2 with ⟨hv, hn⟩ | ⟨g, cap, cur, hv, _, hg, _⟩
  · rw [hx] at hv; cases hv
  · rw [hx] at hv
    cases hv
    exact .inr ⟨cur, hg⟩

/-- ops of the call's own row, the values wherever -/
def OpsV (V : Value → List Cl → Prop) (w : World) (B : Nat) (v : Value) (ops : List Opr) : Prop :=
  ∃ os : List Ow, os.length = ops.length ∧ w.ownsRow B 51 4 v ops.length (flatO os) ∧ ∀ (i : Nat) o, ops[i]? = some o → ∃ x, os[i]? = some ⟨o.k, o.c, x⟩ ∧ x.oneCell' = true ∧ V x o.v
def ValsV (V : Value → List Cl → Prop) (w : World) (B : Nat) (v : Value) (K : List (List Cl)) : Prop :=
  ∃ vs : List Value, w.ownsRow B 24 1 v K.length vs ∧ ∀ (i : Nat) l, K[i]? = some l → ∃ x, vs[i]? = some x ∧ x.oneCell' = true ∧ V x l
/-- ops, as they lie in memory -/
def LiesO (w : World) (v : Value) (ops : List Opr) : Prop :=
  ∃ a cap, v = .slice a ops.length cap ∧ ops.length ≤ cap ∧ cap ≤ maxLen ∧ ∀ (i : Nat) o, ops[i]? = some o → ∃ g off x, a = some ⟨g, off, none⟩ ∧ g < w.heap.size ∧ w.cell? ⟨g, off + i * 4, none⟩ = some (.int .i64 o.k) ∧ w.cell? ⟨g, off + i * 4 + 1, none⟩ = some (.string o.c.nm) ∧ w.cell? ⟨g, off + i * 4 + 2, none⟩ = some (.int .i64 o.c.ar) ∧ w.cell? ⟨g, off + i * 4 + 3, none⟩ = some x ∧ Lies w x o.v ∧ o.c.nm.size ≤ 9223372036854775807 ∧ (-9223372036854775808 ≤ o.k ∧ o.k ≤ 9223372036854775807) ∧ (-9223372036854775808 ≤ o.c.ar ∧ o.c.ar ≤ 9223372036854775807)
theorem LiesO.on {w w' : World} {v : Value} {ops : List Opr} (h : LiesO w v ops) (hb : Below w.heap.size w w') : LiesO w' v ops := by
  obtain ⟨a, cap, hv, c1, c2, c3⟩ := h
  refine ⟨a, cap, hv, c1, c2, fun i o hi => ?_⟩
  obtain ⟨g, off, x, ha, hlt, q0, q1, q2, q3, hl, h5, h6, h7⟩ := c3 i o hi
  exact ⟨g, off, x, ha, Nat.lt_of_lt_of_le hlt hb.size, (hb.cell (p := ⟨g, off + i * 4, none⟩) hlt).trans q0, (hb.cell (p := ⟨g, off + i * 4 + 1, none⟩) hlt).trans q1, (hb.cell (p := ⟨g, off + i * 4 + 2, none⟩) hlt).trans q2, (hb.cell (p := ⟨g, off + i * 4 + 3, none⟩) hlt).trans q3, hl.on hb, h5, h6, h7⟩
theorem Lies.one {w : World} {x : Value} {L : List Cl} (h : Lies w x L) : x.oneCell' = true := by
  obtain ⟨a, cap, rfl, _⟩ := h
  rfl
theorem OpsV.on {V V' : Value → List Cl → Prop} {w w' : World} {B : Nat} {v : Value} {ops : List Opr} (h : OpsV V w B v ops) (hb : Below w.heap.size w w') (hV : ∀ x l, V x l → V' x l) : OpsV V' w' B v ops := by
  obtain ⟨os, h0, h1, h2⟩ := h
  refine ⟨os, h0, own_below h1 hb, fun i o hi => ?_⟩
  obtain ⟨x, hx, hc, hv⟩ := h2 i o hi
  exact ⟨x, hx, hc, hV x _ hv⟩
theorem ValsV.on {V V' : Value → List Cl → Prop} {w w' : World} {B : Nat} {v : Value} {K : List (List Cl)} (h : ValsV V w B v K) (hb : Below w.heap.size w w') (hV : ∀ x l, V x l → V' x l) : ValsV V' w' B v K := by
  obtain ⟨os, h1, h2⟩ := h
  refine ⟨os, own_below h1 hb, fun i o hi => ?_⟩
  obtain ⟨x, hx, hc, hv⟩ := h2 i o hi
  exact ⟨x, hx, hc, hV x _ hv⟩
/-- ops of a call's own lie in memory -/
theorem OpsV.lies {V : Value → List Cl → Prop} {w : World} {B : Nat} {v : Value} {ops : List Opr} (h : OpsV V w B v ops) (hV : ∀ x l, V x l → Lies w x l) (hok : ∀ o ∈ ops, o.c.nm.size ≤ 9223372036854775807 ∧ (-9223372036854775808 ≤ o.k ∧ o.k ≤ 9223372036854775807) ∧ (-9223372036854775808 ≤ o.c.ar ∧ o.c.ar ≤ 9223372036854775807)) : LiesO w v ops := by
  obtain ⟨os, h0, h1, h2⟩ := h
  obtain ⟨a, cap, hv, c1, c2, c3⟩ := own_cells h1
  refine ⟨a, cap, hv, c1, c2, fun i o hi => ?_⟩
  obtain ⟨x, hx, _, ho⟩ := h2 i o hi
  obtain ⟨f0, f1, f2, f3⟩ := flatO_at os i _ hx
  obtain ⟨g, ha, _, hlt, q0⟩ := c3 _ _ f0
  subst ha
  obtain ⟨g1, e1, _, _, q1⟩ := c3 _ _ f1
  obtain ⟨g2, e2, _, _, q2⟩ := c3 _ _ f2
  obtain ⟨g3, e3, _, _, q3⟩ := c3 _ _ f3
  cases e1; cases e2; cases e3
  exact ⟨g, 0, x, rfl, hlt, by rw [Nat.zero_add]; exact q0, by rw [Nat.zero_add]; exact q1, by rw [Nat.zero_add]; exact q2, by rw [Nat.zero_add]; exact q3, hV _ _ ho, hok o (List.mem_of_getElem? hi)⟩
theorem ValsV.lies {V : Value → List Cl → Prop} {w : World} {B : Nat} {v : Value} {K : List (List Cl)} (h : ValsV V w B v K) (hV : ∀ x l, V x l → Lies w x l) : LiesT w v K := by
  obtain ⟨vs, h1, h2⟩ := h
  obtain ⟨a, cap, hv, c1, c2, c3⟩ := own_cells h1
  refine ⟨a, cap, hv, c1, c2, fun j l hj => ?_⟩
  obtain ⟨x, hx, _, ho⟩ := h2 j l hj
  obtain ⟨g, ha, _, hlt, hc⟩ := c3 j x hx
  exact ⟨g, 0, x, ha, hlt, by rw [Nat.zero_add]; exact hc, hV _ _ ho⟩

/-- rules, as they lie in memory -/
def LiesR (w : World) (v : Value) (rs : List Rl) : Prop :=
  ∃ a cap, v = .slice a rs.length cap ∧ rs.length ≤ cap ∧ cap ≤ maxLen ∧ ∀ (i : Nat) r, rs[i]? = some r → ∃ g off x y, a = some ⟨g, off, none⟩ ∧ g < w.heap.size ∧ w.cell? ⟨g, off + i * 3, none⟩ = some (.int .i64 r.id) ∧ w.cell? ⟨g, off + i * 3 + 1, none⟩ = some x ∧ w.cell? ⟨g, off + i * 3 + 2, none⟩ = some y ∧ Lies w x r.l ∧ Lies w y r.r ∧ (-9223372036854775808 ≤ r.id ∧ r.id ≤ 9223372036854775807)
theorem LiesR.on {w w' : World} {v : Value} {rs : List Rl} (h : LiesR w v rs) (hb : Below w.heap.size w w') : LiesR w' v rs := by
  obtain ⟨a, cap, hv, c1, c2, c3⟩ := h
  refine ⟨a, cap, hv, c1, c2, fun i o hi => ?_⟩
  obtain ⟨g, off, x, y, ha, hlt, q0, q1, q2, hl, hr, h5⟩ := c3 i o hi
  exact ⟨g, off, x, y, ha, Nat.lt_of_lt_of_le hlt hb.size, (hb.cell (p := ⟨g, off + i * 3, none⟩) hlt).trans q0, (hb.cell (p := ⟨g, off + i * 3 + 1, none⟩) hlt).trans q1, (hb.cell (p := ⟨g, off + i * 3 + 2, none⟩) hlt).trans q2, hl.on hb, hr.on hb, h5⟩

theorem step_append_wide {P : Program} {ops : Array Oper} {o : Oper} {a : Act} {w : World} {K : Act → World → Prop} {Q : Exit → Act → World → Prop} {E : Prop}
    (hg : o.guard = none) (s x : Operand) (t : TypeId) (hop : o.op = Op.call { callee := Callee.builtin Builtin.append, args := #[s, x], argTypes := #[t, t] })
    (base : Nat) (e : TypeId) (i : TypeInfo) (z : Value) (size bytes : Nat) (ht : P.underlying t = some (.slice e)) (hi : P.info? e = some i) (hz : i.zero = some z)
    (hsize : i.size = size) (hby : i.bytes = bytes) (hzs : z.cells.size = size) (hsz : 0 < size)
    (v : Value) (n : Nat) (xs : List Value) (hs : a.eval s = v) (hown : w.ownsRow base e size v n xs)
    (ad : Addr) (m c : Nat) (news : List Value) (hx : a.eval x = .slice (some ad) m c) (hl : news.length = m * size) (hnews : ∀ j u, news[j]? = some u → w.cell? (ad.add j) = some u) (h1 : ∀ u ∈ news, u.oneCell' = true)
    (h63 : n + m ≤ maxLen) (hbytes : ((n + m) + (n + m) / 4 + 192) * bytes ≤ 281474976710656) (hbase : base ≤ w.heap.size)
    (h : ∀ v' w', w'.ownsRow base e size v' (n + m) (xs ++ news) → w.grownBy w' v.ownBlock → K (a.put o.dst v') w') :
    if Region.wanted o (yielded ops a.tmps) = true then Oper.wp P o a w K Q else E := by
  have hw : Region.wanted o (yielded ops a.tmps) = true := by simp [Region.wanted, hg]
  rw [if_pos hw]
  exact wp_append_own_wide w s x t hop base e i z size bytes ht hi hz hsize hby hzs hsz v n xs hs hown ad m c news hx hl hnews h1 h63 hbytes hbase fun v' w' h2 h3 _ => h v' w' h2 h3

theorem fits_wide {n m b : Nat} (h : (m + m / 4 + 192) * b ≤ 281474976710656) (hn : n ≤ m) : (n + n / 4 + 192) * b ≤ 281474976710656 := Nat.le_trans (Nat.mul_le_mul_right _ (by omega)) h
theorem wide_of {n b : Nat} (h : n * b ≤ 140737488355328) (hb : b ≤ 1000) : (n + n / 4 + 192) * b ≤ 281474976710656 := by
  have h1 : n / 4 * b * 4 ≤ n * b := by rw [Nat.mul_right_comm]; exact Nat.mul_le_mul_right _ (Nat.div_mul_le_self n 4)
  rw [Nat.add_mul, Nat.add_mul]
  generalize n / 4 * b = x at h1 ⊢
  generalize n * b = y at h h1 ⊢
  omega
theorem get_app {α : Type} {l m : List α} {i : Nat} {x : α} (h : (l ++ m)[i]? = some x) : (i < l.length ∧ l[i]? = some x) ∨ (l.length ≤ i ∧ m[i - l.length]? = some x) := by
  by_cases hi : i < l.length
  · rw [List.getElem?_append_left hi] at h; exact .inl ⟨hi, h⟩
  · rw [List.getElem?_append_right (by omega)] at h; exact .inr ⟨by omega, h⟩
theorem OpsV.more {V V' : Value → List Cl → Prop} {W : World} {B : Nat} {v : Value} {ops nops : List Opr} {os ns : List Ow} (hol : os.length = ops.length) (hel : ∀ (i : Nat) o, ops[i]? = some o → ∃ x, os[i]? = some ⟨o.k, o.c, x⟩ ∧ x.oneCell' = true ∧ V x o.v)
    (hnl : ns.length = nops.length) (hnew : ∀ (i : Nat) o, nops[i]? = some o → ∃ x, ns[i]? = some ⟨o.k, o.c, x⟩ ∧ x.oneCell' = true ∧ V' x o.v) (hown : W.ownsRow B 51 4 v (ops.length + nops.length) (flatO os ++ flatO ns)) (hV : ∀ x l, V x l → V' x l) : OpsV V' W B v (ops ++ nops) := by
  refine ⟨os ++ ns, by simp [hol, hnl], by rw [List.length_append, flatO_append]; exact hown, fun i o hi => ?_⟩
  rcases get_app hi with ⟨h1, h2⟩ | ⟨h1, h2⟩
  · obtain ⟨x, hx, hc, hv⟩ := hel i o h2
    exact ⟨x, by rw [List.getElem?_append_left (by omega)]; exact hx, hc, hV _ _ hv⟩
  · obtain ⟨x, hx, hc, hv⟩ := hnew _ o h2
    exact ⟨x, by rw [List.getElem?_append_right (by omega), hol]; exact hx, hc, hv⟩
theorem ValsV.more {V V' : Value → List Cl → Prop} {W : World} {B : Nat} {v : Value} {K N : List (List Cl)} {vs ns : List Value} (hvl : vs.length = K.length) (hel : ∀ (i : Nat) l, K[i]? = some l → ∃ x, vs[i]? = some x ∧ x.oneCell' = true ∧ V x l)
    (hnew : ∀ (i : Nat) l, N[i]? = some l → ∃ x, ns[i]? = some x ∧ x.oneCell' = true ∧ V' x l) (hown : W.ownsRow B 24 1 v (K.length + N.length) (vs ++ ns)) (hV : ∀ x l, V x l → V' x l) : ValsV V' W B v (K ++ N) := by
  refine ⟨vs ++ ns, by rw [List.length_append]; exact hown, fun i o hi => ?_⟩
  rcases get_app hi with ⟨h1, h2⟩ | ⟨h1, h2⟩
  · obtain ⟨x, hx, hc, hv⟩ := hel i o h2
    exact ⟨x, by rw [List.getElem?_append_left (by omega)]; exact hx, hc, hV _ _ hv⟩
  · obtain ⟨x, hx, hc, hv⟩ := hnew _ o h2
    exact ⟨x, by rw [List.getElem?_append_right (by omega), hvl]; exact hx, hc, hv⟩
theorem one_get {α : Type} {a : α} {i : Nat} {x : α} (h : [a][i]? = some x) : i = 0 ∧ x = a := by
  cases i with
  | zero => simp at h; exact ⟨rfl, h.symm⟩
  | succ i => simp at h
/-- four cells in a new block -/
theorem four_cells (W : World) (a b c d : Value) (t : TypeId) : ∀ j u, [a, b, c, d][j]? = some u → (W.alloc (.cells #[a, b, c, d] t)).cell? ((⟨W.heap.size, 0, none⟩ : Addr).add j) = some u := by
  intro j u hj
  match j, hj with
  | 0, hj => simp at hj; subst hj; simp [Addr.add]
  | 1, hj => simp at hj; subst hj; simp [Addr.add]
  | 2, hj => simp at hj; subst hj; simp [Addr.add]
  | 3, hj => simp at hj; subst hj; simp [Addr.add]
theorem set4 {w : World} {k : Nat} {a b c d : Value} {t : TypeId} (h : Blk w k #[a, b, c, d] t) (x y z u : Value) : Blk ((((w.setCell ⟨k, 0, none⟩ x).setCell ⟨k, 1, none⟩ y).setCell ⟨k, 2, none⟩ z).setCell ⟨k, 3, none⟩ u) k #[x, y, z, u] t ∧ w.grownBy ((((w.setCell ⟨k, 0, none⟩ x).setCell ⟨k, 1, none⟩ y).setCell ⟨k, 2, none⟩ z).setCell ⟨k, 3, none⟩ u) (some k) :=
  ⟨(((h.set 0 x).set 1 y).set 2 z).set 3 u, (((set_grown w k 0 x).trans (set_grown _ k 1 y)).trans (set_grown _ k 2 z)).trans (set_grown _ k 3 u)⟩
theorem row_len {w : World} {B : Nat} {e : TypeId} {v : Value} {n : Nat} {vs : List Value} (h : w.ownsRow B e 1 v n vs) : vs.length = n := by have := h.1; omega
/-- a row and a block of another sort -/
theorem row_blk {w w' : World} {B : Nat} {e : TypeId} {size : Nat} {v : Value} {n : Nat} {xs : List Value} {p : Nat} {cs : Array Value} {t : TypeId} (h : w.ownsRow B e size v n xs) (hp : Blk w p cs t) (hne : e ≠ t) (hg : w.grownBy w' (some p)) : w'.ownsRow B e size v n xs := by
  refine h.kept hg ?_
  rcases h.2 with ⟨rfl, _⟩ | ⟨g, cap, cur, rfl, _, q, _⟩
  · exact .inl rfl
  · right
    intro e2
    simp only [Value.ownBlock, Option.some.injEq] at e2
    subst e2
    unfold Blk at hp
    rw [q] at hp
    cases hp
    exact hne rfl
/-- a block and a row of another sort -/
theorem blk_row {w w' : World} {B : Nat} {e : TypeId} {size : Nat} {v : Value} {n : Nat} {xs : List Value} {p : Nat} {cs : Array Value} {t : TypeId} (hp : Blk w p cs t) (h : w.ownsRow B e size v n xs) (hne : e ≠ t) (hg : w.grownBy w' v.ownBlock) : Blk w' p cs t := by
  refine (hg.block p hp.lt ?_).trans hp
  rcases h.2 with ⟨rfl, _⟩ | ⟨g, cap, cur, rfl, _, q, _⟩
  · simp [Value.ownBlock]
  · intro e2
    simp only [Value.ownBlock, Option.some.injEq] at e2
    subst e2
    unfold Blk at hp
    rw [q] at hp
    cases hp
    exact hne rfl

theorem OpsV.apart {w w' : World} {B B' : Nat} {v v' : Value} {ops : List Opr} {e : TypeId} {size n : Nat} {xs : List Value} (h : OpsV (Owns w B) w B v ops) (hr : w.ownsRow B' e size v' n xs) (he : 51 ≠ e) (he2 : 49 ≠ e) (hg : w.grownBy w' v'.ownBlock) : OpsV (Owns w' B) w' B v ops := by
  obtain ⟨os, h0, h1, h2⟩ := h
  refine ⟨os, h0, own_apart7 h1 hr he hg, fun i o hi => ?_⟩
  obtain ⟨x, hx, hc, hv⟩ := h2 i o hi
  exact ⟨x, hx, hc, own_apart7 hv hr he2 hg⟩
theorem OpsV.blk {w w' : World} {B : Nat} {v : Value} {ops : List Opr} {p : Nat} {cs : Array Value} {t : TypeId} (h : OpsV (Owns w B) w B v ops) (hp : Blk w p cs t) (he : 51 ≠ t) (he2 : 49 ≠ t) (hg : w.grownBy w' (some p)) : OpsV (Owns w' B) w' B v ops := by
  obtain ⟨os, h0, h1, h2⟩ := h
  refine ⟨os, h0, row_blk h1 hp he hg, fun i o hi => ?_⟩
  obtain ⟨x, hx, hc, hv⟩ := h2 i o hi
  exact ⟨x, hx, hc, row_blk hv hp he2 hg⟩
theorem OpsV.below {w w' : World} {B : Nat} {v : Value} {ops : List Opr} (h : OpsV (Owns w B) w B v ops) (hb : Below w.heap.size w w') : OpsV (Owns w' B) w' B v ops := OpsV.on h hb (fun x l hx => own_below hx hb)
theorem ValsV.apart {w w' : World} {B B' : Nat} {v v' : Value} {K : List (List Cl)} {e : TypeId} {size n : Nat} {xs : List Value} (h : ValsV (Owns w B) w B v K) (hr : w.ownsRow B' e size v' n xs) (he : 24 ≠ e) (he2 : 49 ≠ e) (hg : w.grownBy w' v'.ownBlock) : ValsV (Owns w' B) w' B v K := by
  obtain ⟨os, h1, h2⟩ := h
  refine ⟨os, own_apart7 h1 hr he hg, fun i o hi => ?_⟩
  obtain ⟨x, hx, hc, hv⟩ := h2 i o hi
  exact ⟨x, hx, hc, own_apart7 hv hr he2 hg⟩
theorem ValsV.blk {w w' : World} {B : Nat} {v : Value} {K : List (List Cl)} {p : Nat} {cs : Array Value} {t : TypeId} (h : ValsV (Owns w B) w B v K) (hp : Blk w p cs t) (he : 24 ≠ t) (he2 : 49 ≠ t) (hg : w.grownBy w' (some p)) : ValsV (Owns w' B) w' B v K := by
  obtain ⟨os, h1, h2⟩ := h
  refine ⟨os, row_blk h1 hp he hg, fun i o hi => ?_⟩
  obtain ⟨x, hx, hc, hv⟩ := h2 i o hi
  exact ⟨x, hx, hc, row_blk hv hp he2 hg⟩
theorem ValsV.below {w w' : World} {B : Nat} {v : Value} {K : List (List Cl)} (h : ValsV (Owns w B) w B v K) (hb : Below w.heap.size w w') : ValsV (Owns w' B) w' B v K := ValsV.on h hb (fun x l hx => own_below hx hb)

theorem OpsV.form {V : Value → List Cl → Prop} {w : World} {B : Nat} {v : Value} {ops : List Opr} (h : OpsV V w B v ops) : ∃ a c, v = .slice a ops.length c := by
  obtain ⟨_, _, h1, _⟩ := h
  obtain ⟨a, c, hv, _⟩ := own_cells h1
  exact ⟨a, c, hv⟩
theorem ValsV.form {V : Value → List Cl → Prop} {w : World} {B : Nat} {v : Value} {K : List (List Cl)} (h : ValsV V w B v K) : ∃ a c, v = .slice a K.length c := by
  obtain ⟨_, h1, _⟩ := h
  obtain ⟨a, c, hv, _⟩ := own_cells h1
  exact ⟨a, c, hv⟩
theorem OwnsS.form {w : World} {B : Nat} {v : Value} {S : List ByteArray} (h : OwnsS w B v S) : ∃ a c, v = .slice a S.length c := by
  obtain ⟨a, c, hv, _⟩ := own_cells h
  exact ⟨a, c, hv⟩

theorem own_of {w : World} {B g n cap : Nat} {cur : Array Value} {t : TypeId} {xs : List Value} (hg : Blk w g cur t) (hB : B ≤ g) (h1 : n ≤ cap) (h2 : cap ≤ maxLen) (h3 : cur.size = cap) (hl : xs.length = n) (hc : ∀ j x, xs[j]? = some x → w.cell? ⟨g, j, none⟩ = some x) : w.ownsRow B t 1 (.slice (some ⟨g, 0, none⟩) n cap) n xs := by
  refine ⟨by omega, .inr ⟨g, cap, cur, rfl, hB, hg, h1, h2, by omega, ?_⟩⟩
  apply List.ext_getElem?
  intro j
  rw [List.getElem?_take, Nat.mul_one]
  by_cases hj : j < n
  · rw [if_pos hj]
    have := hc j xs[j] (List.getElem?_eq_getElem (by omega))
    rw [Lib.cell_of_heap hg] at this
    have hx := List.getElem?_eq_getElem (l := xs) (i := j) (by omega)
    rw [hx]
    simpa using this
  · rw [if_neg hj, List.getElem?_eq_none (by omega)]
theorem blk_cells (g : Nat) (t : TypeId) : ∀ (vs : List Value) (o : Nat) (w : World) (cs : Array Value), Blk w g cs t → ∃ cs', Blk (w.setCells g o vs) g cs' t ∧ cs'.size = cs.size
  | [], o, w, cs, h => ⟨cs, h, rfl⟩
  | v :: r, o, w, cs, h => by
    obtain ⟨cs', h1, h2⟩ := blk_cells g t r (o + 1) _ _ (h.set o v)
    exact ⟨cs', h1, by rw [h2, Array.size_setIfInBounds]⟩
theorem grown_cells (g : Nat) : ∀ (vs : List Value) (o : Nat) (w : World), w.grownBy (w.setCells g o vs) (some g)
  | [], o, w => ⟨rfl, rfl, rfl, Nat.le_refl _, fun _ _ _ => rfl⟩
  | v :: r, o, w => (set_grown w g o v).trans (grown_cells g r (o + 1) _)
theorem grown_drew (w : World) (r : Option Nat) : w.grownBy w.drew r := ⟨rfl, rfl, rfl, Nat.le_refl _, fun _ _ _ => rfl⟩
theorem ins_get {cs : List Value} {k j : Nat} {x y : Value} (hk : k ≤ cs.length) (h : (cs.take k ++ x :: cs.drop k)[j]? = some y) : (j < k ∧ cs[j]? = some y) ∨ (j = k ∧ y = x) ∨ (k < j ∧ cs[j - 1]? = some y) := by
  have hl : (cs.take k).length = k := by rw [List.length_take]; omega
  rcases get_app h with ⟨h1, h2⟩ | ⟨h1, h2⟩
  · rw [List.getElem?_take] at h2
    split at h2
    · left; exact ⟨by omega, h2⟩
    · cases h2
  · rw [hl] at h1 h2
    by_cases e : j = k
    · subst e
      rw [Nat.sub_self] at h2
      simp at h2
      exact .inr (.inl ⟨rfl, h2.symm⟩)
    · right; right
      refine ⟨by omega, ?_⟩
      obtain ⟨m, hm⟩ : ∃ m, j - k = m + 1 := ⟨j - k - 1, by omega⟩
      rw [hm, List.getElem?_cons_succ, List.getElem?_drop] at h2
      rw [show j - 1 = k + m by omega]
      exact h2
theorem ins_len {cs : List Value} {k : Nat} {x : Value} (hk : k ≤ cs.length) : (cs.take k ++ x :: cs.drop k).length = cs.length + 1 := by
  simp only [List.length_append, List.length_take, List.length_cons, List.length_drop]
  omega
theorem insert_row (w : World) (B : Nat) (v : Value) (cs : List Value) (h : w.ownsRow B 9 1 v cs.length cs) (k : Nat) (hk : k ≤ cs.length) (x : Value) (hx : x.oneCell' = true) (h1 : ∀ u ∈ cs, u.oneCell' = true) (vb : Nat) (hv : Blk w vb #[x] 9) (hne : ∀ g, v.ownBlock = some g → vb ≠ g) (hB : B ≤ w.heap.size) (hz : (cs.length + 1) * 16 ≤ 140737488355328) :
    Calls Try.prog 86 #[v, .int .i64 (k : Nat), .slice (some ⟨vb, 0, none⟩) 1 1] w fun e w' => ∃ v', e = .returned v' ∧ w'.ownsRow B 9 1 v' (cs.length + 1) (cs.take k ++ x :: cs.drop k) ∧ w.grownBy w' v.ownBlock ∧ (v'.ownBlock = v.ownBlock ∨ ∃ g, v'.ownBlock = some g ∧ w.heap.size ≤ g) := by
  have hvs : ∀ j u, [x][j]? = some u → w.cell? ⟨vb, 0 + j, none⟩ = some u := fun j u hj => by
    obtain ⟨rfl, rfl⟩ := one_get hj
    exact hv.cell rfl
  have h1v : ∀ u ∈ [x], u.oneCell' = true := fun u hu => by simp at hu; subst hu; exact hx
  have hml : (cs.length + 1 : Nat) ≤ maxLen := by unfold maxLen; omega
  rcases h.2 with ⟨rfl, hn⟩ | ⟨g, cap, cur, rfl, hBg, hg, q1, q2, q3, q4⟩
  · have hcs : cs = [] := List.eq_nil_of_length_eq_zero hn
    subst hcs
    obtain rfl : k = 0 := by simpa using hk
    refine (Try.slices_Insert_string_end_grow none 0 0 vb 0 1 1 [] [x] w (by omega) (Nat.le_refl _) (by omega) (by omega) rfl rfl (fun _ => rfl) (fun a h => by cases h) hvs h1v).mono ?_
    rintro e w' ⟨rfl, rfl⟩
    refine ⟨_, rfl, ?_, ⟨rfl, rfl, rfl, by simp, fun j hj _ => heap_alloc_old w.drew _ hj⟩, .inr ⟨_, rfl, Nat.le_refl _⟩⟩
    refine own_of (Blk.made w.drew _ 9) (by exact hB) (grownCap_ge _ _ _ _) (grownCap_le_maxLen _ _ _ _ (by simpa using hml)) ?_ rfl ?_
    · have := grownCap_ge w (0 + 1) 0 9
      rw [Array.size_append, size_zeroCells]
      simp only [List.size_toArray, List.nil_append, List.length_cons, List.length_nil, Value.cells]
      try simp only [List.size_toArray, List.length_cons, List.length_nil]
      omega
    · intro j y hj
      refine (Blk.made w.drew _ 9).cell ?_
      rw [Array.getElem?_append_left (by have := (List.getElem?_eq_some_iff.1 hj).1; simpa using this)]
      simpa using hj
  · have hcur : ∀ j y, cs[j]? = some y → w.cell? ⟨g, j, none⟩ = some y := fun j y hj => by
      obtain ⟨a', c', e, _, _, hc⟩ := own_cells h
      cases e
      obtain ⟨g', e, _, _, hh⟩ := hc j y hj
      cases e; exact hh
    have hcs0 : ∀ j y, cs[j]? = some y → w.cell? ⟨g, 0 + j, none⟩ = some y := fun j y hj => by rw [Nat.zero_add]; exact hcur j y hj
    have hgB : Blk w g cur 9 := hg
    have hcz : cur.size = cap := by omega
    have hne2 : vb ≠ g := hne g rfl
    have h63 : cap ≤ 9223372036854775807 := by unfold maxLen at q2; omega
    by_cases hroom : cs.length + 1 ≤ cap
    · have hsp : ∀ j, j < cs.length + 1 → (w.cell? ⟨g, 0 + j, none⟩).isSome = true := fun j hj => by
        rw [Nat.zero_add, hgB.cell (i := j) (v := cur[j]'(by omega)) (Array.getElem?_eq_getElem (by omega))]; rfl
      have hfz : ∀ j, j < cs.length + 1 → w.frozen? ⟨g, 0 + j, none⟩ = false := fun j _ => hgB.free _
      by_cases hlt : k < cs.length
      · refine (Try.slices_Insert_string_shift g 0 cs.length cap k vb 0 1 1 cs [x] w hlt (by omega) hroom h63 hne2 rfl rfl hcs0 hsp hfz hvs h1 h1v 9 9 1 cap ?_ ?_ (by omega) (hv.free _) (hv.free _)).mono ?_
        · unfold Blk at hv
          simp [World.shape?, hv]
        · unfold Blk at hgB
          simp [World.shape?, hgB, hcz]
        · rintro e w' ⟨rfl, rfl⟩
          have hd : Blk w.drew g cur 9 := hgB
          obtain ⟨c1, b1, z1⟩ := blk_cells g 9 (cs.drop k) (0 + (k + 1)) w.drew cur hd
          obtain ⟨c2, b2, z2⟩ := blk_cells g 9 [x] (0 + k) _ c1 b1
          refine ⟨_, rfl, own_of b2 hBg hroom q2 (by omega) (ins_len hk) ?_, ((grown_drew w _).trans (grown_cells g _ _ _)).trans (grown_cells g _ _ _), .inl rfl⟩
          intro j y hj
          rcases ins_get hk hj with ⟨h1, h2⟩ | ⟨rfl, rfl⟩ | ⟨h1, h2⟩
          · rw [World.cell?_setCells_out g _ _ _ ⟨g, j, none⟩ (fun _ _ => by show j < 0 + k ∨ _; omega), World.cell?_setCells_out g _ _ _ ⟨g, j, none⟩ (fun _ _ => by show j < 0 + (k + 1) ∨ _; omega)]
            exact hcur j y h2
          · have := World.cell?_setCells_in g [y] (0 + j) (w.drew.setCells g (0 + (j + 1)) (cs.drop j)) (fun i hi => by
              obtain rfl : i = 0 := by simpa using hi
              rw [b1.cell (i := 0 + j + 0) (v := c1[0 + j + 0]'(by omega)) (Array.getElem?_eq_getElem (by omega))]; rfl) 0 (by simp)
            simpa using this
          · rw [World.cell?_setCells_out g [x] _ _ ⟨g, j, none⟩ (fun _ _ => by show j < _ ∨ 0 + k + [x].length ≤ j; right; simp; omega)]
            have hjl := (List.getElem?_eq_some_iff.1 h2).1
            have := World.cell?_setCells_in g (cs.drop k) (0 + (k + 1)) w.drew (fun i hi => by
              rw [List.length_drop] at hi
              rw [hd.cell (i := 0 + (k + 1) + i) (v := cur[0 + (k + 1) + i]'(by omega)) (Array.getElem?_eq_getElem (by omega))]; rfl) (j - (k + 1)) (by rw [List.length_drop]; omega)
            rw [show 0 + (k + 1) + (j - (k + 1)) = j by omega] at this
            rw [this]
            have e2 : (cs.drop k)[j - (k + 1)]? = some y := by rw [List.getElem?_drop, show k + (j - (k + 1)) = j - 1 by omega]; exact h2
            rw [List.getElem?_eq_getElem (by rw [List.length_drop]; omega)] at e2
            exact e2
      · obtain rfl : k = cs.length := by omega
        refine (Try.slices_Insert_string_end_room g 0 cs.length cap vb 0 1 1 [x] w (by omega) hroom h63 rfl (fun j hj => ?_) (fun j _ => hgB.free _) hvs h1v).mono ?_
        · have := hsp (cs.length + j) (by omega)
          rw [show 0 + cs.length + j = 0 + (cs.length + j) by omega]; exact this
        · rintro e w' ⟨rfl, rfl⟩
          obtain ⟨c2, b2, z2⟩ := blk_cells g 9 [x] (0 + cs.length) w cur hgB
          refine ⟨_, rfl, own_of b2 hBg hroom q2 (by omega) (ins_len hk) ?_, grown_cells g _ _ _, .inl rfl⟩
          intro j y hj
          rcases ins_get hk hj with ⟨h1, h2⟩ | ⟨rfl, rfl⟩ | ⟨h1, h2⟩
          · rw [World.cell?_setCells_out g _ _ _ ⟨g, j, none⟩ (fun _ _ => by show j < 0 + cs.length ∨ _; omega)]
            exact hcur j y h2
          · have := World.cell?_setCells_in g [y] (0 + cs.length) w (fun i hi => by
              obtain rfl : i = 0 := by simpa using hi
              exact hsp _ (by omega)) 0 (by simp)
            simpa using this
          · have := (List.getElem?_eq_some_iff.1 h2).1; omega
    · by_cases hlt : k < cs.length
      · refine (Try.slices_Insert_string_grow g 0 cs.length cap k vb 0 1 1 cs [x] w hlt (by omega) q1 (by omega) hz rfl rfl hcs0 hvs h1 h1v).mono ?_
        rintro e w' ⟨rfl, rfl⟩
        have hge := grownCap_ge w (cs.length + 1) cap 9
        generalize hA : ((cs.take k).toArray ++ Builtin.zeroCells (Value.string ⟨#[]⟩).cells (cs.length + 1 - k) ++ Builtin.zeroCells (Value.string ⟨#[]⟩).cells (grownCap w (cs.length + 1) cap 9 - (cs.length + 1))) = A
        have hAs : A.size = grownCap w (cs.length + 1) cap 9 := by
          rw [← hA]
          simp only [Array.size_append, size_zeroCells, List.size_toArray, List.length_take, Value.cells]
          try simp only [List.size_toArray, List.length_cons, List.length_nil]
          omega
        have hA0 : ∀ j y, j < k → cs[j]? = some y → A[j]? = some y := fun j y hj hy => by
          rw [← hA, Array.getElem?_append_left (by simp; omega), Array.getElem?_append_left (by simp; omega)]
          simp [List.getElem?_take, hj, hy]
        clear hA
        have hb0 : Blk (w.alloc (.cells A 9)).drew w.heap.size A 9 := Blk.made w A 9
        obtain ⟨c1, b1, z1⟩ := blk_cells w.heap.size 9 [x] k _ A hb0
        have hb1 : Blk (((w.alloc (.cells A 9)).drew.setCells w.heap.size k [x]).drew) w.heap.size c1 9 := b1
        obtain ⟨c2, b2, z2⟩ := blk_cells w.heap.size 9 (cs.drop k) (k + 1) _ c1 hb1
        refine ⟨_, rfl, own_of b2 hB hge (grownCap_le_maxLen _ _ _ _ hml) (by omega) (ins_len hk) ?_, ?_, .inr ⟨_, rfl, Nat.le_refl _⟩⟩
        · intro j y hj
          rcases ins_get hk hj with ⟨h1, h2⟩ | ⟨rfl, rfl⟩ | ⟨h1, h2⟩
          · rw [World.cell?_setCells_out w.heap.size _ _ _ ⟨w.heap.size, j, none⟩ (fun _ _ => by show j < k + 1 ∨ _; omega)]
            show ((w.alloc (.cells A 9)).drew.setCells w.heap.size k [x]).cell? ⟨w.heap.size, j, none⟩ = _
            rw [World.cell?_setCells_out w.heap.size _ _ _ ⟨w.heap.size, j, none⟩ (fun _ _ => by show j < k ∨ _; omega)]
            exact hb0.cell (hA0 j y h1 h2)
          · rw [World.cell?_setCells_out w.heap.size _ _ _ ⟨w.heap.size, j, none⟩ (fun _ _ => by show j < j + 1 ∨ _; omega)]
            show ((w.alloc (.cells A 9)).drew.setCells w.heap.size j [y]).cell? ⟨w.heap.size, j, none⟩ = _
            have := World.cell?_setCells_in w.heap.size [y] j (w.alloc (.cells A 9)).drew (fun i hi => by
              obtain rfl : i = 0 := by simpa using hi
              rw [hb0.cell (i := j + 0) (v := A[j + 0]'(by omega)) (Array.getElem?_eq_getElem (by omega))]; rfl) 0 (by simp)
            simpa using this
          · have hjl := (List.getElem?_eq_some_iff.1 h2).1
            have := World.cell?_setCells_in w.heap.size (cs.drop k) (k + 1) (((w.alloc (.cells A 9)).drew.setCells w.heap.size k [x]).drew) (fun i hi => by
              rw [List.length_drop] at hi
              rw [hb1.cell (i := k + 1 + i) (v := c1[k + 1 + i]'(by omega)) (Array.getElem?_eq_getElem (by omega))]; rfl) (j - (k + 1)) (by rw [List.length_drop]; omega)
            rw [show k + 1 + (j - (k + 1)) = j by omega] at this
            rw [this]
            have e2 : (cs.drop k)[j - (k + 1)]? = some y := by rw [List.getElem?_drop, show k + (j - (k + 1)) = j - 1 by omega]; exact h2
            rw [List.getElem?_eq_getElem (by rw [List.length_drop]; omega)] at e2
            exact e2
        · have g1 : w.grownBy (w.alloc (.cells A 9)) (some g) := ⟨rfl, rfl, rfl, by simp, fun j hj _ => heap_alloc_old w _ hj⟩
          have g2 : (w.alloc (.cells A 9)).drew.grownBy ((w.alloc (.cells A 9)).drew.setCells w.heap.size k [x]) (some w.heap.size) := grown_cells _ _ _ _
          have g3 := grown_cells w.heap.size (cs.drop k) (k + 1) (((w.alloc (.cells A 9)).drew.setCells w.heap.size k [x]).drew)
          refine ⟨g3.os.trans g2.os, g3.tape.trans g2.tape, g3.output.trans g2.output, Nat.le_trans (by simp) (Nat.le_trans g2.size g3.size), fun j hj _ => ?_⟩
          have hj1 : j < (w.alloc (.cells A 9)).heap.size := by simp; omega
          have hj2 : some j ≠ some w.heap.size := fun e => by cases e; omega
          exact (g3.block j (Nat.lt_of_lt_of_le hj1 g2.size) hj2).trans ((g2.block j hj1 hj2).trans (heap_alloc_old w _ hj))
      · obtain rfl : k = cs.length := by omega
        refine (Try.slices_Insert_string_end_grow (some ⟨g, 0, none⟩) cs.length cap vb 0 1 1 cs [x] w (by omega) q1 (by omega) hz rfl rfl (fun h => by cases h) (fun a h => by cases h; exact World.ownsRow.cells ‹_› rfl) hvs h1v).mono ?_
        rintro e w' ⟨rfl, rfl⟩
        have hge := grownCap_ge w (cs.length + 1) cap 9
        refine ⟨_, rfl, ?_, ⟨rfl, rfl, rfl, by simp, fun j hj _ => heap_alloc_old w.drew _ hj⟩, .inr ⟨_, rfl, Nat.le_refl _⟩⟩
        refine own_of (Blk.made w.drew _ 9) (by exact hB) hge (grownCap_le_maxLen _ _ _ _ hml) ?_ (ins_len hk) ?_
        · rw [Array.size_append, size_zeroCells]
          simp only [List.size_toArray, List.length_append, List.length_cons, List.length_nil, Value.cells]
          try simp only [List.size_toArray, List.length_cons, List.length_nil]
          omega
        · intro j y hj
          have hj2 : (cs ++ [x])[j]? = some y := by
            have e : cs.take cs.length ++ x :: cs.drop cs.length = cs ++ [x] := by simp
            rw [e] at hj; exact hj
          refine (Blk.made w.drew _ 9).cell ?_
          rw [Array.getElem?_append_left (by have := (List.getElem?_eq_some_iff.1 hj2).1; simpa using this)]
          simpa using hj2

/-- one name more, at its place -/
theorem insert_any (w : World) (B : Nat) (v : Value) (S : List ByteArray) (h : OwnsS w B v S) (k : Nat) (hk : k ≤ S.length) (x : ByteArray) (vb : Nat) (hv : Blk w vb #[.string x] 9) (hne : ∀ g, v.ownBlock = some g → vb ≠ g) (hB : B ≤ w.heap.size) (hz : (S.length + 1) * 16 ≤ 140737488355328) :
    Calls Try.prog 86 #[v, .int .i64 (k : Nat), .slice (some ⟨vb, 0, none⟩) 1 1] w fun e w' => ∃ v', e = .returned v' ∧ OwnsS w' B v' (S.take k ++ x :: S.drop k) ∧ w.grownBy w' v.ownBlock ∧ (v'.ownBlock = v.ownBlock ∨ ∃ g, v'.ownBlock = some g ∧ w.heap.size ≤ g) := by
  have hr : w.ownsRow B 9 1 v (S.map Value.string).length (S.map Value.string) := by rw [List.length_map]; exact h
  refine (insert_row w B v (S.map Value.string) hr k (by rw [List.length_map]; exact hk) (.string x) rfl (fun u hu => by obtain ⟨y, _, rfl⟩ := List.mem_map.1 hu; rfl) vb hv hne hB (by rw [List.length_map]; exact hz)).mono ?_
  rintro e w' ⟨v', h1, h2, h3⟩
  refine ⟨v', h1, ?_, h3⟩
  show World.ownsRow _ _ _ _ _ _ _
  rw [List.length_map] at h2
  have e1 : (S.take k ++ x :: S.drop k).length = S.length + 1 := by simp only [List.length_append, List.length_take, List.length_cons, List.length_drop]; omega
  rw [e1, List.map_append, List.map_cons, List.map_take, List.map_drop]
  exact h2
/-- where a name belongs -/
theorem search_any (w : World) (v : Value) (S : List ByteArray) (h : LiesS w v S) (hu : Up S) (x : ByteArray) (hl : S.length ≤ 3512479453921) :
    Calls Try.prog 85 #[v, .string x] w fun e w' => e = .returned (.tuple #[.int .i64 (low S x : Nat), .bool (decide (S[low S x]? = some x))]) ∧ ∃ q, w' = w.drewN q := by
  obtain ⟨a, cap, rfl, c1, c2, c3⟩ := h
  cases S with
  | nil =>
    refine (Any2.slices_BinarySearch_string_empty Try.lays2_26 a cap x w).mono ?_
    rintro e w' ⟨rfl, rfl⟩
    exact ⟨rfl, 0, rfl⟩
  | cons y r =>
    obtain ⟨b, off, rfl, _, _⟩ := c3 0 y rfl
    obtain ⟨S, hS⟩ : ∃ S, y :: r = S := ⟨_, rfl⟩
    rw [hS] at hu hl c3 ⊢
    have hc : ∀ j, j < S.length → w.cell? ⟨b, off + j, none⟩ = some (.string (S.getD j x)) := fun j hj => by
      obtain ⟨b', off', e, _, hc⟩ := c3 j S[j] (List.getElem?_eq_getElem hj)
      cases e
      rw [hc, List.getD_eq_getElem?_getD, List.getElem?_eq_getElem hj]
      rfl
    have hbs : Lib.bsGo (fun t => Op.bytesLess (S.getD t x).toList x.toList) S.length 0 S.length = low S x := by
      refine Lib.bsGo_spec _ (low S x) (fun t ht => ?_) (fun t ht => ?_) S.length 0 S.length (by omega) (Nat.zero_le _) (low_le S x)
      · have hlt : t < S.length := Nat.lt_of_lt_of_le ht (low_le S x)
        have := low_below S x t S[t] ht (List.getElem?_eq_getElem hlt)
        rw [List.getD_eq_getElem?_getD, List.getElem?_eq_getElem hlt]
        exact this
      · rw [List.getD_eq_getElem?_getD]
        cases hg : S[t]? with
        | none => exact bl_irr _
        | some z => exact low_above S x hu t z ht hg
    have h0 : (y :: r).length = S.length := by rw [hS]
    refine (Try.slices_BinarySearch_string b off S.length cap (fun j => S.getD j x) x w (by omega) hc).mono ?_
    rintro e w' ⟨rfl, hq⟩
    refine ⟨?_, hq⟩
    have hd : decide (low S x < S.length ∧ S.getD (low S x) x = x) = decide (S[low S x]? = some x) := by
      rw [decide_eq_decide, List.getD_eq_getElem?_getD]
      constructor
      · rintro ⟨h1, h2⟩
        rw [List.getElem?_eq_getElem h1] at h2 ⊢
        exact congrArg some h2
      · intro h
        rw [h]
        exact ⟨(List.getElem?_eq_some_iff.1 h).1, rfl⟩
    rw [hbs, hd]

theorem clone_ops (w : World) (B0 : Nat) (v : Value) (n : Nat) (xs : List Value) (h : w.ownsRow B0 51 4 v n xs) (h1 : ∀ u ∈ xs, u.oneCell' = true) (hb : (n + n / 4 + 192) * 56 ≤ 281474976710656) :
    Calls Try.prog 46 #[v] w fun e w' => ∃ v', e = .returned v' ∧ w'.ownsRow w.heap.size 51 4 v' n xs ∧ Below w.heap.size w w' := by
  have qn : ∀ (w : World) (a : Option Addr) (n c n' c' : Nat), (binOp .eql 37 (.slice a n c) (.slice none n' c')).run Try.prog w = .ok (.bool a.isNone) w := fun w a n c n' c' => Lib.run_eql_slice_nil w _ _ a n c n' c' Try.underlying37
  obtain ⟨i0, hi, hz0, hz1, hz2⟩ := info_parts info71
  have HB : Hid ((n + n / 4 + 192) * 56 ≤ 281474976710656) := hb
  have HL : Hid (xs.length = n * 4) := h.1
  rcases h.2 with ⟨hv, hn⟩ | ⟨g, cap, cur, hv, hB, hg, q1, q2, q3, q4⟩
  · subst hv
    subst hn
    have hx : xs = [] := List.eq_nil_of_length_eq_zero (by have := HL.out; omega)
    subst hx
    clear h hb
    go_enter Try.func46, Try.ntmps46
    go_wp2_with fail
    go_ret
    exact ⟨_, rfl, World.ownsRow_nil _ _ _ _, Below.refl _ _⟩
  · subst hv
    have HS : Hid (∀ j u, xs[j]? = some u → w.cell? ((⟨g, 0, none⟩ : Addr).add j) = some u) := World.ownsRow.cells h rfl
    have H1 : Hid (∀ u ∈ xs, u.oneCell' = true) := h1
    have hnm : n ≤ maxLen := Nat.le_trans q1 q2
    clear h hb h1 hg q3 q4
    go_enter Try.func46, Try.ntmps46
    go_wp2_with (at_builtin; refine wpList_append_own_wide _ rfl _ _ 37 rfl w.heap.size 51 i0 (.agg #[.int .i64 0, .string ⟨#[]⟩, .int .i64 0, .slice none 0 0]) 4 56 Try.underlying37 hi hz0 hz1 hz2 rfl (by decide) _ 0 [] rfl (World.ownsRow_made w #[] 0 (Nat.le_refl _) (Nat.zero_le _) rfl) ⟨g, 0, none⟩ n cap xs rfl HL.out ?k1 H1.out ?k2 ?k3 ?k4 ?_)
    case k1 => exact fun j u hj => Lib.cell?_alloc_some _ (HS.out j u hj)
    case k2 => rw [Nat.zero_add]; exact hnm
    case k3 => rw [Nat.zero_add]; exact HB.out
    case k4 => simp
    intro v' w1 hown hgrow _
    try rw [Nat.zero_add, List.nil_append] at hown
    go_wp2_with fail
    go_ret
    exact ⟨v', rfl, hown, ((Below.refl _ w).alloc (Nat.le_refl _) _).grown hgrow (by simp) (by intro k hk; simp [Value.ownBlock] at hk; omega)⟩

set_option maxHeartbeats 2000000 in
theorem clone_terms (w : World) (B0 : Nat) (v : Value) (n : Nat) (xs : List Value) (h : w.ownsRow B0 24 1 v n xs) (h1 : ∀ u ∈ xs, u.oneCell' = true) (hb : (n + n / 4 + 192) * 24 ≤ 281474976710656) :
    Calls Try.prog 47 #[v] w fun e w' => ∃ v', e = .returned v' ∧ w'.ownsRow w.heap.size 24 1 v' n xs ∧ Below w.heap.size w w' := by
  have qn : ∀ (w : World) (a : Option Addr) (n c n' c' : Nat), (binOp .eql 25 (.slice a n c) (.slice none n' c')).run Try.prog w = .ok (.bool a.isNone) w := fun w a n c n' c' => Lib.run_eql_slice_nil w _ _ a n c n' c' Try.underlying25
  obtain ⟨i0, hi, hz0, hz1, hz2⟩ := info_parts info23
  have HB : Hid ((n + n / 4 + 192) * 24 ≤ 281474976710656) := hb
  have HL : Hid (xs.length = n * 1) := h.1
  rcases h.2 with ⟨hv, hn⟩ | ⟨g, cap, cur, hv, hB, hg, q1, q2, q3, q4⟩
  · subst hv
    subst hn
    have hx : xs = [] := List.eq_nil_of_length_eq_zero (by have := HL.out; omega)
    subst hx
    clear h hb
    go_enter Try.func47, Try.ntmps47
    go_wp2_with fail
    go_ret
    exact ⟨_, rfl, World.ownsRow_nil _ _ _ _, Below.refl _ _⟩
  · subst hv
    have HS : Hid (∀ j u, xs[j]? = some u → w.cell? ((⟨g, 0, none⟩ : Addr).add j) = some u) := World.ownsRow.cells h rfl
    have H1 : Hid (∀ u ∈ xs, u.oneCell' = true) := h1
    have hnm : n ≤ maxLen := Nat.le_trans q1 q2
    clear h hb h1 hg q3 q4
    go_enter Try.func47, Try.ntmps47
    go_wp2_with (at_builtin; refine wpList_append_own_wide _ rfl _ _ 25 rfl w.heap.size 24 i0 (.slice none 0 0) 1 24 Try.underlying25 hi hz0 hz1 hz2 rfl (by decide) _ 0 [] rfl (World.ownsRow_made w #[] 0 (Nat.le_refl _) (Nat.zero_le _) rfl) ⟨g, 0, none⟩ n cap xs rfl HL.out ?k1 H1.out ?k2 ?k3 ?k4 ?_)
    case k1 => exact fun j u hj => Lib.cell?_alloc_some _ (HS.out j u hj)
    case k2 => rw [Nat.zero_add]; exact hnm
    case k3 => rw [Nat.zero_add]; exact HB.out
    case k4 => simp
    intro v' w1 hown hgrow _
    try rw [Nat.zero_add, List.nil_append] at hown
    go_wp2_with fail
    go_ret
    exact ⟨v', rfl, hown, ((Below.refl _ w).alloc (Nat.le_refl _) _).grown hgrow (by simp) (by intro k hk; simp [Value.ownBlock] at hk; omega)⟩

set_option maxHeartbeats 2000000 in
theorem clone_texts (w : World) (B0 : Nat) (v : Value) (n : Nat) (xs : List Value) (h : w.ownsRow B0 9 1 v n xs) (h1 : ∀ u ∈ xs, u.oneCell' = true) (hb : (n + n / 4 + 192) * 16 ≤ 281474976710656) :
    Calls Try.prog 48 #[v] w fun e w' => ∃ v', e = .returned v' ∧ w'.ownsRow w.heap.size 9 1 v' n xs ∧ Below w.heap.size w w' := by
  have qn : ∀ (w : World) (a : Option Addr) (n c n' c' : Nat), (binOp .eql 34 (.slice a n c) (.slice none n' c')).run Try.prog w = .ok (.bool a.isNone) w := fun w a n c n' c' => Lib.run_eql_slice_nil w _ _ a n c n' c' Try.underlying34
  obtain ⟨i0, hi, hz0, hz1, hz2⟩ := info_parts info9
  have HB : Hid ((n + n / 4 + 192) * 16 ≤ 281474976710656) := hb
  have HL : Hid (xs.length = n * 1) := h.1
  rcases h.2 with ⟨hv, hn⟩ | ⟨g, cap, cur, hv, hB, hg, q1, q2, q3, q4⟩
  · subst hv
    subst hn
    have hx : xs = [] := List.eq_nil_of_length_eq_zero (by have := HL.out; omega)
    subst hx
    clear h hb
    go_enter Try.func48, Try.ntmps48
    go_wp2_with fail
    go_ret
    exact ⟨_, rfl, World.ownsRow_nil _ _ _ _, Below.refl _ _⟩
  · subst hv
    have HS : Hid (∀ j u, xs[j]? = some u → w.cell? ((⟨g, 0, none⟩ : Addr).add j) = some u) := World.ownsRow.cells h rfl
    have H1 : Hid (∀ u ∈ xs, u.oneCell' = true) := h1
    have hnm : n ≤ maxLen := Nat.le_trans q1 q2
    clear h hb h1 hg q3 q4
    go_enter Try.func48, Try.ntmps48
    go_wp2_with (at_builtin; refine wpList_append_own_wide _ rfl _ _ 34 rfl w.heap.size 9 i0 (.string ⟨#[]⟩) 1 16 Try.underlying34 hi hz0 hz1 hz2 rfl (by decide) _ 0 [] rfl (World.ownsRow_made w #[] 0 (Nat.le_refl _) (Nat.zero_le _) rfl) ⟨g, 0, none⟩ n cap xs rfl HL.out ?k1 H1.out ?k2 ?k3 ?k4 ?_)
    case k1 => exact fun j u hj => Lib.cell?_alloc_some _ (HS.out j u hj)
    case k2 => rw [Nat.zero_add]; exact hnm
    case k3 => rw [Nat.zero_add]; exact HB.out
    case k4 => simp
    intro v' w1 hown hgrow _
    try rw [Nat.zero_add, List.nil_append] at hown
    go_wp2_with fail
    go_ret
    exact ⟨v', rfl, hown, ((Below.refl _ w).alloc (Nat.le_refl _) _).grown hgrow (by simp) (by intro k hk; simp [Value.ownBlock] at hk; omega)⟩

end Go.Proofs.Ytbdlokijednoiaa
