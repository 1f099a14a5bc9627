/-
  What the document's Copy of a state answers.
-/
import Derived.Test.YtbdlokijednoiaaAA
import Derived.Test.YtbdlokijednoiaaCp
import Derived.Test.YtbdlokijednoiaaRc
import Derived.Test.YtbdlokijednoiaaRMatch
import Derived.Deep.CutRange
import Derived.Laws.AppendOwnNone
namespace Go.Proofs.Ytbdlokijednoiaa
open Go.RowKit
set_option linter.unusedVariables false
set_option linter.unusedSimpArgs false
set_option maxRecDepth 100000
set_option maxHeartbeats 4000000 in

structure Rw where
  id : Int
  x : Value
  y : Value
def flatR : List Rw → List Value
  | [] => []
  | r :: t => .int .i64 r.id :: r.x :: r.y :: flatR t
theorem flatR_len : ∀ l : List Rw, (flatR l).length = l.length * 3
  | [] => rfl
  | r :: t => by simp only [flatR, List.length_cons, flatR_len t]; omega
theorem flatR_snoc : ∀ (l : List Rw) (o : Rw), flatR (l ++ [o]) = flatR l ++ [.int .i64 o.id, o.x, o.y]
  | [], o => rfl
  | d :: r, o => by simp only [List.cons_append, flatR, flatR_snoc r o]
theorem flatR_at : ∀ (l : List Rw) (i : Nat) (o : Rw), l[i]? = some o → (flatR l)[i * 3]? = some (.int .i64 o.id) ∧ (flatR l)[i * 3 + 1]? = some o.x ∧ (flatR l)[i * 3 + 2]? = some o.y
  | [], i, o, h => by simp at h
  | d :: r, 0, o, h => by simp at h; subst h; exact ⟨rfl, rfl, rfl⟩
  | d :: r, i + 1, o, h => by
    rw [show (i + 1) * 3 = i * 3 + 1 + 1 + 1 by omega]
    simp only [flatR, List.getElem?_cons_succ]
    exact flatR_at r i o (by simpa using h)
/-- rules of the call's own -/
def OwnsR (w : World) (B : Nat) (v : Value) (rs : List Rl) : Prop :=
  ∃ ps : List Rw, ps.length = rs.length ∧ w.ownsRow B 56 3 v rs.length (flatR ps) ∧ ∀ (i : Nat) r, rs[i]? = some r → ∃ x y, ps[i]? = some ⟨r.id, x, y⟩ ∧ Owns w B x r.l ∧ Owns w B y r.r
theorem OwnsR.lies {w : World} {B : Nat} {v : Value} {rs : List Rl} (h : OwnsR w B v rs) (hf : ∀ r ∈ rs, Fine r.l ∧ Fine r.r ∧ -9223372036854775808 ≤ r.id ∧ r.id ≤ 9223372036854775807) : LiesR w v rs := by
  obtain ⟨ps, h0, h1, h2⟩ := h
  obtain ⟨a, cap, hv, c1, c2, c3⟩ := own_cells h1
  refine ⟨a, cap, hv, c1, c2, fun i r hi => ?_⟩
  obtain ⟨x, y, hp, hx, hy⟩ := h2 i r hi
  obtain ⟨f0, f1, f2⟩ := flatR_at ps i _ hp
  obtain ⟨g, ha, _, hlt, q0⟩ := c3 _ _ f0
  subst ha
  obtain ⟨g1, e1, _, _, q1⟩ := c3 _ _ f1
  obtain ⟨g2, e2, _, _, q2⟩ := c3 _ _ f2
  cases e1; cases e2
  obtain ⟨k1, k2, k3, k4⟩ := hf r (List.mem_of_getElem? hi)
  exact ⟨g, 0, x, y, rfl, hlt, by rw [Nat.zero_add]; exact q0, by rw [Nat.zero_add]; exact q1, by rw [Nat.zero_add]; exact q2, Owns.lies hx k1, Owns.lies hy k2, k3, k4⟩
theorem three_cells (W : World) (a b c : Value) (t : TypeId) : ∀ j u, [a, b, c][j]? = some u → (W.alloc (.cells #[a, b, c] t)).cell? ((⟨W.heap.size, 0, none⟩ : Addr).add j) = some u := by
  intro j u hj
  match j, hj with
  | 0, hj => simp at hj; subst hj; simp [Addr.add]
  | 1, hj => simp at hj; subst hj; simp [Addr.add]
  | 2, hj => simp at hj; subst hj; simp [Addr.add]
  | j + 3, hj => simp at hj
theorem OwnsR.more {w w3 w6 : World} {B : Nat} {v' x y : Value} {D : List Rl} {r : Rl} {ps : List Rw} {v : Value} (hl : ps.length = D.length) (hel : ∀ (i : Nat) r, D[i]? = some r → ∃ x y, ps[i]? = some ⟨r.id, x, y⟩ ∧ Owns w3 B x r.l ∧ Owns w3 B y r.r) (hx : Owns w3 B x r.l) (hy : Owns w3 B y r.r) (hown : w6.ownsRow B 56 3 v' (D.length + 1) (flatR ps ++ [.int .i64 r.id, x, y])) (hk : ∀ z l, Owns w3 B z l → Owns w6 B z l) : OwnsR w6 B v' (D ++ [r]) := by
  refine ⟨ps ++ [⟨r.id, x, y⟩], by simp [hl], ?_, fun i q hi => ?_⟩
  · rw [flatR_snoc, List.length_append]; exact hown
  · rcases Nat.lt_or_ge i D.length with h | h
    · rw [List.getElem?_append_left h] at hi
      obtain ⟨x1, y1, q1, q2, q3⟩ := hel i q hi
      exact ⟨x1, y1, by rw [List.getElem?_append_left (by omega)]; exact q1, hk _ _ q2, hk _ _ q3⟩
    · have hi2 := hi
      rw [List.getElem?_append_right h] at hi2
      have h0 : i - D.length = 0 := by have := (List.getElem?_eq_some_iff.1 hi2).1; simp at this; omega
      rw [h0] at hi2
      simp at hi2
      subst hi2
      exact ⟨x, y, by rw [List.getElem?_append_right (by omega), hl, h0]; rfl, hk _ _ hx, hk _ _ hy⟩

set_option maxHeartbeats 2000000 in
theorem copyRules_any (w : World) (rv : Value) (rs : List Rl) (hr : LiesR w rv rs) (lim : rs.length ≤ 1000000) (hz : ∀ r ∈ rs, r.l.length * 24 ≤ 140737488355328 ∧ r.r.length * 24 ≤ 140737488355328) :
    Calls Try.prog 17 #[rv] w fun e w' => ∃ v', e = .returned v' ∧ OwnsR w' w.heap.size v' rs ∧ Below w.heap.size w w' := by
  obtain ⟨i0, hi, hz0, hz1, hz2⟩ := info_parts info69
  have HR := hid hr
  have HZ := hid hz
  obtain ⟨ra, rc, rfl, rl1, rl2, _⟩ := hr
  clear hz
  go_enter Try.func17, Try.ntmps17
  go_wp2_with fail
  go_loopw [3, 7] (fun o i wr => ∃ k : Nat, k ≤ rs.length ∧ i = .int .i64 (k : Nat) ∧ Hid (OwnsR wr w.heap.size o (rs.take k)) ∧ Hid (Below w.heap.size w wr)) (fun _ i _ => rs.length - (intOf i).toNat)
  case atStart => exact ⟨0, Nat.zero_le _, rfl, ⟨[], rfl, World.ownsRow_nil _ _ _ _, fun i o h => by simp at h⟩, Below.refl _ _⟩
  case round =>
    obtain ⟨k, hk, rfl, HO, HB⟩ := hrel
    have hbs := HB.out.size
    by_cases hlt : k < rs.length
    · obtain ⟨r, hrk⟩ : ∃ r, rs[k]? = some r := ⟨rs[k], List.getElem?_eq_getElem hlt⟩
      have hki : (k : Int) < (rs.length : Int) := by omega
      obtain ⟨g, off, x, y, hra, hgl, c0, c1, c2, hlx, hly⟩ := (HR.out.on HB.out).at hrk
      subst hra
      obtain ⟨z1, z2⟩ := HZ.out r (List.mem_of_getElem? hrk)
      have hcp := rCopy_any wr r.id x y r.l r.r hlx hly z1 z2
      obtain ⟨xa, xc, hxv, _⟩ := hlx
      subst hxv
      obtain ⟨ya, yc, hyv, _⟩ := hly
      subst hyv
      have HN : Hid (rs.take (k + 1) = rs.take k ++ [r]) := by show _ = _; rw [List.take_add_one, hrk]; rfl
      have htl : (rs.take k).length = k := by rw [List.length_take]; omega
      obtain ⟨D, hD⟩ : ∃ D, rs.take k = D := ⟨_, rfl⟩
      rw [hD] at HO HN htl
      obtain ⟨ps, hpl, hrow, hel⟩ := HO.out
      have HEL := hid hel
      obtain ⟨oa, oc, hov, _⟩ := own_cells hrow
      subst hov
      have hdl : D.length + 1 ≤ 1000000 := by omega
      clear hel hD htl hrk HO
      go_wp2_with (first | (go_at_call 30; refine hcp.mono ?_; rintro e w3 ⟨lv3, rv3, rfl, hl3, hr3, hb3⟩; have HL3 := hid (own_base hl3 hbs); have HR3 := hid (own_base hr3 hbs); obtain ⟨la, lc, hlv, _⟩ := own_cells hl3; obtain ⟨qa, qc, hqv, _⟩ := own_cells hr3; subst hlv; subst hqv; have hrow3 := own_below hrow hb3; have HB3 := hid (HB.out.trans (hb3.mono hbs)); have hs3 := HB3.out.size) | (at_builtin; refine wpList_append_own_wide _ rfl _ _ 22 rfl w.heap.size 56 i0 (.agg #[.int .i64 0, .slice none 0 0, .slice none 0 0]) 3 56 Try.underlying22 hi hz0 hz1 hz2 rfl (by decide) _ D.length (flatR ps) rfl (hrow3.alloc _) ⟨w3.heap.size, 0, none⟩ 1 1 [.int .i64 r.id, .slice la r.l.length lc, .slice qa r.r.length qc] rfl rfl (three_cells w3 _ _ _ _) ?k1 ?k2 ?k3 ?k4 ?_))
      case k1 => first | exact ⟨rfl, rfl, rfl⟩ | (intro u hu; simp at hu; rcases hu with rfl | rfl | rfl <;> rfl)
      case k2 => unfold maxLen; omega
      case k3 => exact op_lim (by omega)
      case k4 => first | omega | (simp; omega)
      intro v' w6 hown' hgrow _
      have hba := HB3.out.alloc hs3 (.cells #[.int .i64 r.id, .slice la r.l.length lc, .slice qa r.r.length qc] 56)
      have HB6 : Hid (Below w.heap.size w w6) := hba.grown hgrow hba.size (fun b hb => (hrow3.lt b hb).1)
      have HO6 : Hid (OwnsR w6 w.heap.size v' (D ++ [r])) := OwnsR.more (w := w3) (w3 := w3) (v := .slice none 0 0) hpl (fun i q hq => by
        obtain ⟨x1, y1, q1, q2, q3⟩ := HEL.out i q hq
        exact ⟨x1, y1, q1, own_below q2 hb3, own_below q3 hb3⟩) HL3.out HR3.out hown' (fun z l hz => own_apart7 (World.ownsRow.alloc hz _) (hrow3.alloc _) (by decide) hgrow)
      obtain ⟨na, nc, hnv, _⟩ := own_cells hown'
      subst hnv
      clear hown' hgrow hrow3 hrow hba HEL hb3 hl3 hr3
      go_wp2_with fail
      go_roundw
      case rel => exact ⟨k + 1, by omega, by go_num, by rw [HN.out]; exact HO6, HB6⟩
      case measure => simp [intOf]; omega
    · have hki : ¬ (k : Int) < (rs.length : Int) := by omega
      have hO := HO.out
      rw [List.take_of_length_le (by omega)] at hO
      have HO2 := hid hO
      obtain ⟨ps, hpl, hrow, hel⟩ := hO
      obtain ⟨oa, oc, hov, _⟩ := own_cells hrow
      subst hov
      clear hrow hel HO
      go_wp2_with fail
      go_ret
      exact ⟨_, rfl, HO2.out, HB.out⟩
theorem rules_any (w : World) (rv : Value) (rs : List Rl) (hr : LiesR w rv rs) (lim : rs.length ≤ 1000000) (hz : ∀ r ∈ rs, r.l.length * 24 ≤ 140737488355328 ∧ r.r.length * 24 ≤ 140737488355328) :
    Calls Try.prog 8 #[rv] w fun e w' => ∃ v', e = .returned v' ∧ OwnsR w' w.heap.size v' rs ∧ Below w.heap.size w w' := by
  have hcp := copyRules_any w rv rs hr lim hz
  obtain ⟨ra, rc, rfl, _⟩ := hr
  go_enter Try.func8, Try.ntmps8
  go_wp2_with (go_at_call 17; refine hcp.mono ?_; rintro e w1 ⟨v1, rfl, ho1, hb1⟩; have HO1 := hid ho1; obtain ⟨ps, hpl, hrow, hel⟩ := ho1; obtain ⟨oa, oc, hov, _⟩ := own_cells hrow; subst hov; clear hrow hel)
  go_ret
  exact ⟨_, rfl, HO1.out, hb1⟩
theorem few_any (w : World) (rv : Value) (rs : List Rl) (hr : LiesR w rv rs) (fu : Int) :
    Calls Try.prog 6 #[rv, .int .i64 fu] w fun e w' => e = .returned (.bool (decide (rs.length ≤ 64) && decide (fu ≤ 300))) ∧ w = w' := by
  obtain ⟨ra, rc, rfl, _⟩ := hr
  by_cases h1 : rs.length ≤ 64
  · have h2 : (rs.length : Int) ≤ 64 := by omega
    rw [decide_eq_true h1, Bool.true_and]
    go_enter Try.func6, Try.ntmps6
    go_wp2_with fail
    go_ret
    exact ⟨rfl, rfl⟩
  · have h2 : ¬ (rs.length : Int) ≤ 64 := by omega
    rw [decide_eq_false h1, Bool.false_and]
    go_enter Try.func6, Try.ntmps6
    go_wp2_with fail
    go_ret
    exact ⟨rfl, rfl⟩

/-- the place of the first rule that fits, and how -/
def firstI : List Rl → List Cl → Option (Nat × List Bd)
  | [], _ => none
  | r :: rs, t => match mt r.l t with
    | some b => some (0, b)
    | none => (firstI rs t).map fun p => (p.1 + 1, p.2)
theorem firstI_R : ∀ (rs : List Rl) (t : List Cl), firstR rs t = (firstI rs t).bind fun p => (rs[p.1]?).map fun r => (r.r, p.2)
  | [], t => rfl
  | r :: rs, t => by
    unfold firstR firstI
    cases hm : mt r.l t with
    | some b => rfl
    | none =>
      simp only
      rw [firstI_R rs t]
      cases firstI rs t <;> simp
theorem firstI_drop {rs : List Rl} {k : Nat} {r : Rl} (h : rs[k]? = some r) (t : List Cl) : firstI (rs.drop k) t = match mt r.l t with | some b => some (0, b) | none => (firstI (rs.drop (k + 1)) t).map fun p => (p.1 + 1, p.2) := by
  have hk := (List.getElem?_eq_some_iff.1 h).1
  rw [List.drop_eq_getElem_cons hk]
  have : rs[k] = r := (List.getElem?_eq_some_iff.1 h).2
  rw [this]
  rfl
def firstA (rs : List Rl) (t : List Cl) (k : Nat) : Option (Nat × List Bd) := (firstI (rs.drop k) t).map fun p => (p.1 + k, p.2)

/-- the three blocks of the call: what came in, the answer's, and, wherever, the state under way -/
structure C3 (w : World) (ov vv hv : Value) (st : Int) (p : Nat) (a b c : Value) (wr : World) : Prop where
  b0 : Blk wr w.heap.size #[ov, vv, .int .i64 st, hv] 39
  b1 : Blk wr (w.heap.size + 1) #[.slice none 0 0, .slice none 0 0, .int .i64 0, .slice none 0 0] 39
  b2 : Blk wr p #[a, b, .int .i64 st, c] 39
  hp : w.heap.size + 2 ≤ p
  low : Below w.heap.size w wr
theorem C3.on {w : World} {ov vv hv : Value} {st : Int} {p : Nat} {a b c : Value} {wr wr' : World} (h : C3 w ov vv hv st p a b c wr) (hb : Below wr.heap.size wr wr') : C3 w ov vv hv st p a b c wr' :=
  ⟨h.b0.on hb h.b0.lt, h.b1.on hb h.b1.lt, h.b2.on hb h.b2.lt, h.hp, h.low.trans (hb.mono h.low.size)⟩
theorem C3.row {w : World} {ov vv hv : Value} {st : Int} {p : Nat} {a b c : Value} {wr wr' : World} (h : C3 w ov vv hv st p a b c wr) {e : TypeId} {size : Nat} {v : Value} {n : Nat} {xs : List Value} (hr : wr.ownsRow w.heap.size e size v n xs) (he : e ≠ 39) (hg : wr.grownBy wr' v.ownBlock) : C3 w ov vv hv st p a b c wr' :=
  ⟨blk_row h.b0 hr he hg, blk_row h.b1 hr he hg, blk_row h.b2 hr he hg, h.hp, h.low.grown hg h.low.size (fun k hk => (hr.lt k hk).1)⟩
theorem C3.blk {w : World} {ov vv hv : Value} {st : Int} {p : Nat} {a b c : Value} {wr : World} (h : C3 w ov vv hv st p a b c wr) {q : Nat} {cs : Array Value} {t : TypeId} (hq : Blk wr q cs t) (ht : t ≠ 39) (hql : w.heap.size ≤ q) (i : Nat) (u : Value) : C3 w ov vv hv st p a b c (wr.setCell ⟨q, i, none⟩ u) := by
  have ne : ∀ {k : Nat} {ds : Array Value}, Blk wr k ds 39 → q ≠ k := fun {k ds} hk e => by
    subst e
    unfold Blk at hq hk
    rw [hq] at hk
    cases hk
    exact ht rfl
  exact ⟨h.b0.other (ne h.b0).symm _, h.b1.other (ne h.b1).symm _, h.b2.other (ne h.b2).symm _, h.hp, h.low.setCell hql _⟩
theorem C3.put {w : World} {ov vv hv : Value} {st : Int} {p : Nat} {a b c : Value} {wr : World} (h : C3 w ov vv hv st p a b c wr) (i : Nat) (u : Value) (a' b' c' : Value) (he : (#[a, b, .int .i64 st, c] : Array Value).setIfInBounds i u = #[a', b', .int .i64 st, c']) : C3 w ov vv hv st p a' b' c' (wr.setCell ⟨p, i, none⟩ u) ∧ wr.grownBy (wr.setCell ⟨p, i, none⟩ u) (some p) := by
  have hp := h.hp
  refine ⟨⟨h.b0.other (by omega) _, h.b1.other (by omega) _, ?_, hp, h.low.setCell (by show w.heap.size ≤ p; omega) _⟩, set_grown _ _ _ _⟩
  have := h.b2.set i u
  rw [he] at this
  exact this
theorem OwnsT.vals {w : World} {B : Nat} {v : Value} {K : List (List Cl)} (h : OwnsT w B v K) : ValsV (Owns w B) w B v K := by
  obtain ⟨vs, h1, h2⟩ := h
  refine ⟨vs, h1, fun i l hi => ?_⟩
  obtain ⟨x, q1, q2⟩ := h2 i l hi
  obtain ⟨a, c, e, _⟩ := own_cells q2
  exact ⟨x, q1, by rw [e]; rfl, q2⟩

set_option maxHeartbeats 8000000 in
theorem rcopy_any (w : World) (ov vv hv : Value) (ops : List Opr) (vals : List (List Cl)) (st : Int) (heads : List ByteArray) (ho : LiesO w ov ops) (hvl : LiesT w vv vals) (hh : LiesS w hv heads) (hnil : ∀ n c, hv = .slice none n c → c = 0)
    (zo : ∀ o ∈ ops, o.v.length * 24 ≤ 140737488355328) (zv : ∀ l ∈ vals, l.length * 24 ≤ 140737488355328)
    (lo : (ops.length + ops.length / 4 + 192) * 56 ≤ 281474976710656) (lv : vals.length * 24 ≤ 140737488355328) (lh : heads.length * 16 ≤ 140737488355328) :
    Calls Try.prog 13 #[.agg #[ov, vv, .int .i64 st, hv]] w fun e w' => ∃ sv, e = .returned sv ∧ OutSt w.heap.size w' sv ⟨ops, vals, st, heads⟩ ∧ Below w.heap.size w w' := by
  obtain ⟨i0, hi, hz0, hz1, hz2⟩ := info_parts info71
  obtain ⟨i2, hi2, hx0, hx1, hx2⟩ := info_parts info9
  have LO : Hid ((ops.length + ops.length / 4 + 192) * 56 ≤ 281474976710656) := lo
  have LH : Hid ((heads.length + heads.length / 4 + 192) * 16 ≤ 281474976710656) := wide_of lh (by decide)
  have HO : Hid (LiesO w ov ops) := ho
  have HH : Hid (LiesS w hv heads) := hh
  have ZO : Hid (∀ o ∈ ops, o.v.length * 24 ≤ 140737488355328) := zo
  have hca : ∀ w1, Below w.heap.size w w1 → _ := fun w1 hb => copyAll_any w1 vv vals (hvl.on hb) lv zv
  have HNIL := hid hnil
  clear lo zo zv hnil
  obtain ⟨oa, oc, rfl, ol1, ol2, _⟩ := ho
  obtain ⟨va, vc, rfl, vl1, vl2, _⟩ := hvl
  obtain ⟨ha, hc, rfl, hl1, hl2, _⟩ := hh
  unfold maxLen at ol2 vl2 hl2
  have HB0 : Hid (Below w.heap.size w ((w.alloc (.cells #[.slice oa ops.length oc, .slice va vals.length vc, .int .i64 st, .slice ha heads.length hc] 39)).alloc (.cells #[.slice none 0 0, .slice none 0 0, .int .i64 0, .slice none 0 0] 39))) := ((Below.refl _ w).alloc (Nat.le_refl _) _).alloc (by simp) _
  have HX : Hid (Blk ((w.alloc (.cells #[.slice oa ops.length oc, .slice va vals.length vc, .int .i64 st, .slice ha heads.length hc] 39)).alloc (.cells #[.slice none 0 0, .slice none 0 0, .int .i64 0, .slice none 0 0] 39)) w.heap.size #[.slice oa ops.length oc, .slice va vals.length vc, .int .i64 st, .slice ha heads.length hc] 39) := (Blk.made w _ 39).alloc _
  have HR : Hid (Blk ((w.alloc (.cells #[.slice oa ops.length oc, .slice va vals.length vc, .int .i64 st, .slice ha heads.length hc] 39)).alloc (.cells #[.slice none 0 0, .slice none 0 0, .int .i64 0, .slice none 0 0] 39)) (w.heap.size + 1) #[.slice none 0 0, .slice none 0 0, .int .i64 0, .slice none 0 0] 39) := Blk.madeAt _ _ _ (by simp)
  go_enter Try.func13, Try.ntmps13
  go_upto_region 1 with fail
  go_cut [3] from 4 (fun s3 wx => ∃ (p : Nat) (b : Value), s3 = .pointer (some ⟨p, 0, none⟩) ∧ C3 w (.slice oa ops.length oc) (.slice va vals.length vc) (.slice ha heads.length hc) st p (.slice none 0 0) b (.slice none 0 0) wx ∧ OwnsT wx w.heap.size b vals)
  case first =>
    clear HO HH ZO LO LH HNIL
    generalize ((w.alloc (.cells #[.slice oa ops.length oc, .slice va vals.length vc, .int .i64 st, .slice ha heads.length hc] 39)).alloc (.cells #[.slice none 0 0, .slice none 0 0, .int .i64 0, .slice none 0 0] 39)) = W0 at HB0 HX HR ⊢
    have hX : Blk W0.drew w.heap.size #[.slice oa ops.length oc, .slice va vals.length vc, .int .i64 st, .slice ha heads.length hc] 39 := HX.out
    have hR : Blk W0.drew (w.heap.size + 1) #[.slice none 0 0, .slice none 0 0, .int .i64 0, .slice none 0 0] 39 := HR.out
    have hB : Below w.heap.size w W0.drew := HB0.out.drew
    have HC0 : W0.drew.cell? ⟨w.heap.size, 1, none⟩ = some (.slice va vals.length vc) ∧ W0.drew.cell? ⟨w.heap.size, 2, none⟩ = some (.int .i64 st) := ⟨hX.cell rfl, hX.cell rfl⟩
    refine wp_region_m (fun w' => w'.cell? ⟨w.heap.size, 1, none⟩ = some (.slice va vals.length vc) ∧ w'.cell? ⟨w.heap.size, 2, none⟩ = some (.int .i64 st)) 7 (by kernel_rfl) ?_
    refine wpAnyM_pick (i := 0) (some 6) (v := ?vz1) rfl rfl (by kernel_rfl) (by kernel_rfl) (by kernel_rfl) (by kernel_rfl) (fun _ _ _ h => h) (Or.inl ⟨by rfl, ?hz1⟩) HC0 ?rz1
    case hz1 => intro w hSw; go_simp; try with_reducible rfl
    try simp only [Act.put, List.setIfInBounds_toArray, List.set_cons_zero, List.set_cons_succ]
    refine wpAnyM_pick (i := 1) (some 7) (v := ?vz2) rfl rfl (by kernel_rfl) (by kernel_rfl) (by kernel_rfl) (by kernel_rfl) (fun _ _ _ h => h) (Or.inl ⟨by rfl, ?hz2⟩) HC0 ?rz2
    case hz2 => intro w hSw; go_simp; try with_reducible rfl
    try simp only [Act.put, List.setIfInBounds_toArray, List.set_cons_zero, List.set_cons_succ]
    refine wpAnyM_pick (i := 3) (some 9) (v := ?vz3) rfl rfl (by kernel_rfl) (by kernel_rfl) (by kernel_rfl) (by kernel_rfl) (fun _ _ _ h => h) (Or.inl ⟨by rfl, ?hz3⟩) HC0 ?rz3
    case hz3 => intro w hSw; go_simp; try with_reducible rfl
    try simp only [Act.put, List.setIfInBounds_toArray, List.set_cons_zero, List.set_cons_succ]
    refine wpAnyM_pick (i := 4) (some 10) (v := ?vz4) rfl rfl (by kernel_rfl) (by kernel_rfl) (by kernel_rfl) (by kernel_rfl) (fun _ _ _ h => h) (Or.inl ⟨by rfl, ?hz4⟩) HC0 ?rz4
    case hz4 => intro w hSw; go_simp; try with_reducible rfl
    try simp only [Act.put, List.setIfInBounds_toArray, List.set_cons_zero, List.set_cons_succ]
    refine wpAnyM_two (i := 2) (j := 6) (by kernel_rfl) rfl rfl (fun K hK => ?_) (fun K hK => ?_)
    · go_simp
      go_at_call 25
      refine (hca _ hB).mono ?_
      rintro e w1 ⟨b, rfl, hO1, hb1⟩
      have hX1 := hX.on hb1 hX.lt
      have hR1 := hR.on hb1 hR.lt
      have hB1 := hB.trans (hb1.mono hB.size)
      have HO1 : Hid (OwnsT w1 w.heap.size b vals) := hO1.base hB.size
      obtain ⟨ba, bc, hbv, _⟩ := hO1.form
      subst hbv
      clear hO1
      go_wp2_with fail
      refine hK.out _ _ (fun _ => ⟨hX1.cell rfl, hX1.cell rfl⟩) ?_
      clear hK K
      try simp only [Act.put, List.setIfInBounds_toArray, List.set_cons_zero, List.set_cons_succ]
      refine wpAnyM_pick (i := 5) (some 11) (v := ?vz5) rfl rfl (by kernel_rfl) (by kernel_rfl) (by kernel_rfl) (by kernel_rfl) (fun _ _ _ h => h) (Or.inl ⟨by rfl, ?hz5⟩) ⟨hX1.cell rfl, hX1.cell rfl⟩ ?rz5
      case hz5 => intro w hSw; go_simp; try with_reducible rfl
      try simp only [Act.put, List.setIfInBounds_toArray, List.set_cons_zero, List.set_cons_succ]
      have hb2 : Below w1.heap.size w1 (w1.alloc (.cells #[.slice none 0 0, .slice none 0 0, .int .i64 0, .slice none 0 0] 39)) := (Below.refl _ _).alloc (Nat.le_refl _) _
      have hX2 := hX1.on hb2 hX1.lt
      have hR2 := hR1.on hb2 hR1.lt
      have hB2 := hB1.trans (hb2.mono hB1.size)
      have HO2 : Hid (OwnsT (w1.alloc (.cells #[.slice none 0 0, .slice none 0 0, .int .i64 0, .slice none 0 0] 39)) w.heap.size (.slice ba vals.length bc) vals) := HO1.out.on hb2
      have hP2 : Blk (w1.alloc (.cells #[.slice none 0 0, .slice none 0 0, .int .i64 0, .slice none 0 0] 39)) w1.heap.size #[.slice none 0 0, .slice none 0 0, .int .i64 0, .slice none 0 0] 39 := Blk.made _ _ _
      have hq1 := hR1.lt
      refine wpAnyM_one (i := 6) (by kernel_rfl) rfl (fun K hK => ?_)
      go_simp
      refine hK.out _ _ (fun _ => ⟨hX2.cell rfl, hX2.cell rfl⟩) ?_
      clear hK K
      try simp only [Act.put, List.setIfInBounds_toArray, List.set_cons_zero, List.set_cons_succ]
      clear hX2 hR2 hB2 HO2 hP2 hb2
      have hb2 : Below w1.heap.size w1 (w1.alloc (.cells #[.slice none 0 0, .slice ba vals.length bc, .int .i64 st, .slice none 0 0] 39)) := (Below.refl _ _).alloc (Nat.le_refl _) _
      have HC3 : Hid (C3 w (.slice oa ops.length oc) (.slice va vals.length vc) (.slice ha heads.length hc) st w1.heap.size (.slice none 0 0) (.slice ba vals.length bc) (.slice none 0 0) (w1.alloc (.cells #[.slice none 0 0, .slice ba vals.length bc, .int .i64 st, .slice none 0 0] 39))) := ⟨hX1.on hb2 hX1.lt, hR1.on hb2 hR1.lt, Blk.made _ _ _, by omega, hB1.trans (hb2.mono hB1.size)⟩
      have HO2 : Hid (OwnsT (w1.alloc (.cells #[.slice none 0 0, .slice ba vals.length bc, .int .i64 st, .slice none 0 0] 39)) w.heap.size (.slice ba vals.length bc) vals) := HO1.out.on hb2
      refine wpAnyM_one (i := 7) (by kernel_rfl) rfl (fun K hK => ?_)
      go_simp
      refine hK.out _ _ (fun h => absurd h (by decide)) ?_
      clear hK K
      refine wpAnyM_done (by kernel_rfl) ?_ _
      try simp only [Act.put, List.setIfInBounds_toArray, List.set_cons_zero, List.set_cons_succ]
      go_wp2_with fail
      go_meet
      exact ⟨_, _, rfl, HC3.out, HO2.out⟩
    · have hb1 : Below W0.drew.heap.size W0.drew (W0.drew.alloc (.cells #[.slice none 0 0, .slice none 0 0, .int .i64 0, .slice none 0 0] 39)) := (Below.refl _ _).alloc (Nat.le_refl _) _
      have hX1 := hX.on hb1 hX.lt
      have hR1 := hR.on hb1 hR.lt
      have hB1 := hB.trans (hb1.mono hB.size)
      have hP1 : Blk (W0.drew.alloc (.cells #[.slice none 0 0, .slice none 0 0, .int .i64 0, .slice none 0 0] 39)) W0.drew.heap.size #[.slice none 0 0, .slice none 0 0, .int .i64 0, .slice none 0 0] 39 := Blk.made _ _ _
      have hq1 := hR.lt
      go_simp
      refine hK.out _ _ (fun _ => ⟨hX1.cell rfl, hX1.cell rfl⟩) ?_
      clear hK K
      try simp only [Act.put, List.setIfInBounds_toArray, List.set_cons_zero, List.set_cons_succ]
      refine wpAnyM_one (i := 2) (by kernel_rfl) rfl (fun K hK => ?_)
      go_simp
      go_at_call 25
      refine (hca _ hB1).mono ?_
      rintro e w2 ⟨b, rfl, hO1, hb2⟩
      have hX2 := hX1.on hb2 hX1.lt
      have hR2 := hR1.on hb2 hR1.lt
      have hP2 := hP1.on hb2 hP1.lt
      have hB2 := hB1.trans (hb2.mono hB1.size)
      have HO1 : Hid (OwnsT w2 w.heap.size b vals) := hO1.base hB1.size
      obtain ⟨ba, bc, hbv, _⟩ := hO1.form
      subst hbv
      clear hO1
      go_wp2_with fail
      refine hK.out _ _ (fun _ => ⟨hX2.cell rfl, hX2.cell rfl⟩) ?_
      clear hK K
      try simp only [Act.put, List.setIfInBounds_toArray, List.set_cons_zero, List.set_cons_succ]
      refine wpAnyM_pick (i := 5) (some 11) (v := ?vz6) rfl rfl (by kernel_rfl) (by kernel_rfl) (by kernel_rfl) (by kernel_rfl) (fun _ _ _ h => h) (Or.inl ⟨by rfl, ?hz6⟩) ⟨hX2.cell rfl, hX2.cell rfl⟩ ?rz6
      case hz6 => intro w hSw; go_simp; try with_reducible rfl
      try simp only [Act.put, List.setIfInBounds_toArray, List.set_cons_zero, List.set_cons_succ]
      have hqq : W0.drew.heap.size = W0.heap.size := rfl
      rw [hqq] at hP2 hq1
      generalize W0.heap.size = p at hP2 hq1 ⊢
      have a0 := hP2.cell (i := 0) rfl
      have z0 := hP2.free 0
      have m1 := hP2.set 0 (.slice none 0 0)
      have a1 := m1.cell (i := 1) rfl
      have z1 := m1.free 1
      have m2 := m1.set 1 (.slice ba vals.length bc)
      have a2 := m2.cell (i := 2) rfl
      have z2 := m2.free 2
      have m3 := m2.set 2 (.int .i64 st)
      have a3 := m3.cell (i := 3) rfl
      have z3 := m3.free 3
      obtain ⟨hD, hg⟩ := set4 hP2 (.slice none 0 0) (.slice ba vals.length bc) (.int .i64 st) (.slice none 0 0)
      have HC3 : Hid (C3 w (.slice oa ops.length oc) (.slice va vals.length vc) (.slice ha heads.length hc) st p (.slice none 0 0) (.slice ba vals.length bc) (.slice none 0 0) ((((w2.setCell ⟨p, 0, none⟩ (.slice none 0 0)).setCell ⟨p, 1, none⟩ (.slice ba vals.length bc)).setCell ⟨p, 2, none⟩ (.int .i64 st)).setCell ⟨p, 3, none⟩ (.slice none 0 0))) := ⟨(hg.block _ hX2.lt (by simp; omega)).trans hX2, (hg.block _ hR2.lt (by simp; omega)).trans hR2, hD, by omega, hB2.grown hg hB2.size (fun k hk => by cases hk; omega)⟩
      have HO2 : Hid (OwnsT ((((w2.setCell ⟨p, 0, none⟩ (.slice none 0 0)).setCell ⟨p, 1, none⟩ (.slice ba vals.length bc)).setCell ⟨p, 2, none⟩ (.int .i64 st)).setCell ⟨p, 3, none⟩ (.slice none 0 0)) w.heap.size (.slice ba vals.length bc) vals) := by
        obtain ⟨vs, v1, v2⟩ := HO1.out
        refine ⟨vs, row_blk v1 hP2 (by decide) hg, fun i l hi => ?_⟩
        obtain ⟨x, q1, q2⟩ := v2 i l hi
        exact ⟨x, q1, row_blk q2 hP2 (by decide) hg⟩
      refine wpAnyM_one (i := 7) (by kernel_rfl) rfl (fun K hK => ?_)
      go_simp
      refine hK.out _ _ (fun h => absurd h (by decide)) ?_
      clear hK K
      refine wpAnyM_done (by kernel_rfl) ?_ _
      try simp only [Act.put, List.setIfInBounds_toArray, List.set_cons_zero, List.set_cons_succ]
      go_wp2_with fail
      go_meet
      exact ⟨_, _, rfl, HC3.out, HO2.out⟩
  case rest =>
    obtain ⟨p, b, rfl, hC, hOT⟩ := hcut
    have HB := hid hOT.vals
    obtain ⟨ba, bc, hbv, _⟩ := hOT.form
    subst hbv
    have HC := hid hC
    have e0 := hC.b0.cell (i := 0) rfl
    have hpl := hC.hp
    clear hC hOT HB0 HX HR hca
    go_wp2_with fail
    clear e0
    go_loopw [15] (fun i wr => ∃ (k : Nat) (a : Value), k ≤ ops.length ∧ i = .int .i64 (k : Nat) ∧ Hid (C3 w (.slice oa ops.length oc) (.slice va vals.length vc) (.slice ha heads.length hc) st p a (.slice ba vals.length bc) (.slice none 0 0) wr) ∧ Hid (OpsV (Owns wr w.heap.size) wr w.heap.size a (ops.take k)) ∧ Hid (ValsV (Owns wr w.heap.size) wr w.heap.size (.slice ba vals.length bc) vals)) (fun i _ => ops.length - (intOf i).toNat)
    case atStart => exact ⟨0, _, Nat.zero_le _, rfl, HC, ⟨[], rfl, World.ownsRow_nil _ _ _ _, fun i o h => by simp at h⟩, HB⟩
    case round =>
      obtain ⟨k, a, hk, rfl, HCr, HOr, HVr⟩ := hrel
      clear HC HB
      by_cases hlt : k < ops.length
      · obtain ⟨o, ho⟩ : ∃ o, ops[k]? = some o := ⟨ops[k], List.getElem?_eq_getElem hlt⟩
        obtain ⟨g, off, x, hoa, hgl, c0, c1, c2, c3, hlx⟩ := HO.out.at ho
        subst hoa
        have hlow := HCr.out.low
        have d0 := (hlow.cell (p := ⟨g, off + k * 4, none⟩) hgl).trans c0
        have d1 := (hlow.cell (p := ⟨g, off + k * 4 + 1, none⟩) hgl).trans c1
        have d2 := (hlow.cell (p := ⟨g, off + k * 4 + 2, none⟩) hgl).trans c2
        have d3 := (hlow.cell (p := ⟨g, off + k * 4 + 3, none⟩) hgl).trans c3
        have e0 := HCr.out.b0.cell (i := 0) rfl
        have z1 := ZO.out o (List.mem_of_getElem? ho)
        have HT2 : Hid (ops.take (k + 1) = ops.take k ++ [o]) := by show _ = _; rw [List.take_add_one, ho]; rfl
        have htl : (ops.take k).length = k := by rw [List.length_take]; omega
        have hki : (k : Int) < (ops.length : Int) := by omega
        obtain ⟨ok, ⟨onm, oar⟩, ovv⟩ := o
        simp only at d0 d1 d2 d3 z1 hlx
        have hcp : ∀ w2, Below w.heap.size w w2 → _ := fun w2 hb => copy_any w2 x ovv (hlx.on hb) z1
        obtain ⟨xa, xc, rfl, _⟩ := hlx
        obtain ⟨D, hD⟩ : ∃ D, ops.take k = D := ⟨_, rfl⟩
        rw [hD] at HOr HT2 htl
        have hdl : D.length + 1 ≤ ops.length := by omega
        clear htl
        obtain ⟨os, hol, hrow, hel⟩ := HOr.out
        have HOL : Hid (os.length = D.length) := hol
        obtain ⟨ma, mc, hmv, _⟩ := own_cells hrow
        subst hmv
        have HRW := hid hrow
        have HEL : Hid (∀ (i : Nat) o, D[i]? = some o → ∃ x, os[i]? = some ⟨o.k, o.c, x⟩ ∧ x.oneCell' = true ∧ Owns wr w.heap.size x o.v) := hel
        have hb1 : Below wr.heap.size wr (wr.alloc (.cells #[.int .i64 ok, .string onm, .int .i64 oar, .slice xa ovv.length xc] 51)) := (Below.refl _ _).alloc (Nat.le_refl _) _
        have hq1 : Blk (wr.alloc (.cells #[.int .i64 ok, .string onm, .int .i64 oar, .slice xa ovv.length xc] 51)) wr.heap.size #[.int .i64 ok, .string onm, .int .i64 oar, .slice xa ovv.length xc] 51 := Blk.made _ _ _
        have hC1 := HCr.out.on hb1
        have HB1 := hid hb1
        have hws := hlow.size
        have HRQ : Hid (∀ j, (Value.slice ma D.length mc).ownBlock = some j → j < wr.heap.size) := fun j hj => (hrow.lt j hj).2
        have q3 := hq1.cell (i := 3) rfl
        clear c0 c1 c2 c3 ho hol hel hrow hD hb1 hlow HOr
        go_upto_region 7 with (first | (go_at_call 9; refine (hcp _ hC1.low).mono ?_; rintro e w3 ⟨x3, rfl, hx3, hb3⟩; obtain ⟨ya, yc, hyv, _⟩ := own_cells hx3; subst hyv; have hC3 := hC1.on hb3; have hq2 := hq1.on hb3 hq1.lt; have hx4 : Owns w3 w.heap.size (.slice ya ovv.length yc) ovv := own_base hx3 hC1.low.size; have HBB : Hid (Below wr.heap.size wr w3) := HB1.out.trans (hb3.mono HB1.out.size); clear hb3 hx3; have f3 := hq2.free 3; have g3 := hq2.cell (i := 3) rfl; have hq4 := hq2.set 3 (.slice ya ovv.length yc); have hg4 := set_grown w3 wr.heap.size 3 (.slice ya ovv.length yc); have hC4 := hC3.blk hq2 (by decide) hws 3 (.slice ya ovv.length yc); have k0 := hq4.cell (i := 0) rfl; have k1 := hq4.cell (i := 1) rfl; have k2 := hq4.cell (i := 2) rfl; have k3 := hq4.cell (i := 3) rfl; have p0 := hC4.b2.cell (i := 0) rfl; clear hC1 hq1 q3 hcp))
        have hrow4 := (own_below HRW.out HBB.out).kept hg4 (.inr fun e => by have := HRQ.out _ e; omega)
        have HEL4 : Hid (∀ (i : Nat) o, D[i]? = some o → ∃ x, os[i]? = some ⟨o.k, o.c, x⟩ ∧ x.oneCell' = true ∧ Owns (w3.setCell ⟨wr.heap.size, 3, none⟩ (.slice ya ovv.length yc)) w.heap.size x o.v) := fun i o hi => by
          obtain ⟨x, h1, h2, h3⟩ := HEL.out i o hi
          exact ⟨x, h1, h2, row_blk (own_below h3 HBB.out) hq2 (by decide) hg4⟩
        have HV4 := hid ((ValsV.below HVr.out HBB.out).blk hq2 (by decide) (by decide) hg4)
        have HX4 := hid (row_blk hx4 hq2 (by decide) hg4)
        clear hC3 hq2 hx4 hg4 HBB HEL HVr HRW HRQ f3 g3 d0 d1 d2 d3 e0 HCr
        generalize w3.setCell ⟨wr.heap.size, 3, none⟩ (.slice ya ovv.length yc) = W4 at *
        generalize wr.heap.size = q at *
        have hb5 : Below W4.heap.size W4 (W4.alloc (.cells #[.int .i64 ok, .string onm, .int .i64 oar, .slice ya ovv.length yc] 51)) := (Below.refl _ _).alloc (Nat.le_refl _) _
        have hC5 := hC4.on hb5
        have HC5 := hid hC5
        have HR5 := hid (hrow4.alloc (.cells #[.int .i64 ok, .string onm, .int .i64 oar, .slice ya ovv.length yc] 51))
        have HV5 := hid (ValsV.below HV4.out hb5)
        have hsz5 := hC4.low.size
        clear hC5 hb5 HV4 hC4
        go_wp2_with (at_builtin; refine wpList_append_own_wide _ rfl _ _ 37 rfl w.heap.size 51 i0 (.agg #[.int .i64 0, .string ⟨#[]⟩, .int .i64 0, .slice none 0 0]) 4 56 Try.underlying37 hi hz0 hz1 hz2 rfl (by decide) _ D.length (flatO os) rfl HR5.out ⟨W4.heap.size, 0, none⟩ 1 1 [.int .i64 ok, .string onm, .int .i64 oar, .slice ya ovv.length yc] rfl rfl (four_cells W4 _ _ _ _ _) ?k1 ?k2 ?k3 ?k4 ?_)
        case k1 => intro u hu; simp at hu; rcases hu with rfl | rfl | rfl | rfl <;> rfl
        case k2 => unfold maxLen; omega
        case k3 => exact fits_wide LO.out hdl
        case k4 => simp; omega
        intro v' w6 hown' hgrow _
        have hC6 := HC5.out.row HR5.out (by decide) hgrow
        have hV6 := HV5.out.apart HR5.out (by decide) (by decide) hgrow
        have hOP : OpsV (Owns w6 w.heap.size) w6 w.heap.size v' (D ++ [⟨ok, ⟨onm, oar⟩, ovv⟩]) := by
          have keep : ∀ x l, Owns W4 w.heap.size x l → Owns w6 w.heap.size x l := fun x l h => own_apart7 (World.ownsRow.alloc h _) HR5.out (by decide) hgrow
          exact OpsV.more (ns := [⟨ok, ⟨onm, oar⟩, .slice ya ovv.length yc⟩]) (nops := [⟨ok, ⟨onm, oar⟩, ovv⟩]) HOL.out HEL4.out rfl (fun i o hi => by
            obtain ⟨rfl, rfl⟩ := one_get hi
            exact ⟨_, rfl, rfl, keep _ _ HX4.out⟩) hown' keep
        obtain ⟨na, nc, hnv, _⟩ := own_cells hown'
        subst hnv
        have f0 := hC6.b2.free 0
        have f1 := hC6.b2.cell (i := 0) rfl
        obtain ⟨hC7, hg7⟩ := hC6.put 0 (.slice na (D.length + 1) nc) (.slice na (D.length + 1) nc) (.slice ba vals.length bc) (.slice none 0 0) rfl
        have HC7 := hid hC7
        have HO7 := hid (hOP.blk hC6.b2 (by decide) (by decide) hg7)
        have HV7 := hid (hV6.blk hC6.b2 (by decide) (by decide) hg7)
        clear hC7 hg7 hOP hV6 hC6 hown' hgrow HC5 HR5 HV5 HX4 HEL4 hrow4 k0 k1 k2 k3 p0 hq4
        go_wp2_with fail
        go_roundw
        case rel => exact ⟨k + 1, _, by omega, by go_num, HC7, (by rw [HT2.out]; exact HO7), HV7⟩
        case measure => simp [intOf]; omega
      · have hki : ¬ (k : Int) < (ops.length : Int) := by omega
        have hO := HOr.out
        rw [List.take_of_length_le (by omega)] at hO
        have HO1 := hid hO
        obtain ⟨aa, ac, hav⟩ := hO.form
        subst hav
        have e3 := HCr.out.b0.cell (i := 3) rfl
        have p3 := HCr.out.b2.cell (i := 3) rfl
        have hlow := HCr.out.low
        have hws := hlow.size
        have HB := hid hlow
        clear hO HOr hlow
        have HFIN : Hid (∀ (W : World) (hv' : Value), C3 w (.slice oa ops.length oc) (.slice va vals.length vc) (.slice ha heads.length hc) st p (.slice aa ops.length ac) (.slice ba vals.length bc) (.slice none 0 0) W → OpsV (Owns W w.heap.size) W w.heap.size (.slice aa ops.length ac) ops → ValsV (Owns W w.heap.size) W w.heap.size (.slice ba vals.length bc) vals → OwnsS W w.heap.size hv' heads →
            C3 w (.slice oa ops.length oc) (.slice va vals.length vc) (.slice ha heads.length hc) st p (.slice aa ops.length ac) (.slice ba vals.length bc) hv' (W.setCell ⟨p, 3, none⟩ hv') ∧ OutSt w.heap.size (W.setCell ⟨p, 3, none⟩ hv') (.agg #[.slice aa ops.length ac, .slice ba vals.length bc, .int .i64 st, hv']) ⟨ops, vals, st, heads⟩) := by
          intro W hv' h1 h2 h3 h4
          obtain ⟨h5, h6⟩ := h1.put 3 hv' (.slice aa ops.length ac) (.slice ba vals.length bc) hv' rfl
          exact ⟨h5, _, _, _, rfl, h2.blk h1.b2 (by decide) (by decide) h6, h3.blk h1.b2 (by decide) (by decide) h6, row_blk h4 h1.b2 (by decide) h6⟩
        have HEND : Hid (∀ (W : World) (sv : Value) (hv' : Value), C3 w (.slice oa ops.length oc) (.slice va vals.length vc) (.slice ha heads.length hc) st p (.slice aa ops.length ac) (.slice ba vals.length bc) hv' W → OutSt w.heap.size W (.agg #[.slice aa ops.length ac, .slice ba vals.length bc, .int .i64 st, hv']) ⟨ops, vals, st, heads⟩ →
            Blk ((((W.setCell ⟨w.heap.size + 1, 0, none⟩ (.slice aa ops.length ac)).setCell ⟨w.heap.size + 1, 1, none⟩ (.slice ba vals.length bc)).setCell ⟨w.heap.size + 1, 2, none⟩ (.int .i64 st)).setCell ⟨w.heap.size + 1, 3, none⟩ hv') (w.heap.size + 1) #[.slice aa ops.length ac, .slice ba vals.length bc, .int .i64 st, hv'] 39 ∧ OutSt w.heap.size ((((W.setCell ⟨w.heap.size + 1, 0, none⟩ (.slice aa ops.length ac)).setCell ⟨w.heap.size + 1, 1, none⟩ (.slice ba vals.length bc)).setCell ⟨w.heap.size + 1, 2, none⟩ (.int .i64 st)).setCell ⟨w.heap.size + 1, 3, none⟩ hv') (.agg #[.slice aa ops.length ac, .slice ba vals.length bc, .int .i64 st, hv']) ⟨ops, vals, st, heads⟩ ∧ Below w.heap.size w ((((W.setCell ⟨w.heap.size + 1, 0, none⟩ (.slice aa ops.length ac)).setCell ⟨w.heap.size + 1, 1, none⟩ (.slice ba vals.length bc)).setCell ⟨w.heap.size + 1, 2, none⟩ (.int .i64 st)).setCell ⟨w.heap.size + 1, 3, none⟩ hv')) := by
          intro W sv hv' h1 h2
          obtain ⟨h5, h6⟩ := set4 h1.b1 (.slice aa ops.length ac) (.slice ba vals.length bc) (.int .i64 st) hv'
          exact ⟨h5, h2.blk h1.b1 h6, h1.low.grown h6 h1.low.size (fun k hk => by cases hk; omega)⟩
        cases ha with
        | none =>
          have hh0 : heads = [] := by
            cases hh1 : heads with
            | nil => rfl
            | cons x r =>
              exfalso
              obtain ⟨a', c', hv', _, _, h4⟩ := HH.out
              obtain ⟨b', o', e, _⟩ := h4 0 x (by rw [hh1]; rfl)
              cases hv'
              cases e
          have hc0 : hc = 0 := HNIL.out _ _ rfl
          subst hc0
          subst hh0
          obtain ⟨hC8, hO8⟩ := HFIN.out wr (.slice none 0 0) HCr.out HO1.out HVr.out (World.ownsRow_nil _ _ _ _)
          have n0 := hC8.b2.cell (i := 0) rfl
          have n1 := hC8.b2.cell (i := 1) rfl
          have n2 := hC8.b2.cell (i := 2) rfl
          have n3 := hC8.b2.cell (i := 3) rfl
          have f3 := HCr.out.b2.free 3
          have a0 := hC8.b1.cell (i := 0) rfl
          have z0 := hC8.b1.free 0
          have m1 := hC8.b1.set 0 (.slice aa ops.length ac)
          have a1 := m1.cell (i := 1) rfl
          have z1 := m1.free 1
          have m2 := m1.set 1 (.slice ba vals.length bc)
          have a2 := m2.cell (i := 2) rfl
          have z2 := m2.free 2
          have m3 := m2.set 2 (.int .i64 st)
          have a3 := m3.cell (i := 3) rfl
          have z3 := m3.free 3
          have HE9 := hid (HEND.out _ (.agg #[.slice aa ops.length ac, .slice ba vals.length bc, .int .i64 st, .slice none 0 0]) _ hC8 hO8)
          clear hC8 hO8
          go_wp2_with (at_builtin; refine wpList_append_own_none rfl _ _ 34 rfl w.heap.size 9 i2 1 Try.underlying34 hi2 _ 0 [] rfl (World.ownsRow_nil _ _ _ _) rfl ?_)
          obtain ⟨hD, hO9, hB9⟩ := HE9.out
          have e0 := hD.cell (i := 0) rfl
          have e1 := hD.cell (i := 1) rfl
          have e2 := hD.cell (i := 2) rfl
          have e3' := hD.cell (i := 3) rfl
          try simp only [Exit.inBlock, Exit.then]
          exact bodyPost_ret (v := .agg #[.slice aa ops.length ac, .slice ba vals.length bc, .int .i64 st, .slice none 0 0]) (by simp [results, Try.results13, go_sem, e0, e1, e2, e3']) rfl ⟨_, rfl, hO9, hB9⟩
        | some ad =>
          have hnews : ∀ j u, (heads.map Value.string)[j]? = some u → wr.cell? (ad.add j) = some u := fun j u hj => by
            rw [List.getElem?_map] at hj
            cases hx : heads[j]? with
            | none => rw [hx] at hj; cases hj
            | some x =>
              rw [hx] at hj
              cases hj
              obtain ⟨a', c', hv', _, _, h4⟩ := HH.out.on HB.out
              cases hv'
              obtain ⟨b', o', e, _, h6⟩ := h4 j x hx
              cases e
              rw [add_plain]
              exact h6
          go_wp2_with (at_builtin; refine wpList_append_own_wide _ rfl _ _ 34 rfl w.heap.size 9 i2 (.string ⟨#[]⟩) 1 16 Try.underlying34 hi2 hx0 hx1 hx2 rfl (by decide) _ 0 [] rfl (World.ownsRow_nil _ _ _ _) ad heads.length hc (heads.map Value.string) rfl (by simp) hnews ?k1 ?k2 ?k3 ?k4 ?_)
          case k1 => intro x hx; rfl
          case k2 => unfold maxLen; omega
          case k3 => exact LH.out
          try (case k4 => omega)
          intro v' w6 hown' hgrow _
          try simp only [Nat.zero_add, List.nil_append] at hown'
          have hnr : wr.ownsRow w.heap.size 9 1 (.slice none 0 0) 0 [] := World.ownsRow_nil _ _ _ _
          have hC6 := HCr.out.row hnr (by decide) hgrow
          obtain ⟨hC8, hO8⟩ := HFIN.out w6 v' hC6 (HO1.out.apart hnr (by decide) (by decide) hgrow) (HVr.out.apart hnr (by decide) (by decide) hgrow) hown'
          obtain ⟨na, nc, hnv, _⟩ := own_cells hown'
          have hnv2 : v' = .slice na heads.length nc := hnv
          subst hnv2
          have n0 := hC8.b2.cell (i := 0) rfl
          have n1 := hC8.b2.cell (i := 1) rfl
          have n2 := hC8.b2.cell (i := 2) rfl
          have n3 := hC8.b2.cell (i := 3) rfl
          have f3 := hC6.b2.free 3
          have g3 := hC6.b2.cell (i := 3) rfl
          have a0 := hC8.b1.cell (i := 0) rfl
          have z0 := hC8.b1.free 0
          have m1 := hC8.b1.set 0 (.slice aa ops.length ac)
          have a1 := m1.cell (i := 1) rfl
          have z1 := m1.free 1
          have m2 := m1.set 1 (.slice ba vals.length bc)
          have a2 := m2.cell (i := 2) rfl
          have z2 := m2.free 2
          have m3 := m2.set 2 (.int .i64 st)
          have a3 := m3.cell (i := 3) rfl
          have z3 := m3.free 3
          have HE9 := hid (HEND.out _ (.agg #[.slice aa ops.length ac, .slice ba vals.length bc, .int .i64 st, .slice na heads.length nc]) _ hC8 hO8)
          clear hC8 hO8 hC6 hown' hgrow hnr
          go_wp2_with fail
          obtain ⟨hD, hO9, hB9⟩ := HE9.out
          have e0 := hD.cell (i := 0) rfl
          have e1 := hD.cell (i := 1) rfl
          have e2 := hD.cell (i := 2) rfl
          have e3' := hD.cell (i := 3) rfl
          try simp only [Exit.inBlock, Exit.then]
          exact bodyPost_ret (v := .agg #[.slice aa ops.length ac, .slice ba vals.length bc, .int .i64 st, .slice na heads.length nc]) (by simp [results, Try.results13, go_sem, e0, e1, e2, e3']) rfl ⟨_, rfl, hO9, hB9⟩

end Go.Proofs.Ytbdlokijednoiaa
