/-
  Lists of rules in memory; what the document's Copy, Together and First answer of them.
-/
import Derived.Test.YtpflbdkbbkobbaaRMatch
import Derived.Test.YtpflbdkbbkobbaaRc
import Derived.Test.YtpflbdkbbkobbaaCp
import Derived.Test.YtpflbdkbbkobbaaMany
import Derived.Deep.CutRange
import Derived.Deep.DeepAppendWide
import Derived.Laws.AppendOwnNone
namespace Go.Proofs.Ytpflbdkbbkobbaa
open Go.RowKit
set_option linter.unusedVariables false
set_option linter.unusedSimpArgs false
set_option maxRecDepth 100000

structure Rl where
  id : Int
  l : List Cl
  r : List Cl
deriving DecidableEq

/-- the first rule that fits, and how -/
def firstR : List Rl → List Cl → Option (List Cl × List Bd)
  | [], _ => none
  | r :: rs, t => match mt r.l t with
    | some b => some (r.r, b)
    | none => firstR rs t

def RsOk (rs : List Rl) : Prop := ∀ r ∈ rs, chk r.id r.l r.r = 0

theorem firstR_some : ∀ {rs : List Rl} {t : List Cl} {p : List Cl × List Bd}, firstR rs t = some p → ∃ r ∈ rs, r.r = p.1 ∧ mt r.l t = some p.2
  | [], t, p, h => by cases h
  | r :: rs, t, p, h => by
    unfold firstR at h
    cases hm : mt r.l t with
    | some b => rw [hm] at h; cases h; exact ⟨r, by simp, rfl, hm⟩
    | none =>
      rw [hm] at h
      obtain ⟨q, hq, h1, h2⟩ := firstR_some h
      exact ⟨q, by simp [hq], h1, h2⟩

theorem firstR_none : ∀ {rs : List Rl} {t : List Cl}, firstR rs t = none ↔ ∀ r ∈ rs, mt r.l t = none
  | [], t => by simp [firstR]
  | r :: rs, t => by
    unfold firstR
    cases hm : mt r.l t with
    | some b => simp [hm]
    | none => simp [hm, firstR_none]

theorem info69 : (Try.prog.info? 40).map (fun i => (i.zero, i.size, i.bytes)) = some (some (.agg #[.int .i64 0, .slice none 0 0, .slice none 0 0]), 3, 56) := by kernel_rfl

/-- a part of a row of the call's own -/
theorem own_take {w : World} {B : Nat} {e : TypeId} {size : Nat} {a : Option Addr} {n cap m : Nat} {xs : List Value} (h : w.ownsRow B e size (.slice a n cap) n xs) (hm : m ≤ n) : w.ownsRow B e size (.slice a m cap) m (xs.take (m * size)) := by
  obtain ⟨h1, h2⟩ := h
  refine ⟨by rw [List.length_take, h1]; exact Nat.min_eq_left (Nat.mul_le_mul_right _ hm), ?_⟩
  rcases h2 with ⟨hv, hn⟩ | ⟨g, cap', cur, hv, hB, hg, q1, q2, q3, q4⟩
  · cases hv
    left
    exact ⟨by congr 1; omega, by omega⟩
  · cases hv
    right
    refine ⟨g, cap, cur, rfl, hB, hg, by omega, q2, q3, ?_⟩
    rw [← q4, List.take_take, Nat.min_eq_left (Nat.mul_le_mul_right _ hm)]

theorem own_apart7 {w w' : World} {B B' : Nat} {e e' : TypeId} {size size' : Nat} {v v' : Value} {n n' : Nat} {xs ys : List Value} (h : w.ownsRow B e size v n xs) (h' : w.ownsRow B' e' size' v' n' ys) (hne : e ≠ e') (hg : w.grownBy w' v'.ownBlock) : w'.ownsRow B e size v n xs := by
  refine h.kept hg ?_
  rcases h.2 with ⟨rfl, _⟩ | ⟨g, cap, cur, rfl, _, q, _⟩
  · exact .inl rfl
  · right
    rcases h'.2 with ⟨rfl, _⟩ | ⟨g', cap', cur', rfl, _, q', _⟩
    · simp [Value.ownBlock]
    · intro e2
      simp only [Value.ownBlock, Option.some.injEq] at e2
      subst e2
      rw [q] at q'
      cases q'
      exact hne rfl

/-- rules, as they lie in memory -/
def LiesR (w : World) (v : Value) (rs : List Rl) : Prop :=
  ∃ a cap, v = .slice a rs.length cap ∧ rs.length ≤ cap ∧ cap ≤ maxLen ∧ ∀ (i : Nat) r, rs[i]? = some r → ∃ g off x y, a = some ⟨g, off, none⟩ ∧ g < w.heap.size ∧ w.cell? ⟨g, off + i * 3, none⟩ = some (.int .i64 r.id) ∧ w.cell? ⟨g, off + i * 3 + 1, none⟩ = some x ∧ w.cell? ⟨g, off + i * 3 + 2, none⟩ = some y ∧ Lies w x r.l ∧ Lies w y r.r ∧ (-9223372036854775808 ≤ r.id ∧ r.id ≤ 9223372036854775807)

theorem LiesR.on {w w' : World} {v : Value} {rs : List Rl} (h : LiesR w v rs) (hb : Below w.heap.size w w') : LiesR w' v rs := by
  obtain ⟨a, cap, hv, c1, c2, c3⟩ := h
  refine ⟨a, cap, hv, c1, c2, fun i o hi => ?_⟩
  obtain ⟨g, off, x, y, ha, hlt, q0, q1, q2, hl, hr, h5⟩ := c3 i o hi
  exact ⟨g, off, x, y, ha, Nat.lt_of_lt_of_le hlt hb.size, (hb.cell (p := ⟨g, off + i * 3, none⟩) hlt).trans q0, (hb.cell (p := ⟨g, off + i * 3 + 1, none⟩) hlt).trans q1, (hb.cell (p := ⟨g, off + i * 3 + 2, none⟩) hlt).trans q2, hl.on hb, hr.on hb, h5⟩

theorem fits_wide {n m b : Nat} (h : (m + m / 4 + 192) * b ≤ 281474976710656) (hn : n ≤ m) : (n + n / 4 + 192) * b ≤ 281474976710656 := Nat.le_trans (Nat.mul_le_mul_right _ (by omega)) h

theorem wide_of {n b : Nat} (h : n * b ≤ 140737488355328) (hb : b ≤ 1000) : (n + n / 4 + 192) * b ≤ 281474976710656 := by
  have h1 : n / 4 * b * 4 ≤ n * b := by rw [Nat.mul_right_comm]; exact Nat.mul_le_mul_right _ (Nat.div_mul_le_self n 4)
  rw [Nat.add_mul, Nat.add_mul]
  generalize n / 4 * b = x at h1 ⊢
  generalize n * b = y at h h1 ⊢
  omega

theorem hid {p : Prop} (h : p) : Hid p := h

theorem firstR_drop {rs : List Rl} {k : Nat} {r : Rl} (h : rs[k]? = some r) (t : List Cl) : firstR (rs.drop k) t = match mt r.l t with | some b => some (r.r, b) | none => firstR (rs.drop (k + 1)) t := by
  obtain ⟨hk, e⟩ := List.getElem?_eq_some_iff.1 h
  rw [List.drop_eq_getElem_cons hk, e]
  rfl

theorem LiesR.at {w : World} {a : Option Addr} {n c : Nat} {rs : List Rl} (h : LiesR w (.slice a n c) rs) {i : Nat} {r : Rl} (hi : rs[i]? = some r) :
    ∃ g off x y, a = some ⟨g, off, none⟩ ∧ g < w.heap.size ∧ w.cell? ⟨g, off + i * 3, none⟩ = some (.int .i64 r.id) ∧ w.cell? ⟨g, off + i * 3 + 1, none⟩ = some x ∧ w.cell? ⟨g, off + i * 3 + 2, none⟩ = some y ∧ Lies w x r.l ∧ Lies w y r.r := by
  obtain ⟨a', c', hv', _, _, HC'⟩ := h
  injection hv' with e1 _ _
  subst e1
  obtain ⟨g, off, x, y, h1, h2, h3, h4, h5, h6, h7, _⟩ := HC' i _ hi
  exact ⟨g, off, x, y, h1, h2, h3, h4, h5, h6, h7⟩

theorem op_lim {n : Nat} (h : n ≤ 2513169500020) : (n + n / 4 + 192) * 56 ≤ 281474976710656 := fits_wide (m := 2513169500020) (by decide) h

theorem below_dd (w : World) (a b : Nat) : Below w.heap.size w ((w.drewN a).drewN b) := by rw [World.drewN_drewN]; exact below_drewN _ _

/-- the first rule that is not right tells -/
def chkAll : List Rl → Nat
  | [] => 0
  | r :: t => if chk r.id r.l r.r = 0 then chkAll t else chk r.id r.l r.r

def risI : List Rl → Bool
  | [] => true
  | r :: t => (match t with | [] => true | s :: _ => decide (r.id < s.id)) && risI t

def chkRs (rs : List Rl) : Nat := if chkAll rs = 0 then (if risI rs = true then 0 else 19) else chkAll rs

theorem chkAll_zero : ∀ {rs : List Rl}, chkAll rs = 0 ↔ RsOk rs
  | [] => by simp [chkAll, RsOk]
  | r :: t => by
    unfold chkAll
    have ih := @chkAll_zero t
    constructor
    · intro h x hx
      split at h
      · rename_i h0
        rcases List.mem_cons.1 hx with rfl | hx
        · exact h0
        · exact ih.1 h x hx
      · rename_i h0; exact absurd h h0
    · intro h
      rw [if_pos (h r (by simp))]
      exact ih.2 (fun x hx => h x (by simp [hx]))

theorem chkAll_at : ∀ {rs : List Rl} {k : Nat} {r : Rl}, rs[k]? = some r → (∀ i x, i < k → rs[i]? = some x → chk x.id x.l x.r = 0) → chk r.id r.l r.r ≠ 0 → chkAll rs = chk r.id r.l r.r
  | [], k, r, h, _, _ => by simp at h
  | d :: t, 0, r, h, _, hn => by
    simp at h
    subst h
    unfold chkAll
    rw [if_neg hn]
  | d :: t, k + 1, r, h, ha, hn => by
    unfold chkAll
    rw [if_pos (ha 0 d (by omega) rfl)]
    exact chkAll_at (by simpa using h) (fun i x hi hx => ha (i + 1) x (by omega) (by simpa using hx)) hn

theorem risI_iff : ∀ rs : List Rl, risI rs = true ↔ ∀ (i : Nat) x y, rs[i]? = some x → rs[i + 1]? = some y → x.id < y.id
  | [] => by simp [risI]
  | [r] => by
    simp only [risI, Bool.and_self, true_iff]
    intro i x y _ h
    simp at h
  | r :: s :: t => by
    have ih := risI_iff (s :: t)
    rw [risI, Bool.and_eq_true, ih]
    constructor
    · rintro ⟨h1, h2⟩ i x y hx hy
      cases i with
      | zero => simp at hx hy; subst hx; subst hy; simpa using h1
      | succ i => exact h2 i x y (by simpa using hx) (by simpa using hy)
    · intro h
      refine ⟨by simpa using h 0 r s rfl rfl, fun i x y hx hy => h (i + 1) x y (by simpa using hx) (by simpa using hy)⟩

structure Rw where
  id : Int
  x : Value
  y : Value

def flatR : List Rw → List Value
  | [] => []
  | r :: t => .int .i64 r.id :: r.x :: r.y :: flatR t

theorem flatR_len : ∀ l : List Rw, (flatR l).length = l.length * 3
  | [] => rfl
  | r :: t => by simp only [flatR, List.length_cons, flatR_len t]; omega

theorem flatR_snoc : ∀ (l : List Rw) (o : Rw), flatR (l ++ [o]) = flatR l ++ [.int .i64 o.id, o.x, o.y]
  | [], o => rfl
  | d :: r, o => by simp only [List.cons_append, flatR, flatR_snoc r o]

theorem flatR_at : ∀ (l : List Rw) (i : Nat) (o : Rw), l[i]? = some o → (flatR l)[i * 3]? = some (.int .i64 o.id) ∧ (flatR l)[i * 3 + 1]? = some o.x ∧ (flatR l)[i * 3 + 2]? = some o.y
  | [], i, o, h => by simp at h
  | d :: r, 0, o, h => by simp at h; subst h; exact ⟨rfl, rfl, rfl⟩
  | d :: r, i + 1, o, h => by
    rw [show (i + 1) * 3 = i * 3 + 1 + 1 + 1 by omega]
    simp only [flatR, List.getElem?_cons_succ]
    exact flatR_at r i o (by simpa using h)

/-- rules of the call's own -/
def OwnsR (w : World) (B : Nat) (v : Value) (rs : List Rl) : Prop :=
  ∃ ps : List Rw, ps.length = rs.length ∧ w.ownsRow B 40 3 v rs.length (flatR ps) ∧ ∀ (i : Nat) r, rs[i]? = some r → ∃ x y, ps[i]? = some ⟨r.id, x, y⟩ ∧ Owns w B x r.l ∧ Owns w B y r.r

theorem OwnsR.lies {w : World} {B : Nat} {v : Value} {rs : List Rl} (h : OwnsR w B v rs) (hf : ∀ r ∈ rs, Fine r.l ∧ Fine r.r ∧ -9223372036854775808 ≤ r.id ∧ r.id ≤ 9223372036854775807) : LiesR w v rs := by
  obtain ⟨ps, h0, h1, h2⟩ := h
  obtain ⟨a, cap, hv, c1, c2, c3⟩ := own_cells h1
  refine ⟨a, cap, hv, c1, c2, fun i r hi => ?_⟩
  obtain ⟨x, y, hp, hx, hy⟩ := h2 i r hi
  obtain ⟨f0, f1, f2⟩ := flatR_at ps i _ hp
  obtain ⟨g, ha, _, hlt, q0⟩ := c3 _ _ f0
  subst ha
  obtain ⟨g1, e1, _, _, q1⟩ := c3 _ _ f1
  obtain ⟨g2, e2, _, _, q2⟩ := c3 _ _ f2
  cases e1; cases e2
  obtain ⟨k1, k2, k3, k4⟩ := hf r (List.mem_of_getElem? hi)
  exact ⟨g, 0, x, y, rfl, hlt, by rw [Nat.zero_add]; exact q0, by rw [Nat.zero_add]; exact q1, by rw [Nat.zero_add]; exact q2, Owns.lies hx k1, Owns.lies hy k2, k3, k4⟩

theorem three_cells (W : World) (a b c : Value) (t : TypeId) : ∀ j u, [a, b, c][j]? = some u → (W.alloc (.cells #[a, b, c] t)).cell? ((⟨W.heap.size, 0, none⟩ : Addr).add j) = some u := by
  intro j u hj
  match j, hj with
  | 0, hj => simp at hj; subst hj; simp [Addr.add]
  | 1, hj => simp at hj; subst hj; simp [Addr.add]
  | 2, hj => simp at hj; subst hj; simp [Addr.add]
  | j + 3, hj => simp at hj

theorem OwnsR.more {w w3 w6 : World} {B : Nat} {v' x y : Value} {D : List Rl} {r : Rl} {ps : List Rw} {v : Value} (hl : ps.length = D.length) (hel : ∀ (i : Nat) r, D[i]? = some r → ∃ x y, ps[i]? = some ⟨r.id, x, y⟩ ∧ Owns w3 B x r.l ∧ Owns w3 B y r.r) (hx : Owns w3 B x r.l) (hy : Owns w3 B y r.r) (hown : w6.ownsRow B 40 3 v' (D.length + 1) (flatR ps ++ [.int .i64 r.id, x, y])) (hk : ∀ z l, Owns w3 B z l → Owns w6 B z l) : OwnsR w6 B v' (D ++ [r]) := by
  refine ⟨ps ++ [⟨r.id, x, y⟩], by simp [hl], ?_, fun i q hi => ?_⟩
  · rw [flatR_snoc, List.length_append]; exact hown
  · rcases Nat.lt_or_ge i D.length with h | h
    · rw [List.getElem?_append_left h] at hi
      obtain ⟨x1, y1, q1, q2, q3⟩ := hel i q hi
      exact ⟨x1, y1, by rw [List.getElem?_append_left (by omega)]; exact q1, hk _ _ q2, hk _ _ q3⟩
    · have hi2 := hi
      rw [List.getElem?_append_right h] at hi2
      have h0 : i - D.length = 0 := by have := (List.getElem?_eq_some_iff.1 hi2).1; simp at this; omega
      rw [h0] at hi2
      simp at hi2
      subst hi2
      exact ⟨x, y, by rw [List.getElem?_append_right (by omega), hl, h0]; rfl, hk _ _ hx, hk _ _ hy⟩

set_option maxHeartbeats 2000000 in
theorem copyRules_any (w : World) (rv : Value) (rs : List Rl) (hr : LiesR w rv rs) (lim : rs.length * 56 ≤ 140737488351232) (hz : ∀ r ∈ rs, r.l.length * 24 ≤ 140737488355328 ∧ r.r.length * 24 ≤ 140737488355328) :
    Calls Try.prog 26 #[rv] w fun e w' => ∃ v', e = .returned v' ∧ OwnsR w' w.heap.size v' rs ∧ Below w.heap.size w w' := by
  obtain ⟨i0, hi, hz0, hz1, hz2⟩ := info_parts info69
  have HR := hid hr
  have HZ := hid hz
  obtain ⟨ra, rc, rfl, rl1, rl2, _⟩ := hr
  clear hz
  go_enter Try.func26, Try.ntmps26
  go_wp2_with fail
  go_loopw [3, 7] (fun o i wr => ∃ k : Nat, k ≤ rs.length ∧ i = .int .i64 (k : Nat) ∧ Hid (OwnsR wr w.heap.size o (rs.take k)) ∧ Hid (Below w.heap.size w wr)) (fun _ i _ => rs.length - (intOf i).toNat)
  case atStart => exact ⟨0, Nat.zero_le _, rfl, ⟨[], rfl, World.ownsRow_nil _ _ _ _, fun i o h => by simp at h⟩, Below.refl _ _⟩
  case round =>
    obtain ⟨k, hk, rfl, HO, HB⟩ := hrel
    have hbs := HB.out.size
    by_cases hlt : k < rs.length
    · obtain ⟨r, hrk⟩ : ∃ r, rs[k]? = some r := ⟨rs[k], List.getElem?_eq_getElem hlt⟩
      have hki : (k : Int) < (rs.length : Int) := by omega
      obtain ⟨g, off, x, y, hra, hgl, c0, c1, c2, hlx, hly⟩ := (HR.out.on HB.out).at hrk
      subst hra
      obtain ⟨z1, z2⟩ := HZ.out r (List.mem_of_getElem? hrk)
      have hcp := rCopy_any wr r.id x y r.l r.r hlx hly z1 z2
      obtain ⟨xa, xc, hxv, _⟩ := hlx
      subst hxv
      obtain ⟨ya, yc, hyv, _⟩ := hly
      subst hyv
      have HN : Hid (rs.take (k + 1) = rs.take k ++ [r]) := by show _ = _; rw [List.take_add_one, hrk]; rfl
      have htl : (rs.take k).length = k := by rw [List.length_take]; omega
      obtain ⟨D, hD⟩ : ∃ D, rs.take k = D := ⟨_, rfl⟩
      rw [hD] at HO HN htl
      obtain ⟨ps, hpl, hrow, hel⟩ := HO.out
      have HEL := hid hel
      obtain ⟨oa, oc, hov, _⟩ := own_cells hrow
      subst hov
      have hdl : (D.length + 1) * 56 ≤ 140737488355328 := by omega
      clear hel hD htl hrk HO
      go_wp2_with (first | (go_at_call 48; refine hcp.mono ?_; rintro e w3 ⟨lv3, rv3, rfl, hl3, hr3, hb3⟩; have HL3 := hid (own_base hl3 hbs); have HR3 := hid (own_base hr3 hbs); obtain ⟨la, lc, hlv, _⟩ := own_cells hl3; obtain ⟨qa, qc, hqv, _⟩ := own_cells hr3; subst hlv; subst hqv; have hrow3 := own_below hrow hb3; have HB3 := hid (HB.out.trans (hb3.mono hbs)); have hs3 := HB3.out.size) | (at_builtin; refine wpList_append_own_wide _ rfl _ _ 22 rfl w.heap.size 40 i0 (.agg #[.int .i64 0, .slice none 0 0, .slice none 0 0]) 3 56 Try.underlying22 hi hz0 hz1 hz2 rfl (by decide) _ D.length (flatR ps) rfl (hrow3.alloc _) ⟨w3.heap.size, 0, none⟩ 1 1 [.int .i64 r.id, .slice la r.l.length lc, .slice qa r.r.length qc] rfl rfl (three_cells w3 _ _ _ _) ?k1 ?k2 ?k3 ?k4 ?_))
      case k1 => first | exact ⟨rfl, rfl, rfl⟩ | (intro u hu; simp at hu; rcases hu with rfl | rfl | rfl <;> rfl)
      case k2 => unfold maxLen; omega
      case k3 => exact wide_of hdl (by decide)
      case k4 => first | omega | (simp; omega)
      intro v' w6 hown' hgrow _
      have hba := HB3.out.alloc hs3 (.cells #[.int .i64 r.id, .slice la r.l.length lc, .slice qa r.r.length qc] 40)
      have HB6 : Hid (Below w.heap.size w w6) := hba.grown hgrow hba.size (fun b hb => (hrow3.lt b hb).1)
      have HO6 : Hid (OwnsR w6 w.heap.size v' (D ++ [r])) := OwnsR.more (w := w3) (w3 := w3) (v := .slice none 0 0) hpl (fun i q hq => by
        obtain ⟨x1, y1, q1, q2, q3⟩ := HEL.out i q hq
        exact ⟨x1, y1, q1, own_below q2 hb3, own_below q3 hb3⟩) HL3.out HR3.out hown' (fun z l hz => own_apart7 (World.ownsRow.alloc hz _) (hrow3.alloc _) (by decide) hgrow)
      obtain ⟨na, nc, hnv, _⟩ := own_cells hown'
      subst hnv
      clear hown' hgrow hrow3 hrow hba HEL hb3 hl3 hr3
      go_wp2_with fail
      go_roundw
      case rel => exact ⟨k + 1, by omega, by go_num, by rw [HN.out]; exact HO6, HB6⟩
      case measure => simp [intOf]; omega
    · have hki : ¬ (k : Int) < (rs.length : Int) := by omega
      have hO := HO.out
      rw [List.take_of_length_le (by omega)] at hO
      have HO2 := hid hO
      obtain ⟨ps, hpl, hrow, hel⟩ := hO
      obtain ⟨oa, oc, hov, _⟩ := own_cells hrow
      subst hov
      clear hrow hel HO
      go_wp2_with fail
      go_ret
      exact ⟨_, rfl, HO2.out, HB.out⟩

theorem together_any (w : World) (rv : Value) (rs : List Rl) (hr : LiesR w rv rs) :
    Calls Try.prog 27 #[rv] w fun e w' => e = .returned (.int .i64 (chkRs rs : Nat)) ∧ Below w.heap.size w w' := by
  have HR : Hid (LiesR w rv rs) := hr
  obtain ⟨ra, rc, rfl, rl1, rl2, _⟩ := hr
  have hrm : rs.length ≤ 9223372036854775807 := by unfold maxLen at rl2; omega
  obtain ⟨d, hd⟩ : ∃ d, chkRs rs = d := ⟨_, rfl⟩
  have HD : Hid (chkRs rs = d) := hd
  rw [hd]
  clear hd
  go_enter Try.func27, Try.ntmps27
  go_wp2_with fail
  go_loopw [8] (fun i wr => ∃ k : Nat, k ≤ rs.length ∧ i = .int .i64 (k : Nat) ∧ Hid (∀ i x, i < k → rs[i]? = some x → chk x.id x.l x.r = 0) ∧ Below w.heap.size w wr) (fun i _ => rs.length - (intOf i).toNat)
  case atStart => exact ⟨0, Nat.zero_le _, rfl, (fun i x h => by omega), Below.refl _ _⟩
  case round =>
    obtain ⟨k, hk, rfl, HF, hbr⟩ := hrel
    have hbs := hbr.size
    by_cases hlt : k < rs.length
    · obtain ⟨r, hrk⟩ : ∃ r, rs[k]? = some r := ⟨rs[k], List.getElem?_eq_getElem hlt⟩
      have hki : (k : Int) < (rs.length : Int) := by omega
      obtain ⟨g, off, x, y, hra, hgl, c0, c1, c2, hlx, hly⟩ := HR.out.at hrk
      subst hra
      have d0 := (hbr.cell (p := ⟨g, off + k * 3, none⟩) hgl).trans c0
      have d1 := (hbr.cell (p := ⟨g, off + k * 3 + 1, none⟩) hgl).trans c1
      have d2 := (hbr.cell (p := ⟨g, off + k * 3 + 2, none⟩) hgl).trans c2
      have hcall := rChk_any wr r.id x y r.l r.r (hlx.on hbr) (hly.on hbr)
      have HBA : Hid (Below w.heap.size w wr) := hbr
      obtain ⟨xa, xc, hxv, _⟩ := hlx
      subst hxv
      obtain ⟨ya, yc, hyv, _⟩ := hly
      subst hyv
      obtain ⟨E, hE⟩ : ∃ E, chk r.id r.l r.r = E := ⟨_, rfl⟩
      rw [hE] at hcall
      by_cases hE0 : E = 0
      · have HF2 : Hid (∀ i x, i < k + 1 → rs[i]? = some x → chk x.id x.l x.r = 0) := fun i x' h1 h2 => by
          by_cases e : i = k
          · subst e; rw [hrk] at h2; cases h2; rw [hE]; exact hE0
          · exact HF.out i x' (by omega) h2
        subst hE0
        clear HF hE hrk c0 c1 c2
        go_wp2_with (go_at_call 49; refine hcall.mono ?_; rintro e w3 ⟨rfl, hb3⟩)
        go_roundw
        case rel => exact ⟨k + 1, by omega, by go_num, HF2, HBA.out.trans (hb3.mono HBA.out.size)⟩
        case measure => simp [intOf]; omega
      · have HZ : Hid (d = E) := by
          show _ = _
          rw [← HD.out, ← hE]
          unfold chkRs
          have := chkAll_at hrk HF.out (by rw [hE]; exact hE0)
          rw [this, if_neg (by rw [hE]; exact hE0)]
        have hE1 : ¬ (E : Int) = 0 := by omega
        clear HF hE hrk c0 c1 c2
        go_wp2_with (go_at_call 49; refine hcall.mono ?_; rintro e w3 ⟨rfl, hb3⟩)
        go_ret
        exact ⟨by rw [HZ.out]; rfl, HBA.out.trans (hb3.mono HBA.out.size)⟩
    · have hki : ¬ (k : Int) < (rs.length : Int) := by omega
      have HA : Hid (chkAll rs = 0) := chkAll_zero.2 fun x hx => by
        obtain ⟨i, hi⟩ := List.getElem?_of_mem hx
        exact HF.out i x (by have := (List.getElem?_eq_some_iff.1 hi).1; omega) hi
      clear HF
      have HB2 : Hid (Below w.heap.size w wr) := hbr
      have HR2 : Hid (LiesR wr (.slice ra rs.length rc) rs) := HR.out.on hbr
      clear HR
      go_wp2_with fail
      go_loopw [22] (fun i w2 => ∃ j : Nat, j ≤ rs.length ∧ i = .int .i64 (j : Nat) ∧ Hid (∀ (i : Nat) x y, i + 1 < j → rs[i]? = some x → rs[i + 1]? = some y → x.id < y.id) ∧ ∃ nq, w2 = wr.drewN nq) (fun i _ => rs.length - (intOf i).toNat)
      case atStart => exact ⟨0, Nat.zero_le _, rfl, (fun i x y h => by omega), 0, rfl⟩
      case round =>
        obtain ⟨j, hj, rfl, HJ, nq, rfl⟩ := hrel
        by_cases hlt2 : j < rs.length
        · have hji : (j : Int) < (rs.length : Int) := by omega
          obtain ⟨y, hy⟩ : ∃ y, rs[j]? = some y := ⟨rs[j], List.getElem?_eq_getElem hlt2⟩
          obtain ⟨g, off, x1, y1, hra, hgl, c0, _⟩ := HR2.out.at hy
          subst hra
          cases j with
          | zero =>
            have HK2 : Hid (∀ (i : Nat) x y, i + 1 < 0 + 1 → rs[i]? = some x → rs[i + 1]? = some y → x.id < y.id) := fun i x y h => by omega
            clear HJ hy
            go_wp2_with fail
            go_quiet (fail)
            go_wp2_with fail
            go_roundw
            case rel => exact ⟨0 + 1, by omega, by go_num, HK2, _, rfl⟩
            case measure => simp [intOf]; omega
          | succ m =>
            obtain ⟨x, hx⟩ : ∃ x, rs[m]? = some x := ⟨rs[m]'(by omega), List.getElem?_eq_getElem (by omega)⟩
            obtain ⟨g', off', x2, y2, e, _, c0', _⟩ := HR2.out.at hx
            cases e
            have hj1 : (((m + 1 : Nat) : Int) - 1) = (m : Int) := by omega
            have hjl : (m : Int) < (rs.length : Int) := by omega
            have hj2 : decide (((m + 1 : Nat) : Int) > 0) = true := decide_eq_true (by omega)
            by_cases hxy : x.id < y.id
            · have HK2 : Hid (∀ (i : Nat) x y, i + 1 < m + 1 + 1 → rs[i]? = some x → rs[i + 1]? = some y → x.id < y.id) := fun i x' y' h h1 h2 => by
                by_cases e : i = m
                · subst e; rw [hx] at h1; rw [hy] at h2; cases h1; cases h2; exact hxy
                · exact HJ.out i x' y' (by omega) h1 h2
              have q1 : ¬ y.id ≤ x.id := by omega
              clear HJ hy hx hxy
              go_wp2_with fail
              go_quiet (fail)
              go_wp2_with fail
              go_roundw
              case rel => exact ⟨m + 1 + 1, by omega, by go_num, HK2, _, rfl⟩
              case measure => simp [intOf]; omega
            · have HRF : Hid (d = 19) := by
                show _ = _
                rw [← HD.out]
                unfold chkRs
                rw [if_pos HA.out, if_neg]
                intro hc
                exact hxy ((risI_iff rs).1 hc m x y hx hy)
              have q1 : y.id ≤ x.id := by omega
              clear HJ hy hx hxy
              go_wp2_with fail
              go_quiet (fail)
              go_wp2_with fail
              go_ret
              exact ⟨by rw [HRF.out]; rfl, HB2.out.trans ((by first | exact below_drewN _ _ | exact below_dd _ _ _ : Below wr.heap.size wr _).mono HB2.out.size)⟩
        · have HRT : Hid (d = 0) := by
            show _ = _
            rw [← HD.out]
            unfold chkRs
            rw [if_pos HA.out, if_pos]
            exact (risI_iff rs).2 fun i x y h1 h2 => HJ.out i x y (by have := (List.getElem?_eq_some_iff.1 h2).1; omega) h1 h2
          have hji : ¬ (j : Int) < (rs.length : Int) := by omega
          clear HJ
          go_wp2_with fail
          go_ret
          exact ⟨by rw [HRT.out]; rfl, HB2.out.trans ((by first | exact below_drewN _ _ | exact below_dd _ _ _ : Below wr.heap.size wr _).mono HB2.out.size)⟩

/-- the document's Fit of two right terms, from nothing -/
theorem rfit_top (w : World) (u v : Value) (P T : List Cl) (hu : Lies w u P) (hv : Lies w v T) (hP : check P = 0) (hT : check T = 0) :
    Calls Try.prog 32 #[u, v, .slice none 0 0] w fun e w' => RFits w.heap.size (mt P T) e w' ∧ Below w.heap.size w w' := by
  obtain ⟨nm, kd, e1⟩ := check_term hP
  obtain ⟨nm', kd', e2⟩ := check_term hT
  have hm : mt P T = fitF (.cons nm kd .nil) (.cons nm' kd' .nil) [] := by
    unfold mt ce
    rw [if_pos hP, if_pos hT, e1, e2]
    exact fit_same (by rw [← e1]; exact hP)
  rw [hm]
  have h64 := (check_zero hP).1
  subst e1 e2
  rw [Fo.flat_length] at h64
  simp only [Fo.size] at h64
  refine (rFit_any (kd.size + 1) w.heap.size w u v (.slice none 0 0) nm kd nm' kd' [] (by omega) hu hv hP hT (Nat.le_refl _) (OwnsB.nil _ _) (fun b hb => by cases hb) (by simp only [List.length_nil]; omega)).mono ?_
  rintro e w' ⟨h1, h2⟩
  exact ⟨h1, h2.low⟩

/-- the place of the first rule that fits, and how -/
def firstI : List Rl → List Cl → Option (Nat × List Bd)
  | [], _ => none
  | r :: rs, t => match mt r.l t with
    | some b => some (0, b)
    | none => (firstI rs t).map fun p => (p.1 + 1, p.2)

theorem firstI_R : ∀ (rs : List Rl) (t : List Cl), firstR rs t = (firstI rs t).bind fun p => (rs[p.1]?).map fun r => (r.r, p.2)
  | [], t => rfl
  | r :: rs, t => by
    unfold firstR firstI
    cases hm : mt r.l t with
    | some b => rfl
    | none =>
      simp only
      rw [firstI_R rs t]
      cases firstI rs t <;> simp

theorem firstI_drop {rs : List Rl} {k : Nat} {r : Rl} (h : rs[k]? = some r) (t : List Cl) : firstI (rs.drop k) t = match mt r.l t with | some b => some (0, b) | none => (firstI (rs.drop (k + 1)) t).map fun p => (p.1 + 1, p.2) := by
  have hk := (List.getElem?_eq_some_iff.1 h).1
  rw [List.drop_eq_getElem_cons hk]
  have : rs[k] = r := (List.getElem?_eq_some_iff.1 h).2
  rw [this]
  rfl

def firstA (rs : List Rl) (t : List Cl) (k : Nat) : Option (Nat × List Bd) := (firstI (rs.drop k) t).map fun p => (p.1 + k, p.2)

set_option maxHeartbeats 2000000 in
theorem rfirst_any (w : World) (rv : Value) (rs : List Rl) (hr : LiesR w rv rs) (hok : RsOk rs) (tv : Value) (T : List Cl) (hT : Lies w tv T) (hc : check T = 0) :
    Calls Try.prog 14 #[rv, tv] w fun e w' => ((firstI rs T = none ∧ e = .returned (.tuple #[.int .i64 (-1), .slice none 0 0])) ∨ (∃ (k : Nat) (bs : List Bd) (bv : Value), firstI rs T = some (k, bs) ∧ e = .returned (.tuple #[.int .i64 (k : Int), bv]) ∧ OwnsB w' w.heap.size bv bs)) ∧ Below w.heap.size w w' := by
  have HR := hid hr
  have HT := hid hT
  have HOK := hid hok
  have HC := hid hc
  obtain ⟨ra, rc, rfl, rl1, rl2, _⟩ := hr
  have hrm : rs.length ≤ 9223372036854775807 := by unfold maxLen at rl2; omega
  obtain ⟨ta, tc, rfl, _⟩ := hT
  clear hok hc
  go_enter Try.func14, Try.ntmps14
  go_wp2_with fail
  go_loopw [11] (fun i wr => ∃ k : Nat, k ≤ rs.length ∧ i = .int .i64 (k : Nat) ∧ Hid (firstI rs T = firstA rs T k) ∧ Hid (Below w.heap.size w wr)) (fun i _ => rs.length - (intOf i).toNat)
  case atStart => exact ⟨0, Nat.zero_le _, rfl, by show _ = _; unfold firstA; rw [List.drop_zero]; cases firstI rs T <;> rfl, Below.refl _ _⟩
  case round =>
    obtain ⟨k, hk, rfl, HF, HB⟩ := hrel
    have hbs := HB.out.size
    by_cases hlt : k < rs.length
    · obtain ⟨r, hrk⟩ : ∃ r, rs[k]? = some r := ⟨rs[k], List.getElem?_eq_getElem hlt⟩
      have hki : (k : Int) < (rs.length : Int) := by omega
      obtain ⟨g, off, x, y, hra, hgl, c0, c1, c2, hlx, hly⟩ := (HR.out.on HB.out).at hrk
      subst hra
      obtain ⟨_, hcl, _⟩ := chk_zero (HOK.out r (List.mem_of_getElem? hrk))
      have hft := rfit_top wr x _ r.l T hlx (HT.out.on HB.out) hcl HC.out
      have hdr := firstI_drop hrk T
      obtain ⟨xa, xc, hxv, _⟩ := hlx
      subst hxv
      cases hm : mt r.l T with
      | none =>
        rw [hm] at hft hdr
        have HF2 : Hid (firstI rs T = firstA rs T (k + 1)) := by
          show _ = _
          rw [HF.out]
          unfold firstA
          rw [hdr]
          cases firstI (rs.drop (k + 1)) T with
          | none => rfl
          | some p => simp only [Option.map_some]; congr 2; omega
        clear hm hdr HF hrk hcl
        go_wp2_with (go_at_call 32; refine hft.mono ?_; rintro e w3 ⟨⟨v3, rfl⟩, hb3⟩)
        go_roundw
        case rel => exact ⟨k + 1, by omega, by go_num, HF2, HB.out.trans (hb3.mono hbs)⟩
        case measure => simp [intOf]; omega
      | some bs =>
        rw [hm] at hft hdr
        have HF2 : Hid (firstI rs T = some (k, bs)) := by
          show _ = _
          rw [HF.out]
          unfold firstA
          rw [hdr]
          simp
        clear hm hdr HF hrk hcl
        go_wp2_with (go_at_call 32; refine hft.mono ?_; rintro e w3 ⟨⟨v3, rfl, ho3⟩, hb3⟩; have HO3 := hid ho3; obtain ⟨ba, bc, hbv, _⟩ := ho3.form; subst hbv; clear ho3)
        go_ret2
        exact ⟨.inr ⟨k, bs, _, HF2.out, rfl, HO3.out.base hbs⟩, HB.out.trans (hb3.mono hbs)⟩
    · have hki : ¬ (k : Int) < (rs.length : Int) := by omega
      have HF2 : Hid (firstI rs T = none) := by
        show _ = _
        rw [HF.out]
        unfold firstA
        rw [List.drop_eq_nil_of_le (by omega)]
        rfl
      clear HF
      go_wp2_with fail
      go_ret2
      exact ⟨.inl ⟨HF2.out, rfl⟩, HB.out⟩

theorem LiesR.fine {w : World} {v : Value} {rs : List Rl} (h : LiesR w v rs) : ∀ r ∈ rs, Fine r.l ∧ Fine r.r ∧ -9223372036854775808 ≤ r.id ∧ r.id ≤ 9223372036854775807 := by
  intro r hr
  obtain ⟨i, hi⟩ := List.getElem?_of_mem hr
  obtain ⟨a, c, _, _, _, HC⟩ := h
  obtain ⟨g, off, x, y, _, _, _, _, _, hx, hy, h5⟩ := HC i r hi
  obtain ⟨_, _, _, _, _, hf, _⟩ := hx
  obtain ⟨_, _, _, _, _, hf2, _⟩ := hy
  exact ⟨hf, hf2, h5⟩

theorem RsOk.of {rs : List Rl} (h : chkRs rs = 0) : RsOk rs := by
  unfold chkRs at h
  split at h
  · rename_i h0; exact chkAll_zero.1 h0
  · rename_i h0; exact absurd h h0

theorem firstI_some : ∀ {rs : List Rl} {T : List Cl} {i : Nat} {bs : List Bd}, firstI rs T = some (i, bs) → ∃ r, rs[i]? = some r ∧ mt r.l T = some bs
  | [], T, i, bs, h => by cases h
  | r0 :: rest, T, i, bs, h => by
    unfold firstI at h
    cases hm : mt r0.l T with
    | some b =>
      rw [hm] at h
      simp only [Option.some.injEq, Prod.mk.injEq] at h
      obtain ⟨h1, h2⟩ := h
      subst h1 h2
      exact ⟨r0, rfl, hm⟩
    | none =>
      rw [hm] at h
      simp only at h
      cases hq : firstI rest T with
      | none => rw [hq] at h; cases h
      | some p =>
        rw [hq] at h
        simp only [Option.map_some, Option.some.injEq, Prod.mk.injEq] at h
        obtain ⟨h1, h2⟩ := h
        obtain ⟨r, e1, e2⟩ := firstI_some (i := p.1) (bs := bs) (by rw [hq, ← h2])
        exact ⟨r, by rw [← h1, List.getElem?_cons_succ]; exact e1, e2⟩

theorem firstI_none {rs : List Rl} {T : List Cl} (h : firstI rs T = none) : firstR rs T = none := by rw [firstI_R, h]; rfl

end Go.Proofs.Ytpflbdkbbkobbaa
