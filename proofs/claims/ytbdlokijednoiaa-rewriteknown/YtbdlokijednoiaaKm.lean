/-
  What a table of known terms is worth: the rows that the law lays itself.
-/
import Derived.Test.YtbdlokijednoiaaKn
import Derived.Test.YtbdlokijednoiaaBL
import Derived.Test.YtbdlokijednoiaaBO
import Derived.Test.YtbdlokijednoiaaBD
import Derived.Test.YtbdlokijednoiaaBZ
namespace Go.Proofs.Ytbdlokijednoiaa
open Go.RowKit
set_option linter.unusedVariables false
set_option linter.unusedSimpArgs false
set_option maxRecDepth 100000

/-- a state that a short run comes to -/
structure Small (s : Stt) : Prop where
  ok : SttOk s
  hds : Hds s.heads
  s0 : 0 ≤ s.steps
  s1 : s.steps ≤ 1000
  no : s.ops.length ≤ 3000
  nv : s.vals.length ≤ 10000
  nh : s.heads.length ≤ 3000
theorem small_of {c : Cf} (h : Rt c) (h0 : 0 ≤ c.steps) (h1 : c.steps ≤ 1000) (h2 : c.stk.length ≤ 3000) (h3 : c.heads.length ≤ 3000) : Small c.stt := by
  have := cnt_le _ _ h.ops h.one
  refine ⟨⟨fun o ho => h.ops o (List.mem_reverse.1 ho), h.vals⟩, h.hds, h0, h1, by simp only [Cf.stt, List.length_reverse]; exact h2, by simp only [Cf.stt]; omega, h3⟩
theorem small_start {T : List Cl} (hg : grd T = true) : Small (startP T).1 := by
  have hs := (run_start (rs := []) (T := T) (fu := 0) rfl hg (by decide)).1
  have h64 := (check_zero (grd_iff.1 hg).1).1
  have := small_of hs (Int.le_refl _) (by simp) (by simp only [todo_len]; omega) (by simp)
  rw [startP_grd hg]
  exact this
/-- a state of the call's own, as Copy, Run and Check take it -/
theorem OutSt.sta {B : Nat} {w : World} {sv : Value} {s : Stt} (h : OutSt B w sv s) (hk : Small s) : ∃ oa oc va vc ha hc, sv = .agg #[.slice oa s.ops.length oc, .slice va s.vals.length vc, .int .i64 s.steps, .slice ha s.heads.length hc] ∧ StA w (.slice oa s.ops.length oc) (.slice va s.vals.length vc) (.slice ha s.heads.length hc) s ∧ StIn w (.slice oa s.ops.length oc) (.slice va s.vals.length vc) (.slice ha s.heads.length hc) s.ops s.vals s.heads := by
  obtain ⟨k1, k2, k3, k4, k5, k6, k7⟩ := hk
  obtain ⟨oa, oc, va, vc, ha, hc, e, q1, q2, q3⟩ := h.trio k1
  obtain ⟨ov, vv, hv, e2, h1, h2, h3⟩ := h
  subst e
  simp only [Value.agg.injEq, Array.mk.injEq, List.cons.injEq, and_true, true_and] at e2
  obtain ⟨rfl, rfl, rfl⟩ := e2
  have hs := k2.size
  refine ⟨oa, oc, va, vc, ha, hc, rfl, ⟨q1, q2, q3, fun x hx => ?_, fun n c en => ?_, by omega, by omega, by omega, fun o ho => ?_, fun l hl => ?_, by omega⟩, OutSt.in h1 h2 h3 (fun o ho => (k1.1 o ho).fine) (fun v hv => fine_check (grd_iff.1 (k1.2 v hv)).1)⟩
  · have := hs x hx
    unfold maxLen
    omega
  · obtain ⟨_, hn | ⟨g, cap, cur, e, _⟩⟩ := h3
    · have := hn.1
      rw [en] at this
      cases this
      rfl
    · rw [en] at e
      cases e
  · have := (opOk.small (k1.1 o ho)).1
    omega
  · have := (check_zero (grd_iff.1 (k1.2 l hl)).1).1
    omega
theorem Small.wf {s : Stt} (h : Small s) : StWf s := by
  obtain ⟨k1, k2, k3, k4, k5, k6, k7⟩ := h
  refine ⟨fun o ho => ?_, by omega, fun x hx => ?_⟩
  · obtain ⟨q1, q2, q3, q4, q5, q6⟩ := opOk.small (k1.1 o ho)
    omega
  · have := k2.size x hx
    unfold maxLen
    omega
theorem OutSt.in2 {B : Nat} {w : World} {s : Stt} {oa va ha : Option Addr} {oc vc hc : Nat} (h : OutSt B w (.agg #[.slice oa s.ops.length oc, .slice va s.vals.length vc, .int .i64 s.steps, .slice ha s.heads.length hc]) s) (hk : Small s) : StA w (.slice oa s.ops.length oc) (.slice va s.vals.length vc) (.slice ha s.heads.length hc) s ∧ StIn w (.slice oa s.ops.length oc) (.slice va s.vals.length vc) (.slice ha s.heads.length hc) s.ops s.vals s.heads := by
  obtain ⟨_, _, _, _, _, _, e, h1, h2⟩ := h.sta hk
  simp only [Value.agg.injEq, Array.mk.injEq, List.cons.injEq, Value.slice.injEq, and_true, true_and] at e
  obtain ⟨⟨rfl, rfl⟩, ⟨rfl, rfl⟩, rfl, rfl⟩ := e
  exact ⟨h1, h2⟩
theorem OutSt.lies2 {B : Nat} {w : World} {s : Stt} {oa va ha : Option Addr} {oc vc hc : Nat} (h : OutSt B w (.agg #[.slice oa s.ops.length oc, .slice va s.vals.length vc, .int .i64 s.steps, .slice ha s.heads.length hc]) s) (hk : SttOk s) : LiesO w (.slice oa s.ops.length oc) s.ops ∧ LiesT w (.slice va s.vals.length vc) s.vals ∧ LiesS w (.slice ha s.heads.length hc) s.heads := by
  obtain ⟨_, _, _, _, _, _, e, h1, h2, h3⟩ := h.trio hk
  simp only [Value.agg.injEq, Array.mk.injEq, List.cons.injEq, Value.slice.injEq, and_true, true_and] at e
  obtain ⟨⟨rfl, rfl⟩, ⟨rfl, rfl⟩, rfl, rfl⟩ := e
  exact ⟨h1, h2, h3⟩

/-- a row of a table of the call's own: a term, its normal form, no heads -/
structure Mw where
  x : Value
  y : Value
def flatM : List Mw → List Value
  | [] => []
  | r :: t => r.x :: r.y :: .slice none 0 0 :: flatM t
theorem flatM_snoc : ∀ (l : List Mw) (o : Mw), flatM (l ++ [o]) = flatM l ++ [o.x, o.y, .slice none 0 0]
  | [], o => rfl
  | d :: r, o => by simp only [List.cons_append, flatM, flatM_snoc r o]
theorem flatM_at : ∀ (l : List Mw) (i : Nat) (o : Mw), l[i]? = some o → (flatM l)[i * 3]? = some o.x ∧ (flatM l)[i * 3 + 1]? = some o.y ∧ (flatM l)[i * 3 + 2]? = some (.slice none 0 0)
  | [], i, o, h => by simp at h
  | d :: r, 0, o, h => by simp at h; subst h; exact ⟨rfl, rfl, rfl⟩
  | d :: r, i + 1, o, h => by
    rw [show (i + 1) * 3 = i * 3 + 1 + 1 + 1 by omega]
    simp only [flatM, List.getElem?_cons_succ]
    exact flatM_at r i o (by simpa using h)
def OwnsM (w : World) (B : Nat) (v : Value) (ms : List Mm) : Prop :=
  ∃ ps : List Mw, ps.length = ms.length ∧ w.ownsRow B 36 3 v ms.length (flatM ps) ∧ ∀ (i : Nat) m, ms[i]? = some m → ∃ x y, ps[i]? = some ⟨x, y⟩ ∧ Owns w B x m.t ∧ Owns w B y m.n
theorem OwnsM.nil (w : World) (B : Nat) : OwnsM w B (.slice none 0 0) [] := ⟨[], rfl, World.ownsRow_nil _ _ _ _, fun i m h => by simp at h⟩
theorem OwnsM.on {w w' : World} {B : Nat} {v : Value} {ms : List Mm} (h : OwnsM w B v ms) (hb : Below w.heap.size w w') : OwnsM w' B v ms := by
  obtain ⟨ps, h0, h1, h2⟩ := h
  refine ⟨ps, h0, own_below h1 hb, fun i m hi => ?_⟩
  obtain ⟨x, y, hp, hx, hy⟩ := h2 i m hi
  exact ⟨x, y, hp, own_below hx hb, own_below hy hb⟩
theorem OwnsM.form {w : World} {B : Nat} {v : Value} {ms : List Mm} (h : OwnsM w B v ms) : ∃ a c, v = .slice a ms.length c := by
  obtain ⟨ps, _, h1, _⟩ := h
  obtain ⟨a, c, hv, _⟩ := own_cells h1
  exact ⟨a, c, hv⟩
theorem liesS_none (w : World) : LiesS w (.slice none 0 0) [] := ⟨none, 0, rfl, Nat.le_refl _, Nat.zero_le _, fun j x h => by simp at h⟩
theorem OwnsM.lies {w : World} {B : Nat} {v : Value} {ms : List Mm} (h : OwnsM w B v ms) (hf : ∀ m ∈ ms, Fine m.t ∧ Fine m.n ∧ m.h = []) : LiesM w v ms := by
  obtain ⟨ps, h0, h1, h2⟩ := h
  obtain ⟨a, cap, hv, c1, c2, c3⟩ := own_cells h1
  refine ⟨a, cap, hv, c1, c2, fun i r hi => ?_⟩
  obtain ⟨x, y, hp, hx, hy⟩ := h2 i r hi
  obtain ⟨f0, f1, f2⟩ := flatM_at ps i _ hp
  obtain ⟨g, ha, _, hlt, q0⟩ := c3 _ _ f0
  subst ha
  obtain ⟨g1, e1, _, _, q1⟩ := c3 _ _ f1
  obtain ⟨g2, e2, _, _, q2⟩ := c3 _ _ f2
  cases e1; cases e2
  obtain ⟨k1, k2, k3⟩ := hf r (List.mem_of_getElem? hi)
  exact ⟨g, 0, x, y, .slice none 0 0, rfl, hlt, by rw [Nat.zero_add]; exact q0, by rw [Nat.zero_add]; exact q1, by rw [Nat.zero_add]; exact q2, Owns.lies hx k1, Owns.lies hy k2, by rw [k3]; exact liesS_none w⟩
theorem OwnsM.room {w : World} {B : Nat} {v : Value} {ms : List Mm} (h : OwnsM w B v ms) : ∀ g off n c, v = .slice (some ⟨g, off, none⟩) n c → ∀ i < n, ∀ k cc, w.cell? ⟨g, off + i * 3 + 2, none⟩ = some (.slice none k cc) → cc = 0 := by
  obtain ⟨ps, h0, h1, h2⟩ := h
  obtain ⟨a, cap, hv, c1, c2, c3⟩ := own_cells h1
  intro g off n c e i hi k cc hc
  rw [hv] at e
  cases e
  obtain ⟨_, _, f2⟩ := flatM_at ps i ps[i] (List.getElem?_eq_getElem (by omega))
  obtain ⟨g2, e2, _, _, q2⟩ := c3 _ _ f2
  simp only [Option.some.injEq, Addr.mk.injEq] at e2
  obtain ⟨rfl, rfl, _⟩ := e2
  rw [Nat.zero_add, q2] at hc
  cases hc
  rfl
theorem OwnsM.more {w3 w6 : World} {B : Nat} {v' x y : Value} {D : List Mm} {t n : List Cl} {ps : List Mw} (hl : ps.length = D.length) (hel : ∀ (i : Nat) m, D[i]? = some m → ∃ x y, ps[i]? = some ⟨x, y⟩ ∧ Owns w3 B x m.t ∧ Owns w3 B y m.n) (hx : Owns w3 B x t) (hy : Owns w3 B y n) (hown : w6.ownsRow B 36 3 v' (D.length + 1) (flatM ps ++ [x, y, .slice none 0 0])) (hk : ∀ z l, Owns w3 B z l → Owns w6 B z l) : OwnsM w6 B v' (D ++ [⟨t, n, []⟩]) := by
  refine ⟨ps ++ [⟨x, y⟩], by simp [hl], ?_, fun i q hi => ?_⟩
  · rw [flatM_snoc, List.length_append]; exact hown
  · rcases Nat.lt_or_ge i D.length with h | h
    · rw [List.getElem?_append_left h] at hi
      obtain ⟨x1, y1, q1, q2, q3⟩ := hel i q hi
      exact ⟨x1, y1, by rw [List.getElem?_append_left (by omega)]; exact q1, hk _ _ q2, hk _ _ q3⟩
    · have hi2 := hi
      rw [List.getElem?_append_right h] at hi2
      have h0 : i - D.length = 0 := by have := (List.getElem?_eq_some_iff.1 hi2).1; simp at this; omega
      rw [h0] at hi2
      simp at hi2
      subst hi2
      exact ⟨x, y, by rw [List.getElem?_append_right (by omega), hl, h0]; rfl, hk _ _ hx, hk _ _ hy⟩
theorem info36 : (Try.prog.info? 36).map (fun i => (i.zero, i.size, i.bytes)) = some (some (.agg #[.slice none 0 0, .slice none 0 0, .slice none 0 0]), 3, 72) := by kernel_rfl
theorem mem_lim {n : Nat} (h : n ≤ 1000) : (n + n / 4 + 192) * 72 ≤ 281474976710656 := by omega

/-- what a row of the table says is right -/
structure MmOk (rs : List Rl) (m : Mm) : Prop where
  h : m.h = []
  nf : NFt rs m.n
  ev : ∃ F g, 0 ≤ g ∧ EvS rs (todo [] m.t) F [m.n] g
  ft : Fine m.t
theorem MmOk.fn {rs : List Rl} {m : Mm} (h : MmOk rs m) : Fine m.n := fine_check (grd_iff.1 h.nf.1).1
theorem knownI_some : ∀ {ms : List Mm} {t : List Cl} {i : Nat}, knownI ms t = some i → ∃ m, ms[i]? = some m ∧ m.t = t
  | [], t, i, h => by simp [knownI] at h
  | m :: r, t, i, h => by
    unfold knownI at h
    by_cases e : m.t = t
    · rw [if_pos e] at h
      simp only [Option.some.injEq] at h
      subst h
      exact ⟨m, rfl, e⟩
    · rw [if_neg e] at h
      cases hr : knownI r t with
      | none => rw [hr] at h; simp at h
      | some j =>
        rw [hr] at h
        simp only [Option.map_some, Option.some.injEq] at h
        subst h
        obtain ⟨m', h1, h2⟩ := knownI_some hr
        exact ⟨m', by simpa using h1, h2⟩
theorem tbM_some {ms : List Mm} {t : List Cl} {p : List Cl × List ByteArray} (h : tbM ms t = some p) : ∃ m ∈ ms, m.t = t ∧ p = (m.n, m.h) := by
  unfold tbM at h
  cases hk : knownI ms t with
  | none => rw [hk] at h; simp at h
  | some i =>
    obtain ⟨m, h1, h2⟩ := knownI_some hk
    rw [hk] at h
    simp only [Option.bind_some] at h
    rw [h1] at h
    simp only [Option.map_some, Option.some.injEq] at h
    exact ⟨m, List.mem_of_getElem? h1, h2, h.symm⟩
theorem tbM_ok {rs : List Rl} {ms : List Mm} (h : ∀ m ∈ ms, MmOk rs m) : TbOk (tbM ms) := by
  intro t p hp
  obtain ⟨m, h1, h2, rfl⟩ := tbM_some hp
  have := h m h1
  exact ⟨this.nf.1, fun x hx => by simp only [this.h] at hx; cases hx⟩
theorem tbM_n {rs : List Rl} {ms : List Mm} (h : ∀ m ∈ ms, MmOk rs m) : TbN rs (tbM ms) := by
  intro t p hp
  obtain ⟨m, h1, h2, rfl⟩ := tbM_some hp
  have := h m h1
  subst h2
  exact ⟨this.nf, this.ev⟩
theorem norm_case (rs : List Rl) (T : List Cl) {fu : Int} (h0 : 0 ≤ fu) (h1 : fu ≤ 1000) : (∃ V g, chkRs rs = 0 ∧ grd T = true ∧ NFt rs V ∧ 0 ≤ g ∧ g ≤ fu ∧ normP rs T fu = (V, fu - g, 0) ∧ EvS rs (todo [] T) fu [V] g) ∨ ∃ k, k ≠ 0 ∧ normP rs T fu = ([], 0, k) := by
  by_cases hc : chkRs rs = 0
  · by_cases hs : (startP T).2 = 0
    · obtain ⟨_, hg, _⟩ := startP_zero hs
      have := norm_total hc hg (fu := fu) (by omega)
      rw [show max fu 0 = fu by omega] at this
      rcases this with ⟨V, g, a, b, c, d, e⟩ | h
      · exact .inl ⟨V, g, hc, hg, a, b, c, d, e⟩
      · exact .inr h
    · exact .inr ⟨_, hs, by unfold normP; rw [if_pos hc, if_neg hs]⟩
  · exact .inr ⟨_, hc, by unfold normP; rw [if_neg hc]⟩
theorem EvS.row {rs : List Rl} {L V : List Cl} {F g : Int} (hf : Fine L) (hn : NFt rs V) (h0 : 0 ≤ g) (h : EvS rs (todo [] L) F [V] g) : MmOk rs ⟨L, V, []⟩ := ⟨rfl, hn, ⟨F, g, h0, h⟩, hf⟩
theorem rows_more {rs : List Rl} {ms : List Mm} {m : Mm} (h : ∀ x ∈ ms, MmOk rs x) (hm : MmOk rs m) : ∀ x ∈ ms ++ [m], MmOk rs x := by
  intro x hx
  rcases List.mem_append.1 hx with hx | hx
  · exact h x hx
  · simp only [List.mem_singleton] at hx; rw [hx]; exact hm

end Go.Proofs.Ytbdlokijednoiaa
