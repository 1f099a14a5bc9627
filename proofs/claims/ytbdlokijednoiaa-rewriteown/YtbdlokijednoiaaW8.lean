/-
  What the program's Normal answers.
-/
import Derived.Test.YtbdlokijednoiaaL8
import Derived.Test.YtbdlokijednoiaaB8
import Derived.Test.YtbdlokijednoiaaQ8
namespace Go.Proofs.Ytbdlokijednoiaa
open Go.RowKit
set_option linter.unusedVariables false
set_option linter.unusedSimpArgs false
set_option maxRecDepth 100000

def stR (st : Int) (ops : List Opr) (vals : List (List Cl)) (heads : List ByteArray) : Bool :=
  decide (0 ≤ st) && ops.all opR && vals.all grd && heads.all symB && ris heads && decide (cnt ops.reverse vals.length = some 1)

theorem cw_cnt : ∀ (es : List El) (ops : List Opr) (n : Nat), es.map El.c = ops.map Opr.c → (∀ o ∈ ops, 0 ≤ o.c.ar ∧ o.c.ar ≤ 4) → n + ops.length ≤ 9223372036854775000 → cw es (n : Int) = (cnt ops n).map (fun k => (k : Int))
  | [], [], n, _, _, _ => rfl
  | [], o :: r, n, h, _, _ => by simp at h
  | e :: es, [], n, h, _, _ => by simp at h
  | e :: es, o :: r, n, h, ha, hl => by
    simp only [List.map_cons, List.cons.injEq] at h
    obtain ⟨h1, h2⟩ := h
    obtain ⟨a0, a4⟩ := ha o (by simp)
    simp only [List.length_cons] at hl
    unfold cw cnt
    rw [h1]
    by_cases hc : o.c.ar.toNat ≤ n
    · rw [if_neg (by omega), if_pos hc]
      have e1 : wrap64 ((n : Int) + wrap64 (1 - o.c.ar)) = ((n - o.c.ar.toNat + 1 : Nat) : Int) := by
        unfold wrap64
        omega
      rw [e1]
      exact cw_cnt es r _ h2 (fun x hx => ha x (by simp [hx])) (by omega)
    · rw [if_pos (by omega), if_neg hc]
      rfl

theorem LiesO.els {w : World} {a : Option Addr} {n cap : Nat} {ops : List Opr} (h : LiesO w (.slice a n cap) ops) : ∃ es : List El, es.length = ops.length ∧ Els w.heap.size w a es ∧ es.map El.c = ops.map Opr.c := by
  have hx : ∀ j : Fin ops.length, ∃ e : El, e.c = ops[j].c ∧ ∃ g off, a = some ⟨g, off, none⟩ ∧ g < w.heap.size ∧ e.i = (j : Int) ∧ w.cell? ⟨g, off + j * 4, none⟩ = some (.int .i64 e.k) ∧ w.cell? ⟨g, off + j * 4 + 1, none⟩ = some (.string e.c.nm) ∧ w.cell? ⟨g, off + j * 4 + 2, none⟩ = some (.int .i64 e.c.ar) ∧ w.cell? ⟨g, off + j * 4 + 3, none⟩ = some (.slice e.a e.n e.cap) := fun j => by
    obtain ⟨g, off, x, h1, h2, h3, h4, h5, h6, h7⟩ := h.at (List.getElem?_eq_getElem j.2)
    obtain ⟨xa, xc, rfl, _⟩ := h7
    exact ⟨⟨(j : Int), _, _, xa, _, xc⟩, rfl, g, off, h1, h2, rfl, h3, h4, h5, h6⟩
  refine ⟨List.ofFn (fun j => Classical.choose (hx j)), List.length_ofFn, fun j e hj => ?_, ?_⟩
  · rw [List.getElem?_ofFn] at hj
    split at hj
    · rename_i hlt
      cases hj
      exact (Classical.choose_spec (hx ⟨j, hlt⟩)).2
    · cases hj
  · apply List.ext_getElem
    · simp
    · intro i h1 h2
      simp only [List.getElem_map, List.getElem_ofFn]
      exact (Classical.choose_spec (hx ⟨i, by simpa using h2⟩)).1

/-- a state, as it lies in memory -/
structure LiesSt (w : World) (ov vv hv : Value) (st : Int) (ops : List Opr) (vals : List (List Cl)) (heads : List ByteArray) : Prop where
  lo : LiesO w ov ops
  lv : LiesT w vv vals
  lh : LiesS w hv heads
  names : ∀ x ∈ heads, x.size ≤ maxLen
  few : vals.length + ops.length ≤ 9223372036854775000
theorem LiesSt.on {w w' : World} {ov vv hv : Value} {st : Int} {ops : List Opr} {vals : List (List Cl)} {heads : List ByteArray} (h : LiesSt w ov vv hv st ops vals heads) (hb : Below w.heap.size w w') : LiesSt w' ov vv hv st ops vals heads :=
  ⟨h.lo.on hb, h.lv.on hb, h.lh.on hb, h.names, h.few⟩

set_option maxHeartbeats 4000000 in
theorem check7_any (w : World) (ov vv hv : Value) (st : Int) (ops : List Opr) (vals : List (List Cl)) (heads : List ByteArray) (h : LiesSt w ov vv hv st ops vals heads) :
    Calls Try.prog 22 #[.agg #[ov, vv, .int .i64 st, hv]] w fun e w' => e = .returned (.int .i64 ((if stR st ops vals heads = true then 0 else 3 : Nat) : Int)) ∧ Below w.heap.size w w' := by
  have HB0 : Hid (Below w.heap.size w (w.alloc (.cells #[ov, vv, .int .i64 st, hv] 39))) := (Below.refl _ w).alloc (Nat.le_refl _) _
  have HX : Hid (Blk (w.alloc (.cells #[ov, vv, .int .i64 st, hv] 39)) w.heap.size #[ov, vv, .int .i64 st, hv] 39) := Blk.made _ _ _
  have hA1 : ∀ w1, Below w.heap.size w w1 → _ := fun w1 hb => all_ops w1 ov ops (h.lo.on hb)
  have hA2 : ∀ w1, Below w.heap.size w w1 → _ := fun w1 hb => all_terms w1 vv vals (h.lv.on hb)
  have hA3 : ∀ w1, Below w.heap.size w w1 → _ := fun w1 hb => all_texts w1 hv heads (h.lh.on hb) h.names
  have hA4 : ∀ w1, Below w.heap.size w w1 → _ := fun w1 hb => rising_any w1 hv heads (h.lh.on hb)
  obtain ⟨oa, oc, hov, ol1, ol2, _⟩ := id h.lo
  subst hov
  obtain ⟨es, hel, hEls, hec⟩ := h.lo.els
  obtain ⟨va, vc, hvv, _⟩ := id h.lv
  subst hvv
  obtain ⟨ha, hc, hhv, _⟩ := id h.lh
  subst hhv
  have hA5 : ∀ w1, Below w.heap.size w w1 → _ := fun w1 hb => leaves_any w1 oa oc es (by rw [hel]; exact ⟨ol1, ol2⟩) (fun j e hj => by
    obtain ⟨g, off, q1, q2, q3⟩ := hEls.below hb j e hj
    exact ⟨g, off, q1, Nat.lt_of_lt_of_le q2 hb.size, q3⟩) va vals.length vc st ha heads.length hc
  rw [hel] at hA5
  have HR : Hid (ops.all opR = true → decide (cw es.reverse (vals.length : Int) = some 1) = decide (cnt ops.reverse vals.length = some 1)) := fun hall => by
    rw [cw_cnt es.reverse ops.reverse vals.length (by rw [List.map_reverse, List.map_reverse, hec]) (fun o ho => ?_) (by rw [List.length_reverse]; exact h.few)]
    · rw [Bool.eq_iff_iff, decide_eq_true_eq, decide_eq_true_eq]
      cases cnt ops.reverse vals.length with
      | none => simp
      | some k => simp; omega
    · have := opR_iff.1 (List.all_eq_true.1 hall o (List.mem_reverse.1 ho))
      rcases this with ⟨_, _, q1, q2, _⟩ | ⟨_, _, q⟩
      · exact ⟨q1, q2⟩
      · rw [q]; simp [noCl]
  have HS : Hid (stR st ops vals heads = (decide (0 ≤ st) && ops.all opR && vals.all grd && heads.all symB && ris heads && decide (cnt ops.reverse vals.length = some 1))) := rfl
  generalize stR st ops vals heads = R at HS ⊢
  obtain ⟨d, hd⟩ : ∃ d : Nat, (if R = true then 0 else 3) = d := ⟨_, rfl⟩
  rw [hd]
  have HDD : Hid ((if R = true then 0 else 3) = d) := hd
  clear hd
  generalize ops.all opR = b1 at hA1 HS HR
  generalize vals.all grd = b2 at hA2 HS
  generalize heads.all symB = b3 at hA3 HS
  generalize ris heads = b4 at hA4 HS
  generalize decide (cnt ops.reverse vals.length = some 1) = b5 at HS HR
  generalize decide (cw es.reverse (vals.length : Int) = some 1) = b6 at hA5 HR
  clear hEls hec h
  by_cases h0 : 0 ≤ st
  · rw [decide_eq_true h0] at HS
    cases b1 with
    | false =>
      have HD : Hid (d = 3) := by show _ = _; rw [← HDD.out, HS.out]; rfl
      clear HS HR HDD
      go_enter Try.func22, Try.ntmps22
      go_wp2_with (first | (go_at_call 39; refine (hA1 _ HB0.out).mono ?_; rintro e w1 ⟨rfl, hb1⟩; have hB1 := HB0.out.trans (hb1.mono HB0.out.size); have hX1 := HX.out.on hb1 HX.out.lt; have d1 := hX1.cell (i := 1) rfl) | (go_at_call 41; refine (hA2 _ hB1).mono ?_; rintro e w2 ⟨rfl, hb2⟩; have hB2 := hB1.trans (hb2.mono hB1.size); have hX2 := hX1.on hb2 hX1.lt; have d2 := hX2.cell (i := 3) rfl) | (go_at_call 42; refine (hA3 _ hB2).mono ?_; rintro e w3 ⟨rfl, hb3⟩; have hB3 := hB2.trans (hb3.mono hB2.size); have hX3 := hX2.on hb3 hX2.lt; have d3 := hX3.cell (i := 3) rfl) | (go_at_call 44; refine (hA4 _ hB3).mono ?_; rintro e w4 ⟨rfl, hb4⟩; have hB4 := hB3.trans (hb4.mono hB3.size); have hX4 := hX3.on hb4 hX3.lt; have e0 := hX4.cell (i := 0) rfl; have e1 := hX4.cell (i := 1) rfl; have e2 := hX4.cell (i := 2) rfl; have e3 := hX4.cell (i := 3) rfl) | (go_at_call 45; refine (hA5 _ hB4).mono ?_; rintro e w5 ⟨rfl, hb5⟩; have hB5 := hB4.trans (hb5.mono hB4.size)))
      go_ret
      exact ⟨by rw [HD.out]; rfl, hB1⟩
    | true =>
      cases b2 with
      | false =>
        have HD : Hid (d = 3) := by show _ = _; rw [← HDD.out, HS.out]; rfl
        clear HS HR HDD
        go_enter Try.func22, Try.ntmps22
        go_wp2_with (first | (go_at_call 39; refine (hA1 _ HB0.out).mono ?_; rintro e w1 ⟨rfl, hb1⟩; have hB1 := HB0.out.trans (hb1.mono HB0.out.size); have hX1 := HX.out.on hb1 HX.out.lt; have d1 := hX1.cell (i := 1) rfl) | (go_at_call 41; refine (hA2 _ hB1).mono ?_; rintro e w2 ⟨rfl, hb2⟩; have hB2 := hB1.trans (hb2.mono hB1.size); have hX2 := hX1.on hb2 hX1.lt; have d2 := hX2.cell (i := 3) rfl) | (go_at_call 42; refine (hA3 _ hB2).mono ?_; rintro e w3 ⟨rfl, hb3⟩; have hB3 := hB2.trans (hb3.mono hB2.size); have hX3 := hX2.on hb3 hX2.lt; have d3 := hX3.cell (i := 3) rfl) | (go_at_call 44; refine (hA4 _ hB3).mono ?_; rintro e w4 ⟨rfl, hb4⟩; have hB4 := hB3.trans (hb4.mono hB3.size); have hX4 := hX3.on hb4 hX3.lt; have e0 := hX4.cell (i := 0) rfl; have e1 := hX4.cell (i := 1) rfl; have e2 := hX4.cell (i := 2) rfl; have e3 := hX4.cell (i := 3) rfl) | (go_at_call 45; refine (hA5 _ hB4).mono ?_; rintro e w5 ⟨rfl, hb5⟩; have hB5 := hB4.trans (hb5.mono hB4.size)))
        go_ret
        exact ⟨by rw [HD.out]; rfl, hB2⟩
      | true =>
        cases b3 with
        | false =>
          have HD : Hid (d = 3) := by show _ = _; rw [← HDD.out, HS.out]; rfl
          clear HS HR HDD
          go_enter Try.func22, Try.ntmps22
          go_wp2_with (first | (go_at_call 39; refine (hA1 _ HB0.out).mono ?_; rintro e w1 ⟨rfl, hb1⟩; have hB1 := HB0.out.trans (hb1.mono HB0.out.size); have hX1 := HX.out.on hb1 HX.out.lt; have d1 := hX1.cell (i := 1) rfl) | (go_at_call 41; refine (hA2 _ hB1).mono ?_; rintro e w2 ⟨rfl, hb2⟩; have hB2 := hB1.trans (hb2.mono hB1.size); have hX2 := hX1.on hb2 hX1.lt; have d2 := hX2.cell (i := 3) rfl) | (go_at_call 42; refine (hA3 _ hB2).mono ?_; rintro e w3 ⟨rfl, hb3⟩; have hB3 := hB2.trans (hb3.mono hB2.size); have hX3 := hX2.on hb3 hX2.lt; have d3 := hX3.cell (i := 3) rfl) | (go_at_call 44; refine (hA4 _ hB3).mono ?_; rintro e w4 ⟨rfl, hb4⟩; have hB4 := hB3.trans (hb4.mono hB3.size); have hX4 := hX3.on hb4 hX3.lt; have e0 := hX4.cell (i := 0) rfl; have e1 := hX4.cell (i := 1) rfl; have e2 := hX4.cell (i := 2) rfl; have e3 := hX4.cell (i := 3) rfl) | (go_at_call 45; refine (hA5 _ hB4).mono ?_; rintro e w5 ⟨rfl, hb5⟩; have hB5 := hB4.trans (hb5.mono hB4.size)))
          go_ret
          exact ⟨by rw [HD.out]; rfl, hB3⟩
        | true =>
          cases b4 with
          | false =>
            have HD : Hid (d = 3) := by show _ = _; rw [← HDD.out, HS.out]; rfl
            clear HS HR HDD
            go_enter Try.func22, Try.ntmps22
            go_wp2_with (first | (go_at_call 39; refine (hA1 _ HB0.out).mono ?_; rintro e w1 ⟨rfl, hb1⟩; have hB1 := HB0.out.trans (hb1.mono HB0.out.size); have hX1 := HX.out.on hb1 HX.out.lt; have d1 := hX1.cell (i := 1) rfl) | (go_at_call 41; refine (hA2 _ hB1).mono ?_; rintro e w2 ⟨rfl, hb2⟩; have hB2 := hB1.trans (hb2.mono hB1.size); have hX2 := hX1.on hb2 hX1.lt; have d2 := hX2.cell (i := 3) rfl) | (go_at_call 42; refine (hA3 _ hB2).mono ?_; rintro e w3 ⟨rfl, hb3⟩; have hB3 := hB2.trans (hb3.mono hB2.size); have hX3 := hX2.on hb3 hX2.lt; have d3 := hX3.cell (i := 3) rfl) | (go_at_call 44; refine (hA4 _ hB3).mono ?_; rintro e w4 ⟨rfl, hb4⟩; have hB4 := hB3.trans (hb4.mono hB3.size); have hX4 := hX3.on hb4 hX3.lt; have e0 := hX4.cell (i := 0) rfl; have e1 := hX4.cell (i := 1) rfl; have e2 := hX4.cell (i := 2) rfl; have e3 := hX4.cell (i := 3) rfl) | (go_at_call 45; refine (hA5 _ hB4).mono ?_; rintro e w5 ⟨rfl, hb5⟩; have hB5 := hB4.trans (hb5.mono hB4.size)))
            go_ret
            exact ⟨by rw [HD.out]; rfl, hB4⟩
          | true =>
            obtain rfl : b6 = b5 := HR.out rfl
            cases b6 with
            | false =>
              have HD : Hid (d = 3) := by show _ = _; rw [← HDD.out, HS.out]; rfl
              clear HS HR HDD
              go_enter Try.func22, Try.ntmps22
              go_wp2_with (first | (go_at_call 39; refine (hA1 _ HB0.out).mono ?_; rintro e w1 ⟨rfl, hb1⟩; have hB1 := HB0.out.trans (hb1.mono HB0.out.size); have hX1 := HX.out.on hb1 HX.out.lt; have d1 := hX1.cell (i := 1) rfl) | (go_at_call 41; refine (hA2 _ hB1).mono ?_; rintro e w2 ⟨rfl, hb2⟩; have hB2 := hB1.trans (hb2.mono hB1.size); have hX2 := hX1.on hb2 hX1.lt; have d2 := hX2.cell (i := 3) rfl) | (go_at_call 42; refine (hA3 _ hB2).mono ?_; rintro e w3 ⟨rfl, hb3⟩; have hB3 := hB2.trans (hb3.mono hB2.size); have hX3 := hX2.on hb3 hX2.lt; have d3 := hX3.cell (i := 3) rfl) | (go_at_call 44; refine (hA4 _ hB3).mono ?_; rintro e w4 ⟨rfl, hb4⟩; have hB4 := hB3.trans (hb4.mono hB3.size); have hX4 := hX3.on hb4 hX3.lt; have e0 := hX4.cell (i := 0) rfl; have e1 := hX4.cell (i := 1) rfl; have e2 := hX4.cell (i := 2) rfl; have e3 := hX4.cell (i := 3) rfl) | (go_at_call 45; refine (hA5 _ hB4).mono ?_; rintro e w5 ⟨rfl, hb5⟩; have hB5 := hB4.trans (hb5.mono hB4.size)))
              go_ret
              exact ⟨by rw [HD.out]; rfl, hB5⟩
            | true =>
              have HD : Hid (d = 0) := by show _ = _; rw [← HDD.out, HS.out]; rfl
              clear HS HR HDD
              go_enter Try.func22, Try.ntmps22
              go_wp2_with (first | (go_at_call 39; refine (hA1 _ HB0.out).mono ?_; rintro e w1 ⟨rfl, hb1⟩; have hB1 := HB0.out.trans (hb1.mono HB0.out.size); have hX1 := HX.out.on hb1 HX.out.lt; have d1 := hX1.cell (i := 1) rfl) | (go_at_call 41; refine (hA2 _ hB1).mono ?_; rintro e w2 ⟨rfl, hb2⟩; have hB2 := hB1.trans (hb2.mono hB1.size); have hX2 := hX1.on hb2 hX1.lt; have d2 := hX2.cell (i := 3) rfl) | (go_at_call 42; refine (hA3 _ hB2).mono ?_; rintro e w3 ⟨rfl, hb3⟩; have hB3 := hB2.trans (hb3.mono hB2.size); have hX3 := hX2.on hb3 hX2.lt; have d3 := hX3.cell (i := 3) rfl) | (go_at_call 44; refine (hA4 _ hB3).mono ?_; rintro e w4 ⟨rfl, hb4⟩; have hB4 := hB3.trans (hb4.mono hB3.size); have hX4 := hX3.on hb4 hX3.lt; have e0 := hX4.cell (i := 0) rfl; have e1 := hX4.cell (i := 1) rfl; have e2 := hX4.cell (i := 2) rfl; have e3 := hX4.cell (i := 3) rfl) | (go_at_call 45; refine (hA5 _ hB4).mono ?_; rintro e w5 ⟨rfl, hb5⟩; have hB5 := hB4.trans (hb5.mono hB4.size)))
              go_ret
              exact ⟨by rw [HD.out]; rfl, hB5⟩
  · have HD : Hid (d = 3) := by show _ = _; rw [← HDD.out, HS.out, decide_eq_false h0]; rfl
    clear HS HR HDD
    go_enter Try.func22, Try.ntmps22
    go_wp2_with (first | (go_at_call 39; refine (hA1 _ HB0.out).mono ?_; rintro e w1 ⟨rfl, hb1⟩; have hB1 := HB0.out.trans (hb1.mono HB0.out.size); have hX1 := HX.out.on hb1 HX.out.lt; have d1 := hX1.cell (i := 1) rfl) | (go_at_call 41; refine (hA2 _ hB1).mono ?_; rintro e w2 ⟨rfl, hb2⟩; have hB2 := hB1.trans (hb2.mono hB1.size); have hX2 := hX1.on hb2 hX1.lt; have d2 := hX2.cell (i := 3) rfl) | (go_at_call 42; refine (hA3 _ hB2).mono ?_; rintro e w3 ⟨rfl, hb3⟩; have hB3 := hB2.trans (hb3.mono hB2.size); have hX3 := hX2.on hb3 hX2.lt; have d3 := hX3.cell (i := 3) rfl) | (go_at_call 44; refine (hA4 _ hB3).mono ?_; rintro e w4 ⟨rfl, hb4⟩; have hB4 := hB3.trans (hb4.mono hB3.size); have hX4 := hX3.on hb4 hX3.lt; have e0 := hX4.cell (i := 0) rfl; have e1 := hX4.cell (i := 1) rfl; have e2 := hX4.cell (i := 2) rfl; have e3 := hX4.cell (i := 3) rfl) | (go_at_call 45; refine (hA5 _ hB4).mono ?_; rintro e w5 ⟨rfl, hb5⟩; have hB5 := hB4.trans (hb5.mono hB4.size)))
    go_ret
    exact ⟨by rw [HD.out]; rfl, HB0.out⟩

structure Stt where
  ops : List Opr
  vals : List (List Cl)
  steps : Int
  heads : List ByteArray
def noStt : Stt := ⟨[], [], 0, []⟩
def Cf.stt (c : Cf) : Stt := ⟨c.stk.reverse, c.vals, c.steps, c.heads⟩
def Stt.cf (s : Stt) (fu : Int) : Cf := ⟨s.ops.reverse, s.vals, s.steps, s.heads, fu⟩
/-- what Run answers -/
def runP (rs : List Rl) (tb : Tb) (s : Stt) (fu : Int) : Stt × Nat :=
  if chkRs rs = 0 then (if stR s.steps s.ops s.vals s.heads = true then ((fin rs tb (s.cf fu)).1.stt, (fin rs tb (s.cf fu)).2) else (noStt, 3)) else (noStt, chkRs rs)

structure StWf (s : Stt) : Prop where
  ops : ∀ o ∈ s.ops, o.c.nm.size ≤ 9223372036854775807 ∧ (-9223372036854775808 ≤ o.k ∧ o.k ≤ 9223372036854775807) ∧ (-9223372036854775808 ≤ o.c.ar ∧ o.c.ar ≤ 9223372036854775807)
  steps : -9223372036854775808 ≤ s.steps ∧ s.steps ≤ 9223372036854775807
  heads : ∀ x ∈ s.heads, x.size ≤ maxLen
theorem StIn.lies {w : World} {ov vv hv : Value} {s : Stt} (h : StIn w ov vv hv s.ops s.vals s.heads) (hw : StWf s) (hf : s.vals.length + s.ops.length ≤ 9223372036854775000) : LiesSt w ov vv hv s.steps s.ops s.vals s.heads := by
  obtain ⟨⟨_, h1⟩, ⟨_, h2⟩, _, h3⟩ := h
  exact ⟨OpsV.lies h1 (fun _ _ h => h) hw.ops, ValsV.lies h2 (fun _ _ h => h), OwnsS.lies h3, hw.heads, hf⟩
theorem opOk.small {o : Opr} (h : opOk o) : o.v.length ≤ 64 ∧ (∀ c ∈ o.v, c.nm.size ≤ 8) ∧ o.c.nm.size ≤ 8 ∧ (0 ≤ o.k ∧ o.k ≤ 2) ∧ 0 ≤ o.c.ar ∧ o.c.ar ≤ 4 := by
  rcases h with ⟨h1, h2, h3, h4, h5⟩ | ⟨h1, h2, h3⟩
  · have := (kind_one h2).1
    rw [h5]
    exact ⟨by simp, (fun c hc => by simp at hc), this, by omega, h3, h4⟩
  · obtain ⟨q1, q2⟩ := grd_iff.1 h2
    obtain ⟨a1, a2, _⟩ := check_zero q1
    refine ⟨a1, fun c hc => ?_, by rw [h3]; exact Nat.zero_le _, by omega, by rw [h3]; simp [noCl], by rw [h3]; simp [noCl]⟩
    exact (kind_one (sym_kind (cellsErr_zero.1 a2 c hc) (q2 c hc))).1
theorem grd_small {l : List Cl} (h : grd l = true) : l.length ≤ 64 ∧ ∀ c ∈ l, c.nm.size ≤ 8 := by
  obtain ⟨q1, q2⟩ := grd_iff.1 h
  obtain ⟨a1, a2, _⟩ := check_zero q1
  exact ⟨a1, fun c hc => (kind_one (sym_kind (cellsErr_zero.1 a2 c hc) (q2 c hc))).1⟩
theorem rt_of {s : Stt} {fu : Int} (h : stR s.steps s.ops s.vals s.heads = true) (hl : s.ops.length + 8 * fu.toNat ≤ 2513169500000) : Rt (s.cf fu) := by
  unfold stR at h
  simp only [Bool.and_eq_true, decide_eq_true_eq] at h
  obtain ⟨⟨⟨⟨⟨h0, h1⟩, h2⟩, h3⟩, h4⟩, h5⟩ := h
  refine ⟨fun o ho => opR_iff.1 (List.all_eq_true.1 h1 o (List.mem_reverse.1 ho)), fun v hv => List.all_eq_true.1 h2 v hv, h5, ⟨fun x hx => ?_, (ris_up _).1 h4⟩, by simp only [Stt.cf, List.length_reverse]; exact hl⟩
  have := List.all_eq_true.1 h3 x hx
  simpa [symB] using this
theorem runN_rt {rs : List Rl} {tb : Tb} (hr : RsOk rs) (ht : TbOk tb) : ∀ (n : Nat) (c : Cf), Rt c → Rt (runN rs tb n c).1
  | 0, c, h => h
  | n + 1, ⟨stk, vals, st, heads, fu⟩, h => by
    unfold runN
    cases stk with
    | nil => exact h
    | cons o r =>
      simp only
      cases h1 : one rs tb o ⟨r, vals, st, heads, fu⟩ with
      | go c' =>
        simp only
        exact runN_rt hr ht n c' (one_rt hr ht (c := ⟨r, vals, st, heads, fu⟩) h h1).1
      | stop e => simp only; exact h
theorem runN_lim {rs : List Rl} {tb : Tb} : ∀ (n : Nat) (c : Cf), (-9223372036854775808 ≤ c.steps ∧ c.steps ≤ 9223372036854775807) → (-9223372036854775808 ≤ c.fuel ∧ c.fuel ≤ 9223372036854775807) → (-9223372036854775808 ≤ (runN rs tb n c).1.steps ∧ (runN rs tb n c).1.steps ≤ 9223372036854775807)
  | 0, c, h, _ => h
  | n + 1, ⟨stk, vals, st, heads, fu⟩, h, hf => by
    unfold runN
    cases stk with
    | nil => exact h
    | cons o r =>
      simp only
      cases h1 : one rs tb o ⟨r, vals, st, heads, fu⟩ with
      | go c' =>
        simp only
        obtain ⟨q1, q2⟩ := one_lim h1 h hf
        exact runN_lim n c' q1 q2
      | stop e => simp only; exact h
theorem AskAt.on {w w' : World} {tv : Value} {tb : Tb} (h : AskAt w tv tb) (hb : Below w.heap.size w w') : AskAt w' tv tb := fun w2 x L h1 h2 h3 => h w2 x L (hb.trans (h1.mono hb.size)) h2 h3

/-- a state of the call's own -/
def OutSt (B : Nat) (w : World) (sv : Value) (s : Stt) : Prop :=
  ∃ ov vv hv, sv = .agg #[ov, vv, .int .i64 s.steps, hv] ∧ OpsV (Owns w B) w B ov s.ops ∧ ValsV (Owns w B) w B vv s.vals ∧ OwnsS w B hv s.heads
theorem outSt_none (B : Nat) (w : World) : OutSt B w (.agg #[.slice none 0 0, .slice none 0 0, .int .i64 0, .slice none 0 0]) noStt :=
  ⟨_, _, _, rfl, ⟨[], rfl, World.ownsRow_nil _ _ _ _, fun i o h => by simp [noStt] at h⟩, ⟨[], World.ownsRow_nil _ _ _ _, fun i o h => by simp [noStt] at h⟩, World.ownsRow_nil _ _ _ _⟩
theorem OutSt.base {B B' : Nat} {w : World} {sv : Value} {s : Stt} (h : OutSt B w sv s) (hB : B' ≤ B) : OutSt B' w sv s := by
  obtain ⟨ov, vv, hv, e, ⟨os, h0, h1, h2⟩, ⟨vs, h3, h4⟩, h5⟩ := h
  refine ⟨ov, vv, hv, e, ⟨os, h0, own_base h1 hB, fun i o hi => ?_⟩, ⟨vs, own_base h3 hB, fun i o hi => ?_⟩, own_base h5 hB⟩
  · obtain ⟨x, q1, q2, q3⟩ := h2 i o hi; exact ⟨x, q1, q2, own_base q3 hB⟩
  · obtain ⟨x, q1, q2, q3⟩ := h4 i o hi; exact ⟨x, q1, q2, own_base q3 hB⟩
theorem OutSt.blk {B : Nat} {w w' : World} {sv : Value} {s : Stt} {p : Nat} {cs : Array Value} (h : OutSt B w sv s) (hp : Blk w p cs 39) (hg : w.grownBy w' (some p)) : OutSt B w' sv s := by
  obtain ⟨ov, vv, hv, e, h1, h2, h3⟩ := h
  exact ⟨ov, vv, hv, e, h1.blk hp (by decide) (by decide) hg, h2.blk hp (by decide) (by decide) hg, row_blk h3 hp (by decide) hg⟩
theorem OutSt.on {B : Nat} {w w' : World} {sv : Value} {s : Stt} (h : OutSt B w sv s) (hb : Below w.heap.size w w') : OutSt B w' sv s := by
  obtain ⟨ov, vv, hv, e, h1, h2, h3⟩ := h
  exact ⟨ov, vv, hv, e, h1.below hb, ValsV.on h2 hb (fun x l hx => own_below hx hb), own_below h3 hb⟩

theorem state_of_rn {B : Nat} {w : World} {p : Nat} {ov vv hv rv tv : Value} {c : Cf} (h : Rn B w p ov vv hv rv tv c.stk.reverse c.vals c.steps c.heads c.fuel) (hrt : Rt c) :
    Calls Try.prog 20 #[.agg #[ov, vv, .int .i64 c.steps, hv]] w fun e w' => ∃ sv, e = .returned sv ∧ OutSt w.heap.size w' sv c.stt ∧ Below w.heap.size w w' := by
  obtain ⟨g1, g2, g3, g4, g5⟩ := hrt
  have hvl := cnt_le _ _ g1 g3
  have hlen := g4.len
  refine (state_any w ov vv hv c.stk.reverse c.vals c.steps c.heads (OpsV.lies h.ops (fun x l h => h.1) (fun o ho => ?_)) (ValsV.lies h.vals (fun x l h => h.1)) (OwnsS.lies h.heads) (fun o ho => ?_) (fun l hl => ?_) (fun x hx => ?_) (op_lim (by rw [List.length_reverse]; omega)) (val_lim (by omega)) (by omega)).mono ?_
  · obtain ⟨q1, q2, q3, q4, q5, q6⟩ := opOk.small (g1 o (List.mem_reverse.1 ho))
    omega
  · obtain ⟨q1, q2, q3, q4, q5, q6⟩ := opOk.small (g1 o (List.mem_reverse.1 ho))
    exact ⟨by omega, fun c hc => Nat.le_trans (q2 c hc) (by omega), by omega⟩
  · obtain ⟨q1, q2⟩ := grd_small (g2 l hl)
    exact ⟨by omega, fun c hc => Nat.le_trans (q2 c hc) (by omega)⟩
  · exact Nat.le_trans (g4.size x hx) (by omega)
  · rintro e w' ⟨ov', vv', hv', rfl, h1, h2, h3, hb⟩
    exact ⟨_, rfl, ⟨_, _, _, rfl, h1, h2, h3⟩, hb⟩

set_option maxHeartbeats 4000000 in
theorem run_any (w : World) (rv : Value) (rs : List Rl) (hr : LiesR w rv rs) (s : Stt) (ov vv hv : Value) (hin : StIn w ov vv hv s.ops s.vals s.heads) (hwf : StWf s) (fu : Int) (hfu : -9223372036854775808 ≤ fu ∧ fu ≤ 9223372036854775807) (tv : Value) (htv : tv = .nilIface ∨ ∃ t v, tv = .iface t v) (tb : Tb) (htb : TbOk tb) (hask : AskAt w tv tb)
    (hlim : s.ops.length + 8 * fu.toNat ≤ 2513169500000) (lv : s.vals.length ≤ 7539508500002) (lh : s.heads.length ≤ 7539508500002) :
    Calls Try.prog 11 #[rv, .agg #[ov, vv, .int .i64 s.steps, hv], .int .i64 fu, tv] w fun e w' => ∃ sv, e = .returned (.tuple #[sv, .int .i64 ((runP rs tb s fu).2 : Nat)]) ∧ OutSt w.heap.size w' sv (runP rs tb s fu).1 ∧ Below w.heap.size w w' := by
  have hls := hin.lies hwf (by omega)
  have hc1 : ∀ w1, Below w.heap.size w w1 → _ := fun w1 hb => checkRules_any w1 rv rs (hr.on hb)
  have hc2 : ∀ w1, Below w.heap.size w w1 → _ := fun w1 hb => check7_any w1 ov vv hv s.steps s.ops s.vals s.heads (hls.on hb)
  have HB0 : Hid (Below w.heap.size w ((w.alloc (.cells #[ov, vv, .int .i64 s.steps, hv] 39)).alloc (.cells #[.slice none 0 0, .slice none 0 0, .int .i64 0, .slice none 0 0] 39))) := ((Below.refl _ w).alloc (Nat.le_refl _) _).alloc (by simp) _
  have HX : Hid (Blk ((w.alloc (.cells #[ov, vv, .int .i64 s.steps, hv] 39)).alloc (.cells #[.slice none 0 0, .slice none 0 0, .int .i64 0, .slice none 0 0] 39)) w.heap.size #[ov, vv, .int .i64 s.steps, hv] 39) := (Blk.made w _ 39).alloc _
  have HR : Hid (Blk ((w.alloc (.cells #[ov, vv, .int .i64 s.steps, hv] 39)).alloc (.cells #[.slice none 0 0, .slice none 0 0, .int .i64 0, .slice none 0 0] 39)) (w.heap.size + 1) #[.slice none 0 0, .slice none 0 0, .int .i64 0, .slice none 0 0] 39) := by
    have := Blk.made (w.alloc (.cells #[ov, vv, .int .i64 s.steps, hv] 39)) #[.slice none 0 0, .slice none 0 0, .int .i64 0, .slice none 0 0] 39
    rwa [show (w.alloc (.cells #[ov, vv, .int .i64 s.steps, hv] 39)).heap.size = w.heap.size + 1 by simp] at this
  have HIN : Hid (StIn w ov vv hv s.ops s.vals s.heads) := hin
  have HLR : Hid (LiesR w rv rs) := hr
  have HTB : Hid (TbOk tb) := htb
  have HASK : Hid (AskAt w tv tb) := hask
  have HTV : Hid (tv = .nilIface ∨ ∃ t v, tv = .iface t v) := htv
  have HLIM : Hid (s.ops.length + 8 * fu.toNat ≤ 2513169500000) := hlim
  have hol : s.ops.length ≤ 2513169500020 := by omega
  obtain ⟨oa, oc, hov, _⟩ := id hls.lo
  obtain ⟨va, vc, hvv, _⟩ := id hls.lv
  obtain ⟨ha, hc, hhv, _⟩ := id hls.lh
  obtain ⟨ra, rc, hrv, _⟩ := hr
  subst hov
  subst hvv
  subst hhv
  subst hrv
  have HE : Hid (runP rs tb s fu = if chkRs rs = 0 then (if stR s.steps s.ops s.vals s.heads = true then ((fin rs tb (s.cf fu)).1.stt, (fin rs tb (s.cf fu)).2) else (noStt, 3)) else (noStt, chkRs rs)) := rfl
  generalize runP rs tb s fu = RP at HE ⊢
  have HZ : Hid (chkRs rs = 0 → RsOk rs) := fun h => by
    unfold chkRs at h
    split at h
    · rename_i h0; exact chkAll_zero.1 h0
    · rename_i h0; exact absurd h h0
  generalize chkRs rs = E at hc1 HE HZ
  clear hin hask htb htv hlim
  by_cases hE : E = 0
  · subst hE
    have HOK : Hid (RsOk rs) := HZ.out rfl
    cases hs : stR s.steps s.ops s.vals s.heads with
    | false =>
      rw [hs] at hc2
      have HRP : Hid (RP = (noStt, 3)) := by show _ = _; rw [HE.out, hs]; rfl
      clear HE HZ
      go_enter Try.func11, Try.ntmps11
      go_wp2_with (first | (go_at_call 16; refine (hc1 _ HB0.out).mono ?_; rintro e w1 ⟨rfl, hb1⟩; have hB1 := HB0.out.trans (hb1.mono HB0.out.size); have hX1 := HX.out.on hb1 HX.out.lt; have hR1 := HR.out.on hb1 HR.out.lt; have x0 := hX1.cell (i := 0) rfl; have x1 := hX1.cell (i := 1) rfl; have x2 := hX1.cell (i := 2) rfl; have x3 := hX1.cell (i := 3) rfl) | (go_at_call 22; refine (hc2 _ hB1).mono ?_; rintro e w2 ⟨rfl, hb2⟩; have hB2 := hB1.trans (hb2.mono hB1.size); have hR2 := hR1.on hb2 hR1.lt; have a0 := hR2.cell (i := 0) rfl; have z0 := hR2.free 0; have m1 := hR2.set 0 (.slice none 0 0); have a1 := m1.cell (i := 1) rfl; have z1 := m1.free 1; have m2 := m1.set 1 (.slice none 0 0); have a2 := m2.cell (i := 2) rfl; have z2 := m2.free 2; have m3 := m2.set 2 (.int .i64 0); have a3 := m3.cell (i := 3) rfl; have z3 := m3.free 3))
      obtain ⟨hD, hg⟩ := set4 hR2 (.slice none 0 0) (.slice none 0 0) (.int .i64 0) (.slice none 0 0)
      have e0 := hD.cell (i := 0) rfl
      have e1 := hD.cell (i := 1) rfl
      have e2 := hD.cell (i := 2) rfl
      have e3 := hD.cell (i := 3) rfl
      try simp only [Exit.inBlock, Exit.then]
      refine bodyPost_ret (v := .tuple #[.agg #[.slice none 0 0, .slice none 0 0, .int .i64 0, .slice none 0 0], .int .i64 (RP.2 : Nat)]) (by rw [HRP.out]; simp [results, Try.results11, go_sem, e0, e1, e2, e3]) rfl ⟨_, rfl, by rw [HRP.out]; exact outSt_none _ _, hB2.grown hg hB2.size (fun k hk => by cases hk; omega)⟩
    | true =>
      rw [hs] at hc2
      have hHRT : Rt (s.cf fu) := rt_of hs HLIM.out
      have HRT : Hid (Rt (s.cf fu)) := hHRT
      have hRT2 : Rt (fin rs tb (s.cf fu)).1 := runN_rt HOK.out HTB.out _ _ hHRT
      have hRP : RP = ((fin rs tb (s.cf fu)).1.stt, (fin rs tb (s.cf fu)).2) := by rw [HE.out, hs]; rfl
      obtain ⟨CF, hCF⟩ : ∃ CF, fin rs tb (s.cf fu) = CF := ⟨_, rfl⟩
      have HCF : Hid (fin rs tb (s.cf fu) = CF) := hCF
      rw [hCF] at hRT2 hRP
      have HRP : Hid (RP = (CF.1.stt, CF.2)) := hRP
      have HRT2 : Hid (Rt CF.1) := hRT2
      clear hRP hRT2 hCF hHRT
      have hwst := hwf.steps
      clear HE HZ hs hls hwf
      have hbeg : ∀ w2, Below w.heap.size w w2 → _ := fun w2 hb => begin_any w2 _ _ _ s.ops s.vals s.heads s.steps fu (HIN.out.on hb) (.slice ra rs.length rc) tv ⟨_, _, _, rfl⟩ HTV.out hol lv lh
      go_enter Try.func11, Try.ntmps11
      go_wp2_with (first | (go_at_call 16; refine (hc1 _ HB0.out).mono ?_; rintro e w1 ⟨rfl, hb1⟩; have hB1 := HB0.out.trans (hb1.mono HB0.out.size); have hX1 := HX.out.on hb1 HX.out.lt; have hR1 := HR.out.on hb1 HR.out.lt; have x0 := hX1.cell (i := 0) rfl; have x1 := hX1.cell (i := 1) rfl; have x2 := hX1.cell (i := 2) rfl; have x3 := hX1.cell (i := 3) rfl) | (go_at_call 22; refine (hc2 _ hB1).mono ?_; rintro e w2 ⟨rfl, hb2⟩; have hB2 := hB1.trans (hb2.mono hB1.size); have hR2 := hR1.on hb2 hR1.lt; have hX2 := hX1.on hb2 hX1.lt; have x0 := hX2.cell (i := 0) rfl; have x1 := hX2.cell (i := 1) rfl; have x2 := hX2.cell (i := 2) rfl; have x3 := hX2.cell (i := 3) rfl) | (go_at_call 23; refine (hbeg w2 hB2).mono ?_; rintro e w3 ⟨p, ov3, vv3, hv3, rfl, hRn3, hb3⟩; have hR3 := hR2.on hb3 hR2.lt; have hgo := goOn_any w2 w3 hb3 p ov3 vv3 hv3 _ tv (s.cf fu) (by simpa [Stt.cf] using hRn3) HRT.out rs (HLR.out.on hB2) HOK.out tb HTB.out (HASK.out.on hB2) hwst hfu; rw [HCF.out] at hgo) | (go_at_call 24; refine hgo.mono ?_; rintro e w4 ⟨rfl, ⟨ov4, vv4, hv4, hRn4⟩, hk4⟩; have hR4 : Blk w4 (w.heap.size + 1) #[.slice none 0 0, .slice none 0 0, .int .i64 0, .slice none 0 0] 39 := (hk4.low.block _ (by have := hR2.lt; omega)).trans hR3; have hB4 := (hB2.trans (hb3.mono hB2.size)).trans (hk4.low.mono hB2.size); obtain ⟨a4, c4, f4⟩ := hRn4.ops.form; rw [List.length_reverse] at f4; obtain ⟨a4', c4', f4'⟩ := hRn4.vals.form; obtain ⟨a4'', c4'', f4''⟩ := OwnsS.form hRn4.heads; subst f4; subst f4'; subst f4''; have y0 := hRn4.blk.cell (i := 0) rfl; have y1 := hRn4.blk.cell (i := 1) rfl; have y2 := hRn4.blk.cell (i := 2) rfl; have y3 := hRn4.blk.cell (i := 3) rfl; have hst5 := state_of_rn hRn4 HRT2.out) | (go_at_call 20; refine hst5.mono ?_; rintro e w5 ⟨sv5, rfl, hO5, hb5⟩; obtain ⟨ov5, vv5, hv5, hsv, q1, q2, q3⟩ := id hO5; obtain ⟨a5, c5, f5⟩ := q1.form; obtain ⟨a5', c5', f5'⟩ := q2.form; obtain ⟨a5'', c5'', f5''⟩ := OwnsS.form q3; subst f5; subst f5'; subst f5''; subst hsv; have hR5 := hR4.on hb5 hR4.lt; have hB5 := hB4.trans (hb5.mono hB4.size); have a0 := hR5.cell (i := 0) rfl; have z0 := hR5.free 0; have m1 := hR5.set 0 (.slice a5 CF.1.stt.ops.length c5); have a1 := m1.cell (i := 1) rfl; have z1 := m1.free 1; have m2 := m1.set 1 (.slice a5' CF.1.stt.vals.length c5'); have a2 := m2.cell (i := 2) rfl; have z2 := m2.free 2; have m3 := m2.set 2 (.int .i64 CF.1.stt.steps); have a3 := m3.cell (i := 3) rfl; have z3 := m3.free 3))
      obtain ⟨hD, hg⟩ := set4 hR5 (.slice a5 CF.1.stt.ops.length c5) (.slice a5' CF.1.stt.vals.length c5') (.int .i64 CF.1.stt.steps) (.slice a5'' CF.1.stt.heads.length c5'')
      have e0 := hD.cell (i := 0) rfl
      have e1 := hD.cell (i := 1) rfl
      have e2 := hD.cell (i := 2) rfl
      have e3 := hD.cell (i := 3) rfl
      try simp only [Exit.inBlock, Exit.then]
      have hBB : w.heap.size ≤ w4.heap.size := hB4.size
      refine bodyPost_ret (v := .tuple #[.agg #[.slice a5 CF.1.stt.ops.length c5, .slice a5' CF.1.stt.vals.length c5', .int .i64 CF.1.stt.steps, .slice a5'' CF.1.stt.heads.length c5''], .int .i64 (RP.2 : Nat)]) (by rw [HRP.out]; simp [results, Try.results11, go_sem, e0, e1, e2, e3]) rfl ⟨_, rfl, by rw [HRP.out]; exact (hO5.base hBB).blk hR5 hg, hB5.grown hg hB5.size (fun k hk => by cases hk; omega)⟩
  · have HRP : Hid (RP = (noStt, E)) := by show _ = _; rw [HE.out, if_neg hE]
    have hE1 : ¬ (E : Int) = 0 := by omega
    clear HE HZ
    go_enter Try.func11, Try.ntmps11
    go_wp2_with (go_at_call 16; refine (hc1 _ HB0.out).mono ?_; rintro e w1 ⟨rfl, hb1⟩; have hB1 := HB0.out.trans (hb1.mono HB0.out.size); have hR1 := HR.out.on hb1 HR.out.lt; have a0 := hR1.cell (i := 0) rfl; have z0 := hR1.free 0; have m1 := hR1.set 0 (.slice none 0 0); have a1 := m1.cell (i := 1) rfl; have z1 := m1.free 1; have m2 := m1.set 1 (.slice none 0 0); have a2 := m2.cell (i := 2) rfl; have z2 := m2.free 2; have m3 := m2.set 2 (.int .i64 0); have a3 := m3.cell (i := 3) rfl; have z3 := m3.free 3)
    obtain ⟨hD, hg⟩ := set4 hR1 (.slice none 0 0) (.slice none 0 0) (.int .i64 0) (.slice none 0 0)
    have e0 := hD.cell (i := 0) rfl
    have e1 := hD.cell (i := 1) rfl
    have e2 := hD.cell (i := 2) rfl
    have e3 := hD.cell (i := 3) rfl
    try simp only [Exit.inBlock, Exit.then]
    refine bodyPost_ret (v := .tuple #[.agg #[.slice none 0 0, .slice none 0 0, .int .i64 0, .slice none 0 0], .int .i64 (RP.2 : Nat)]) (by rw [HRP.out]; simp [results, Try.results11, go_sem, e0, e1, e2, e3]) rfl ⟨_, rfl, by rw [HRP.out]; exact outSt_none _ _, hB1.grown hg hB1.size (fun k hk => by cases hk; omega)⟩

def startP (T : List Cl) : Stt × Nat :=
  if check T = 0 then (if grd T = true then (⟨(todo [] T).reverse, [], 0, []⟩, 0) else (noStt, 7)) else (noStt, check T)
theorem todo_grd {T : List Cl} (h : grd T = true) : ∀ o ∈ todo [] T, opOk o := by
  intro o ho
  obtain ⟨c, hc, rfl⟩ := post_mem [] T o ho
  obtain ⟨q1, q2⟩ := grd_iff.1 h
  have hce := cellsErr_zero.1 (check_zero q1).2.1 c hc
  have := cellErr_ar hce
  left
  exact ⟨rfl, sym_kind hce (q2 c hc), this.1, this.2, rfl⟩

theorem state_small (w : World) {Z B : Nat} {ov : Value} {D : List Opr} (h : OpsV (VL Z w) w B ov D) (hok : ∀ o ∈ D, opOk o) (hl : D.length ≤ 64) :
    Calls Try.prog 20 #[.agg #[ov, .slice none 0 0, .int .i64 0, .slice none 0 0]] w fun e w' => ∃ sv, e = .returned sv ∧ OutSt w.heap.size w' sv ⟨D, [], 0, []⟩ ∧ Below w.heap.size w w' := by
  refine (state_any w ov (.slice none 0 0) (.slice none 0 0) D [] 0 [] (OpsV.lies h (fun x l h => h.1) (fun o ho => ?_)) ⟨none, 0, rfl, Nat.le_refl _, Nat.zero_le _, fun j l h => by simp at h⟩ ⟨none, 0, rfl, Nat.le_refl _, Nat.zero_le _, fun j l h => by simp at h⟩ (fun o ho => ?_) (fun l hl => by simp at hl) (fun x hx => by simp at hx) (op_lim (by omega)) (by decide) (by decide)).mono ?_
  · obtain ⟨q1, q2, q3, q4, q5, q6⟩ := opOk.small (hok o ho)
    omega
  · obtain ⟨q1, q2, q3, q4, q5, q6⟩ := opOk.small (hok o ho)
    exact ⟨by omega, fun c hc => Nat.le_trans (q2 c hc) (by omega), by omega⟩
  · rintro e w' ⟨ov', vv', hv', rfl, h1, h2, h3, hb⟩
    exact ⟨_, rfl, ⟨_, _, _, rfl, h1, h2, h3⟩, hb⟩

set_option maxHeartbeats 4000000 in
theorem start_any (w : World) (tv : Value) (T : List Cl) (hT : Lies w tv T) :
    Calls Try.prog 10 #[tv] w fun e w' => ∃ sv, e = .returned (.tuple #[sv, .int .i64 ((startP T).2 : Nat)]) ∧ OutSt w.heap.size w' sv (startP T).1 ∧ Below w.heap.size w w' := by
  have HB0 : Hid (Below w.heap.size w (w.alloc (.cells #[.slice none 0 0, .slice none 0 0, .int .i64 0, .slice none 0 0] 39))) := (Below.refl _ w).alloc (Nat.le_refl _) _
  have HR : Hid (Blk (w.alloc (.cells #[.slice none 0 0, .slice none 0 0, .int .i64 0, .slice none 0 0] 39)) w.heap.size #[.slice none 0 0, .slice none 0 0, .int .i64 0, .slice none 0 0] 39) := Blk.made _ _ _
  have hc1 := check_any (w.alloc (.cells #[.slice none 0 0, .slice none 0 0, .int .i64 0, .slice none 0 0] 39)) tv T (hT.on HB0.out)
  have hc2 : ∀ w1, Below w.heap.size w w1 → _ := fun w1 hb => ground_any w1 tv T (hT.on hb)
  have HT : Hid (Lies w tv T) := hT
  have HE : Hid (startP T = if check T = 0 then (if grd T = true then (⟨(todo [] T).reverse, [], 0, []⟩, 0) else (noStt, 7)) else (noStt, check T)) := rfl
  obtain ⟨ta, tc, htv, _⟩ := hT
  subst htv
  generalize startP T = RP at HE ⊢
  by_cases hE : check T = 0
  · rw [hE] at hc1
    cases hg : grd T with
    | false =>
      rw [hg] at hc2
      have HRP : Hid (RP = (noStt, 7)) := by show _ = _; rw [HE.out, if_pos hE, hg]; rfl
      clear HE hE hg
      go_enter Try.func10, Try.ntmps10
      go_wp2_with (first | (go_at_call 18; refine hc1.mono ?_; rintro e w1 ⟨rfl, hb1⟩; have hB1 := HB0.out.trans (hb1.mono HB0.out.size); have hR1 := HR.out.on hb1 HR.out.lt) | (go_at_call 19; refine (hc2 _ hB1).mono ?_; rintro e w2 ⟨rfl, hb2⟩; have hB2 := hB1.trans (hb2.mono hB1.size); have hR2 := hR1.on hb2 hR1.lt; have a0 := hR2.cell (i := 0) rfl; have z0 := hR2.free 0; have m1 := hR2.set 0 (.slice none 0 0); have a1 := m1.cell (i := 1) rfl; have z1 := m1.free 1; have m2 := m1.set 1 (.slice none 0 0); have a2 := m2.cell (i := 2) rfl; have z2 := m2.free 2; have m3 := m2.set 2 (.int .i64 0); have a3 := m3.cell (i := 3) rfl; have z3 := m3.free 3))
      obtain ⟨hD, hg⟩ := set4 hR2 (.slice none 0 0) (.slice none 0 0) (.int .i64 0) (.slice none 0 0)
      have e0 := hD.cell (i := 0) rfl
      have e1 := hD.cell (i := 1) rfl
      have e2 := hD.cell (i := 2) rfl
      have e3 := hD.cell (i := 3) rfl
      try simp only [Exit.inBlock, Exit.then]
      refine bodyPost_ret (v := .tuple #[.agg #[.slice none 0 0, .slice none 0 0, .int .i64 0, .slice none 0 0], .int .i64 (RP.2 : Nat)]) (by rw [HRP.out]; simp [results, Try.results10, go_sem, e0, e1, e2, e3]) rfl ⟨_, rfl, by rw [HRP.out]; exact outSt_none _ _, hB2.grown hg hB2.size (fun k hk => by cases hk; omega)⟩
    | true =>
      rw [hg] at hc2
      have hRP : RP = (⟨(todo [] T).reverse, [], 0, []⟩, 0) := by rw [HE.out, if_pos hE, hg]; rfl
      have htl := todo_len [] T
      have h64 := (check_zero hE).1
      have hok := todo_grd hg
      obtain ⟨D, hD⟩ : ∃ D, (todo [] T).reverse = D := ⟨_, rfl⟩
      have htd : ∀ w1, Below w.heap.size w w1 → _ := fun w1 hb => toDo_any w.heap.size w1.heap.size hb.size w1 (.slice ta T.length tc) T ((VL.old HT.out (Nat.le_refl _)).on (K7.of hb (Nat.le_refl _))) hE (.slice none 0 0) [] 0 (OwnsB.nil _ _) (fun b hb => by cases hb) (Nat.le_refl _)
      rw [hD] at hRP htd
      have HRP : Hid (RP = (⟨D, [], 0, []⟩, 0)) := hRP
      have HOK : Hid (∀ o ∈ D, opOk o) := fun o ho => hok o (by rw [← hD] at ho; exact List.mem_reverse.1 ho)
      have hDl : D.length ≤ 64 := by rw [← hD, List.length_reverse, htl]; exact h64
      clear HE hE hg hRP htl hok hD
      go_enter Try.func10, Try.ntmps10
      go_wp2_with (first | (go_at_call 18; refine hc1.mono ?_; rintro e w1 ⟨rfl, hb1⟩; have hB1 := HB0.out.trans (hb1.mono HB0.out.size); have hR1 := HR.out.on hb1 HR.out.lt) | (go_at_call 19; refine (hc2 _ hB1).mono ?_; rintro e w2 ⟨rfl, hb2⟩; have hB2 := hB1.trans (hb2.mono hB1.size); have hR2 := hR1.on hb2 hR1.lt) | (go_at_call 21; refine (htd _ hB2).mono ?_; rintro e w3 ⟨ov3, rfl, hO3, hk3⟩; have hb3 := hk3.low; have hB3 := hB2.trans (hb3.mono hB2.size); have hR3 := hR2.on hb3 hR2.lt; have hst := state_small w3 hO3 HOK.out hDl; obtain ⟨a3, c3, f3⟩ := hO3.form; subst f3) | (go_at_call 20; refine hst.mono ?_; rintro e w5 ⟨sv5, rfl, hO5, hb5⟩; obtain ⟨ov5, vv5, hv5, hsv, q1, q2, q3⟩ := id hO5; obtain ⟨a5, c5, f5⟩ := q1.form; obtain ⟨a5', c5', f5'⟩ := q2.form; obtain ⟨a5'', c5'', f5''⟩ := OwnsS.form q3; simp only [List.length_nil] at f5 f5' f5'' hsv; subst f5; subst f5'; subst f5''; subst hsv; have hR5 := hR3.on hb5 hR3.lt; have hB5 := hB3.trans (hb5.mono hB3.size); have a0 := hR5.cell (i := 0) rfl; have z0 := hR5.free 0; have m1 := hR5.set 0 (.slice a5 D.length c5); have a1 := m1.cell (i := 1) rfl; have z1 := m1.free 1; have m2 := m1.set 1 (.slice a5' 0 c5'); have a2 := m2.cell (i := 2) rfl; have z2 := m2.free 2; have m3 := m2.set 2 (.int .i64 0); have a3 := m3.cell (i := 3) rfl; have z3 := m3.free 3))
      obtain ⟨hD, hg⟩ := set4 hR5 (.slice a5 D.length c5) (.slice a5' 0 c5') (.int .i64 0) (.slice a5'' 0 c5'')
      have e0 := hD.cell (i := 0) rfl
      have e1 := hD.cell (i := 1) rfl
      have e2 := hD.cell (i := 2) rfl
      have e3 := hD.cell (i := 3) rfl
      try simp only [Exit.inBlock, Exit.then]
      have hBB : w.heap.size ≤ w3.heap.size := hB3.size
      refine bodyPost_ret (v := .tuple #[.agg #[.slice a5 D.length c5, .slice a5' 0 c5', .int .i64 0, .slice a5'' 0 c5''], .int .i64 (RP.2 : Nat)]) (by rw [HRP.out]; simp [results, Try.results10, go_sem, e0, e1, e2, e3]) rfl ⟨_, rfl, by rw [HRP.out]; exact (hO5.base hBB).blk hR5 hg, hB5.grown hg hB5.size (fun k hk => by cases hk; omega)⟩
  · have HRP : Hid (RP = (noStt, check T)) := by show _ = _; rw [HE.out, if_neg hE]
    have hE1 : ¬ (check T : Int) = 0 := by omega
    generalize check T = E at hc1 HRP hE1
    clear HE hE
    go_enter Try.func10, Try.ntmps10
    go_wp2_with (go_at_call 18; refine hc1.mono ?_; rintro e w1 ⟨rfl, hb1⟩; have hB1 := HB0.out.trans (hb1.mono HB0.out.size); have hR1 := HR.out.on hb1 HR.out.lt; have a0 := hR1.cell (i := 0) rfl; have z0 := hR1.free 0; have m1 := hR1.set 0 (.slice none 0 0); have a1 := m1.cell (i := 1) rfl; have z1 := m1.free 1; have m2 := m1.set 1 (.slice none 0 0); have a2 := m2.cell (i := 2) rfl; have z2 := m2.free 2; have m3 := m2.set 2 (.int .i64 0); have a3 := m3.cell (i := 3) rfl; have z3 := m3.free 3)
    obtain ⟨hD, hg⟩ := set4 hR1 (.slice none 0 0) (.slice none 0 0) (.int .i64 0) (.slice none 0 0)
    have e0 := hD.cell (i := 0) rfl
    have e1 := hD.cell (i := 1) rfl
    have e2 := hD.cell (i := 2) rfl
    have e3 := hD.cell (i := 3) rfl
    try simp only [Exit.inBlock, Exit.then]
    refine bodyPost_ret (v := .tuple #[.agg #[.slice none 0 0, .slice none 0 0, .int .i64 0, .slice none 0 0], .int .i64 (RP.2 : Nat)]) (by rw [HRP.out]; simp [results, Try.results10, go_sem, e0, e1, e2, e3]) rfl ⟨_, rfl, by rw [HRP.out]; exact outSt_none _ _, hB1.grown hg hB1.size (fun k hk => by cases hk; omega)⟩

/-- what Normal answers -/
def normP (rs : List Rl) (T : List Cl) (fu : Int) : List Cl × Int × Nat :=
  if chkRs rs = 0 then
    if (startP T).2 = 0 then
      if (runP rs noTb (startP T).1 fu).2 = 0 then ((runP rs noTb (startP T).1 fu).1.vals.getLastD [], (runP rs noTb (startP T).1 fu).1.steps, 0)
      else ([], 0, (runP rs noTb (startP T).1 fu).2)
    else ([], 0, (startP T).2)
  else ([], 0, chkRs rs)
theorem noTb_ok : TbOk noTb := fun t p h => by cases h
theorem startP_zero {T : List Cl} (h : (startP T).2 = 0) : check T = 0 ∧ grd T = true ∧ (startP T).1 = ⟨(todo [] T).reverse, [], 0, []⟩ := by
  unfold startP at h ⊢
  by_cases hc : check T = 0
  · rw [if_pos hc] at h ⊢
    by_cases hg : grd T = true
    · rw [if_pos hg]
      exact ⟨hc, hg, rfl⟩
    · rw [if_neg hg] at h; exact absurd h (by decide)
  · rw [if_neg hc] at h
    exact absurd h hc
/-- a run that ended has one value -/
theorem runN_end {rs : List Rl} {tb : Tb} (hr : RsOk rs) (ht : TbOk tb) : ∀ (n : Nat) (c : Cf), Rt c → mu c < n → (runN rs tb n c).2 = 0 → (runN rs tb n c).1.stk = [] ∧ (runN rs tb n c).1.vals.length = 1
  | 0, c, _, h, _ => by omega
  | n + 1, ⟨stk, vals, st, heads, fu⟩, hc, h, he => by
    unfold runN at he ⊢
    cases stk with
    | nil =>
      have := hc.one
      simp only [cnt, Option.some.injEq] at this
      exact ⟨rfl, this⟩
    | cons o r =>
      simp only at he ⊢
      cases h1 : one rs tb o ⟨r, vals, st, heads, fu⟩ with
      | go c' =>
        rw [h1] at he
        simp only at he ⊢
        obtain ⟨q1, q2⟩ := one_rt hr ht (c := ⟨r, vals, st, heads, fu⟩) hc h1
        refine runN_end hr ht n c' q1 ?_ he
        simp only [mu, List.length_cons] at h q2 ⊢
        omega
      | stop e =>
        rw [h1] at he
        simp only at he
        have := one_stop h1
        omega
theorem runP_zero {rs : List Rl} {tb : Tb} (ht : TbOk tb) {s : Stt} {fu : Int} (hl : s.ops.length + 8 * fu.toNat ≤ 2513169500000) (h : (runP rs tb s fu).2 = 0) : (runP rs tb s fu).1.ops = [] ∧ ∃ v, (runP rs tb s fu).1.vals = [v] ∧ grd v = true := by
  unfold runP at h ⊢
  by_cases hc : chkRs rs = 0
  · rw [if_pos hc] at h ⊢
    by_cases hs : stR s.steps s.ops s.vals s.heads = true
    · rw [if_pos hs] at h ⊢
      have hr : RsOk rs := by
        unfold chkRs at hc
        split at hc
        · rename_i h0; exact chkAll_zero.1 h0
        · rename_i h0; exact absurd hc h0
      have hrt := rt_of (fu := fu) hs hl
      obtain ⟨q1, q2⟩ := runN_end hr ht _ _ hrt (Nat.lt_succ_self _) h
      have q3 := runN_rt hr ht (mu (s.cf fu) + 1) _ hrt
      refine ⟨?_, ?_⟩
      · show (fin rs tb (s.cf fu)).1.stk.reverse = []
        rw [show (fin rs tb (s.cf fu)).1.stk = [] from q1]; rfl
      · show ∃ v, (fin rs tb (s.cf fu)).1.vals = [v] ∧ _
        match hv : (fin rs tb (s.cf fu)).1.vals, (show (fin rs tb (s.cf fu)).1.vals.length = 1 from q2) with
        | [v], _ => exact ⟨v, rfl, q3.vals v (by show v ∈ (fin rs tb (s.cf fu)).1.vals; rw [hv]; simp)⟩
    · rw [if_neg hs] at h; exact absurd h (by decide)
  · rw [if_neg hc] at h; exact absurd h hc
theorem OutSt.in {B : Nat} {w : World} {ov vv hv : Value} {s : Stt} (h1 : OpsV (Owns w B) w B ov s.ops) (h2 : ValsV (Owns w B) w B vv s.vals) (h3 : OwnsS w B hv s.heads) (ho : ∀ o ∈ s.ops, Fine o.v) (hv' : ∀ v ∈ s.vals, Fine v) : StIn w ov vv hv s.ops s.vals s.heads := by
  obtain ⟨os, q0, q1, q2⟩ := h1
  obtain ⟨vs, q3, q4⟩ := h2
  refine ⟨⟨B, os, q0, q1, fun i o hi => ?_⟩, ⟨B, vs, q3, fun i l hi => ?_⟩, B, h3⟩
  · obtain ⟨x, a1, a2, a3⟩ := q2 i o hi
    exact ⟨x, a1, a2, Owns.lies a3 (ho o (List.mem_of_getElem? hi))⟩
  · obtain ⟨x, a1, a2, a3⟩ := q4 i l hi
    exact ⟨x, a1, a2, Owns.lies a3 (hv' l (List.mem_of_getElem? hi))⟩
theorem opOk.fine {o : Opr} (h : opOk o) : Fine o.v := by
  rcases h with ⟨_, _, _, _, h5⟩ | ⟨_, h2, _⟩
  · rw [h5]; intro c hc; cases hc
  · exact fine_check (grd_iff.1 h2).1

theorem ValsV.only {w : World} {B : Nat} {vv : Value} {v : List Cl} (h : ValsV (Owns w B) w B vv [v]) : ∃ g cap xa xc, vv = .slice (some ⟨g, 0, none⟩) 1 cap ∧ 1 ≤ cap ∧ cap ≤ maxLen ∧ w.cell? ⟨g, 0, none⟩ = some (.slice xa v.length xc) ∧ Owns w B (.slice xa v.length xc) v ∧ ∀ p cs, Blk w p cs 39 → g ≠ p := by
  obtain ⟨vs, h1, h2⟩ := h
  obtain ⟨x, q1, q2, q3⟩ := h2 0 v rfl
  obtain ⟨a, cap, hv, c1, c2, c3⟩ := own_cells h1
  obtain ⟨g, ha, _, hlt, hc⟩ := c3 0 x q1
  subst ha
  obtain ⟨xa, xc, hxv, _⟩ := own_cells q3
  have hxv2 : x = .slice xa v.length xc := hxv
  subst hxv2
  refine ⟨g, cap, xa, xc, hv, c1, c2, hc, q3, fun p cs hp e => ?_⟩
  rcases h1.2 with ⟨e1, _⟩ | ⟨g', cap', cur, e1, _, hg, _⟩
  · rw [hv] at e1; cases e1
  · rw [hv] at e1
    cases e1
    subst e
    unfold Blk at hp
    rw [hg] at hp
    cases hp

/-- what Normal answers lies in a row of the call's own -/
def OutN (B : Nat) (w : World) (e : Ending) (r : List Cl × Int × Nat) : Prop := ∃ v, e = .returned (.tuple #[v, .int .i64 r.2.1, .int .i64 (r.2.2 : Nat)]) ∧ Owns w B v r.1

set_option maxHeartbeats 4000000 in
theorem normal_any (w : World) (rv : Value) (rs : List Rl) (hr : LiesR w rv rs) (tv : Value) (T : List Cl) (hT : Lies w tv T) (fu : Int) (hfu : -9223372036854775808 ≤ fu ∧ fu ≤ 9223372036854775807) (hlim : 8 * fu.toNat ≤ 2513169400000) :
    Calls Try.prog 7 #[rv, tv, .int .i64 fu] w fun e w' => OutN w.heap.size w' e (normP rs T fu) ∧ Below w.heap.size w w' := by
  have hc1 := checkRules_any w rv rs hr
  have hst : ∀ w1, Below w.heap.size w w1 → _ := fun w1 hb => start_any w1 tv T (hT.on hb)
  have HLR : Hid (LiesR w rv rs) := hr
  have HN : Hid (normP rs T fu = if chkRs rs = 0 then
    if (startP T).2 = 0 then
      if (runP rs noTb (startP T).1 fu).2 = 0 then ((runP rs noTb (startP T).1 fu).1.vals.getLastD [], (runP rs noTb (startP T).1 fu).1.steps, 0)
      else ([], 0, (runP rs noTb (startP T).1 fu).2)
    else ([], 0, (startP T).2)
  else ([], 0, chkRs rs)) := rfl
  generalize normP rs T fu = NP at HN ⊢
  obtain ⟨ra, rc, hrv, _⟩ := id hr
  obtain ⟨ta, tc, htv, _⟩ := id hT
  subst hrv
  subst htv
  by_cases hE : chkRs rs = 0
  · rw [hE] at hc1
    by_cases hS : (startP T).2 = 0
    · obtain ⟨s1, s2, s3⟩ := startP_zero hS
      rw [hS] at hst
      have hrw : (startP T).1.ops.length ≤ 64 := by rw [s3]; simp only [List.length_reverse, todo_len]; exact (check_zero s1).1
      have hok : ∀ o ∈ (startP T).1.ops, opOk o := by rw [s3]; exact fun o ho => todo_grd s2 o (List.mem_reverse.1 ho)
      have hvn : (startP T).1.vals = [] := by rw [s3]
      have hhn : (startP T).1.heads = [] := by rw [s3]
      have hsn : (startP T).1.steps = 0 := by rw [s3]
      clear s1 s2 s3
      generalize hSP : startP T = SP at hst HN hS hrw hok hvn hhn hsn
      obtain ⟨s, e0⟩ := SP
      simp only at hst HN hS hrw hok hvn hhn hsn
      subst hS
      have hwf : StWf s := ⟨fun o ho => by obtain ⟨q1, q2, q3, q4, q5, q6⟩ := opOk.small (hok o ho); omega, by rw [hsn]; omega, by rw [hhn]; intro x hx; cases hx⟩
      have hrun : ∀ (w2 : World) (ov vv hv : Value) (B : Nat), Below w.heap.size w w2 → OpsV (Owns w2 B) w2 B ov s.ops → ValsV (Owns w2 B) w2 B vv s.vals → OwnsS w2 B hv s.heads → _ := fun w2 ov vv hv B hb h1 h2 h3 => run_any w2 (.slice ra rs.length rc) rs (HLR.out.on hb) s ov vv hv (OutSt.in h1 h2 h3 (fun o ho => (hok o ho).fine) (by rw [hvn]; intro v hv; cases hv)) hwf fu hfu .nilIface (.inl rfl) noTb noTb_ok (ask_nil w2) (by omega) (by rw [hvn]; decide) (by rw [hhn]; decide)
      by_cases hR : (runP rs noTb s fu).2 = 0
      · obtain ⟨hro, v, hrv1, hrg⟩ := runP_zero noTb_ok (by omega) hR
        have hNP : NP = (v, (runP rs noTb s fu).1.steps, 0) := by rw [HN.out, if_pos hE, if_pos rfl, if_pos hR, hrv1]; rfl
        generalize runP rs noTb s fu = RP at hrun hR hro hrv1 hNP
        obtain ⟨r, e1⟩ := RP
        simp only at hrun hR hro hrv1 hNP
        subst hR
        have HNP : Hid (NP = (v, r.steps, 0)) := hNP
        have HRO : Hid (r.ops = []) := hro
        have HRV : Hid (r.vals = [v]) := hrv1
        have HRG : Hid (grd v = true) := hrg
        clear HN hNP hE hSP hok hwf hvn hhn hsn hro hrv1 hrg hrw
        go_enter Try.func7, Try.ntmps7
        go_wp2_with (first | (go_at_call 16; refine hc1.mono ?_; rintro e w1 ⟨rfl, hb1⟩) | (go_at_call 10; refine (hst _ hb1).mono ?_; rintro e w2 ⟨sv, rfl, hO2, hb2⟩; have hB2 := hb1.trans (hb2.mono hb1.size); obtain ⟨ov2, vv2, hv2, hsv, q1, q2, q3⟩ := hO2; have hrn := fun w2' (hbb : Below w2.heap.size w2 w2') => hrun w2' ov2 vv2 hv2 _ (hB2.trans (hbb.mono hB2.size)) (q1.below hbb) (ValsV.on q2 hbb (fun x l hx => own_below hx hbb)) (own_below q3 hbb); obtain ⟨a2, c2, f2⟩ := q1.form; obtain ⟨a2', c2', f2'⟩ := q2.form; obtain ⟨a2'', c2'', f2''⟩ := OwnsS.form q3; subst f2; subst f2'; subst f2''; subst hsv; have HA2 : Hid (Below w2.heap.size w2 (w2.alloc (.cells #[.slice a2 s.ops.length c2, .slice a2' s.vals.length c2', .int .i64 s.steps, .slice a2'' s.heads.length c2''] 39))) := (Below.refl _ _).alloc (Nat.le_refl _) _; have HX2 : Hid (Blk (w2.alloc (.cells #[.slice a2 s.ops.length c2, .slice a2' s.vals.length c2', .int .i64 s.steps, .slice a2'' s.heads.length c2''] 39)) w2.heap.size #[.slice a2 s.ops.length c2, .slice a2' s.vals.length c2', .int .i64 s.steps, .slice a2'' s.heads.length c2''] 39) := Blk.made _ _ _) | (go_at_call 11; refine (hrn _ HA2.out).mono ?_; rintro e w3 ⟨sv3, rfl, hO3, hb3⟩; obtain ⟨ov3, vv3, hv3, hsv3, t1, t2, t3⟩ := hO3; rw [HRV.out] at t2; obtain ⟨g, gc, xa, xc, hvv3, g1, g2, g3, g4, g5⟩ := t2.only; obtain ⟨a3, c3, f3⟩ := t1.form; obtain ⟨a3'', c3'', f3''⟩ := OwnsS.form t3; subst f3; subst hvv3; subst f3''; subst hsv3; have hX3 := HX2.out.on hb3 HX2.out.lt; have hgp := g5 _ _ hX3; have hB3 := (hB2.trans (HA2.out.mono hB2.size)).trans (hb3.mono (hB2.trans (HA2.out.mono hB2.size)).size); obtain ⟨hD, hg⟩ := set4 hX3 (.slice a3 r.ops.length c3) (.slice (some ⟨g, 0, none⟩) 1 gc) (.int .i64 r.steps) (.slice a3'' r.heads.length c3''); have HD : Hid (Blk _ _ _ _) := hD; have HG : Hid (World.grownBy _ _ _) := hg; have a0 := hX3.cell (i := 0) rfl; have z0 := hX3.free 0; have m1 := hX3.set 0 (.slice a3 r.ops.length c3); have a1 := m1.cell (i := 1) rfl; have z1 := m1.free 1; have m2 := m1.set 1 (.slice (some ⟨g, 0, none⟩) 1 gc); have a4 := m2.cell (i := 2) rfl; have z2 := m2.free 2; have m3 := m2.set 2 (.int .i64 r.steps); have a3' := m3.cell (i := 3) rfl; have z3 := m3.free 3))
        have e0 := HD.out.cell (i := 0) rfl
        have e1 := HD.out.cell (i := 1) rfl
        have e2 := HD.out.cell (i := 2) rfl
        have e3 := HD.out.cell (i := 3) rfl
        have eg := (World.cell?_of_block (a := ⟨g, 0, none⟩) (HG.out.block g (cell_lt g3) (fun e => hgp (by cases e; rfl)))).trans g3
        have HOW := hid (row_blk g4 hX3 (by decide) HG.out)
        have HBF := hid (hB3.grown HG.out hB3.size (fun k hk => by cases hk; exact Nat.le_trans hB2.size (Nat.le_refl _)))
        generalize ((((w3.setCell ⟨w2.heap.size, 0, none⟩ (.slice a3 r.ops.length c3)).setCell ⟨w2.heap.size, 1, none⟩ (.slice (some ⟨g, 0, none⟩) 1 gc)).setCell ⟨w2.heap.size, 2, none⟩ (.int .i64 r.steps)).setCell ⟨w2.heap.size, 3, none⟩ (.slice a3'' r.heads.length c3'')) = wf at e0 e1 e2 e3 eg HOW HBF ⊢
        clear HD HG a0 a1 a4 a3' z0 z1 z2 z3 m1 m2 m3 hX3 g3 g4 g5
        simp only [List.getElem_toArray, List.getElem_cons_succ, List.getElem_cons_zero] at e0 e1 e2 e3
        go_quiet (fail)
        go_wp2_with fail
        go_ret3
        have hBA := (hB2.trans (HA2.out.mono hB2.size)).size
        refine ⟨⟨_, by rw [HNP.out]; rfl, ?_⟩, HBF.out.trans ((below_drewN _ _).mono HBF.out.size)⟩
        rw [HNP.out]
        exact own_base (own_below HOW.out (below_drewN _ _)) hBA
      · have hNP : NP = ([], 0, (runP rs noTb s fu).2) := by rw [HN.out, if_pos hE, if_pos rfl, if_neg hR]
        generalize runP rs noTb s fu = RP at hrun hR hNP
        obtain ⟨r, e1⟩ := RP
        simp only at hrun hR hNP
        have HNP : Hid (NP = ([], 0, e1)) := hNP
        have hR1 : ¬ (e1 : Int) = 0 := by omega
        clear HN hNP hE hSP hok hwf hvn hhn hsn hrw hR
        go_enter Try.func7, Try.ntmps7
        go_wp2_with (first | (go_at_call 16; refine hc1.mono ?_; rintro e w1 ⟨rfl, hb1⟩) | (go_at_call 10; refine (hst _ hb1).mono ?_; rintro e w2 ⟨sv, rfl, hO2, hb2⟩; have hB2 := hb1.trans (hb2.mono hb1.size); obtain ⟨ov2, vv2, hv2, hsv, q1, q2, q3⟩ := hO2; have hrn := fun w2' (hbb : Below w2.heap.size w2 w2') => hrun w2' ov2 vv2 hv2 _ (hB2.trans (hbb.mono hB2.size)) (q1.below hbb) (ValsV.on q2 hbb (fun x l hx => own_below hx hbb)) (own_below q3 hbb); obtain ⟨a2, c2, f2⟩ := q1.form; obtain ⟨a2', c2', f2'⟩ := q2.form; obtain ⟨a2'', c2'', f2''⟩ := OwnsS.form q3; subst f2; subst f2'; subst f2''; subst hsv; have HA2 : Hid (Below w2.heap.size w2 (w2.alloc (.cells #[.slice a2 s.ops.length c2, .slice a2' s.vals.length c2', .int .i64 s.steps, .slice a2'' s.heads.length c2''] 39))) := (Below.refl _ _).alloc (Nat.le_refl _) _; have HX2 : Hid (Blk (w2.alloc (.cells #[.slice a2 s.ops.length c2, .slice a2' s.vals.length c2', .int .i64 s.steps, .slice a2'' s.heads.length c2''] 39)) w2.heap.size #[.slice a2 s.ops.length c2, .slice a2' s.vals.length c2', .int .i64 s.steps, .slice a2'' s.heads.length c2''] 39) := Blk.made _ _ _) | (go_at_call 11; refine (hrn _ HA2.out).mono ?_; rintro e w3 ⟨sv3, rfl, hO3, hb3⟩; obtain ⟨ov3, vv3, hv3, hsv3, t1, t2, t3⟩ := hO3; obtain ⟨a3, c3, f3⟩ := t1.form; obtain ⟨b3, d3, g3⟩ := t2.form; obtain ⟨a3'', c3'', f3''⟩ := OwnsS.form t3; subst f3; subst g3; subst f3''; subst hsv3; have hX3 := HX2.out.on hb3 HX2.out.lt; have hB3 := (hB2.trans (HA2.out.mono hB2.size)).trans (hb3.mono (hB2.trans (HA2.out.mono hB2.size)).size); obtain ⟨hD, hg⟩ := set4 hX3 (.slice a3 r.ops.length c3) (.slice b3 r.vals.length d3) (.int .i64 r.steps) (.slice a3'' r.heads.length c3''); have HG : Hid (World.grownBy _ _ _) := hg; have HBF := hid (hB3.grown hg hB3.size (fun k hk => by cases hk; exact Nat.le_trans hB2.size (Nat.le_refl _))); have a0 := hX3.cell (i := 0) rfl; have z0 := hX3.free 0; have m1 := hX3.set 0 (.slice a3 r.ops.length c3); have a1 := m1.cell (i := 1) rfl; have z1 := m1.free 1; have m2 := m1.set 1 (.slice b3 r.vals.length d3); have a4 := m2.cell (i := 2) rfl; have z2 := m2.free 2; have m3 := m2.set 2 (.int .i64 r.steps); have a5 := m3.cell (i := 3) rfl; have z3 := m3.free 3))
        go_ret3
        exact ⟨⟨_, by rw [HNP.out]; rfl, by rw [HNP.out]; exact World.ownsRow_nil _ _ _ _⟩, HBF.out⟩
    · have hNP : NP = ([], 0, (startP T).2) := by rw [HN.out, if_pos hE, if_neg hS]
      generalize startP T = SP at hst hS hNP
      obtain ⟨s, e0⟩ := SP
      simp only at hst hS hNP
      have HNP : Hid (NP = ([], 0, e0)) := hNP
      have hS1 : ¬ (e0 : Int) = 0 := by omega
      clear HN hNP hE hS
      go_enter Try.func7, Try.ntmps7
      go_wp2_with (first | (go_at_call 16; refine hc1.mono ?_; rintro e w1 ⟨rfl, hb1⟩) | (go_at_call 10; refine (hst _ hb1).mono ?_; rintro e w2 ⟨sv, rfl, hO2, hb2⟩; have hB2 := hb1.trans (hb2.mono hb1.size); obtain ⟨ov2, vv2, hv2, hsv, q1, q2, q3⟩ := hO2; obtain ⟨a2, c2, f2⟩ := q1.form; obtain ⟨a2', c2', f2'⟩ := q2.form; obtain ⟨a2'', c2'', f2''⟩ := OwnsS.form q3; subst f2; subst f2'; subst f2''; subst hsv))
      go_ret3
      exact ⟨⟨_, by rw [HNP.out]; rfl, by rw [HNP.out]; exact World.ownsRow_nil _ _ _ _⟩, hB2.alloc hB2.size _⟩
  · have hNP : NP = ([], 0, chkRs rs) := by rw [HN.out, if_neg hE]
    generalize chkRs rs = E at hc1 hNP hE
    have HNP : Hid (NP = ([], 0, E)) := hNP
    have hE1 : ¬ (E : Int) = 0 := by omega
    clear HN hNP hE
    go_enter Try.func7, Try.ntmps7
    go_wp2_with (go_at_call 16; refine hc1.mono ?_; rintro e w1 ⟨rfl, hb1⟩)
    go_ret3
    exact ⟨⟨_, by rw [HNP.out]; rfl, by rw [HNP.out]; exact World.ownsRow_nil _ _ _ _⟩, hb1⟩

end Go.Proofs.Ytbdlokijednoiaa
