/-
  What the document's One answers: one op.
-/
import Derived.Test.YtbdlokijednoiaaBF
import Derived.Test.YtbdlokijednoiaaW8
import Derived.Test.YtbdlokijednoiaaBH
import Derived.Test.YtbdlokijednoiaaBQ
import Derived.Test.YtbdlokijednoiaaAA
import Derived.Deep.CutRange
namespace Go.Proofs.Ytbdlokijednoiaa
open Go.RowKit
set_option linter.unusedVariables false
set_option linter.unusedSimpArgs false
set_option maxRecDepth 100000

def wL : List Cl := [⟨⟨#[102]⟩, 1⟩, ⟨⟨#[88]⟩, 0⟩]
def wR : List Cl := [⟨⟨#[115]⟩, 1⟩, ⟨⟨#[88]⟩, 0⟩]
def wT : List Cl := [⟨⟨#[102]⟩, 1⟩, ⟨⟨#[97]⟩, 0⟩]
def wN : List Cl := [⟨⟨#[115]⟩, 1⟩, ⟨⟨#[97]⟩, 0⟩]
def wG : List Cl := [⟨⟨#[103]⟩, 2⟩, ⟨⟨#[97]⟩, 0⟩, ⟨⟨#[98]⟩, 0⟩]
def wO : List Opr := [⟨1, ⟨⟨#[103]⟩, 2⟩, []⟩, ⟨1, ⟨⟨#[98]⟩, 0⟩, []⟩, ⟨1, ⟨⟨#[97]⟩, 0⟩, []⟩]
theorem w_norm : normP [⟨1, wL, wR⟩] wT 5 = (wN, 1, 0) := by kernel_rfl
theorem w_start : startP wG = (⟨wO, [], 0, []⟩, 0) := by kernel_rfl
theorem fine_w {L : List Cl} (h : check L = 0) : Fine L := fine_check h
theorem lies_lit (w : World) (L : List Cl) (h : check L = 0) : Lies (w.alloc (.cells (flatC L).toArray 49)) (.slice (some ⟨w.heap.size, 0, none⟩) L.length L.length) L :=
  Owns.lies (own_lit w L (by have := (check_zero h).1; unfold maxLen; omega)) (fine_check h)
theorem bel_al (w : World) (o : Obj) : Below w.heap.size w (w.alloc o) := (Below.refl _ w).alloc (Nat.le_refl _) o
/-- the world in which Normal is called -/
def wkW (w : World) : World := (((w.alloc (.cells #[.string ⟨#[102]⟩, .int .i64 1, .string ⟨#[88]⟩, .int .i64 0] 49)).alloc (.cells #[.string ⟨#[115]⟩, .int .i64 1, .string ⟨#[88]⟩, .int .i64 0] 49)).alloc (.cells #[.int .i64 1, .slice (some ⟨w.heap.size, 0, none⟩) 2 2, .slice (some ⟨w.heap.size + 1, 0, none⟩) 2 2] 56)).alloc (.cells #[.string ⟨#[102]⟩, .int .i64 1, .string ⟨#[97]⟩, .int .i64 0] 49)
theorem wk_facts (w : World) : LiesR (wkW w) (.slice (some ⟨w.heap.size + 1 + 1, 0, none⟩) 1 1) [⟨1, wL, wR⟩] ∧ Lies (wkW w) (.slice (some ⟨w.heap.size + 1 + 1 + 1, 0, none⟩) 2 2) wT ∧ Below w.heap.size w (wkW w) := by
  have e1 : (w.alloc (.cells #[.string ⟨#[102]⟩, .int .i64 1, .string ⟨#[88]⟩, .int .i64 0] 49)).heap.size = w.heap.size + 1 := by simp
  have l1 := lies_lit w wL (by kernel_rfl)
  have l2 := lies_lit (w.alloc (.cells #[.string ⟨#[102]⟩, .int .i64 1, .string ⟨#[88]⟩, .int .i64 0] 49)) wR (by kernel_rfl)
  rw [e1] at l2
  have b2 := bel_al (w.alloc (.cells #[.string ⟨#[102]⟩, .int .i64 1, .string ⟨#[88]⟩, .int .i64 0] 49)) (.cells #[.string ⟨#[115]⟩, .int .i64 1, .string ⟨#[88]⟩, .int .i64 0] 49)
  have b3 := bel_al ((w.alloc (.cells #[.string ⟨#[102]⟩, .int .i64 1, .string ⟨#[88]⟩, .int .i64 0] 49)).alloc (.cells #[.string ⟨#[115]⟩, .int .i64 1, .string ⟨#[88]⟩, .int .i64 0] 49)) (.cells #[.int .i64 1, .slice (some ⟨w.heap.size, 0, none⟩) 2 2, .slice (some ⟨w.heap.size + 1, 0, none⟩) 2 2] 56)
  have b4 := bel_al (((w.alloc (.cells #[.string ⟨#[102]⟩, .int .i64 1, .string ⟨#[88]⟩, .int .i64 0] 49)).alloc (.cells #[.string ⟨#[115]⟩, .int .i64 1, .string ⟨#[88]⟩, .int .i64 0] 49)).alloc (.cells #[.int .i64 1, .slice (some ⟨w.heap.size, 0, none⟩) 2 2, .slice (some ⟨w.heap.size + 1, 0, none⟩) 2 2] 56)) (.cells #[.string ⟨#[102]⟩, .int .i64 1, .string ⟨#[97]⟩, .int .i64 0] 49)
  have m1 := ((l1.on b2).on b3).on b4
  have m2 := (l2.on b3).on b4
  have B3 : Blk (wkW w) (w.heap.size + 1 + 1) #[.int .i64 1, .slice (some ⟨w.heap.size, 0, none⟩) 2 2, .slice (some ⟨w.heap.size + 1, 0, none⟩) 2 2] 56 := (Blk.madeAt _ _ _ (by simp)).alloc _
  have hlt := B3.lt
  refine ⟨⟨some ⟨w.heap.size + 1 + 1, 0, none⟩, 1, rfl, Nat.le_refl _, by unfold maxLen; omega, fun i r hi => ?_⟩, ?_, ?_⟩
  · obtain ⟨rfl, rfl⟩ := one_get hi
    exact ⟨w.heap.size + 1 + 1, 0, _, _, rfl, hlt, B3.cell (i := 0) rfl, B3.cell (i := 1) rfl, B3.cell (i := 2) rfl, m1, m2, by decide, by decide⟩
  · have := lies_lit (((w.alloc (.cells #[.string ⟨#[102]⟩, .int .i64 1, .string ⟨#[88]⟩, .int .i64 0] 49)).alloc (.cells #[.string ⟨#[115]⟩, .int .i64 1, .string ⟨#[88]⟩, .int .i64 0] 49)).alloc (.cells #[.int .i64 1, .slice (some ⟨w.heap.size, 0, none⟩) 2 2, .slice (some ⟨w.heap.size + 1, 0, none⟩) 2 2] 56)) wT (by kernel_rfl)
    have e3 : (((w.alloc (.cells #[.string ⟨#[102]⟩, .int .i64 1, .string ⟨#[88]⟩, .int .i64 0] 49)).alloc (.cells #[.string ⟨#[115]⟩, .int .i64 1, .string ⟨#[88]⟩, .int .i64 0] 49)).alloc (.cells #[.int .i64 1, .slice (some ⟨w.heap.size, 0, none⟩) 2 2, .slice (some ⟨w.heap.size + 1, 0, none⟩) 2 2] 56)).heap.size = w.heap.size + 1 + 1 + 1 := by simp
    rw [e3] at this
    exact this
  · refine (((bel_al w _).trans (b2.mono ?_)).trans (b3.mono ?_)).trans (b4.mono ?_)
    all_goals (simp; try omega)

theorem w_out {w : World} {B : Nat} {v : Value} (h : Owns w B v wN) : ∃ g cap, v = .slice (some ⟨g, 0, none⟩) 2 cap ∧ g < w.heap.size ∧ w.cell? ⟨g, 0, none⟩ = some (.string ⟨#[115]⟩) := by
  obtain ⟨a, cap, hv, c1, c2, c3⟩ := own_cells h
  obtain ⟨g, ha, _, hlt, hc⟩ := c3 0 (.string ⟨#[115]⟩) rfl
  subst ha
  exact ⟨g, cap, hv, hlt, hc⟩
theorem w_ops {w : World} {B : Nat} {sv : Value} (h : OutSt B w sv ⟨wO, [], 0, []⟩) : ∃ g cap va vc ha hc, sv = .agg #[.slice (some ⟨g, 0, none⟩) 3 cap, .slice va 0 vc, .int .i64 0, .slice ha 0 hc] ∧ g < w.heap.size ∧ w.cell? ⟨g, 1, none⟩ = some (.string ⟨#[103]⟩) ∧ w.cell? ⟨g, 9, none⟩ = some (.string ⟨#[97]⟩) := by
  obtain ⟨ov, vv, hv, e, ⟨os, o0, o1, o2⟩, h2, h3⟩ := h
  obtain ⟨va, vc, hvv⟩ := h2.form
  obtain ⟨ha, hc, hhv⟩ := OwnsS.form h3
  obtain ⟨a, cap, hov, c1, c2, c3⟩ := own_cells o1
  obtain ⟨x, q1, _⟩ := o2 0 _ rfl
  obtain ⟨y, q2, _⟩ := o2 2 _ rfl
  obtain ⟨_, f1, _, _⟩ := flatO_at os 0 _ q1
  obtain ⟨_, f2, _, _⟩ := flatO_at os 2 _ q2
  obtain ⟨g, hg, _, hlt, d1⟩ := c3 _ _ f1
  obtain ⟨g', hg', _, _, d2⟩ := c3 _ _ f2
  subst hg
  cases hg'
  subst hvv
  subst hhv
  have hov2 : ov = .slice (some ⟨g, 0, none⟩) 3 cap := hov
  subst hov2
  exact ⟨g, cap, va, vc, ha, hc, e, hlt, d1, d2⟩

set_option maxHeartbeats 4000000 in
theorem wakes_any (w : World) : Calls Try.prog 5 #[] w fun e w' => e = .returned (.bool true) ∧ Below w.heap.size w w' := by
  obtain ⟨hR, hT, hB⟩ := wk_facts w
  have h1 := normal_any (wkW w) _ _ hR _ _ hT 5 (by omega) (by decide)
  rw [w_norm] at h1
  have h2 : ∀ w1 : World, Calls Try.prog 10 #[.slice (some ⟨w1.heap.size, 0, none⟩) 3 3] (w1.alloc (.cells #[.string ⟨#[103]⟩, .int .i64 2, .string ⟨#[97]⟩, .int .i64 0, .string ⟨#[98]⟩, .int .i64 0] 49)) fun e w' => ∃ sv, e = .returned (.tuple #[sv, .int .i64 0]) ∧ OutSt (w1.alloc (.cells #[.string ⟨#[103]⟩, .int .i64 2, .string ⟨#[97]⟩, .int .i64 0, .string ⟨#[98]⟩, .int .i64 0] 49)).heap.size w' sv ⟨wO, [], 0, []⟩ ∧ Below (w1.alloc (.cells #[.string ⟨#[103]⟩, .int .i64 2, .string ⟨#[97]⟩, .int .i64 0, .string ⟨#[98]⟩, .int .i64 0] 49)).heap.size (w1.alloc (.cells #[.string ⟨#[103]⟩, .int .i64 2, .string ⟨#[97]⟩, .int .i64 0, .string ⟨#[98]⟩, .int .i64 0] 49)) w' := fun w1 => by
    have := start_any _ _ wG (lies_lit w1 wG (by kernel_rfl))
    rw [w_start] at this
    exact this
  have HB := hid hB
  clear hR hT hB
  go_enter Try.func5, Try.ntmps5
  go_wp2_with (first | (go_at_call 7; refine h1.mono ?_; clear h1; rintro e w1 ⟨⟨v1, rfl, ho1⟩, hb1⟩; obtain ⟨g1, p1, hv1, hl1, k1⟩ := w_out ho1; subst hv1; have HB1 := hid (HB.out.trans (hb1.mono HB.out.size)); have HA1 := hid (bel_al w1 (.cells #[.string ⟨#[103]⟩, .int .i64 2, .string ⟨#[97]⟩, .int .i64 0, .string ⟨#[98]⟩, .int .i64 0] 49)); clear hb1 ho1) | (go_at_call 10; refine (h2 w1).mono ?_; clear h2; rintro e w2 ⟨sv, rfl, ho2, hb2⟩; obtain ⟨g2, p2, va, vc, ha, hc, hsv, hl2, k2, k3⟩ := w_ops ho2; subst hsv; have HB2 := hid ((HB1.out.trans (HA1.out.mono HB1.out.size)).trans (hb2.mono (HB1.out.trans (HA1.out.mono HB1.out.size)).size)); have k4 := (hb2.cell (p := ⟨g1, 0, none⟩) (Nat.lt_of_lt_of_le hl1 HA1.out.size)).trans ((HA1.out.cell (p := ⟨g1, 0, none⟩) hl1).trans k1); have hg12 := Nat.lt_of_lt_of_le (Nat.lt_of_lt_of_le hl1 HA1.out.size) hb2.size; have A2 := bel_al w2 (.cells #[.slice (some ⟨g2, 0, none⟩) 3 p2, .slice va 0 vc, .int .i64 0, .slice ha 0 hc] 39); have HB3 := hid (HB2.out.trans (A2.mono HB2.out.size)); have k5 := (A2.cell (p := ⟨g2, 1, none⟩) hl2).trans k2; have k6 := (A2.cell (p := ⟨g2, 9, none⟩) hl2).trans k3; have k7 := (A2.cell (p := ⟨g1, 0, none⟩) hg12).trans k4; clear hb2 ho2 k2 k3 k4 A2))
  go_ret
  exact ⟨rfl, HB3.out⟩

/-- ops and values are right -/
def SttOk (s : Stt) : Prop := (∀ o ∈ s.ops, opOk o) ∧ ∀ v ∈ s.vals, grd v = true
theorem noStt_ok : SttOk noStt := ⟨(fun o h => by cases h), (fun v h => by cases h)⟩
theorem startP_ok (T : List Cl) : SttOk (startP T).1 := by
  unfold startP
  split
  · split
    · rename_i hg
      exact ⟨(fun o ho => todo_grd hg o (List.mem_reverse.1 ho)), (fun v h => by cases h)⟩
    · exact noStt_ok
  · exact noStt_ok
theorem RsOk.of {rs : List Rl} (h : chkRs rs = 0) : RsOk rs := by
  unfold chkRs at h
  split at h
  · rename_i h0; exact chkAll_zero.1 h0
  · rename_i h0; exact absurd h h0
theorem runP_ok {rs : List Rl} {tb : Tb} (ht : TbOk tb) {s : Stt} {fu : Int} (hl : s.ops.length + 8 * fu.toNat ≤ 2513169500000) : SttOk (runP rs tb s fu).1 := by
  unfold runP
  by_cases hc : chkRs rs = 0
  · rw [if_pos hc]
    by_cases hs : stR s.steps s.ops s.vals s.heads = true
    · rw [if_pos hs]
      have h := runN_rt (RsOk.of hc) ht (mu (s.cf fu) + 1) _ (rt_of hs hl)
      exact ⟨fun o ho => h.ops o (List.mem_reverse.1 ho), h.vals⟩
    · rw [if_neg hs]; exact noStt_ok
  · rw [if_neg hc]; exact noStt_ok
/-- a state of the call's own lies in memory -/
theorem OutSt.trio {B : Nat} {w : World} {sv : Value} {s : Stt} (h : OutSt B w sv s) (hok : SttOk s) : ∃ oa oc va vc ha hc, sv = .agg #[.slice oa s.ops.length oc, .slice va s.vals.length vc, .int .i64 s.steps, .slice ha s.heads.length hc] ∧ LiesO w (.slice oa s.ops.length oc) s.ops ∧ LiesT w (.slice va s.vals.length vc) s.vals ∧ LiesS w (.slice ha s.heads.length hc) s.heads := by
  obtain ⟨ov, vv, hv, e, h1, h2, h3⟩ := h
  obtain ⟨oa, oc, e1⟩ := h1.form
  obtain ⟨va, vc, e2⟩ := h2.form
  obtain ⟨ha, hc, e3⟩ := OwnsS.form h3
  subst e1 e2 e3
  refine ⟨oa, oc, va, vc, ha, hc, e, ?_, ?_, OwnsS.lies h3⟩
  · obtain ⟨os, q0, q1, q2⟩ := h1
    refine OpsV.lies (V := Lies w) (B := B) ⟨os, q0, q1, fun i o hi => ?_⟩ (fun _ _ h => h) (fun o ho => ?_)
    · obtain ⟨x, a1, a2, a3⟩ := q2 i o hi
      exact ⟨x, a1, a2, Owns.lies a3 (hok.1 o (List.mem_of_getElem? hi)).fine⟩
    · obtain ⟨q1, q2, q3, q4, q5, q6⟩ := opOk.small (hok.1 o ho)
      omega
  · obtain ⟨vs, q1, q2⟩ := h2
    refine ValsV.lies (V := Lies w) (B := B) ⟨vs, q1, fun i l hi => ?_⟩ (fun _ _ h => h)
    obtain ⟨x, a1, a2, a3⟩ := q2 i l hi
    exact ⟨x, a1, a2, Owns.lies a3 (fine_check (grd_iff.1 (hok.2 l (List.mem_of_getElem? hi))).1)⟩
theorem LiesO.facts {w : World} {v : Value} {ops : List Opr} (h : LiesO w v ops) : ∀ o ∈ ops, Fine o.v ∧ o.c.nm.size ≤ 9223372036854775807 ∧ (-9223372036854775808 ≤ o.k ∧ o.k ≤ 9223372036854775807) ∧ (-9223372036854775808 ≤ o.c.ar ∧ o.c.ar ≤ 9223372036854775807) := by
  intro o ho
  obtain ⟨i, hi⟩ := List.getElem?_of_mem ho
  obtain ⟨a, c, _, _, _, HC⟩ := h
  obtain ⟨g, off, x, _, _, _, _, _, _, hl, h5, h6, h7⟩ := HC i o hi
  obtain ⟨_, _, _, _, _, hf, _⟩ := hl
  exact ⟨hf, h5, h6, h7⟩
theorem LiesT.fine {w : World} {v : Value} {K : List (List Cl)} (h : LiesT w v K) : ∀ l ∈ K, Fine l := by
  intro l hl
  obtain ⟨i, hi⟩ := List.getElem?_of_mem hl
  obtain ⟨a, c, _, _, _, HC⟩ := h
  obtain ⟨g, off, x, _, _, _, hx⟩ := HC i l hi
  obtain ⟨_, _, _, _, _, hf, _⟩ := hx
  exact hf
/-- a copy of a state that came in, as it is handed on -/
theorem OutSt.copy {B : Nat} {w w0 : World} {sv ov0 vv0 hv0 : Value} {s : Stt} (h : OutSt B w sv s) (hA : StA w0 ov0 vv0 hv0 s) : ∃ oa oc va vc ha hc, sv = .agg #[.slice oa s.ops.length oc, .slice va s.vals.length vc, .int .i64 s.steps, .slice ha s.heads.length hc] ∧ StIn w (.slice oa s.ops.length oc) (.slice va s.vals.length vc) (.slice ha s.heads.length hc) s.ops s.vals s.heads ∧ StWf s ∧ LiesSt w (.slice oa s.ops.length oc) (.slice va s.vals.length vc) (.slice ha s.heads.length hc) s.steps s.ops s.vals s.heads := by
  obtain ⟨ov, vv, hv, e, h1, h2, h3⟩ := h
  have hin := OutSt.in h1 h2 h3 (fun o ho => (hA.lo.facts o ho).1) (fun v hv => hA.lv.fine v hv)
  have hwf : StWf s := ⟨fun o ho => (hA.lo.facts o ho).2, hA.st, hA.names⟩
  have n1 := hA.no
  have n2 := hA.nv
  have hl := hin.lies hwf (by omega)
  obtain ⟨oa, oc, e1⟩ := h1.form
  obtain ⟨va, vc, e2⟩ := h2.form
  obtain ⟨ha, hc, e3⟩ := OwnsS.form h3
  subst e1 e2 e3
  exact ⟨oa, oc, va, vc, ha, hc, e, hin, hwf, hl⟩
/-- the document's Copy of a state that came in -/
theorem rcopy_in (w : World) (ov vv hv : Value) (s : Stt) (h : StA w ov vv hv s) :
    Calls Try.prog 13 #[.agg #[ov, vv, .int .i64 s.steps, hv]] w fun e w' => ∃ sv, e = .returned sv ∧ OutSt w.heap.size w' sv s ∧ Below w.heap.size w w' := by
  have n1 := h.no
  have n2 := h.nv
  have n3 := h.nh
  exact rcopy_any w ov vv hv s.ops s.vals s.steps s.heads h.lo h.lv h.lh h.nil h.zo h.zv (wide_of (by omega) (by decide)) (by omega) (by omega)

/-- what a table tells of one term -/
structure Mm where
  t : List Cl
  n : List Cl
  h : List ByteArray
def LiesM (w : World) (v : Value) (ms : List Mm) : Prop :=
  ∃ a cap, v = .slice a ms.length cap ∧ ms.length ≤ cap ∧ cap ≤ maxLen ∧ ∀ (i : Nat) m, ms[i]? = some m → ∃ g off x y z, a = some ⟨g, off, none⟩ ∧ g < w.heap.size ∧ w.cell? ⟨g, off + i * 3, none⟩ = some x ∧ w.cell? ⟨g, off + i * 3 + 1, none⟩ = some y ∧ w.cell? ⟨g, off + i * 3 + 2, none⟩ = some z ∧ Lies w x m.t ∧ Lies w y m.n ∧ LiesS w z m.h
theorem LiesM.on {w w' : World} {v : Value} {ms : List Mm} (h : LiesM w v ms) (hb : Below w.heap.size w w') : LiesM w' v ms := by
  obtain ⟨a, cap, hv, c1, c2, c3⟩ := h
  refine ⟨a, cap, hv, c1, c2, fun i o hi => ?_⟩
  obtain ⟨g, off, x, y, z, ha, hlt, q0, q1, q2, h1, h2, h3⟩ := c3 i o hi
  exact ⟨g, off, x, y, z, ha, Nat.lt_of_lt_of_le hlt hb.size, (hb.cell (p := ⟨g, off + i * 3, none⟩) hlt).trans q0, (hb.cell (p := ⟨g, off + i * 3 + 1, none⟩) hlt).trans q1, (hb.cell (p := ⟨g, off + i * 3 + 2, none⟩) hlt).trans q2, h1.on hb, h2.on hb, h3.on hb⟩
theorem LiesM.at {w : World} {a : Option Addr} {n c : Nat} {ms : List Mm} (h : LiesM w (.slice a n c) ms) {i : Nat} {m : Mm} (hi : ms[i]? = some m) : ∃ g off x y z, a = some ⟨g, off, none⟩ ∧ g < w.heap.size ∧ w.cell? ⟨g, off + i * 3, none⟩ = some x ∧ w.cell? ⟨g, off + i * 3 + 1, none⟩ = some y ∧ w.cell? ⟨g, off + i * 3 + 2, none⟩ = some z ∧ Lies w x m.t ∧ Lies w y m.n ∧ LiesS w z m.h := by
  obtain ⟨a', cap', hv', _, _, HC'⟩ := h
  cases hv'
  exact HC' i m hi
theorem LiesM.nil (w : World) : LiesM w (.slice none 0 0) [] := ⟨none, 0, rfl, Nat.le_refl _, Nat.zero_le _, fun i m h => by simp at h⟩
def knownI : List Mm → List Cl → Option Nat
  | [], _ => none
  | m :: r, t => if m.t = t then some 0 else (knownI r t).map (· + 1)
def tbM (ms : List Mm) : Tb := fun t => (knownI ms t).bind fun i => (ms[i]?).map fun m => (m.n, m.h)
def knownZ (ms : List Mm) (t : List Cl) : Int := match knownI ms t with | some k => (k : Int) | none => -1
theorem knownI_first : ∀ {ms : List Mm} {t : List Cl} {k : Nat} {m : Mm}, (∀ (j : Nat) x, j < k → ms[j]? = some x → x.t ≠ t) → ms[k]? = some m → m.t = t → knownI ms t = some k
  | [], t, k, m, _, h, _ => by simp at h
  | m0 :: r, t, 0, m, _, h, e => by
    simp only [List.getElem?_cons_zero, Option.some.injEq] at h
    subst h
    unfold knownI
    rw [if_pos e]
  | m0 :: r, t, k + 1, m, hn, h, e => by
    unfold knownI
    rw [if_neg (hn 0 m0 (by omega) rfl), knownI_first (k := k) (m := m) (fun j x hj hx => hn (j + 1) x (by omega) (by simpa using hx)) (by simpa using h) e]
    rfl
theorem knownI_not : ∀ {ms : List Mm} {t : List Cl}, (∀ (j : Nat) x, ms[j]? = some x → x.t ≠ t) → knownI ms t = none
  | [], t, _ => rfl
  | m0 :: r, t, hn => by
    unfold knownI
    rw [if_neg (hn 0 m0 rfl), knownI_not (fun j x hx => hn (j + 1) x (by simpa using hx))]
    rfl
theorem knownI_lt : ∀ {ms : List Mm} {t : List Cl} {k : Nat}, knownI ms t = some k → ∃ m, ms[k]? = some m ∧ m.t = t
  | [], t, k, h => by cases h
  | m0 :: r, t, k, h => by
    unfold knownI at h
    split at h
    · rename_i e
      cases h
      exact ⟨m0, rfl, e⟩
    · cases hq : knownI r t with
      | none => rw [hq] at h; cases h
      | some j =>
        rw [hq] at h
        cases h
        obtain ⟨m, h1, h2⟩ := knownI_lt hq
        exact ⟨m, by rw [List.getElem?_cons_succ]; exact h1, h2⟩

set_option maxHeartbeats 2000000 in
theorem known_any (w : World) (mv : Value) (ms : List Mm) (hm : LiesM w mv ms) (tv : Value) (T : List Cl) (hT : Lies w tv T) :
    Calls Try.prog 117 #[mv, tv] w fun e w' => e = .returned (.int .i64 (knownZ ms T)) ∧ Below w.heap.size w w' := by
  have HM := hid hm
  have HT := hid hT
  obtain ⟨Z, hZ⟩ : ∃ Z, knownZ ms T = Z := ⟨_, rfl⟩
  have HZ : Hid (knownZ ms T = Z) := hZ
  rw [hZ]
  obtain ⟨ma, mc, rfl, ml1, ml2, _⟩ := hm
  have hml : ms.length ≤ 9223372036854775807 := by unfold maxLen at ml2; omega
  obtain ⟨ta, tc, rfl, _⟩ := hT
  clear hZ
  go_enter Try.func117, Try.ntmps117
  go_wp2_with fail
  go_loopw [8] (fun i wr => ∃ k : Nat, k ≤ ms.length ∧ i = .int .i64 (k : Nat) ∧ Hid (∀ (j : Nat) x, j < k → ms[j]? = some x → x.t ≠ T) ∧ Hid (Below w.heap.size w wr)) (fun i _ => ms.length - (intOf i).toNat)
  case atStart => exact ⟨0, Nat.zero_le _, rfl, (fun j x h => by omega), Below.refl _ _⟩
  case round =>
    obtain ⟨k, hk, rfl, HF, HB⟩ := hrel
    have hbs := HB.out.size
    by_cases hlt : k < ms.length
    · obtain ⟨m, hmk⟩ : ∃ m, ms[k]? = some m := ⟨ms[k], List.getElem?_eq_getElem hlt⟩
      have hki : (k : Int) < (ms.length : Int) := by omega
      obtain ⟨g, off, x, y, z, hma, hgl, c0, c1, c2, hlx, _⟩ := (HM.out.on HB.out).at hmk
      subst hma
      have hsm := same_any wr x _ m.t T hlx (HT.out.on HB.out)
      obtain ⟨xa, xc, hxv, _⟩ := hlx
      subst hxv
      have HMK := hid hmk
      clear hmk
      by_cases he : m.t = T
      · rw [decide_eq_true he] at hsm
        have HR : Hid (Z = (k : Int)) := by
          show _ = _
          rw [← HZ.out]
          unfold knownZ
          rw [knownI_first HF.out HMK.out he]
        clear HF he
        go_wp2_with (go_at_call 12; refine hsm.mono ?_; rintro e w3 ⟨rfl, hb3⟩)
        go_ret
        exact ⟨by rw [HR.out]; rfl, HB.out.trans (hb3.mono hbs)⟩
      · rw [decide_eq_false he] at hsm
        have HF2 : Hid (∀ (j : Nat) x, j < k + 1 → ms[j]? = some x → x.t ≠ T) := fun j x h1 h2 => by
          by_cases e : j = k
          · subst e; rw [HMK.out] at h2; cases h2; exact he
          · exact HF.out j x (by omega) h2
        clear HF he
        go_wp2_with (go_at_call 12; refine hsm.mono ?_; rintro e w3 ⟨rfl, hb3⟩)
        go_roundw
        case rel => exact ⟨k + 1, by omega, by go_num, HF2, HB.out.trans (hb3.mono hbs)⟩
        case measure => (simp [intOf]; try omega)
    · have hki : ¬ (k : Int) < (ms.length : Int) := by omega
      have HR : Hid (Z = -1) := by
        show _ = _
        rw [← HZ.out]
        unfold knownZ
        rw [knownI_not (fun j x hx => HF.out j x (by have := (List.getElem?_eq_some_iff.1 hx).1; omega) hx)]
      clear HF
      go_wp2_with fail
      go_ret
      exact ⟨by rw [HR.out]; rfl, HB.out⟩

theorem str_lim {n : Nat} (h : n ≤ 4000000000000) : (n + n / 4 + 192) * 16 ≤ 281474976710656 := by omega
theorem jn1_len : ∀ (S : List ByteArray) (x : ByteArray), (jn1 S x).length ≤ S.length + 1
  | [], x => by simp [jn1]
  | y :: r, x => by
    unfold jn1
    have := jn1_len r x
    (repeat' split) <;> simp only [List.length_cons] <;> omega
def jrem (inn : Bool) (S : List ByteArray) (x : ByteArray) : List ByteArray := match inn with | true => S | false => jn1 S x
theorem drop_one {S : List ByteArray} {k : Nat} {y : ByteArray} (h : S[k]? = some y) : S.drop k = y :: S.drop (k + 1) := by
  have hk := (List.getElem?_eq_some_iff.1 h)
  rw [List.drop_eq_getElem_cons hk.1, hk.2]

theorem LiesS.at {w : World} {a : Option Addr} {n c : Nat} {S : List ByteArray} (h : LiesS w (.slice a n c) S) {i : Nat} {x : ByteArray} (hi : S[i]? = some x) : ∃ b off, a = some ⟨b, off, none⟩ ∧ b < w.heap.size ∧ w.cell? ⟨b, off + i, none⟩ = some (.string x) := by
  obtain ⟨a', c', hv', _, _, h4⟩ := h
  cases hv'
  exact h4 i x hi

/-- a state, as it lies in memory -/
def LSt (w : World) (sv : Value) (s : Stt) : Prop := ∃ oa oc va vc ha hc, sv = .agg #[.slice oa s.ops.length oc, .slice va s.vals.length vc, .int .i64 s.steps, .slice ha s.heads.length hc] ∧ LiesO w (.slice oa s.ops.length oc) s.ops ∧ LiesT w (.slice va s.vals.length vc) s.vals ∧ LiesS w (.slice ha s.heads.length hc) s.heads
theorem LSt.on {w w' : World} {sv : Value} {s : Stt} (h : LSt w sv s) (hb : Below w.heap.size w w') : LSt w' sv s := by
  obtain ⟨oa, oc, va, vc, ha, hc, e, h1, h2, h3⟩ := h
  exact ⟨oa, oc, va, vc, ha, hc, e, h1.on hb, h2.on hb, h3.on hb⟩
theorem LiesO.front {w : World} {a : Option Addr} {n c : Nat} {A : List Opr} {o : Opr} (h : LiesO w (.slice a n c) (A ++ [o])) : LiesO w (.slice a A.length c) A := by
  obtain ⟨a', c', hv, h1, h2, h3⟩ := h
  cases hv
  refine ⟨a, c, rfl, by simp at h1; omega, h2, fun i x hi => h3 i x ?_⟩
  have := (List.getElem?_eq_some_iff.1 hi).1
  rw [List.getElem?_append_left this]
  exact hi
theorem LiesT.front {w : World} {a : Option Addr} {n c k : Nat} {K : List (List Cl)} (h : LiesT w (.slice a n c) K) (hk : k ≤ K.length) : LiesT w (.slice a k c) (K.take k) := by
  obtain ⟨a', c', hv, h1, h2, h3⟩ := h
  cases hv
  have hl : (K.take k).length = k := by rw [List.length_take]; omega
  refine ⟨a, c, by rw [hl], by rw [hl]; omega, h2, fun i x hi => h3 i x ?_⟩
  have := (List.getElem?_eq_some_iff.1 hi).1
  rw [hl] at this
  rw [List.getElem?_take_of_lt this] at hi
  exact hi
/-- values of the call's own row, and one more that lies -/
theorem vals_more {w w2 : World} {B : Nat} {v v' x : Value} {K : List (List Cl)} {l : List Cl} {vs : List Value} (hrow : w.ownsRow B 24 1 v K.length vs) (hel : ∀ (i : Nat) l, K[i]? = some l → ∃ x, vs[i]? = some x ∧ x.oneCell' = true ∧ Lies w2 x l) (hx : Lies w2 x l) (hown : w2.ownsRow B 24 1 v' (K.length + 1) (vs ++ [x])) : LiesT w2 v' (K ++ [l]) := by
  have hvl := row_len hrow
  refine ValsV.lies (V := Lies w2) (B := B) ⟨vs ++ [x], by rw [List.length_append]; exact hown, fun i m hi => ?_⟩ (fun _ _ h => h)
  rcases get_app hi with ⟨h1, h2⟩ | ⟨h1, h2⟩
  · obtain ⟨y, q1, q2, q3⟩ := hel i m h2
    exact ⟨y, by rw [List.getElem?_append_left (by omega)]; exact q1, q2, q3⟩
  · obtain ⟨h3, h4⟩ := one_get h2
    subst h4
    exact ⟨x, by rw [List.getElem?_append_right (by omega), hvl, h3]; rfl, hx.one, hx⟩
/-- a state in rows of memory whose terms lie in old memory or in blocks of cells -/
def LT (B : Nat) (w : World) (sv : Value) (s : Stt) : Prop := ∃ oa oc va vc ha hc, sv = .agg #[.slice oa s.ops.length oc, .slice va s.vals.length vc, .int .i64 s.steps, .slice ha s.heads.length hc] ∧ OpsV (VL B w) w 0 (.slice oa s.ops.length oc) s.ops ∧ ValsV (VL B w) w 0 (.slice va s.vals.length vc) s.vals ∧ OwnsS w 0 (.slice ha s.heads.length hc) s.heads
theorem LT.on {B : Nat} {w w' : World} {sv : Value} {s : Stt} (h : LT B w sv s) (hb : Below w.heap.size w w') (hB : B ≤ w.heap.size) : LT B w' sv s := by
  obtain ⟨oa, oc, va, vc, ha, hc, e, h1, h2, h3⟩ := h
  exact ⟨oa, oc, va, vc, ha, hc, e, OpsV.on h1 hb (fun x l hx => hx.on (K7.of hb hB)), ValsV.on h2 hb (fun x l hx => hx.on (K7.of hb hB)), own_below h3 hb⟩
theorem LT.blk {B : Nat} {w w' : World} {sv : Value} {s : Stt} {p : Nat} {cs : Array Value} (h : LT B w sv s) (hp : Blk w p cs 39) (hg : w.grownBy w' (some p)) (hB : B ≤ p) : LT B w' sv s := by
  obtain ⟨oa, oc, va, vc, ha, hc, e, ⟨os, q0, q1, q2⟩, ⟨vs, q3, q4⟩, h3⟩ := h
  have hk : K7 B w w' := K7.grown hg (by have := hp.lt; omega) (fun k hk => by cases hk; exact ⟨hB, cs, 39, hp, by decide, by decide⟩)
  refine ⟨oa, oc, va, vc, ha, hc, e, ⟨os, q0, row_blk q1 hp (by decide) hg, fun i o hi => ?_⟩, ⟨vs, row_blk q3 hp (by decide) hg, fun i o hi => ?_⟩, row_blk h3 hp (by decide) hg⟩
  · obtain ⟨x, a1, a2, a3⟩ := q2 i o hi
    exact ⟨x, a1, a2, a3.on hk⟩
  · obtain ⟨x, a1, a2, a3⟩ := q4 i o hi
    exact ⟨x, a1, a2, a3.on hk⟩
theorem LT.lst {B : Nat} {w : World} {sv : Value} {s : Stt} (h : LT B w sv s) (hok : SttOk s) : LSt w sv s := by
  obtain ⟨oa, oc, va, vc, ha, hc, e, h1, h2, h3⟩ := h
  refine ⟨oa, oc, va, vc, ha, hc, e, OpsV.lies h1 (fun x l hx => hx.1) (fun o ho => ?_), ValsV.lies h2 (fun x l hx => hx.1), OwnsS.lies h3⟩
  obtain ⟨q1, q2, q3, q4, q5, q6⟩ := opOk.small (hok.1 o ho)
  omega
theorem OutSt.lt {B0 B : Nat} {w : World} {sv : Value} {s : Stt} (h : OutSt B0 w sv s) (hf : ∀ o ∈ s.ops, Fine o.v) (hf2 : ∀ v ∈ s.vals, Fine v) : LT B w sv s := by
  obtain ⟨ov, vv, hv, e, h1, h2, h3⟩ := h
  obtain ⟨oa, oc, e1⟩ := h1.form
  obtain ⟨va, vc, e2⟩ := h2.form
  obtain ⟨ha, hc, e3⟩ := OwnsS.form h3
  subst e1 e2 e3
  obtain ⟨os, q0, q1, q2⟩ := h1
  obtain ⟨vs, q3, q4⟩ := h2
  refine ⟨oa, oc, va, vc, ha, hc, e, ⟨os, q0, own_base q1 (Nat.zero_le _), fun i o hi => ?_⟩, ⟨vs, own_base q3 (Nat.zero_le _), fun i o hi => ?_⟩, own_base h3 (Nat.zero_le _)⟩
  · obtain ⟨x, a1, a2, a3⟩ := q2 i o hi
    exact ⟨x, a1, a2, VL.own a3 (hf o (List.mem_of_getElem? hi))⟩
  · obtain ⟨x, a1, a2, a3⟩ := q4 i o hi
    exact ⟨x, a1, a2, VL.own a3 (hf2 o (List.mem_of_getElem? hi))⟩
theorem OpsV.front {V : Value → List Cl → Prop} {w : World} {B : Nat} {a : Option Addr} {c : Nat} {A : List Opr} {o : Opr} (h : OpsV V w B (.slice a (A.length + 1) c) (A ++ [o])) : OpsV V w B (.slice a A.length c) A := by
  obtain ⟨os, h0, h1, h2⟩ := h
  rw [List.length_append] at h0 h1
  simp only [List.length_cons, List.length_nil, Nat.zero_add] at h0 h1
  refine ⟨os.take A.length, by rw [List.length_take]; omega, ?_, fun i o' hi => ?_⟩
  · have := own_take h1 (Nat.le_succ A.length)
    rw [flatO_take] at this
    exact this
  · have hil := (List.getElem?_eq_some_iff.1 hi).1
    obtain ⟨x, q1, q2, q3⟩ := h2 i o' (by rw [List.getElem?_append_left hil]; exact hi)
    exact ⟨x, by rw [List.getElem?_take_of_lt hil]; exact q1, q2, q3⟩
/-- the value of an op is what its cell holds -/
theorem OpsV.cell {V : Value → List Cl → Prop} {w : World} {B : Nat} {g off n c : Nat} {ops : List Opr} {i : Nat} {o : Opr} {x : Value} (h : OpsV V w B (.slice (some ⟨g, off, none⟩) n c) ops) (hi : ops[i]? = some o) (hx : w.cell? ⟨g, off + i * 4 + 3, none⟩ = some x) : V x o.v := by
  obtain ⟨os, h0, h1, h2⟩ := h
  obtain ⟨y, q1, q2, q3⟩ := h2 i o hi
  obtain ⟨a, cap, hv, c1, c2, c3⟩ := own_cells h1
  obtain ⟨_, _, _, f3⟩ := flatO_at os i _ q1
  obtain ⟨g', ha, _, _, hc⟩ := c3 _ _ f3
  simp only [Value.slice.injEq] at hv
  obtain ⟨e1, _, _⟩ := hv
  rw [ha] at e1
  simp only [Option.some.injEq, Addr.mk.injEq, and_true] at e1
  obtain ⟨e2, e3⟩ := e1
  subst e2 e3
  rw [Nat.zero_add, hc] at hx
  cases hx
  exact q3
/-- what One answers -/
def OneOut (B : Nat) (w' : World) (e : Ending) (sv : Value) (f : Int) : Out → Prop
  | .go c => ∃ sv', e = .returned (.tuple #[sv', .int .i64 c.fuel, .int .i64 0]) ∧ LT B w' sv' c.stt
  | .stop k => e = .returned (.tuple #[sv, .int .i64 f, .int .i64 (k : Nat)])

set_option maxHeartbeats 2000000 in
theorem copyAllW_any (w : World) (kv : Value) (K : List (List Cl)) (hK : LiesT w kv K) (hk : K.length + 1 ≤ 7539508500002) (hl : ∀ l ∈ K, l.length * 24 ≤ 140737488355328) :
    Calls Try.prog 25 #[kv] w fun e w' => ∃ v', e = .returned v' ∧ OwnsT w' w.heap.size v' K ∧ Below w.heap.size w w' := by
  obtain ⟨i0, hi, hz0, hz1, hz2⟩ := info_parts info23
  have HK : Hid (LiesT w kv K) := hK
  have HLL : Hid (∀ l ∈ K, l.length * 24 ≤ 140737488355328) := hl
  obtain ⟨ka, kc, rfl, hk1, hk2, _⟩ := hK
  clear hl
  go_enter Try.func25, Try.ntmps25
  go_wp2_with fail
  go_loopw [3, 7] (fun mv i wr => ∃ j : Nat, j ≤ K.length ∧ OwnsT wr w.heap.size mv (K.take j) ∧ Below w.heap.size w wr ∧ i = .int .i64 (j : Nat)) (fun _ i _ => K.length - (intOf i).toNat)
  case atStart => exact ⟨0, Nat.zero_le _, OwnsT.nil _ _, Below.refl _ _, rfl⟩
  case round =>
    obtain ⟨j, hj, hO, hbr, rfl⟩ := hrel
    have hbs := hbr.size
    obtain ⟨vs, hrow, hel⟩ := hO
    obtain ⟨ma, mc, hmv, _⟩ := own_cells hrow
    subst hmv
    by_cases hlt : j < K.length
    · obtain ⟨l, hl⟩ : ∃ l, K[j]? = some l := ⟨K[j], List.getElem?_eq_getElem hlt⟩
      obtain ⟨b, off, x, ha, hbl, hcx, hlx⟩ : ∃ b off x, ka = some ⟨b, off, none⟩ ∧ b < wr.heap.size ∧ wr.cell? ⟨b, off + j, none⟩ = some x ∧ Lies wr x l := by
        obtain ⟨a', cap', hv', _, _, HC'⟩ := HK.out.on hbr
        cases hv'
        exact HC' j _ hl
      subst ha
      have hji : (j : Int) < (K.length : Int) := by omega
      have hcp := copy_any wr x l hlx (HLL.out l (List.mem_of_getElem? hl))
      obtain ⟨xa, xc, rfl, _⟩ := hlx
      have HT2 : Hid (K.take (j + 1) = K.take j ++ [l]) := by show _ = _; rw [List.take_add_one, hl]; rfl
      have htl : (K.take j).length = j := by rw [List.length_take]; omega
      have HEL : Hid (∀ (i : Nat) m, (K.take j)[i]? = some m → ∃ x, vs[i]? = some x ∧ Owns wr w.heap.size x m) := hel
      obtain ⟨D, hD⟩ : ∃ D, K.take j = D := ⟨_, rfl⟩
      rw [hD] at HEL hrow htl HT2 ⊢
      have hdl : D.length + 1 ≤ K.length := by omega
      clear hel hl hD htl
      go_wp2_with (first | (go_at_call 9; refine hcp.mono ?_; rintro e w3 ⟨x3, rfl, hx3, hb3⟩; obtain ⟨ya, yc, hyv, _⟩ := own_cells hx3; subst hyv; have hrow3 := own_below hrow hb3; have hx4 : Owns w3 w.heap.size (.slice ya l.length yc) l := own_base hx3 hbs; have HBR3 := hbr.trans (hb3.mono hbs); have HEL3 : Hid (∀ (i : Nat) m, D[i]? = some m → ∃ x, vs[i]? = some x ∧ Owns w3 w.heap.size x m) := (fun i m hi => by { obtain ⟨x, h1, h2⟩ := HEL.out i m hi; exact ⟨x, h1, own_below h2 hb3⟩ }); have hs3 := HBR3.size) | (at_builtin; refine wpList_append_own_wide _ rfl _ _ 25 rfl w.heap.size 24 i0 (.slice none 0 0) 1 24 Try.underlying25 hi hz0 hz1 hz2 rfl (by decide) _ D.length vs rfl (hrow3.alloc _) ⟨w3.heap.size, 0, none⟩ 1 1 [.slice ya l.length yc] rfl rfl ?c1 ?c2 ?c3 ?c4 ?c5 ?_))
      case c1 => exact one_cell w3 _ _
      case c2 => intro u hu; simp at hu; subst hu; rfl
      case c3 => unfold maxLen; omega
      case c4 => exact val_lim (by omega)
      case c5 => simp; omega
      intro v' w4 hown' hgrow _
      have hOT := more_term hrow3 HEL3.out hx4 hown' hgrow
      have hb4 : Below w.heap.size w w4 := (HBR3.alloc hs3 _).grown hgrow (by simp; omega) (fun k hk => (hrow3.lt k hk).1)
      clear hown' hgrow hrow3 hx4 hx3 hb3 HEL3 HEL hrow HBR3 hbr
      go_wp2_with fail
      go_roundw
      case rel => exact ⟨j + 1, by omega, by rw [HT2.out]; exact hOT, hb4, by go_num⟩
      case measure => simp [intOf]; omega
    · obtain rfl : j = K.length := by omega
      have hfin : OwnsT wr w.heap.size (.slice ma (K.take K.length).length mc) (K.take K.length) := ⟨vs, hrow, hel⟩
      rw [List.take_length] at hfin
      have HFIN : Hid (OwnsT wr w.heap.size (.slice ma K.length mc) K) := hfin
      clear hfin hrow hel
      rw [List.take_length]
      go_wp2_with fail
      go_ret
      exact ⟨.slice ma K.length mc, rfl, HFIN.out, hbr⟩


end Go.Proofs.Ytbdlokijednoiaa
