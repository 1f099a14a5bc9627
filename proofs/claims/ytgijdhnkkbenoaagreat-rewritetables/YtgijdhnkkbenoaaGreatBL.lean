/-
  What the document's One answers: one op.
-/
import Derived.Test.YtgijdhnkkbenoaaGreatBF
import Derived.Test.YtgijdhnkkbenoaaGreatW8
import Derived.Test.YtgijdhnkkbenoaaGreatBH
import Derived.Test.YtgijdhnkkbenoaaGreatBQ
import Derived.Test.YtgijdhnkkbenoaaGreatAA
import Derived.Deep.CutRange
namespace Go.Proofs.YtgijdhnkkbenoaaGreat
open Go.RowKit
set_option linter.unusedVariables false
set_option linter.unusedSimpArgs false
set_option maxRecDepth 100000

def wL : List Cl := [⟨⟨#[102]⟩, 1⟩, ⟨⟨#[88]⟩, 0⟩]
def wR : List Cl := [⟨⟨#[115]⟩, 1⟩, ⟨⟨#[88]⟩, 0⟩]
def wT : List Cl := [⟨⟨#[102]⟩, 1⟩, ⟨⟨#[97]⟩, 0⟩]
def wN : List Cl := [⟨⟨#[115]⟩, 1⟩, ⟨⟨#[97]⟩, 0⟩]
def wG : List Cl := [⟨⟨#[103]⟩, 2⟩, ⟨⟨#[97]⟩, 0⟩, ⟨⟨#[98]⟩, 0⟩]
def wO : List Opr := [⟨1, ⟨⟨#[103]⟩, 2⟩, []⟩, ⟨1, ⟨⟨#[98]⟩, 0⟩, []⟩, ⟨1, ⟨⟨#[97]⟩, 0⟩, []⟩]
theorem w_norm : normP [⟨1, wL, wR⟩] wT 5 = (wN, 1, 0) := by kernel_rfl
theorem w_start : startP wG = (⟨wO, [], 0, []⟩, 0) := by kernel_rfl
theorem fine_w {L : List Cl} (h : check L = 0) : Fine L := fine_check h
theorem lies_lit (w : World) (L : List Cl) (h : check L = 0) : Lies (w.alloc (.cells (flatC L).toArray 54)) (.slice (some ⟨w.heap.size, 0, none⟩) L.length L.length) L :=
  Owns.lies (own_lit w L (by have := (check_zero h).1; unfold maxLen; omega)) (fine_check h)
theorem bel_al (w : World) (o : Obj) : Below w.heap.size w (w.alloc o) := (Below.refl _ w).alloc (Nat.le_refl _) o
/-- the world in which Normal is called -/
def wkW (w : World) : World := (((w.alloc (.cells #[.string ⟨#[102]⟩, .int .i64 1, .string ⟨#[88]⟩, .int .i64 0] 54)).alloc (.cells #[.string ⟨#[115]⟩, .int .i64 1, .string ⟨#[88]⟩, .int .i64 0] 54)).alloc (.cells #[.int .i64 1, .slice (some ⟨w.heap.size, 0, none⟩) 2 2, .slice (some ⟨w.heap.size + 1, 0, none⟩) 2 2] 69)).alloc (.cells #[.string ⟨#[102]⟩, .int .i64 1, .string ⟨#[97]⟩, .int .i64 0] 54)
theorem wk_facts (w : World) : LiesR (wkW w) (.slice (some ⟨w.heap.size + 1 + 1, 0, none⟩) 1 1) [⟨1, wL, wR⟩] ∧ Lies (wkW w) (.slice (some ⟨w.heap.size + 1 + 1 + 1, 0, none⟩) 2 2) wT ∧ Below w.heap.size w (wkW w) := by
  have e1 : (w.alloc (.cells #[.string ⟨#[102]⟩, .int .i64 1, .string ⟨#[88]⟩, .int .i64 0] 54)).heap.size = w.heap.size + 1 := by simp
  have l1 := lies_lit w wL (by kernel_rfl)
  have l2 := lies_lit (w.alloc (.cells #[.string ⟨#[102]⟩, .int .i64 1, .string ⟨#[88]⟩, .int .i64 0] 54)) wR (by kernel_rfl)
  rw [e1] at l2
  have b2 := bel_al (w.alloc (.cells #[.string ⟨#[102]⟩, .int .i64 1, .string ⟨#[88]⟩, .int .i64 0] 54)) (.cells #[.string ⟨#[115]⟩, .int .i64 1, .string ⟨#[88]⟩, .int .i64 0] 54)
  have b3 := bel_al ((w.alloc (.cells #[.string ⟨#[102]⟩, .int .i64 1, .string ⟨#[88]⟩, .int .i64 0] 54)).alloc (.cells #[.string ⟨#[115]⟩, .int .i64 1, .string ⟨#[88]⟩, .int .i64 0] 54)) (.cells #[.int .i64 1, .slice (some ⟨w.heap.size, 0, none⟩) 2 2, .slice (some ⟨w.heap.size + 1, 0, none⟩) 2 2] 69)
  have b4 := bel_al (((w.alloc (.cells #[.string ⟨#[102]⟩, .int .i64 1, .string ⟨#[88]⟩, .int .i64 0] 54)).alloc (.cells #[.string ⟨#[115]⟩, .int .i64 1, .string ⟨#[88]⟩, .int .i64 0] 54)).alloc (.cells #[.int .i64 1, .slice (some ⟨w.heap.size, 0, none⟩) 2 2, .slice (some ⟨w.heap.size + 1, 0, none⟩) 2 2] 69)) (.cells #[.string ⟨#[102]⟩, .int .i64 1, .string ⟨#[97]⟩, .int .i64 0] 54)
  have m1 := ((l1.on b2).on b3).on b4
  have m2 := (l2.on b3).on b4
  have B3 : Blk (wkW w) (w.heap.size + 1 + 1) #[.int .i64 1, .slice (some ⟨w.heap.size, 0, none⟩) 2 2, .slice (some ⟨w.heap.size + 1, 0, none⟩) 2 2] 69 := (Blk.madeAt _ _ _ (by simp)).alloc _
  have hlt := B3.lt
  refine ⟨⟨some ⟨w.heap.size + 1 + 1, 0, none⟩, 1, rfl, Nat.le_refl _, by unfold maxLen; omega, fun i r hi => ?_⟩, ?_, ?_⟩
  · obtain ⟨rfl, rfl⟩ := one_get hi
    exact ⟨w.heap.size + 1 + 1, 0, _, _, rfl, hlt, B3.cell (i := 0) rfl, B3.cell (i := 1) rfl, B3.cell (i := 2) rfl, m1, m2, by decide, by decide⟩
  · have := lies_lit (((w.alloc (.cells #[.string ⟨#[102]⟩, .int .i64 1, .string ⟨#[88]⟩, .int .i64 0] 54)).alloc (.cells #[.string ⟨#[115]⟩, .int .i64 1, .string ⟨#[88]⟩, .int .i64 0] 54)).alloc (.cells #[.int .i64 1, .slice (some ⟨w.heap.size, 0, none⟩) 2 2, .slice (some ⟨w.heap.size + 1, 0, none⟩) 2 2] 69)) wT (by kernel_rfl)
    have e3 : (((w.alloc (.cells #[.string ⟨#[102]⟩, .int .i64 1, .string ⟨#[88]⟩, .int .i64 0] 54)).alloc (.cells #[.string ⟨#[115]⟩, .int .i64 1, .string ⟨#[88]⟩, .int .i64 0] 54)).alloc (.cells #[.int .i64 1, .slice (some ⟨w.heap.size, 0, none⟩) 2 2, .slice (some ⟨w.heap.size + 1, 0, none⟩) 2 2] 69)).heap.size = w.heap.size + 1 + 1 + 1 := by simp
    rw [e3] at this
    exact this
  · refine (((bel_al w _).trans (b2.mono ?_)).trans (b3.mono ?_)).trans (b4.mono ?_)
    all_goals (simp; try omega)

theorem w_out {w : World} {B : Nat} {v : Value} (h : Owns w B v wN) : ∃ g cap, v = .slice (some ⟨g, 0, none⟩) 2 cap ∧ g < w.heap.size ∧ w.cell? ⟨g, 0, none⟩ = some (.string ⟨#[115]⟩) := by
  obtain ⟨a, cap, hv, c1, c2, c3⟩ := own_cells h
  obtain ⟨g, ha, _, hlt, hc⟩ := c3 0 (.string ⟨#[115]⟩) rfl
  subst ha
  exact ⟨g, cap, hv, hlt, hc⟩
theorem w_ops {w : World} {B : Nat} {sv : Value} (h : OutSt B w sv ⟨wO, [], 0, []⟩) : ∃ g cap va vc ha hc, sv = .agg #[.slice (some ⟨g, 0, none⟩) 3 cap, .slice va 0 vc, .int .i64 0, .slice ha 0 hc] ∧ g < w.heap.size ∧ w.cell? ⟨g, 1, none⟩ = some (.string ⟨#[103]⟩) ∧ w.cell? ⟨g, 9, none⟩ = some (.string ⟨#[97]⟩) := by
  obtain ⟨ov, vv, hv, e, ⟨os, o0, o1, o2⟩, h2, h3⟩ := h
  obtain ⟨va, vc, hvv⟩ := h2.form
  obtain ⟨ha, hc, hhv⟩ := OwnsS.form h3
  obtain ⟨a, cap, hov, c1, c2, c3⟩ := own_cells o1
  obtain ⟨x, q1, _⟩ := o2 0 _ rfl
  obtain ⟨y, q2, _⟩ := o2 2 _ rfl
  obtain ⟨_, f1, _, _⟩ := flatO_at os 0 _ q1
  obtain ⟨_, f2, _, _⟩ := flatO_at os 2 _ q2
  obtain ⟨g, hg, _, hlt, d1⟩ := c3 _ _ f1
  obtain ⟨g', hg', _, _, d2⟩ := c3 _ _ f2
  subst hg
  cases hg'
  subst hvv
  subst hhv
  have hov2 : ov = .slice (some ⟨g, 0, none⟩) 3 cap := hov
  subst hov2
  exact ⟨g, cap, va, vc, ha, hc, e, hlt, d1, d2⟩

set_option maxHeartbeats 4000000 in
theorem wakes_any (w : World) : Calls Tryz.prog 9 #[] w fun e w' => e = .returned (.bool true) ∧ Below w.heap.size w w' := by
  obtain ⟨hR, hT, hB⟩ := wk_facts w
  have h1 := normal_any (wkW w) _ _ hR _ _ hT 5 (by omega) (by decide)
  rw [w_norm] at h1
  have h2 : ∀ w1 : World, Calls Tryz.prog 10 #[.slice (some ⟨w1.heap.size, 0, none⟩) 3 3] (w1.alloc (.cells #[.string ⟨#[103]⟩, .int .i64 2, .string ⟨#[97]⟩, .int .i64 0, .string ⟨#[98]⟩, .int .i64 0] 54)) fun e w' => ∃ sv, e = .returned (.tuple #[sv, .int .i64 0]) ∧ OutSt (w1.alloc (.cells #[.string ⟨#[103]⟩, .int .i64 2, .string ⟨#[97]⟩, .int .i64 0, .string ⟨#[98]⟩, .int .i64 0] 54)).heap.size w' sv ⟨wO, [], 0, []⟩ ∧ Below (w1.alloc (.cells #[.string ⟨#[103]⟩, .int .i64 2, .string ⟨#[97]⟩, .int .i64 0, .string ⟨#[98]⟩, .int .i64 0] 54)).heap.size (w1.alloc (.cells #[.string ⟨#[103]⟩, .int .i64 2, .string ⟨#[97]⟩, .int .i64 0, .string ⟨#[98]⟩, .int .i64 0] 54)) w' := fun w1 => by
    have := start_any _ _ wG (lies_lit w1 wG (by kernel_rfl))
    rw [w_start] at this
    exact this
  have HB := hid hB
  clear hR hT hB
  go_enter Tryz.func9, Tryz.ntmps9
  go_wp2_with (first | (go_at_call 22; refine h1.mono ?_; clear h1; rintro e w1 ⟨⟨v1, rfl, ho1⟩, hb1⟩; obtain ⟨g1, p1, hv1, hl1, k1⟩ := w_out ho1; subst hv1; have HB1 := hid (HB.out.trans (hb1.mono HB.out.size)); have HA1 := hid (bel_al w1 (.cells #[.string ⟨#[103]⟩, .int .i64 2, .string ⟨#[97]⟩, .int .i64 0, .string ⟨#[98]⟩, .int .i64 0] 54)); clear hb1 ho1) | (go_at_call 10; refine (h2 w1).mono ?_; clear h2; rintro e w2 ⟨sv, rfl, ho2, hb2⟩; obtain ⟨g2, p2, va, vc, ha, hc, hsv, hl2, k2, k3⟩ := w_ops ho2; subst hsv; have HB2 := hid ((HB1.out.trans (HA1.out.mono HB1.out.size)).trans (hb2.mono (HB1.out.trans (HA1.out.mono HB1.out.size)).size)); have k4 := (hb2.cell (p := ⟨g1, 0, none⟩) (Nat.lt_of_lt_of_le hl1 HA1.out.size)).trans ((HA1.out.cell (p := ⟨g1, 0, none⟩) hl1).trans k1); have hg12 := Nat.lt_of_lt_of_le (Nat.lt_of_lt_of_le hl1 HA1.out.size) hb2.size; have A2 := bel_al w2 (.cells #[.slice (some ⟨g2, 0, none⟩) 3 p2, .slice va 0 vc, .int .i64 0, .slice ha 0 hc] 28); have HB3 := hid (HB2.out.trans (A2.mono HB2.out.size)); have k5 := (A2.cell (p := ⟨g2, 1, none⟩) hl2).trans k2; have k6 := (A2.cell (p := ⟨g2, 9, none⟩) hl2).trans k3; have k7 := (A2.cell (p := ⟨g1, 0, none⟩) hg12).trans k4; clear hb2 ho2 k2 k3 k4 A2))
  go_ret
  exact ⟨rfl, HB3.out⟩

/-- ops and values are right -/
def SttOk (s : Stt) : Prop := (∀ o ∈ s.ops, opOk o) ∧ ∀ v ∈ s.vals, grd v = true
theorem noStt_ok : SttOk noStt := ⟨(fun o h => by cases h), (fun v h => by cases h)⟩
theorem startP_ok (T : List Cl) : SttOk (startP T).1 := by
  unfold startP
  split
  · split
    · rename_i hg
      exact ⟨(fun o ho => todo_grd hg o (List.mem_reverse.1 ho)), (fun v h => by cases h)⟩
    · exact noStt_ok
  · exact noStt_ok
theorem RsOk.of {rs : List Rl} (h : chkRs rs = 0) : RsOk rs := by
  unfold chkRs at h
  split at h
  · rename_i h0; exact chkAll_zero.1 h0
  · rename_i h0; exact absurd h h0
theorem runP_ok {rs : List Rl} {tb : Tb} (ht : TbOk tb) {s : Stt} {fu : Int} (hl : s.ops.length + 8 * fu.toNat ≤ 2513169500000) : SttOk (runP rs tb s fu).1 := by
  unfold runP
  by_cases hc : chkRs rs = 0
  · rw [if_pos hc]
    by_cases hs : stR s.steps s.ops s.vals s.heads = true
    · rw [if_pos hs]
      have h := runN_rt (RsOk.of hc) ht (mu (s.cf fu) + 1) _ (rt_of hs hl)
      exact ⟨fun o ho => h.ops o (List.mem_reverse.1 ho), h.vals⟩
    · rw [if_neg hs]; exact noStt_ok
  · rw [if_neg hc]; exact noStt_ok
/-- a state of the call's own lies in memory -/
theorem OutSt.trio {B : Nat} {w : World} {sv : Value} {s : Stt} (h : OutSt B w sv s) (hok : SttOk s) : ∃ oa oc va vc ha hc, sv = .agg #[.slice oa s.ops.length oc, .slice va s.vals.length vc, .int .i64 s.steps, .slice ha s.heads.length hc] ∧ LiesO w (.slice oa s.ops.length oc) s.ops ∧ LiesT w (.slice va s.vals.length vc) s.vals ∧ LiesS w (.slice ha s.heads.length hc) s.heads := by
  obtain ⟨ov, vv, hv, e, h1, h2, h3⟩ := h
  obtain ⟨oa, oc, e1⟩ := h1.form
  obtain ⟨va, vc, e2⟩ := h2.form
  obtain ⟨ha, hc, e3⟩ := OwnsS.form h3
  subst e1 e2 e3
  refine ⟨oa, oc, va, vc, ha, hc, e, ?_, ?_, OwnsS.lies h3⟩
  · obtain ⟨os, q0, q1, q2⟩ := h1
    refine OpsV.lies (V := Lies w) (B := B) ⟨os, q0, q1, fun i o hi => ?_⟩ (fun _ _ h => h) (fun o ho => ?_)
    · obtain ⟨x, a1, a2, a3⟩ := q2 i o hi
      exact ⟨x, a1, a2, Owns.lies a3 (hok.1 o (List.mem_of_getElem? hi)).fine⟩
    · obtain ⟨q1, q2, q3, q4, q5, q6⟩ := opOk.small (hok.1 o ho)
      omega
  · obtain ⟨vs, q1, q2⟩ := h2
    refine ValsV.lies (V := Lies w) (B := B) ⟨vs, q1, fun i l hi => ?_⟩ (fun _ _ h => h)
    obtain ⟨x, a1, a2, a3⟩ := q2 i l hi
    exact ⟨x, a1, a2, Owns.lies a3 (fine_check (grd_iff.1 (hok.2 l (List.mem_of_getElem? hi))).1)⟩
theorem LiesO.facts {w : World} {v : Value} {ops : List Opr} (h : LiesO w v ops) : ∀ o ∈ ops, Fine o.v ∧ o.c.nm.size ≤ 9223372036854775807 ∧ (-9223372036854775808 ≤ o.k ∧ o.k ≤ 9223372036854775807) ∧ (-9223372036854775808 ≤ o.c.ar ∧ o.c.ar ≤ 9223372036854775807) := by
  intro o ho
  obtain ⟨i, hi⟩ := List.getElem?_of_mem ho
  obtain ⟨a, c, _, _, _, HC⟩ := h
  obtain ⟨g, off, x, _, _, _, _, _, _, hl, h5, h6, h7⟩ := HC i o hi
  obtain ⟨_, _, _, _, _, hf, _⟩ := hl
  exact ⟨hf, h5, h6, h7⟩
theorem LiesT.fine {w : World} {v : Value} {K : List (List Cl)} (h : LiesT w v K) : ∀ l ∈ K, Fine l := by
  intro l hl
  obtain ⟨i, hi⟩ := List.getElem?_of_mem hl
  obtain ⟨a, c, _, _, _, HC⟩ := h
  obtain ⟨g, off, x, _, _, _, hx⟩ := HC i l hi
  obtain ⟨_, _, _, _, _, hf, _⟩ := hx
  exact hf
/-- a copy of a state that came in, as it is handed on -/
theorem OutSt.copy {B : Nat} {w w0 : World} {sv ov0 vv0 hv0 : Value} {s : Stt} (h : OutSt B w sv s) (hA : StA w0 ov0 vv0 hv0 s) : ∃ oa oc va vc ha hc, sv = .agg #[.slice oa s.ops.length oc, .slice va s.vals.length vc, .int .i64 s.steps, .slice ha s.heads.length hc] ∧ StIn w (.slice oa s.ops.length oc) (.slice va s.vals.length vc) (.slice ha s.heads.length hc) s.ops s.vals s.heads ∧ StWf s ∧ LiesSt w (.slice oa s.ops.length oc) (.slice va s.vals.length vc) (.slice ha s.heads.length hc) s.steps s.ops s.vals s.heads := by
  obtain ⟨ov, vv, hv, e, h1, h2, h3⟩ := h
  have hin := OutSt.in h1 h2 h3 (fun o ho => (hA.lo.facts o ho).1) (fun v hv => hA.lv.fine v hv)
  have hwf : StWf s := ⟨fun o ho => (hA.lo.facts o ho).2, hA.st, hA.names⟩
  have n1 := hA.no
  have n2 := hA.nv
  have hl := hin.lies hwf (by omega)
  obtain ⟨oa, oc, e1⟩ := h1.form
  obtain ⟨va, vc, e2⟩ := h2.form
  obtain ⟨ha, hc, e3⟩ := OwnsS.form h3
  subst e1 e2 e3
  exact ⟨oa, oc, va, vc, ha, hc, e, hin, hwf, hl⟩
/-- the document's Copy of a state that came in -/
theorem rcopy_in (w : World) (ov vv hv : Value) (s : Stt) (h : StA w ov vv hv s) :
    Calls Tryz.prog 15 #[.agg #[ov, vv, .int .i64 s.steps, hv]] w fun e w' => ∃ sv, e = .returned sv ∧ OutSt w.heap.size w' sv s ∧ Below w.heap.size w w' := by
  have n1 := h.no
  have n2 := h.nv
  have n3 := h.nh
  exact rcopy_any w ov vv hv s.ops s.vals s.steps s.heads h.lo h.lv h.lh h.nil h.zo h.zv (wide_of (by omega) (by decide)) (by omega) (by omega)

/-- what a table tells of one term -/
structure Mm where
  t : List Cl
  n : List Cl
  h : List ByteArray
def LiesM (w : World) (v : Value) (ms : List Mm) : Prop :=
  ∃ a cap, v = .slice a ms.length cap ∧ ms.length ≤ cap ∧ cap ≤ maxLen ∧ ∀ (i : Nat) m, ms[i]? = some m → ∃ g off x y z, a = some ⟨g, off, none⟩ ∧ g < w.heap.size ∧ w.cell? ⟨g, off + i * 3, none⟩ = some x ∧ w.cell? ⟨g, off + i * 3 + 1, none⟩ = some y ∧ w.cell? ⟨g, off + i * 3 + 2, none⟩ = some z ∧ Lies w x m.t ∧ Lies w y m.n ∧ LiesS w z m.h
theorem LiesM.on {w w' : World} {v : Value} {ms : List Mm} (h : LiesM w v ms) (hb : Below w.heap.size w w') : LiesM w' v ms := by
  obtain ⟨a, cap, hv, c1, c2, c3⟩ := h
  refine ⟨a, cap, hv, c1, c2, fun i o hi => ?_⟩
  obtain ⟨g, off, x, y, z, ha, hlt, q0, q1, q2, h1, h2, h3⟩ := c3 i o hi
  exact ⟨g, off, x, y, z, ha, Nat.lt_of_lt_of_le hlt hb.size, (hb.cell (p := ⟨g, off + i * 3, none⟩) hlt).trans q0, (hb.cell (p := ⟨g, off + i * 3 + 1, none⟩) hlt).trans q1, (hb.cell (p := ⟨g, off + i * 3 + 2, none⟩) hlt).trans q2, h1.on hb, h2.on hb, h3.on hb⟩
theorem LiesM.at {w : World} {a : Option Addr} {n c : Nat} {ms : List Mm} (h : LiesM w (.slice a n c) ms) {i : Nat} {m : Mm} (hi : ms[i]? = some m) : ∃ g off x y z, a = some ⟨g, off, none⟩ ∧ g < w.heap.size ∧ w.cell? ⟨g, off + i * 3, none⟩ = some x ∧ w.cell? ⟨g, off + i * 3 + 1, none⟩ = some y ∧ w.cell? ⟨g, off + i * 3 + 2, none⟩ = some z ∧ Lies w x m.t ∧ Lies w y m.n ∧ LiesS w z m.h := by
  obtain ⟨a', cap', hv', _, _, HC'⟩ := h
  cases hv'
  exact HC' i m hi
theorem LiesM.nil (w : World) : LiesM w (.slice none 0 0) [] := ⟨none, 0, rfl, Nat.le_refl _, Nat.zero_le _, fun i m h => by simp at h⟩
def knownI : List Mm → List Cl → Option Nat
  | [], _ => none
  | m :: r, t => if m.t = t then some 0 else (knownI r t).map (· + 1)
def tbM (ms : List Mm) : Tb := fun t => (knownI ms t).bind fun i => (ms[i]?).map fun m => (m.n, m.h)
def knownZ (ms : List Mm) (t : List Cl) : Int := match knownI ms t with | some k => (k : Int) | none => -1
theorem knownI_first : ∀ {ms : List Mm} {t : List Cl} {k : Nat} {m : Mm}, (∀ (j : Nat) x, j < k → ms[j]? = some x → x.t ≠ t) → ms[k]? = some m → m.t = t → knownI ms t = some k
  | [], t, k, m, _, h, _ => by simp at h
  | m0 :: r, t, 0, m, _, h, e => by
    simp only [List.getElem?_cons_zero, Option.some.injEq] at h
    subst h
    unfold knownI
    rw [if_pos e]
  | m0 :: r, t, k + 1, m, hn, h, e => by
    unfold knownI
    rw [if_neg (hn 0 m0 (by omega) rfl), knownI_first (k := k) (m := m) (fun j x hj hx => hn (j + 1) x (by omega) (by simpa using hx)) (by simpa using h) e]
    rfl
theorem knownI_not : ∀ {ms : List Mm} {t : List Cl}, (∀ (j : Nat) x, ms[j]? = some x → x.t ≠ t) → knownI ms t = none
  | [], t, _ => rfl
  | m0 :: r, t, hn => by
    unfold knownI
    rw [if_neg (hn 0 m0 rfl), knownI_not (fun j x hx => hn (j + 1) x (by simpa using hx))]
    rfl
theorem knownI_lt : ∀ {ms : List Mm} {t : List Cl} {k : Nat}, knownI ms t = some k → ∃ m, ms[k]? = some m ∧ m.t = t
  | [], t, k, h => by cases h
  | m0 :: r, t, k, h => by
    unfold knownI at h
    split at h
    · rename_i e
      cases h
      exact ⟨m0, rfl, e⟩
    · cases hq : knownI r t with
      | none => rw [hq] at h; cases h
      | some j =>
        rw [hq] at h
        cases h
        obtain ⟨m, h1, h2⟩ := knownI_lt hq
        exact ⟨m, by rw [List.getElem?_cons_succ]; exact h1, h2⟩

set_option maxHeartbeats 2000000 in
theorem known_any (w : World) (mv : Value) (ms : List Mm) (hm : LiesM w mv ms) (tv : Value) (T : List Cl) (hT : Lies w tv T) :
    Calls Tryz.prog 106 #[mv, tv] w fun e w' => e = .returned (.int .i64 (knownZ ms T)) ∧ Below w.heap.size w w' := by
  have HM := hid hm
  have HT := hid hT
  obtain ⟨Z, hZ⟩ : ∃ Z, knownZ ms T = Z := ⟨_, rfl⟩
  have HZ : Hid (knownZ ms T = Z) := hZ
  rw [hZ]
  obtain ⟨ma, mc, rfl, ml1, ml2, _⟩ := hm
  have hml : ms.length ≤ 9223372036854775807 := by unfold maxLen at ml2; omega
  obtain ⟨ta, tc, rfl, _⟩ := hT
  clear hZ
  go_enter Tryz.func106, Tryz.ntmps106
  go_wp2_with fail
  go_loopw [8] (fun i wr => ∃ k : Nat, k ≤ ms.length ∧ i = .int .i64 (k : Nat) ∧ Hid (∀ (j : Nat) x, j < k → ms[j]? = some x → x.t ≠ T) ∧ Hid (Below w.heap.size w wr)) (fun i _ => ms.length - (intOf i).toNat)
  case atStart => exact ⟨0, Nat.zero_le _, rfl, (fun j x h => by omega), Below.refl _ _⟩
  case round =>
    obtain ⟨k, hk, rfl, HF, HB⟩ := hrel
    have hbs := HB.out.size
    by_cases hlt : k < ms.length
    · obtain ⟨m, hmk⟩ : ∃ m, ms[k]? = some m := ⟨ms[k], List.getElem?_eq_getElem hlt⟩
      have hki : (k : Int) < (ms.length : Int) := by omega
      obtain ⟨g, off, x, y, z, hma, hgl, c0, c1, c2, hlx, _⟩ := (HM.out.on HB.out).at hmk
      subst hma
      have hsm := same_any wr x _ m.t T hlx (HT.out.on HB.out)
      obtain ⟨xa, xc, hxv, _⟩ := hlx
      subst hxv
      have HMK := hid hmk
      clear hmk
      by_cases he : m.t = T
      · rw [decide_eq_true he] at hsm
        have HR : Hid (Z = (k : Int)) := by
          show _ = _
          rw [← HZ.out]
          unfold knownZ
          rw [knownI_first HF.out HMK.out he]
        clear HF he
        go_wp2_with (go_at_call 25; refine hsm.mono ?_; rintro e w3 ⟨rfl, hb3⟩)
        go_ret
        exact ⟨by rw [HR.out]; rfl, HB.out.trans (hb3.mono hbs)⟩
      · rw [decide_eq_false he] at hsm
        have HF2 : Hid (∀ (j : Nat) x, j < k + 1 → ms[j]? = some x → x.t ≠ T) := fun j x h1 h2 => by
          by_cases e : j = k
          · subst e; rw [HMK.out] at h2; cases h2; exact he
          · exact HF.out j x (by omega) h2
        clear HF he
        go_wp2_with (go_at_call 25; refine hsm.mono ?_; rintro e w3 ⟨rfl, hb3⟩)
        go_roundw
        case rel => exact ⟨k + 1, by omega, by go_num, HF2, HB.out.trans (hb3.mono hbs)⟩
        case measure => (simp [intOf]; try omega)
    · have hki : ¬ (k : Int) < (ms.length : Int) := by omega
      have HR : Hid (Z = -1) := by
        show _ = _
        rw [← HZ.out]
        unfold knownZ
        rw [knownI_not (fun j x hx => HF.out j x (by have := (List.getElem?_eq_some_iff.1 hx).1; omega) hx)]
      clear HF
      go_wp2_with fail
      go_ret
      exact ⟨by rw [HR.out]; rfl, HB.out⟩

theorem str_lim {n : Nat} (h : n ≤ 4000000000000) : (n + n / 4 + 192) * 16 ≤ 281474976710656 := by omega
theorem jn1_len : ∀ (S : List ByteArray) (x : ByteArray), (jn1 S x).length ≤ S.length + 1
  | [], x => by simp [jn1]
  | y :: r, x => by
    unfold jn1
    have := jn1_len r x
    (repeat' split) <;> simp only [List.length_cons] <;> omega
def jrem (inn : Bool) (S : List ByteArray) (x : ByteArray) : List ByteArray := match inn with | true => S | false => jn1 S x
theorem drop_one {S : List ByteArray} {k : Nat} {y : ByteArray} (h : S[k]? = some y) : S.drop k = y :: S.drop (k + 1) := by
  have hk := (List.getElem?_eq_some_iff.1 h)
  rw [List.drop_eq_getElem_cons hk.1, hk.2]

theorem LiesS.at {w : World} {a : Option Addr} {n c : Nat} {S : List ByteArray} (h : LiesS w (.slice a n c) S) {i : Nat} {x : ByteArray} (hi : S[i]? = some x) : ∃ b off, a = some ⟨b, off, none⟩ ∧ b < w.heap.size ∧ w.cell? ⟨b, off + i, none⟩ = some (.string x) := by
  obtain ⟨a', c', hv', _, _, h4⟩ := h
  cases hv'
  exact h4 i x hi

set_option maxHeartbeats 8000000 in
theorem rjoin_any (w : World) (lv mv : Value) (S M : List ByteArray) (hl : LiesS w lv S) (hm : LiesS w mv M) (hh : ∀ i, (jn S (M.take i)).length ≤ 3600000000000) :
    Calls Tryz.prog 107 #[lv, mv] w fun e w' => ∃ v', e = .returned v' ∧ OwnsS w' w.heap.size v' (jn S M) ∧ Below w.heap.size w w' := by
  obtain ⟨i0, hi, hz0, hz1, hz2⟩ := info_parts info9
  have HL := hid hl
  have HM := hid hm
  have HH := hid hh
  have hsl : S.length ≤ 3600000000000 := hh 0
  obtain ⟨la, lc, rfl, ll1, ll2, _⟩ := hl
  obtain ⟨ma, mc, rfl, ml1, ml2, _⟩ := hm
  have hml : M.length ≤ 9223372036854775807 := by unfold maxLen at ml2; omega
  clear hh
  go_enter Tryz.func107, Tryz.ntmps107
  go_wp2_with fail
  go_loopw [5, 13] (fun o i wr => ∃ k : Nat, k ≤ S.length ∧ i = .int .i64 (k : Nat) ∧ Hid (OwnsS wr w.heap.size o (S.take k)) ∧ Hid (Below w.heap.size w wr)) (fun _ i _ => S.length - (intOf i).toNat)
  case atStart => exact ⟨0, Nat.zero_le _, rfl, World.ownsRow_nil _ _ _ _, Below.refl _ _⟩
  case round =>
    obtain ⟨k, hk, rfl, HO, HB⟩ := hrel
    have hbs := HB.out.size
    by_cases hlt : k < S.length
    · obtain ⟨x, hx⟩ : ∃ x, S[k]? = some x := ⟨S[k], List.getElem?_eq_getElem hlt⟩
      have hki : (k : Int) < (S.length : Int) := by omega
      obtain ⟨b, off, hla, hbl, c0⟩ := (HL.out.on HB.out).at hx
      subst hla
      have HN : Hid (S.take (k + 1) = S.take k ++ [x]) := by show _ = _; rw [List.take_add_one, hx]; rfl
      have hrow := HO.out
      have htl : (S.take k).length = k := by rw [List.length_take]; omega
      obtain ⟨D, hD⟩ : ∃ D, S.take k = D := ⟨_, rfl⟩
      rw [hD] at hrow HN htl
      have HR4 : Hid ((wr.alloc (.cells #[.string x] 9)).ownsRow w.heap.size 9 1 _ D.length (D.map Value.string)) := hrow.alloc _
      obtain ⟨oa, oc, hov, _⟩ := own_cells hrow
      subst hov
      have hdk : D.length ≤ 3600000000000 := by omega
      clear hx hD htl HO
      go_wp2_with (at_builtin; refine wpList_append_own_wide _ rfl _ _ 26 rfl w.heap.size 9 i0 (.string ⟨#[]⟩) 1 16 Tryz.underlying26 hi hz0 hz1 hz2 rfl (by decide) _ D.length (D.map Value.string) rfl HR4.out ⟨wr.heap.size, 0, none⟩ 1 1 [.string x] rfl rfl (one_cell wr _ _) ?k1 ?k2 ?k3 ?k4 ?_)
      case k1 => intro u hu; simp at hu; subst hu; rfl
      case k2 => unfold maxLen; omega
      case k3 => exact str_lim (by omega)
      case k4 => simp; omega
      intro v' w4 hown' hgrow _
      have HO4 := hid (ownS_more (w := wr) hown')
      have HB4 : Hid (Below w.heap.size w w4) := (HB.out.alloc hbs _).grown hgrow (by simp; omega) (fun k hk => (hrow.lt k hk).1)
      obtain ⟨na, nc, hnv, _⟩ := own_cells hown'
      subst hnv
      clear hown' hgrow hrow HR4 HB
      go_wp2_with fail
      go_roundw
      case rel => exact ⟨k + 1, by omega, by go_num, by rw [HN.out]; exact HO4, HB4⟩
      case measure => (simp [intOf]; try omega)
    · have hki : ¬ (k : Int) < (S.length : Int) := by omega
      have hO := HO.out
      rw [List.take_of_length_le (by omega)] at hO
      have HO1 := hid hO
      obtain ⟨oa, oc, hov, _⟩ := own_cells hO
      have hov2 : _ = Value.slice oa S.length oc := hov
      subst hov2
      clear hO HO
      go_wp2_with fail
      go_loopw [5, 26] (fun o i wr => ∃ k : Nat, k ≤ M.length ∧ i = .int .i64 (k : Nat) ∧ Hid (OwnsS wr w.heap.size o (jn S (M.take k))) ∧ Hid (Below w.heap.size w wr)) (fun _ i _ => M.length - (intOf i).toNat)
      case atStart => exact ⟨0, Nat.zero_le _, rfl, HO1, HB⟩
      case round =>
        clear HO1 HB hbs
        revert wr
        intro wo hrel
        obtain ⟨j, hj, rfl, HO, HB⟩ := hrel
        have hbs := HB.out.size
        by_cases hltM : j < M.length
        · obtain ⟨x, hx⟩ : ∃ x, M[j]? = some x := ⟨M[j], List.getElem?_eq_getElem hltM⟩
          have hji : (j : Int) < (M.length : Int) := by omega
          have HMo := hid (HM.out.on HB.out)
          obtain ⟨bm, offm, hmae, hbml, cm⟩ := HMo.out.at hx
          subst hmae
          have HN : Hid (jn S (M.take (j + 1)) = jn1 (jn S (M.take j)) x) := by
            show _ = _
            unfold jn
            rw [List.take_add_one, hx]
            simp
          have hln := HH.out j
          have hln1 := HH.out (j + 1)
          obtain ⟨R, hR⟩ : ∃ R, jn S (M.take j) = R := ⟨_, rfl⟩
          rw [hR] at HO HN hln
          rw [HN.out] at hln1
          have HLR := hid (OwnsS.lies HO.out)
          obtain ⟨ra, rc, hrv, _⟩ := own_cells HO.out
          have hrv2 : _ = Value.slice ra R.length rc := hrv
          subst hrv2
          clear hx hR
          go_wp2_with fail
          go_loopw [8, 9, 31] (fun nv b i wr => ∃ (k : Nat) (inn : Bool) (N : List ByteArray), k ≤ R.length ∧ (N.length ≤ k + 1 ∧ (inn = false → N.length ≤ k)) ∧ b = .bool inn ∧ i = .int .i64 (k : Nat) ∧ Hid (jn1 R x = N ++ jrem inn (R.drop k) x) ∧ Hid (OwnsS wr wo.heap.size nv N) ∧ Hid (Below wo.heap.size wo wr)) (fun _ _ i _ => R.length - (intOf i).toNat)
          case atStart => exact ⟨0, false, [], Nat.zero_le _, ⟨by simp, by simp⟩, rfl, rfl, rfl, World.ownsRow_nil _ _ _ _, Below.refl _ _⟩
          case round =>
            obtain ⟨k, inn, N, hk, ⟨hNl, hNf⟩, rfl, rfl, HJ, HNO, HBr⟩ := hrel
            have hbs2 := HBr.out.size
            by_cases hltR : k < R.length
            · obtain ⟨y, hy⟩ : ∃ y, R[k]? = some y := ⟨R[k], List.getElem?_eq_getElem hltR⟩
              have hkr : (k : Int) < (R.length : Int) := by omega
              obtain ⟨br, offr, hra, hbrl, cr⟩ := HLR.out.at hy
              subst hra
              have cy := (HBr.out.cell (p := ⟨br, offr + k, none⟩) hbrl).trans cr
              have cx := (HBr.out.cell (p := ⟨bm, offm + j, none⟩) hbml).trans cm
              have HDR := hid (drop_one hy)
              obtain ⟨nva, nvc, hnv, _⟩ := own_cells HNO.out
              have hnv2 : _ = Value.slice nva N.length nvc := hnv
              subst hnv2
              clear hy
              cases inn with
              | true =>
                have HJ2 : Hid (jn1 R x = (N ++ [y]) ++ jrem true (R.drop (k + 1)) x) := by show _ = _; rw [HJ.out, HDR.out]; simp [jrem]
                have hl2 : (N ++ [y]).length ≤ k + 1 + 1 := by simp; omega
                clear HJ HDR
                go_wp2_with fail
                go_quiet (fail)
                have HBd1 := hid (HBr.out.trans ((below_drewN wr nq).mono HBr.out.size))
                have hrow1 := own_below HNO.out (below_drewN wr nq)
                generalize wr.drewN nq = W1 at HBd1 hrow1 ⊢
                have cy1 := (HBd1.out.cell (p := ⟨br, offr + k, none⟩) hbrl).trans cr
                have cx1 := (HBd1.out.cell (p := ⟨bm, offm + j, none⟩) hbml).trans cm
                clear HBr HNO cy cx
                have HR1 := hid (hrow1.alloc (.cells #[.string y] 9))
                go_wp2_with (at_builtin; refine wpList_append_own_wide _ rfl _ _ 26 rfl wo.heap.size 9 i0 (.string ⟨#[]⟩) 1 16 Tryz.underlying26 hi hz0 hz1 hz2 rfl (by decide) _ (N).length ((N).map Value.string) rfl HR1.out ⟨W1.heap.size, 0, none⟩ 1 1 [.string y] rfl rfl (one_cell W1 _ _) ?k1 ?k2 ?k3 ?k4 ?_)
                case k1 => first | rfl | (intro u hu; simp at hu; subst hu; rfl)
                case k2 => unfold maxLen; omega
                case k3 => exact str_lim (by omega)
                case k4 => have := HBd1.out.size; simp; omega
                intro v2 w2 hown2 hgrow2 _
                have HN2 := hid (ownS_more (w := W1) hown2)
                have HB2 : Hid (Below wo.heap.size wo w2) := (HBd1.out.alloc HBd1.out.size _).grown hgrow2 (by have := HBd1.out.size; simp; omega) (fun k hk => (hrow1.lt k hk).1)
                obtain ⟨na2, nc2, hnv2, _⟩ := own_cells hown2
                have hnv2' : v2 = .slice na2 ((N).length + 1) nc2 := hnv2
                subst hnv2'
                clear hown2 hgrow2 hrow1 HBd1 HR1 cy1 cx1
                go_wp2_with fail
                go_roundw
                case rel => exact ⟨k + 1, true, N ++ [y], by omega, ⟨hl2, fun h => by cases h⟩, rfl, by go_num, HJ2, HN2, HB2⟩
                case measure => (simp [intOf]; try omega)
              | false =>
                by_cases hyx : lt y x = true
                · have HJ2 : Hid (jn1 R x = (N ++ [y]) ++ jrem false (R.drop (k + 1)) x) := by
                    show _ = _
                    rw [HJ.out, HDR.out]
                    simp only [jrem, jn1]
                    rw [if_pos hyx]
                    simp
                  have hl2 : (N ++ [y]).length ≤ k + 1 + 1 := by simp; omega
                  have q1 : Op.bytesLess x.toList y.toList = false := lt_asym hyx
                  have q2 : (x.toList == y.toList) = false := bytes_ne (fun e => by subst e; rw [lt_irr] at hyx; cases hyx)
                  have q3 : ¬ x.toList = y.toList := by simpa using q2
                  clear HJ HDR hyx
                  go_wp2_with fail
                  go_quiet (fail)
                  have HBd1 := hid (HBr.out.trans ((below_drewN wr nq).mono HBr.out.size))
                  have hrow1 := own_below HNO.out (below_drewN wr nq)
                  generalize wr.drewN nq = W1 at HBd1 hrow1 ⊢
                  have cy1 := (HBd1.out.cell (p := ⟨br, offr + k, none⟩) hbrl).trans cr
                  have cx1 := (HBd1.out.cell (p := ⟨bm, offm + j, none⟩) hbml).trans cm
                  clear HBr HNO cy cx
                  have HR2 := hid (hrow1.alloc (.cells #[.string y] 9))
                  go_wp2_with (at_builtin; refine wpList_append_own_wide _ rfl _ _ 26 rfl wo.heap.size 9 i0 (.string ⟨#[]⟩) 1 16 Tryz.underlying26 hi hz0 hz1 hz2 rfl (by decide) _ (N).length ((N).map Value.string) rfl HR2.out ⟨W1.heap.size, 0, none⟩ 1 1 [.string y] rfl rfl (one_cell W1 _ _) ?k1 ?k2 ?k3 ?k4 ?_)
                  case k1 => first | rfl | (intro u hu; simp at hu; subst hu; rfl)
                  case k2 => unfold maxLen; omega
                  case k3 => exact str_lim (by omega)
                  case k4 => have := HBd1.out.size; simp; omega
                  intro v2 w2 hown2 hgrow2 _
                  have HN2 := hid (ownS_more (w := W1) hown2)
                  have HB2 : Hid (Below wo.heap.size wo w2) := (HBd1.out.alloc HBd1.out.size _).grown hgrow2 (by have := HBd1.out.size; simp; omega) (fun k hk => (hrow1.lt k hk).1)
                  obtain ⟨na2, nc2, hnv2, _⟩ := own_cells hown2
                  have hnv2' : v2 = .slice na2 ((N).length + 1) nc2 := hnv2
                  subst hnv2'
                  clear hown2 hgrow2 hrow1 HBd1 HR2 cy1 cx1
                  go_wp2_with fail
                  go_roundw
                  case rel => exact ⟨k + 1, false, N ++ [y], by omega, ⟨hl2, fun _ => by have := hNf (by trivial); simp; omega⟩, rfl, by go_num, HJ2, HN2, HB2⟩
                  case measure => (simp [intOf]; try omega)
                · by_cases hxy : x = y
                  · have HJ2 : Hid (jn1 R x = (N ++ [y]) ++ jrem true (R.drop (k + 1)) x) := by
                      show _ = _
                      rw [HJ.out, HDR.out]
                      simp only [jrem, jn1]
                      rw [if_neg hyx, if_pos hxy]
                      simp
                    have hl2 : (N ++ [y]).length ≤ k + 1 + 1 := by simp; omega
                    subst hxy
                    have q2 : (x.toList == x.toList) = true := by simp
                    clear HJ HDR hyx
                    go_wp2_with fail
                    go_quiet (fail)
                    have HBd1 := hid (HBr.out.trans ((below_drewN wr nq).mono HBr.out.size))
                    have hrow1 := own_below HNO.out (below_drewN wr nq)
                    generalize wr.drewN nq = W1 at HBd1 hrow1 ⊢
                    have cy1 := (HBd1.out.cell (p := ⟨br, offr + k, none⟩) hbrl).trans cr
                    have cx1 := (HBd1.out.cell (p := ⟨bm, offm + j, none⟩) hbml).trans cm
                    clear HBr HNO cy cx
                    go_wp2_with fail
                    go_quiet (fail)
                    have HNO1 := hid hrow1
                    have HBd3 := hid (HBd1.out.trans ((below_drewN W1 nq).mono HBd1.out.size))
                    have hrow3 := own_below HNO1.out (below_drewN W1 nq)
                    generalize W1.drewN nq = W3 at HBd3 hrow3 ⊢
                    have cy3 := (HBd3.out.cell (p := ⟨br, offr + k, none⟩) hbrl).trans cr
                    have cx3 := (HBd3.out.cell (p := ⟨bm, offm + j, none⟩) hbml).trans cm
                    clear HBd1 hrow1 HNO1 cy1 cx1
                    have HR3 := hid (hrow3.alloc (.cells #[.string x] 9))
                    go_wp2_with (at_builtin; refine wpList_append_own_wide _ rfl _ _ 26 rfl wo.heap.size 9 i0 (.string ⟨#[]⟩) 1 16 Tryz.underlying26 hi hz0 hz1 hz2 rfl (by decide) _ (N).length ((N).map Value.string) rfl HR3.out ⟨W3.heap.size, 0, none⟩ 1 1 [.string x] rfl rfl (one_cell W3 _ _) ?k1 ?k2 ?k3 ?k4 ?_)
                    case k1 => first | rfl | (intro u hu; simp at hu; subst hu; rfl)
                    case k2 => unfold maxLen; omega
                    case k3 => exact str_lim (by omega)
                    case k4 => have := HBd3.out.size; simp; omega
                    intro v2 w2 hown2 hgrow2 _
                    have HN2 := hid (ownS_more (w := W3) hown2)
                    have HB2 : Hid (Below wo.heap.size wo w2) := (HBd3.out.alloc HBd3.out.size _).grown hgrow2 (by have := HBd3.out.size; simp; omega) (fun k hk => (hrow3.lt k hk).1)
                    obtain ⟨na2, nc2, hnv2, _⟩ := own_cells hown2
                    have hnv2' : v2 = .slice na2 ((N).length + 1) nc2 := hnv2
                    subst hnv2'
                    clear hown2 hgrow2 hrow3 HBd3 HR3 cy3 cx3
                    go_wp2_with fail
                    go_roundw
                    case rel => exact ⟨k + 1, true, N ++ [x], by omega, ⟨hl2, fun h => by cases h⟩, rfl, by go_num, HJ2, HN2, HB2⟩
                    case measure => (simp [intOf]; try omega)
                  · have HJ2 : Hid (jn1 R x = ((N ++ [x]) ++ [y]) ++ jrem true (R.drop (k + 1)) x) := by
                      show _ = _
                      rw [HJ.out, HDR.out]
                      simp only [jrem, jn1]
                      rw [if_neg hyx, if_neg hxy]
                      simp
                    have hNk : N.length ≤ k := hNf rfl
                    have hl2 : ((N ++ [x]) ++ [y]).length ≤ k + 1 + 1 := by simp; omega
                    have q1 : Op.bytesLess x.toList y.toList = true := by
                      cases h2 : Op.bytesLess x.toList y.toList with
                      | true => rfl
                      | false => exact absurd (lt_tot h2 (by simpa using hyx)) hxy
                    have q2 : (x.toList == y.toList) = false := bytes_ne hxy
                    have q3 : ¬ x.toList = y.toList := by simpa using q2
                    clear HJ HDR hyx hxy
                    go_wp2_with fail
                    go_quiet (fail)
                    have HBd1 := hid (HBr.out.trans ((below_drewN wr nq).mono HBr.out.size))
                    have hrow1 := own_below HNO.out (below_drewN wr nq)
                    generalize wr.drewN nq = W1 at HBd1 hrow1 ⊢
                    have cy1 := (HBd1.out.cell (p := ⟨br, offr + k, none⟩) hbrl).trans cr
                    have cx1 := (HBd1.out.cell (p := ⟨bm, offm + j, none⟩) hbml).trans cm
                    clear HBr HNO cy cx
                    go_wp2_with fail
                    go_quiet (fail)
                    have HNO1 := hid hrow1
                    have HBd3 := hid (HBd1.out.trans ((below_drewN W1 nq).mono HBd1.out.size))
                    have hrow3 := own_below HNO1.out (below_drewN W1 nq)
                    generalize W1.drewN nq = W3 at HBd3 hrow3 ⊢
                    have cy3 := (HBd3.out.cell (p := ⟨br, offr + k, none⟩) hbrl).trans cr
                    have cx3 := (HBd3.out.cell (p := ⟨bm, offm + j, none⟩) hbml).trans cm
                    clear HBd1 hrow1 HNO1 cy1 cx1
                    have HR4 := hid (hrow3.alloc (.cells #[.string x] 9))
                    go_wp2_with (at_builtin; refine wpList_append_own_wide _ rfl _ _ 26 rfl wo.heap.size 9 i0 (.string ⟨#[]⟩) 1 16 Tryz.underlying26 hi hz0 hz1 hz2 rfl (by decide) _ (N).length ((N).map Value.string) rfl HR4.out ⟨W3.heap.size, 0, none⟩ 1 1 [.string x] rfl rfl (one_cell W3 _ _) ?k1 ?k2 ?k3 ?k4 ?_)
                    case k1 => first | rfl | (intro u hu; simp at hu; subst hu; rfl)
                    case k2 => unfold maxLen; omega
                    case k3 => exact str_lim (by omega)
                    case k4 => have := HBd3.out.size; simp; omega
                    intro v4 w4 hown4 hgrow4 _
                    have HN4 := hid (ownS_more (w := W3) hown4)
                    have HB4 : Hid (Below wo.heap.size wo w4) := (HBd3.out.alloc HBd3.out.size _).grown hgrow4 (by have := HBd3.out.size; simp; omega) (fun k hk => (hrow3.lt k hk).1)
                    obtain ⟨na4, nc4, hnv4, _⟩ := own_cells hown4
                    have hnv4' : v4 = .slice na4 ((N).length + 1) nc4 := hnv4
                    subst hnv4'
                    clear hown4 hgrow4 hrow3 HBd3 HR4 cy3 cx3
                    have cy4 := (HB4.out.cell (p := ⟨br, offr + k, none⟩) hbrl).trans cr
                    have hrow4 := HN4.out
                    rw [show N.length + 1 = (N ++ [x]).length by simp] at hrow4 ⊢
                    obtain ⟨N1, hN1⟩ : ∃ N1, N ++ [x] = N1 := ⟨_, rfl⟩
                    have hN1l : N1.length ≤ k + 1 := by rw [← hN1]; simp; omega
                    rw [hN1] at hrow4 HJ2 hl2 ⊢
                    clear hN1 HN4
                    have HR5 := hid (hrow4.alloc (.cells #[.string y] 9))
                    go_wp2_with (at_builtin; refine wpList_append_own_wide _ rfl _ _ 26 rfl wo.heap.size 9 i0 (.string ⟨#[]⟩) 1 16 Tryz.underlying26 hi hz0 hz1 hz2 rfl (by decide) _ (N1).length ((N1).map Value.string) rfl HR5.out ⟨w4.heap.size, 0, none⟩ 1 1 [.string y] rfl rfl (one_cell w4 _ _) ?k1 ?k2 ?k3 ?k4 ?_)
                    case k1 => first | rfl | (intro u hu; simp at hu; subst hu; rfl)
                    case k2 => unfold maxLen; omega
                    case k3 => exact str_lim (by omega)
                    case k4 => have := HB4.out.size; simp; omega
                    intro v2 w2 hown2 hgrow2 _
                    have HN2 := hid (ownS_more (w := w4) hown2)
                    have HB2 : Hid (Below wo.heap.size wo w2) := (HB4.out.alloc HB4.out.size _).grown hgrow2 (by have := HB4.out.size; simp; omega) (fun k hk => (hrow4.lt k hk).1)
                    obtain ⟨na2, nc2, hnv2, _⟩ := own_cells hown2
                    have hnv2' : v2 = .slice na2 ((N1).length + 1) nc2 := hnv2
                    subst hnv2'
                    clear hown2 hgrow2 hrow4 HB4 HR5 cy4
                    go_wp2_with fail
                    go_roundw
                    case rel => exact ⟨k + 1, true, N1 ++ [y], by omega, ⟨hl2, fun h => by cases h⟩, rfl, by go_num, HJ2, HN2, HB2⟩
                    case measure => (simp [intOf]; try omega)
            · have hkr : ¬ (k : Int) < (R.length : Int) := by omega
              have hkR : k = R.length := by omega
              have HJe := HJ.out
              rw [List.drop_eq_nil_of_le (by omega)] at HJe
              obtain ⟨nva, nvc, hnv, _⟩ := own_cells HNO.out
              have hnv2 : _ = Value.slice nva N.length nvc := hnv
              subst hnv2
              have cx := (HBr.out.cell (p := ⟨bm, offm + j, none⟩) hbml).trans cm
              cases inn with
              | true =>
                have HE : Hid (jn1 R x = N) := by show _ = _; rw [HJe]; simp [jrem]
                clear HJ HJe
                have HOF : Hid (OwnsS wr w.heap.size (.slice nva N.length nvc) N) := own_base HNO.out hbs
                have HBF : Hid (Below w.heap.size w wr) := HB.out.trans (HBr.out.mono hbs)
                clear HNO HBr
                go_wp2_with fail
                go_roundw
                case rel => exact ⟨j + 1, by omega, by go_num, (by rw [HN.out, HE.out]; exact HOF), HBF⟩
                case measure => (simp [intOf]; try omega)
              | false =>
                have HE : Hid (jn1 R x = N ++ [x]) := by show _ = _; rw [HJe]; simp [jrem, jn1]
                have hrow1 := HNO.out
                have HBd1 := hid HBr.out
                clear HJ HJe HBr HNO
                have HR6 := hid (hrow1.alloc (.cells #[.string x] 9))
                go_wp2_with (at_builtin; refine wpList_append_own_wide _ rfl _ _ 26 rfl wo.heap.size 9 i0 (.string ⟨#[]⟩) 1 16 Tryz.underlying26 hi hz0 hz1 hz2 rfl (by decide) _ (N).length ((N).map Value.string) rfl HR6.out ⟨wr.heap.size, 0, none⟩ 1 1 [.string x] rfl rfl (one_cell wr _ _) ?k1 ?k2 ?k3 ?k4 ?_)
                case k1 => first | rfl | (intro u hu; simp at hu; subst hu; rfl)
                case k2 => unfold maxLen; omega
                case k3 => exact str_lim (by omega)
                case k4 => have := HBd1.out.size; simp; omega
                intro v2 w2 hown2 hgrow2 _
                have HN2 := hid (ownS_more (w := wr) hown2)
                have HB2 : Hid (Below wo.heap.size wo w2) := (HBd1.out.alloc HBd1.out.size _).grown hgrow2 (by have := HBd1.out.size; simp; omega) (fun k hk => (hrow1.lt k hk).1)
                obtain ⟨na2, nc2, hnv2, _⟩ := own_cells hown2
                have hnv2' : v2 = .slice na2 ((N).length + 1) nc2 := hnv2
                subst hnv2'
                have HOF : Hid (OwnsS w2 w.heap.size (.slice na2 (N.length + 1) nc2) (N ++ [x])) := own_base HN2.out hbs
                have HBF : Hid (Below w.heap.size w w2) := HB.out.trans (HB2.out.mono hbs)
                clear hown2 hgrow2 hrow1 HBd1 HR6 HN2 HB2
                go_wp2_with fail
                go_roundw
                case rel => exact ⟨j + 1, by omega, by go_num, (by rw [HN.out, HE.out]; exact HOF), HBF⟩
                case measure => (simp [intOf]; try omega)
        · have hji : ¬ (j : Int) < (M.length : Int) := by omega
          have hO := HO.out
          rw [List.take_of_length_le (by omega)] at hO
          have HO1 := hid hO
          obtain ⟨oa, oc, hov, _⟩ := own_cells hO
          subst hov
          clear hO HO
          go_wp2_with fail
          go_ret
          exact ⟨_, rfl, HO1.out, HB.out⟩

/-- a state, as it lies in memory -/
def LSt (w : World) (sv : Value) (s : Stt) : Prop := ∃ oa oc va vc ha hc, sv = .agg #[.slice oa s.ops.length oc, .slice va s.vals.length vc, .int .i64 s.steps, .slice ha s.heads.length hc] ∧ LiesO w (.slice oa s.ops.length oc) s.ops ∧ LiesT w (.slice va s.vals.length vc) s.vals ∧ LiesS w (.slice ha s.heads.length hc) s.heads
theorem LSt.on {w w' : World} {sv : Value} {s : Stt} (h : LSt w sv s) (hb : Below w.heap.size w w') : LSt w' sv s := by
  obtain ⟨oa, oc, va, vc, ha, hc, e, h1, h2, h3⟩ := h
  exact ⟨oa, oc, va, vc, ha, hc, e, h1.on hb, h2.on hb, h3.on hb⟩
theorem LiesO.front {w : World} {a : Option Addr} {n c : Nat} {A : List Opr} {o : Opr} (h : LiesO w (.slice a n c) (A ++ [o])) : LiesO w (.slice a A.length c) A := by
  obtain ⟨a', c', hv, h1, h2, h3⟩ := h
  cases hv
  refine ⟨a, c, rfl, by simp at h1; omega, h2, fun i x hi => h3 i x ?_⟩
  have := (List.getElem?_eq_some_iff.1 hi).1
  rw [List.getElem?_append_left this]
  exact hi
theorem LiesT.front {w : World} {a : Option Addr} {n c k : Nat} {K : List (List Cl)} (h : LiesT w (.slice a n c) K) (hk : k ≤ K.length) : LiesT w (.slice a k c) (K.take k) := by
  obtain ⟨a', c', hv, h1, h2, h3⟩ := h
  cases hv
  have hl : (K.take k).length = k := by rw [List.length_take]; omega
  refine ⟨a, c, by rw [hl], by rw [hl]; omega, h2, fun i x hi => h3 i x ?_⟩
  have := (List.getElem?_eq_some_iff.1 hi).1
  rw [hl] at this
  rw [List.getElem?_take_of_lt this] at hi
  exact hi
/-- values of the call's own row, and one more that lies -/
theorem vals_more {w w2 : World} {B : Nat} {v v' x : Value} {K : List (List Cl)} {l : List Cl} {vs : List Value} (hrow : w.ownsRow B 23 1 v K.length vs) (hel : ∀ (i : Nat) l, K[i]? = some l → ∃ x, vs[i]? = some x ∧ x.oneCell' = true ∧ Lies w2 x l) (hx : Lies w2 x l) (hown : w2.ownsRow B 23 1 v' (K.length + 1) (vs ++ [x])) : LiesT w2 v' (K ++ [l]) := by
  have hvl := row_len hrow
  refine ValsV.lies (V := Lies w2) (B := B) ⟨vs ++ [x], by rw [List.length_append]; exact hown, fun i m hi => ?_⟩ (fun _ _ h => h)
  rcases get_app hi with ⟨h1, h2⟩ | ⟨h1, h2⟩
  · obtain ⟨y, q1, q2, q3⟩ := hel i m h2
    exact ⟨y, by rw [List.getElem?_append_left (by omega)]; exact q1, q2, q3⟩
  · obtain ⟨h3, h4⟩ := one_get h2
    subst h4
    exact ⟨x, by rw [List.getElem?_append_right (by omega), hvl, h3]; rfl, hx.one, hx⟩
/-- a state in rows of memory whose terms lie in old memory or in blocks of cells -/
def LT (B : Nat) (w : World) (sv : Value) (s : Stt) : Prop := ∃ oa oc va vc ha hc, sv = .agg #[.slice oa s.ops.length oc, .slice va s.vals.length vc, .int .i64 s.steps, .slice ha s.heads.length hc] ∧ OpsV (VL B w) w 0 (.slice oa s.ops.length oc) s.ops ∧ ValsV (VL B w) w 0 (.slice va s.vals.length vc) s.vals ∧ OwnsS w 0 (.slice ha s.heads.length hc) s.heads
theorem LT.on {B : Nat} {w w' : World} {sv : Value} {s : Stt} (h : LT B w sv s) (hb : Below w.heap.size w w') (hB : B ≤ w.heap.size) : LT B w' sv s := by
  obtain ⟨oa, oc, va, vc, ha, hc, e, h1, h2, h3⟩ := h
  exact ⟨oa, oc, va, vc, ha, hc, e, OpsV.on h1 hb (fun x l hx => hx.on (K7.of hb hB)), ValsV.on h2 hb (fun x l hx => hx.on (K7.of hb hB)), own_below h3 hb⟩
theorem LT.blk {B : Nat} {w w' : World} {sv : Value} {s : Stt} {p : Nat} {cs : Array Value} (h : LT B w sv s) (hp : Blk w p cs 28) (hg : w.grownBy w' (some p)) (hB : B ≤ p) : LT B w' sv s := by
  obtain ⟨oa, oc, va, vc, ha, hc, e, ⟨os, q0, q1, q2⟩, ⟨vs, q3, q4⟩, h3⟩ := h
  have hk : K7 B w w' := K7.grown hg (by have := hp.lt; omega) (fun k hk => by cases hk; exact ⟨hB, cs, 28, hp, by decide, by decide⟩)
  refine ⟨oa, oc, va, vc, ha, hc, e, ⟨os, q0, row_blk q1 hp (by decide) hg, fun i o hi => ?_⟩, ⟨vs, row_blk q3 hp (by decide) hg, fun i o hi => ?_⟩, row_blk h3 hp (by decide) hg⟩
  · obtain ⟨x, a1, a2, a3⟩ := q2 i o hi
    exact ⟨x, a1, a2, a3.on hk⟩
  · obtain ⟨x, a1, a2, a3⟩ := q4 i o hi
    exact ⟨x, a1, a2, a3.on hk⟩
theorem LT.lst {B : Nat} {w : World} {sv : Value} {s : Stt} (h : LT B w sv s) (hok : SttOk s) : LSt w sv s := by
  obtain ⟨oa, oc, va, vc, ha, hc, e, h1, h2, h3⟩ := h
  refine ⟨oa, oc, va, vc, ha, hc, e, OpsV.lies h1 (fun x l hx => hx.1) (fun o ho => ?_), ValsV.lies h2 (fun x l hx => hx.1), OwnsS.lies h3⟩
  obtain ⟨q1, q2, q3, q4, q5, q6⟩ := opOk.small (hok.1 o ho)
  omega
theorem OutSt.lt {B0 B : Nat} {w : World} {sv : Value} {s : Stt} (h : OutSt B0 w sv s) (hf : ∀ o ∈ s.ops, Fine o.v) (hf2 : ∀ v ∈ s.vals, Fine v) : LT B w sv s := by
  obtain ⟨ov, vv, hv, e, h1, h2, h3⟩ := h
  obtain ⟨oa, oc, e1⟩ := h1.form
  obtain ⟨va, vc, e2⟩ := h2.form
  obtain ⟨ha, hc, e3⟩ := OwnsS.form h3
  subst e1 e2 e3
  obtain ⟨os, q0, q1, q2⟩ := h1
  obtain ⟨vs, q3, q4⟩ := h2
  refine ⟨oa, oc, va, vc, ha, hc, e, ⟨os, q0, own_base q1 (Nat.zero_le _), fun i o hi => ?_⟩, ⟨vs, own_base q3 (Nat.zero_le _), fun i o hi => ?_⟩, own_base h3 (Nat.zero_le _)⟩
  · obtain ⟨x, a1, a2, a3⟩ := q2 i o hi
    exact ⟨x, a1, a2, VL.own a3 (hf o (List.mem_of_getElem? hi))⟩
  · obtain ⟨x, a1, a2, a3⟩ := q4 i o hi
    exact ⟨x, a1, a2, VL.own a3 (hf2 o (List.mem_of_getElem? hi))⟩
theorem OpsV.front {V : Value → List Cl → Prop} {w : World} {B : Nat} {a : Option Addr} {c : Nat} {A : List Opr} {o : Opr} (h : OpsV V w B (.slice a (A.length + 1) c) (A ++ [o])) : OpsV V w B (.slice a A.length c) A := by
  obtain ⟨os, h0, h1, h2⟩ := h
  rw [List.length_append] at h0 h1
  simp only [List.length_cons, List.length_nil, Nat.zero_add] at h0 h1
  refine ⟨os.take A.length, by rw [List.length_take]; omega, ?_, fun i o' hi => ?_⟩
  · have := own_take h1 (Nat.le_succ A.length)
    rw [flatO_take] at this
    exact this
  · have hil := (List.getElem?_eq_some_iff.1 hi).1
    obtain ⟨x, q1, q2, q3⟩ := h2 i o' (by rw [List.getElem?_append_left hil]; exact hi)
    exact ⟨x, by rw [List.getElem?_take_of_lt hil]; exact q1, q2, q3⟩
/-- the value of an op is what its cell holds -/
theorem OpsV.cell {V : Value → List Cl → Prop} {w : World} {B : Nat} {g off n c : Nat} {ops : List Opr} {i : Nat} {o : Opr} {x : Value} (h : OpsV V w B (.slice (some ⟨g, off, none⟩) n c) ops) (hi : ops[i]? = some o) (hx : w.cell? ⟨g, off + i * 4 + 3, none⟩ = some x) : V x o.v := by
  obtain ⟨os, h0, h1, h2⟩ := h
  obtain ⟨y, q1, q2, q3⟩ := h2 i o hi
  obtain ⟨a, cap, hv, c1, c2, c3⟩ := own_cells h1
  obtain ⟨_, _, _, f3⟩ := flatO_at os i _ q1
  obtain ⟨g', ha, _, _, hc⟩ := c3 _ _ f3
  simp only [Value.slice.injEq] at hv
  obtain ⟨e1, _, _⟩ := hv
  rw [ha] at e1
  simp only [Option.some.injEq, Addr.mk.injEq, and_true] at e1
  obtain ⟨e2, e3⟩ := e1
  subst e2 e3
  rw [Nat.zero_add, hc] at hx
  cases hx
  exact q3
/-- what One answers -/
def OneOut (B : Nat) (w' : World) (e : Ending) (sv : Value) (f : Int) : Out → Prop
  | .go c => ∃ sv', e = .returned (.tuple #[sv', .int .i64 c.fuel, .int .i64 0]) ∧ LT B w' sv' c.stt
  | .stop k => e = .returned (.tuple #[sv, .int .i64 f, .int .i64 (k : Nat)])

set_option maxHeartbeats 2000000 in
theorem copyAllW_any (w : World) (kv : Value) (K : List (List Cl)) (hK : LiesT w kv K) (hk : K.length + 1 ≤ 7539508500002) (hl : ∀ l ∈ K, l.length * 24 ≤ 140737488355328) :
    Calls Tryz.prog 43 #[kv] w fun e w' => ∃ v', e = .returned v' ∧ OwnsT w' w.heap.size v' K ∧ Below w.heap.size w w' := by
  obtain ⟨i0, hi, hz0, hz1, hz2⟩ := info_parts info23
  have HK : Hid (LiesT w kv K) := hK
  have HLL : Hid (∀ l ∈ K, l.length * 24 ≤ 140737488355328) := hl
  obtain ⟨ka, kc, rfl, hk1, hk2, _⟩ := hK
  clear hl
  go_enter Tryz.func43, Tryz.ntmps43
  go_wp2_with fail
  go_loopw [3, 7] (fun mv i wr => ∃ j : Nat, j ≤ K.length ∧ OwnsT wr w.heap.size mv (K.take j) ∧ Below w.heap.size w wr ∧ i = .int .i64 (j : Nat)) (fun _ i _ => K.length - (intOf i).toNat)
  case atStart => exact ⟨0, Nat.zero_le _, OwnsT.nil _ _, Below.refl _ _, rfl⟩
  case round =>
    obtain ⟨j, hj, hO, hbr, rfl⟩ := hrel
    have hbs := hbr.size
    obtain ⟨vs, hrow, hel⟩ := hO
    obtain ⟨ma, mc, hmv, _⟩ := own_cells hrow
    subst hmv
    by_cases hlt : j < K.length
    · obtain ⟨l, hl⟩ : ∃ l, K[j]? = some l := ⟨K[j], List.getElem?_eq_getElem hlt⟩
      obtain ⟨b, off, x, ha, hbl, hcx, hlx⟩ : ∃ b off x, ka = some ⟨b, off, none⟩ ∧ b < wr.heap.size ∧ wr.cell? ⟨b, off + j, none⟩ = some x ∧ Lies wr x l := by
        obtain ⟨a', cap', hv', _, _, HC'⟩ := HK.out.on hbr
        cases hv'
        exact HC' j _ hl
      subst ha
      have hji : (j : Int) < (K.length : Int) := by omega
      have hcp := copy_any wr x l hlx (HLL.out l (List.mem_of_getElem? hl))
      obtain ⟨xa, xc, rfl, _⟩ := hlx
      have HT2 : Hid (K.take (j + 1) = K.take j ++ [l]) := by show _ = _; rw [List.take_add_one, hl]; rfl
      have htl : (K.take j).length = j := by rw [List.length_take]; omega
      have HEL : Hid (∀ (i : Nat) m, (K.take j)[i]? = some m → ∃ x, vs[i]? = some x ∧ Owns wr w.heap.size x m) := hel
      obtain ⟨D, hD⟩ : ∃ D, K.take j = D := ⟨_, rfl⟩
      rw [hD] at HEL hrow htl HT2 ⊢
      have hdl : D.length + 1 ≤ K.length := by omega
      clear hel hl hD htl
      go_wp2_with (first | (go_at_call 11; refine hcp.mono ?_; rintro e w3 ⟨x3, rfl, hx3, hb3⟩; obtain ⟨ya, yc, hyv, _⟩ := own_cells hx3; subst hyv; have hrow3 := own_below hrow hb3; have hx4 : Owns w3 w.heap.size (.slice ya l.length yc) l := own_base hx3 hbs; have HBR3 := hbr.trans (hb3.mono hbs); have HEL3 : Hid (∀ (i : Nat) m, D[i]? = some m → ∃ x, vs[i]? = some x ∧ Owns w3 w.heap.size x m) := (fun i m hi => by { obtain ⟨x, h1, h2⟩ := HEL.out i m hi; exact ⟨x, h1, own_below h2 hb3⟩ }); have hs3 := HBR3.size) | (at_builtin; refine wpList_append_own_wide _ rfl _ _ 25 rfl w.heap.size 23 i0 (.slice none 0 0) 1 24 Tryz.underlying25 hi hz0 hz1 hz2 rfl (by decide) _ D.length vs rfl (hrow3.alloc _) ⟨w3.heap.size, 0, none⟩ 1 1 [.slice ya l.length yc] rfl rfl ?c1 ?c2 ?c3 ?c4 ?c5 ?_))
      case c1 => exact one_cell w3 _ _
      case c2 => intro u hu; simp at hu; subst hu; rfl
      case c3 => unfold maxLen; omega
      case c4 => exact val_lim (by omega)
      case c5 => simp; omega
      intro v' w4 hown' hgrow _
      have hOT := more_term hrow3 HEL3.out hx4 hown' hgrow
      have hb4 : Below w.heap.size w w4 := (HBR3.alloc hs3 _).grown hgrow (by simp; omega) (fun k hk => (hrow3.lt k hk).1)
      clear hown' hgrow hrow3 hx4 hx3 hb3 HEL3 HEL hrow HBR3 hbr
      go_wp2_with fail
      go_roundw
      case rel => exact ⟨j + 1, by omega, by rw [HT2.out]; exact hOT, hb4, by go_num⟩
      case measure => simp [intOf]; omega
    · obtain rfl : j = K.length := by omega
      have hfin : OwnsT wr w.heap.size (.slice ma (K.take K.length).length mc) (K.take K.length) := ⟨vs, hrow, hel⟩
      rw [List.take_length] at hfin
      have HFIN : Hid (OwnsT wr w.heap.size (.slice ma K.length mc) K) := hfin
      clear hfin hrow hel
      rw [List.take_length]
      go_wp2_with fail
      go_ret
      exact ⟨.slice ma K.length mc, rfl, HFIN.out, hbr⟩


set_option maxHeartbeats 8000000 in
theorem rone_have (B : Nat) (w : World) (hB0 : B ≤ w.heap.size) (rv mv : Value) (A : List Opr) (onm : ByteArray) (oar : Int) (ovv : List Cl) (V : List (List Cl)) (n : Int) (S : List ByteArray) (f : Int) (oa : Option Addr) (oc : Nat) (va : Option Addr) (vc : Nat) (ha : Option Addr) (hc : Nat) (ho : LiesO w (.slice oa (A.length + 1) oc) (A ++ [⟨2, ⟨onm, oar⟩, ovv⟩])) (ht : LiesT w (.slice va V.length vc) V) (hs : LiesS w (.slice ha S.length hc) S)
    (lv : V.length + 1 ≤ 7539508500002) (zv : ∀ l ∈ V, grd l = true) (hlo : OpsV (VL B w) w 0 (.slice oa (A.length + 1) oc) (A ++ [⟨2, ⟨onm, oar⟩, ovv⟩])) (hls : OwnsS w 0 (.slice ha S.length hc) S) :
    Calls Tryz.prog 82 #[rv, .agg #[.slice oa (A.length + 1) oc, .slice va V.length vc, .int .i64 n, .slice ha S.length hc], .int .i64 f, mv] w fun e w' => (∃ sv', e = .returned (.tuple #[sv', .int .i64 f, .int .i64 0]) ∧ LT B w' sv' ⟨A, V ++ [ovv], n, S⟩) ∧ Below w.heap.size w w' := by
  obtain ⟨i1, hi1, hy0, hy1, hy2⟩ := info_parts info23
  have hcz : ∀ l ∈ V, l.length * 24 ≤ 140737488355328 := fun l hl => by have := (grd_small (zv l hl)).1; omega
  have hca : ∀ w1, Below w.heap.size w w1 → _ := fun w1 hb => copyAllW_any w1 _ V (ht.on hb) lv hcz
  have HZV := hid zv
  have HLO := hid hlo
  have HLS := hid hls
  have LV := hid (val_lim lv)
  have HO := hid ho
  have HT := hid ht
  have HS := hid hs
  obtain ⟨g, off, x, hoa, hgl, c0, c1, c2, c3, hlx⟩ := ho.at (i := A.length) (o := ⟨2, ⟨onm, oar⟩, ovv⟩) (by rw [List.getElem?_append_right (Nat.le_refl _)]; simp)
  subst hoa
  simp only at c0 c1 c2 c3 hlx
  obtain ⟨xa, xc, rfl, _⟩ := id hlx
  have hcap : A.length + 1 ≤ oc ∧ oc ≤ 9223372036854775807 := by
    obtain ⟨_, _, e, h1, h2, _⟩ := ho
    simp only [Value.slice.injEq] at e
    obtain ⟨_, _, e3⟩ := e
    unfold maxLen at h2
    simp at h1
    omega
  have hB1 : Below w.heap.size w (((w.alloc (.cells #[.slice (some ⟨g, off, none⟩) (A.length + 1) oc, .slice va V.length vc, .int .i64 n, .slice ha S.length hc] 28)).alloc (.cells #[.slice none 0 0, .slice none 0 0, .int .i64 0, .slice none 0 0] 28)).alloc (.cells #[.int .i64 2, .string onm, .int .i64 oar, .slice xa ovv.length xc] 71)) := (((Below.refl _ w).alloc (Nat.le_refl _) _).alloc (by simp) _).alloc (by simp; omega) _
  have hX1 : Blk (((w.alloc (.cells #[.slice (some ⟨g, off, none⟩) (A.length + 1) oc, .slice va V.length vc, .int .i64 n, .slice ha S.length hc] 28)).alloc (.cells #[.slice none 0 0, .slice none 0 0, .int .i64 0, .slice none 0 0] 28)).alloc (.cells #[.int .i64 2, .string onm, .int .i64 oar, .slice xa ovv.length xc] 71)) w.heap.size #[.slice (some ⟨g, off, none⟩) (A.length + 1) oc, .slice va V.length vc, .int .i64 n, .slice ha S.length hc] 28 := ((Blk.made w _ 28).alloc _).alloc _
  have hY1 : Blk (((w.alloc (.cells #[.slice (some ⟨g, off, none⟩) (A.length + 1) oc, .slice va V.length vc, .int .i64 n, .slice ha S.length hc] 28)).alloc (.cells #[.slice none 0 0, .slice none 0 0, .int .i64 0, .slice none 0 0] 28)).alloc (.cells #[.int .i64 2, .string onm, .int .i64 oar, .slice xa ovv.length xc] 71)) (w.heap.size + 1) #[.slice none 0 0, .slice none 0 0, .int .i64 0, .slice none 0 0] 28 := (Blk.madeAt _ _ _ (by simp)).alloc _
  have hQ1 : Blk (((w.alloc (.cells #[.slice (some ⟨g, off, none⟩) (A.length + 1) oc, .slice va V.length vc, .int .i64 n, .slice ha S.length hc] 28)).alloc (.cells #[.slice none 0 0, .slice none 0 0, .int .i64 0, .slice none 0 0] 28)).alloc (.cells #[.int .i64 2, .string onm, .int .i64 oar, .slice xa ovv.length xc] 71)) (w.heap.size + 1 + 1) #[.int .i64 2, .string onm, .int .i64 oar, .slice xa ovv.length xc] 71 := Blk.madeAt _ _ _ (by simp)
  have HB1 := hid hB1
  have HX1 := hid hX1
  have HY1 := hid hY1
  have HQ1 := hid hQ1
  have e1 : ((A.length + 1 : Nat) : Int) - 1 = (A.length : Int) := by omega
  have e2 : (A.length : Int) + 1 - 1 = (A.length : Int) := by omega
  have hlx1 := hid hlx
  have HVX := hid (HLO.out.cell (i := A.length) (o := ⟨2, ⟨onm, oar⟩, ovv⟩) (by rw [List.getElem?_append_right (Nat.le_refl _)]; simp) c3)
  clear ho ht hs hlx zv hlo hls
  go_enter Tryz.func82, Tryz.ntmps82
  go_upto_region 4 with fail
  generalize (((w.alloc (.cells #[.slice (some ⟨g, off, none⟩) (A.length + 1) oc, .slice va V.length vc, .int .i64 n, .slice ha S.length hc] 28)).alloc (.cells #[.slice none 0 0, .slice none 0 0, .int .i64 0, .slice none 0 0] 28)).alloc (.cells #[.int .i64 2, .string onm, .int .i64 oar, .slice xa ovv.length xc] 71)) = W1 at HB1 HX1 HY1 HQ1 ⊢
  have hB : Below w.heap.size w W1.drew := HB1.out.drew
  have hX : Blk W1.drew w.heap.size #[.slice (some ⟨g, off, none⟩) (A.length + 1) oc, .slice va V.length vc, .int .i64 n, .slice ha S.length hc] 28 := HX1.out
  have hY : Blk W1.drew (w.heap.size + 1) #[.slice none 0 0, .slice none 0 0, .int .i64 0, .slice none 0 0] 28 := HY1.out
  have hQ : Blk W1.drew (w.heap.size + 1 + 1) #[.int .i64 2, .string onm, .int .i64 oar, .slice xa ovv.length xc] 71 := HQ1.out
  have hq1 := hQ.lt
  have HC0 := (show (W1.drew.cell? ⟨w.heap.size, 1, none⟩ = some (.slice va V.length vc) ∧ W1.drew.cell? ⟨w.heap.size, 2, none⟩ = some (.int .i64 n) ∧ W1.drew.cell? ⟨w.heap.size, 3, none⟩ = some (.slice ha S.length hc) ∧ W1.drew.cell? ⟨w.heap.size + 1 + 1, 3, none⟩ = some (.slice xa ovv.length xc)) from ⟨hX.cell rfl, hX.cell rfl, hX.cell rfl, hQ.cell rfl⟩)
  refine wp_region_m (fun w' => (w'.cell? ⟨w.heap.size, 1, none⟩ = some (.slice va V.length vc) ∧ w'.cell? ⟨w.heap.size, 2, none⟩ = some (.int .i64 n) ∧ w'.cell? ⟨w.heap.size, 3, none⟩ = some (.slice ha S.length hc) ∧ w'.cell? ⟨w.heap.size + 1 + 1, 3, none⟩ = some (.slice xa ovv.length xc))) 13 (by kernel_rfl) ?_
  refine wpAnyM_late (i := 13) (some 53) (v := ?vz1) rfl rfl (by kernel_rfl) (by kernel_rfl) (by kernel_rfl) (by kernel_rfl) (fun _ _ _ h => h) (Or.inl ⟨by rfl, ?hz1⟩) ?rz1
  case hz1 => intro w hSw; go_simp; try with_reducible rfl
  try simp only [Act.put, List.setIfInBounds_toArray, List.set_cons_zero, List.set_cons_succ]
  refine wpAnyM_pick (i := 0) (some 40) (v := ?vz2) rfl rfl (by kernel_rfl) (by kernel_rfl) (by kernel_rfl) (by kernel_rfl) (fun _ _ _ h => h) (Or.inl ⟨by rfl, ?hz2⟩) HC0 ?rz2
  case hz2 => intro w hSw; go_simp; try with_reducible rfl
  try simp only [Act.put, List.setIfInBounds_toArray, List.set_cons_zero, List.set_cons_succ]
  refine wpAnyM_pick (i := 1) (some 41) (v := ?vz3) rfl rfl (by kernel_rfl) (by kernel_rfl) (by kernel_rfl) (by kernel_rfl) (fun _ _ _ h => h) (Or.inl ⟨by rfl, ?hz3⟩) HC0 ?rz3
  case hz3 => intro w hSw; go_simp; try with_reducible rfl
  try simp only [Act.put, List.setIfInBounds_toArray, List.set_cons_zero, List.set_cons_succ]
  refine wpAnyM_pick (i := 2) (some 42) (v := ?vz4) rfl rfl (by kernel_rfl) (by kernel_rfl) (by kernel_rfl) (by kernel_rfl) (fun _ _ _ h => h) (Or.inl ⟨by rfl, ?hz4⟩) HC0 ?rz4
  case hz4 => intro w hSw; go_simp; try with_reducible rfl
  try simp only [Act.put, List.setIfInBounds_toArray, List.set_cons_zero, List.set_cons_succ]
  refine wpAnyM_pick (i := 4) (some 44) (v := ?vz5) rfl rfl (by kernel_rfl) (by kernel_rfl) (by kernel_rfl) (by kernel_rfl) (fun _ _ _ h => h) (Or.inl ⟨by rfl, ?hz5⟩) HC0 ?rz5
  case hz5 => intro w hSw; go_simp; try with_reducible rfl
  try simp only [Act.put, List.setIfInBounds_toArray, List.set_cons_zero, List.set_cons_succ]
  refine wpAnyM_pick (i := 5) (some 45) (v := ?vz6) rfl rfl (by kernel_rfl) (by kernel_rfl) (by kernel_rfl) (by kernel_rfl) (fun _ _ _ h => h) (Or.inl ⟨by rfl, ?hz6⟩) HC0 ?rz6
  case hz6 => intro w hSw; go_simp; try with_reducible rfl
  try simp only [Act.put, List.setIfInBounds_toArray, List.set_cons_zero, List.set_cons_succ]
  refine wpAnyM_pick (i := 8) (some 48) (v := ?vz7) rfl rfl (by kernel_rfl) (by kernel_rfl) (by kernel_rfl) (by kernel_rfl) (fun _ _ _ h => h) (Or.inl ⟨by rfl, ?hz7⟩) HC0 ?rz7
  case hz7 => intro w hSw; go_simp; try with_reducible rfl
  try simp only [Act.put, List.setIfInBounds_toArray, List.set_cons_zero, List.set_cons_succ]
  refine wpAnyM_pick (i := 9) (some 49) (v := ?vz8) rfl rfl (by kernel_rfl) (by kernel_rfl) (by kernel_rfl) (by kernel_rfl) (fun _ _ _ h => h) (Or.inl ⟨by rfl, ?hz8⟩) HC0 ?rz8
  case hz8 => intro w hSw; go_simp; try with_reducible rfl
  try simp only [Act.put, List.setIfInBounds_toArray, List.set_cons_zero, List.set_cons_succ]
  refine wpAnyM_pick (i := 10) (some 50) (v := ?vz9) rfl rfl (by kernel_rfl) (by kernel_rfl) (by kernel_rfl) (by kernel_rfl) (fun _ _ _ h => h) (Or.inl ⟨by rfl, ?hz9⟩) HC0 ?rz9
  case hz9 => intro w hSw; go_simp; try with_reducible rfl
  try simp only [Act.put, List.setIfInBounds_toArray, List.set_cons_zero, List.set_cons_succ]
  refine wpAnyM_pick (i := 11) (some 51) (v := ?vz10) rfl rfl (by kernel_rfl) (by kernel_rfl) (by kernel_rfl) (by kernel_rfl) (fun _ _ _ h => h) (Or.inl ⟨by rfl, ?hz10⟩) HC0 ?rz10
  case hz10 => intro w hSw; go_simp; try with_reducible rfl
  try simp only [Act.put, List.setIfInBounds_toArray, List.set_cons_zero, List.set_cons_succ]
  refine wpAnyM_two (i := 3) (j := 6) (by kernel_rfl) rfl rfl (fun K hK => ?_) (fun K hK => ?_)
  · go_simp
    go_at_call 43
    refine (hca _ hB).mono ?_
    rintro e w2 ⟨b, rfl, hO2, hb2⟩
    have hX2 := hX.on hb2 hX.lt
    have hY2 := hY.on hb2 hY.lt
    have hQ2 := hQ.on hb2 hQ.lt
    have hB2 := hB.trans (hb2.mono hB.size)
    have hO2' := hO2.base hB.size
    obtain ⟨vs, hrow, hel⟩ := hO2'
    obtain ⟨ba, bc, hbv, _⟩ := own_cells hrow
    subst hbv
    clear hO2
    go_wp2_with fail
    refine hK.out _ _ (fun _ => ⟨hX2.cell rfl, hX2.cell rfl, hX2.cell rfl, hQ2.cell rfl⟩) ?_
    clear hK K
    try simp only [Act.put, List.setIfInBounds_toArray, List.set_cons_zero, List.set_cons_succ]
    have hb3 := bel_al w2 (.cells #[.slice xa ovv.length xc] 23)
    have hX3 := hX2.on hb3 hX2.lt
    have hY3 := hY2.on hb3 hY2.lt
    have hQ3 := hQ2.on hb3 hQ2.lt
    have hB3 := hB2.trans (hb3.mono hB2.size)
    refine wpAnyM_one (i := 6) (by kernel_rfl) rfl (fun K hK => ?_)
    go_simp
    refine hK.out _ _ (fun _ => ⟨hX3.cell rfl, hX3.cell rfl, hX3.cell rfl, hQ3.cell rfl⟩) ?_
    clear hK K
    try simp only [Act.put, List.setIfInBounds_toArray, List.set_cons_zero, List.set_cons_succ]
    refine wpAnyM_one (i := 7) (by kernel_rfl) rfl (fun K hK => ?_)
    simp only [List.getElem_toArray, List.getElem_cons_succ, List.getElem_cons_zero]
    rw [if_pos (by rfl)]
    refine wp_append_own_wide _ (.tmp 43) (.tmp 46) 25 rfl w.heap.size 23 i1 (.slice none 0 0) 1 24 Tryz.underlying25 hi1 hy0 hy1 hy2 rfl (by decide) (.slice ba V.length bc) V.length vs rfl (hrow.alloc _) ⟨w2.heap.size, 0, none⟩ 1 1 [.slice xa ovv.length xc] rfl rfl (one_cell w2 _ _) ?e1 ?e2 ?e3 ?e4 ?_
    case e1 => intro u hu; simp at hu; subst hu; rfl
    case e2 => unfold maxLen; omega
    case e3 => exact LV.out
    case e4 => exact hB3.size
    intro v' w4 hown' hgrow _
    have hX4 := blk_row hX3 (hrow.alloc _) (by decide) hgrow
    have hY4 := blk_row hY3 (hrow.alloc _) (by decide) hgrow
    have hQ4 := blk_row hQ3 (hrow.alloc _) (by decide) hgrow
    have hB4 := hB3.grown hgrow hB3.size (fun k hk => (hrow.lt k hk).1)
    have HTF : Hid (∀ {w5 : World}, w4.grownBy w5 (some (w.heap.size + 1)) → ValsV (VL B w5) w5 0 v' (V ++ [ovv])) := fun {w5} hg => by
      have hB5 : Below w.heap.size w w5 := hB4.grown hg hB4.size (fun k hk => by cases hk; omega)
      have hK5 : K7 B w w5 := K7.of hB5 hB0
      refine ValsV.more (V := fun x l => VL B w5 x l) (ns := [.slice xa ovv.length xc]) (N := [ovv]) (row_len hrow) (fun i l hi => ?_) (fun i l hi => ?_) (own_base (row_blk hown' hY4 (by decide) hg) (Nat.zero_le _)) (fun _ _ h => h)
      · obtain ⟨x, q1, q2⟩ := hel i l hi
        obtain ⟨xa', xc', hxv, _⟩ := own_cells q2
        exact ⟨x, q1, by rw [hxv]; rfl, VL.own (row_blk (own_apart7 (World.ownsRow.alloc q2 _) (hrow.alloc _) (by decide) hgrow) hY4 (by decide) hg) (fine_check (grd_iff.1 (HZV.out l (List.mem_of_getElem? hi))).1)⟩
      · obtain ⟨rfl, rfl⟩ := one_get hi
        exact ⟨_, rfl, rfl, HVX.out.on hK5⟩
    obtain ⟨ka, kc, hkv, _⟩ := own_cells hown'
    have hkv2 : v' = .slice ka (V.length + 1) kc := hkv
    subst hkv2
    refine hK.out _ _ (fun _ => ⟨hX4.cell rfl, hX4.cell rfl, hX4.cell rfl, hQ4.cell rfl⟩) ?_
    clear hK K
    try simp only [Act.put, List.setIfInBounds_toArray, List.set_cons_zero, List.set_cons_succ]
    refine wpAnyM_pick (i := 12) (some 52) (v := ?vz11) rfl rfl (by kernel_rfl) (by kernel_rfl) (by kernel_rfl) (by kernel_rfl) (fun _ _ _ h => h) (Or.inl ⟨by rfl, ?hz11⟩) ⟨hX4.cell rfl, hX4.cell rfl, hX4.cell rfl, hQ4.cell rfl⟩ ?rz11
    case hz11 => intro w hSw; go_simp; try with_reducible rfl
    try simp only [Act.put, List.setIfInBounds_toArray, List.set_cons_zero, List.set_cons_succ]
    have a0 := hY4.cell (i := 0) rfl
    have z0 := hY4.free 0
    have m1 := hY4.set 0 (.slice (some ⟨g, off, none⟩) A.length oc)
    have a1 := m1.cell (i := 1) rfl
    have z1 := m1.free 1
    have m2 := m1.set 1 (.slice ka (V.length + 1) kc)
    have a2 := m2.cell (i := 2) rfl
    have z2 := m2.free 2
    have m3 := m2.set 2 (.int .i64 n)
    have a3 := m3.cell (i := 3) rfl
    have z3 := m3.free 3
    obtain ⟨hD, hg⟩ := set4 hY4 (.slice (some ⟨g, off, none⟩) A.length oc) (.slice ka (V.length + 1) kc) (.int .i64 n) (.slice ha S.length hc)
    have e0 := hD.cell (i := 0) rfl
    have e1' := hD.cell (i := 1) rfl
    have e2' := hD.cell (i := 2) rfl
    have e3 := hD.cell (i := 3) rfl
    have HBF : Hid (Below w.heap.size w ((((w4.setCell ⟨w.heap.size + 1, 0, none⟩ (.slice (some ⟨g, off, none⟩) A.length oc)).setCell ⟨w.heap.size + 1, 1, none⟩ (.slice ka (V.length + 1) kc)).setCell ⟨w.heap.size + 1, 2, none⟩ (.int .i64 n)).setCell ⟨w.heap.size + 1, 3, none⟩ (.slice ha S.length hc))) := hB4.grown hg hB4.size (fun k hk => by cases hk; omega)
    have HTF2 : Hid (ValsV (VL B ((((w4.setCell ⟨w.heap.size + 1, 0, none⟩ (.slice (some ⟨g, off, none⟩) A.length oc)).setCell ⟨w.heap.size + 1, 1, none⟩ (.slice ka (V.length + 1) kc)).setCell ⟨w.heap.size + 1, 2, none⟩ (.int .i64 n)).setCell ⟨w.heap.size + 1, 3, none⟩ (.slice ha S.length hc))) ((((w4.setCell ⟨w.heap.size + 1, 0, none⟩ (.slice (some ⟨g, off, none⟩) A.length oc)).setCell ⟨w.heap.size + 1, 1, none⟩ (.slice ka (V.length + 1) kc)).setCell ⟨w.heap.size + 1, 2, none⟩ (.int .i64 n)).setCell ⟨w.heap.size + 1, 3, none⟩ (.slice ha S.length hc)) 0 (.slice ka (V.length + 1) kc) (V ++ [ovv])) := HTF.out hg
    refine wpAnyM_one (i := 14) (by kernel_rfl) rfl (fun K hK => ?_)
    go_simp
    refine hK.out _ _ (fun h => absurd h (by decide)) ?_
    clear hK K
    refine wpAnyM_one (i := 15) (by kernel_rfl) rfl (fun K hK => ?_)
    go_simp
    refine hK.out _ _ (fun h => absurd h (by decide)) ?_
    clear hK K
    refine wpAnyM_one (i := 16) (by kernel_rfl) rfl (fun K hK => ?_)
    go_simp
    refine hK.out _ _ (fun h => absurd h (by decide)) ?_
    clear hK K
    refine wpAnyM_done (by kernel_rfl) ?_ _
    try simp only [Act.put, List.setIfInBounds_toArray, List.set_cons_zero, List.set_cons_succ]
    go_wp2_with fail
    try simp only [Exit.inBlock, Exit.then]
    exact bodyPost_ret (v := .tuple #[.agg #[.slice (some ⟨g, off, none⟩) A.length oc, .slice ka (V.length + 1) kc, .int .i64 n, .slice ha S.length hc], .int .i64 f, .int .i64 0]) (by simp [results, Tryz.results82, go_sem, e0, e1', e2', e3]) rfl ⟨⟨_, rfl, ⟨_, _, _, _, _, _, by rw [List.length_append]; rfl, OpsV.on HLO.out.front HBF.out (fun x l hx => hx.on (K7.of HBF.out hB0)), by rw [List.length_append]; exact HTF2.out, own_below HLS.out HBF.out⟩⟩, HBF.out⟩
  · have hb2 := bel_al W1.drew (.cells #[.slice xa ovv.length xc] 23)
    have hX2 := hX.on hb2 hX.lt
    have hY2 := hY.on hb2 hY.lt
    have hQ2 := hQ.on hb2 hQ.lt
    have hB2 := hB.trans (hb2.mono hB.size)
    have hC2 := one_cell W1.drew (.slice xa ovv.length xc) 23
    go_simp
    refine hK.out _ _ (fun _ => ⟨hX2.cell rfl, hX2.cell rfl, hX2.cell rfl, hQ2.cell rfl⟩) ?_
    clear hK K
    try simp only [Act.put, List.setIfInBounds_toArray, List.set_cons_zero, List.set_cons_succ]
    refine wpAnyM_one (i := 3) (by kernel_rfl) rfl (fun K hK => ?_)
    go_simp
    go_at_call 43
    refine (hca _ hB2).mono ?_
    rintro e w3 ⟨b, rfl, hO3, hb3⟩
    have hX3 := hX2.on hb3 hX2.lt
    have hY3 := hY2.on hb3 hY2.lt
    have hQ3 := hQ2.on hb3 hQ2.lt
    have hB3 := hB2.trans (hb3.mono hB2.size)
    have hO3' := hO3.base hB2.size
    obtain ⟨vs, hrow, hel⟩ := hO3'
    obtain ⟨ba, bc, hbv, _⟩ := own_cells hrow
    subst hbv
    have hC3 : ∀ j x, [Value.slice xa ovv.length xc][j]? = some x → w3.cell? ((⟨W1.heap.size, 0, none⟩ : Addr).add j) = some x := fun j x hj => by
      obtain ⟨rfl, rfl⟩ := one_get hj
      exact (hb3.cell (p := ⟨W1.heap.size, 0, none⟩) (by simp)).trans (hC2 0 _ rfl)
    clear hO3
    go_wp2_with fail
    refine hK.out _ _ (fun _ => ⟨hX3.cell rfl, hX3.cell rfl, hX3.cell rfl, hQ3.cell rfl⟩) ?_
    clear hK K
    try simp only [Act.put, List.setIfInBounds_toArray, List.set_cons_zero, List.set_cons_succ]
    refine wpAnyM_one (i := 7) (by kernel_rfl) rfl (fun K hK => ?_)
    simp only [List.getElem_toArray, List.getElem_cons_succ, List.getElem_cons_zero]
    rw [if_pos (by rfl)]
    refine wp_append_own_wide _ (.tmp 43) (.tmp 46) 25 rfl w.heap.size 23 i1 (.slice none 0 0) 1 24 Tryz.underlying25 hi1 hy0 hy1 hy2 rfl (by decide) (.slice ba V.length bc) V.length vs rfl hrow ⟨W1.heap.size, 0, none⟩ 1 1 [.slice xa ovv.length xc] rfl rfl hC3 ?e1 ?e2 ?e3 ?e4 ?_
    case e1 => intro u hu; simp at hu; subst hu; rfl
    case e2 => unfold maxLen; omega
    case e3 => exact LV.out
    case e4 => exact hB3.size
    intro v' w4 hown' hgrow _
    have hX4 := blk_row hX3 hrow (by decide) hgrow
    have hY4 := blk_row hY3 hrow (by decide) hgrow
    have hQ4 := blk_row hQ3 hrow (by decide) hgrow
    have hB4 := hB3.grown hgrow hB3.size (fun k hk => (hrow.lt k hk).1)
    have HTF : Hid (∀ {w5 : World}, w4.grownBy w5 (some (w.heap.size + 1)) → ValsV (VL B w5) w5 0 v' (V ++ [ovv])) := fun {w5} hg => by
      have hB5 : Below w.heap.size w w5 := hB4.grown hg hB4.size (fun k hk => by cases hk; omega)
      have hK5 : K7 B w w5 := K7.of hB5 hB0
      refine ValsV.more (V := fun x l => VL B w5 x l) (ns := [.slice xa ovv.length xc]) (N := [ovv]) (row_len hrow) (fun i l hi => ?_) (fun i l hi => ?_) (own_base (row_blk hown' hY4 (by decide) hg) (Nat.zero_le _)) (fun _ _ h => h)
      · obtain ⟨x, q1, q2⟩ := hel i l hi
        obtain ⟨xa', xc', hxv, _⟩ := own_cells q2
        exact ⟨x, q1, by rw [hxv]; rfl, VL.own (row_blk (own_apart7 q2 hrow (by decide) hgrow) hY4 (by decide) hg) (fine_check (grd_iff.1 (HZV.out l (List.mem_of_getElem? hi))).1)⟩
      · obtain ⟨rfl, rfl⟩ := one_get hi
        exact ⟨_, rfl, rfl, HVX.out.on hK5⟩
    obtain ⟨ka, kc, hkv, _⟩ := own_cells hown'
    have hkv2 : v' = .slice ka (V.length + 1) kc := hkv
    subst hkv2
    refine hK.out _ _ (fun _ => ⟨hX4.cell rfl, hX4.cell rfl, hX4.cell rfl, hQ4.cell rfl⟩) ?_
    clear hK K
    try simp only [Act.put, List.setIfInBounds_toArray, List.set_cons_zero, List.set_cons_succ]
    refine wpAnyM_pick (i := 12) (some 52) (v := ?vz12) rfl rfl (by kernel_rfl) (by kernel_rfl) (by kernel_rfl) (by kernel_rfl) (fun _ _ _ h => h) (Or.inl ⟨by rfl, ?hz12⟩) ⟨hX4.cell rfl, hX4.cell rfl, hX4.cell rfl, hQ4.cell rfl⟩ ?rz12
    case hz12 => intro w hSw; go_simp; try with_reducible rfl
    try simp only [Act.put, List.setIfInBounds_toArray, List.set_cons_zero, List.set_cons_succ]
    have a0 := hY4.cell (i := 0) rfl
    have z0 := hY4.free 0
    have m1 := hY4.set 0 (.slice (some ⟨g, off, none⟩) A.length oc)
    have a1 := m1.cell (i := 1) rfl
    have z1 := m1.free 1
    have m2 := m1.set 1 (.slice ka (V.length + 1) kc)
    have a2 := m2.cell (i := 2) rfl
    have z2 := m2.free 2
    have m3 := m2.set 2 (.int .i64 n)
    have a3 := m3.cell (i := 3) rfl
    have z3 := m3.free 3
    obtain ⟨hD, hg⟩ := set4 hY4 (.slice (some ⟨g, off, none⟩) A.length oc) (.slice ka (V.length + 1) kc) (.int .i64 n) (.slice ha S.length hc)
    have e0 := hD.cell (i := 0) rfl
    have e1' := hD.cell (i := 1) rfl
    have e2' := hD.cell (i := 2) rfl
    have e3 := hD.cell (i := 3) rfl
    have HBF : Hid (Below w.heap.size w ((((w4.setCell ⟨w.heap.size + 1, 0, none⟩ (.slice (some ⟨g, off, none⟩) A.length oc)).setCell ⟨w.heap.size + 1, 1, none⟩ (.slice ka (V.length + 1) kc)).setCell ⟨w.heap.size + 1, 2, none⟩ (.int .i64 n)).setCell ⟨w.heap.size + 1, 3, none⟩ (.slice ha S.length hc))) := hB4.grown hg hB4.size (fun k hk => by cases hk; omega)
    have HTF2 : Hid (ValsV (VL B ((((w4.setCell ⟨w.heap.size + 1, 0, none⟩ (.slice (some ⟨g, off, none⟩) A.length oc)).setCell ⟨w.heap.size + 1, 1, none⟩ (.slice ka (V.length + 1) kc)).setCell ⟨w.heap.size + 1, 2, none⟩ (.int .i64 n)).setCell ⟨w.heap.size + 1, 3, none⟩ (.slice ha S.length hc))) ((((w4.setCell ⟨w.heap.size + 1, 0, none⟩ (.slice (some ⟨g, off, none⟩) A.length oc)).setCell ⟨w.heap.size + 1, 1, none⟩ (.slice ka (V.length + 1) kc)).setCell ⟨w.heap.size + 1, 2, none⟩ (.int .i64 n)).setCell ⟨w.heap.size + 1, 3, none⟩ (.slice ha S.length hc)) 0 (.slice ka (V.length + 1) kc) (V ++ [ovv])) := HTF.out hg
    refine wpAnyM_one (i := 14) (by kernel_rfl) rfl (fun K hK => ?_)
    go_simp
    refine hK.out _ _ (fun h => absurd h (by decide)) ?_
    clear hK K
    refine wpAnyM_one (i := 15) (by kernel_rfl) rfl (fun K hK => ?_)
    go_simp
    refine hK.out _ _ (fun h => absurd h (by decide)) ?_
    clear hK K
    refine wpAnyM_one (i := 16) (by kernel_rfl) rfl (fun K hK => ?_)
    go_simp
    refine hK.out _ _ (fun h => absurd h (by decide)) ?_
    clear hK K
    refine wpAnyM_done (by kernel_rfl) ?_ _
    try simp only [Act.put, List.setIfInBounds_toArray, List.set_cons_zero, List.set_cons_succ]
    go_wp2_with fail
    try simp only [Exit.inBlock, Exit.then]
    exact bodyPost_ret (v := .tuple #[.agg #[.slice (some ⟨g, off, none⟩) A.length oc, .slice ka (V.length + 1) kc, .int .i64 n, .slice ha S.length hc], .int .i64 f, .int .i64 0]) (by simp [results, Tryz.results82, go_sem, e0, e1', e2', e3]) rfl ⟨⟨_, rfl, ⟨_, _, _, _, _, _, by rw [List.length_append]; rfl, OpsV.on HLO.out.front HBF.out (fun x l hx => hx.on (K7.of HBF.out hB0)), by rw [List.length_append]; exact HTF2.out, own_below HLS.out HBF.out⟩⟩, HBF.out⟩

end Go.Proofs.YtgijdhnkkbenoaaGreat
