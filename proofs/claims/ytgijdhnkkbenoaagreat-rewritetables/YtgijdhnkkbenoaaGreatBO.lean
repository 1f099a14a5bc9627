/-
  Run's contract without a bound on the heads; and copies of rules.
-/
import Derived.Test.YtgijdhnkkbenoaaGreatBM
import Derived.Deep.LoopGhost
namespace Go.Proofs.YtgijdhnkkbenoaaGreat
open Go.RowKit
set_option linter.unusedVariables false
set_option linter.unusedSimpArgs false
set_option maxRecDepth 100000

/-- One's contract at a table -/
def OneAt (B : Nat) (w : World) (rv mv : Value) (rs : List Rl) (tb : Tb) : Prop := ∀ (w1 : World) (sv : Value) (o : Opr) (r : List Opr) (V : List (List Cl)) (n : Int) (S : List ByteArray) (f : Int), Below w.heap.size w w1 → Rt ⟨o :: r, V, n, S, f⟩ → (-9223372036854775808 ≤ f ∧ f ≤ 9223372036854775807) → (-9223372036854775808 ≤ n ∧ n ≤ 9223372036854775807) → LT B w1 sv (Cf.stt ⟨o :: r, V, n, S, f⟩) →
  Calls Tryz.prog 82 #[rv, sv, .int .i64 f, mv] w1 fun e w' => OneOut B w' e sv f (one rs tb o ⟨r, V, n, S, f⟩) ∧ Below w1.heap.size w1 w'
theorem noTb_eq : tbM [] = noTb := rfl
theorem oneAt_nil (B : Nat) (w : World) (hBw : B ≤ w.heap.size) (rv : Value) (rs : List Rl) (hr : LiesR w rv rs) (hok : RsOk rs) : OneAt B w rv (.slice none 0 0) rs noTb := by
  intro w1 sv o r V n S f hb hrt hfu hst hl
  have hB1 : B ≤ w1.heap.size := Nat.le_trans hBw hb.size
  obtain ⟨oa, oc, va, vc, ha, hc, e, i1, i2, i3⟩ := hl
  have hsok : SttOk (Cf.stt ⟨o :: r, V, n, S, f⟩) := ⟨fun o' ho' => hrt.ops o' (List.mem_reverse.1 ho'), hrt.vals⟩
  have h1 := OpsV.lies i1 (fun x l hx => hx.1) (fun o' ho' => by
    obtain ⟨q1, q2, q3, q4, q5, q6⟩ := opOk.small (hsok.1 o' ho')
    omega)
  have h2 := ValsV.lies i2 (fun x l hx => hx.1)
  have h3 := OwnsS.lies i3
  have hops : (Cf.stt ⟨o :: r, V, n, S, f⟩).ops = r.reverse ++ [o] := by simp [Cf.stt]
  have hol : (r.reverse ++ [o]).length = r.reverse.length + 1 := by simp
  rw [hops] at e h1 i1
  rw [hol] at e h1 i1
  subst e
  obtain ⟨g1, g2, g3, g4, g5⟩ := hrt
  simp only at g1 g2 g3 g4 g5
  obtain ⟨n1, _⟩ := cnt_ar g3
  have hvl := cnt_le _ _ g1 g3
  simp only [List.length_cons] at g5 hvl
  have hop := g1 o (by simp)
  obtain ⟨k, ⟨onm, oar⟩, ovv⟩ := o
  rcases hop with ⟨hk, hkd, h0, h4, hv⟩ | ⟨hk, hg, hcz⟩
  · simp only at hk hkd h0 h4 hv n1
    subst hk hv
    exact rone_make B w1 hB1 rv (.slice none 0 0) rs (hr.on hb) hok [] (LiesM.nil w1) (fun x hx => by cases hx) (by rw [noTb_eq]; exact noTb_ok) r.reverse onm oar V n S f oa oc va vc ha hc h1 h2 h3 hkd h0 h4 n1 g4 g2 (by omega) (by rw [List.length_reverse]; omega) hfu hst i1 i3 rfl _ (by rw [List.reverse_reverse, noTb_eq])
  · simp only at hk
    subst hk
    have hone : one rs noTb ⟨2, ⟨onm, oar⟩, ovv⟩ ⟨r, V, n, S, f⟩ = .go ⟨r, V ++ [ovv], n, S, f⟩ := by unfold one; rw [if_pos rfl]
    rw [hone]
    refine (rone_have B w1 hB1 rv (.slice none 0 0) r.reverse onm oar ovv V n S f oa oc va vc ha hc h1 h2 h3 (by omega) g2 i1 i3).mono ?_
    rintro e w' ⟨⟨sv', rfl, hl⟩, hb'⟩
    exact ⟨⟨sv', rfl, hl⟩, hb'⟩
theorem four {w : World} {k : Nat} {a b c d : Value} {t : TypeId} (h : Blk w k #[a, b, c, d] t) : w.cell? ⟨k, 0, none⟩ = some a ∧ w.cell? ⟨k, 1, none⟩ = some b ∧ w.cell? ⟨k, 2, none⟩ = some c ∧ w.cell? ⟨k, 3, none⟩ = some d := ⟨h.cell rfl, h.cell rfl, h.cell rfl, h.cell rfl⟩
theorem trio_form {w : World} {ov vv hv : Value} {s : Stt} (h : StA w ov vv hv s) : ∃ oa oc va vc ha hc, ov = .slice oa s.ops.length oc ∧ vv = .slice va s.vals.length vc ∧ hv = .slice ha s.heads.length hc := by
  obtain ⟨oa, oc, e1, _⟩ := h.lo
  obtain ⟨va, vc, e2, _⟩ := h.lv
  obtain ⟨ha, hc, e3, _⟩ := h.lh
  exact ⟨oa, oc, va, vc, ha, hc, e1, e2, e3⟩

set_option maxHeartbeats 8000000 in
theorem rgo_any (B : Nat) (w : World) (hBw : B ≤ w.heap.size) (rv mv : Value) (rs : List Rl) (tb : Tb) (hok : RsOk rs) (htb : TbOk tb) (hone : OneAt B w rv mv rs tb) (c : Cf) (hrt : Rt c) (hfu : -9223372036854775808 ≤ c.fuel ∧ c.fuel ≤ 9223372036854775807) (hst : -9223372036854775808 ≤ c.steps ∧ c.steps ≤ 9223372036854775807) (sv : Value) (hs : LT B w sv c.stt) (hrv : ∃ a n k, rv = .slice a n k) (hmv : ∃ a n k, mv = .slice a n k) :
    Calls Tryz.prog 49 #[rv, sv, .int .i64 c.fuel, mv] w fun e w' => ∃ sv', e = .returned (.tuple #[sv', .int .i64 ((fin rs tb c).2 : Nat)]) ∧ LT B w' sv' (fin rs tb c).1.stt ∧ Below w.heap.size w w' := by
  obtain ⟨ra, rn, rc, rfl⟩ := hrv
  obtain ⟨ma, mn, mc, rfl⟩ := hmv
  have HONE := hid hone
  have HRT := hid hrt
  have HFU := hid hfu
  have HST := hid hst
  have HOK := hid hok
  have HTB := hid htb
  obtain ⟨oa, oc, va, vc, ha, hc, e, _⟩ := id hs
  subst e
  have HB0 : Hid (Below w.heap.size w ((w.alloc (.cells #[.slice oa c.stt.ops.length oc, .slice va c.stt.vals.length vc, .int .i64 c.stt.steps, .slice ha c.stt.heads.length hc] 28)).alloc (.cells #[.slice none 0 0, .slice none 0 0, .int .i64 0, .slice none 0 0] 28))) := ((Below.refl _ w).alloc (Nat.le_refl _) _).alloc (by simp) _
  have HX : Hid (Blk ((w.alloc (.cells #[.slice oa c.stt.ops.length oc, .slice va c.stt.vals.length vc, .int .i64 c.stt.steps, .slice ha c.stt.heads.length hc] 28)).alloc (.cells #[.slice none 0 0, .slice none 0 0, .int .i64 0, .slice none 0 0] 28)) w.heap.size #[.slice oa c.stt.ops.length oc, .slice va c.stt.vals.length vc, .int .i64 c.stt.steps, .slice ha c.stt.heads.length hc] 28) := (Blk.made w _ 28).alloc _
  have HR : Hid (Blk ((w.alloc (.cells #[.slice oa c.stt.ops.length oc, .slice va c.stt.vals.length vc, .int .i64 c.stt.steps, .slice ha c.stt.heads.length hc] 28)).alloc (.cells #[.slice none 0 0, .slice none 0 0, .int .i64 0, .slice none 0 0] 28)) (w.heap.size + 1) #[.slice none 0 0, .slice none 0 0, .int .i64 0, .slice none 0 0] 28) := Blk.madeAt _ _ _ (by simp)
  have HL0 := hid (hs.on HB0.out hBw)
  clear hrt hok htb hone hs hfu hst
  obtain ⟨F, hF⟩ : ∃ F, fin rs tb c = F := ⟨_, rfl⟩
  have HF : Hid (fin rs tb c = F) := hF
  rw [hF]
  clear hF
  go_enter Tryz.func49, Tryz.ntmps49
  go_wp2_with fail
  generalize ((w.alloc (.cells #[.slice oa c.stt.ops.length oc, .slice va c.stt.vals.length vc, .int .i64 c.stt.steps, .slice ha c.stt.heads.length hc] 28)).alloc (.cells #[.slice none 0 0, .slice none 0 0, .int .i64 0, .slice none 0 0] 28)) = W0 at HB0 HX HR HL0 ⊢
  go_loopg [2] (mu c) (fun gk f wr => ∃ (d : Cf) (oa : Option Addr) (oc : Nat) (va : Option Addr) (vc : Nat) (ha : Option Addr) (hc : Nat), mu d ≤ gk ∧ f = .int .i64 d.fuel ∧ Hid (Rt d) ∧ Hid (-9223372036854775808 ≤ d.fuel ∧ d.fuel ≤ 9223372036854775807) ∧ Hid (-9223372036854775808 ≤ d.steps ∧ d.steps ≤ 9223372036854775807) ∧ Hid (fin rs tb d = F) ∧ Hid (LT B wr (.agg #[.slice oa d.stt.ops.length oc, .slice va d.stt.vals.length vc, .int .i64 d.stt.steps, .slice ha d.stt.heads.length hc]) d.stt) ∧ Hid (Blk wr w.heap.size #[.slice oa d.stt.ops.length oc, .slice va d.stt.vals.length vc, .int .i64 d.stt.steps, .slice ha d.stt.heads.length hc] 28) ∧ Hid (Blk wr (w.heap.size + 1) #[.slice none 0 0, .slice none 0 0, .int .i64 0, .slice none 0 0] 28) ∧ Hid (Below w.heap.size w wr))
  case atStart => exact ⟨c, oa, oc, va, vc, ha, hc, Nat.le_refl _, rfl, HRT, HFU, HST, HF, HL0, HX, HR, HB0⟩
  case round =>
    clear HRT HFU HST HF HL0 HX HR HB0
    obtain ⟨⟨stk, V, n, S, f⟩, oa, oc, va, vc, ha, hc, hmu, rfl, HRT, HFU, HST, HF, HL, HX, HR, HB⟩ := hrel
    cases stk with
    | nil =>
      have hX : Blk wr w.heap.size #[.slice oa 0 oc, .slice va V.length vc, .int .i64 n, .slice ha S.length hc] 28 := HX.out
      have hL : LT B wr (.agg #[.slice oa 0 oc, .slice va V.length vc, .int .i64 n, .slice ha S.length hc]) ⟨[], V, n, S⟩ := HL.out
      have HFE : Hid (F = (⟨[], V, n, S, f⟩, 0)) := by show _ = _; rw [← HF.out]; exact fin_nil rs tb
      have x0 := hX.cell (i := 0) rfl
      have x1 := hX.cell (i := 1) rfl
      have x2 := hX.cell (i := 2) rfl
      have x3 := hX.cell (i := 3) rfl
      have a0 := HR.out.cell (i := 0) rfl
      have z0 := HR.out.free 0
      have m1 := HR.out.set 0 (.slice oa 0 oc)
      have a1 := m1.cell (i := 1) rfl
      have z1 := m1.free 1
      have m2 := m1.set 1 (.slice va V.length vc)
      have a2 := m2.cell (i := 2) rfl
      have z2 := m2.free 2
      have m3 := m2.set 2 (.int .i64 n)
      have a3 := m3.cell (i := 3) rfl
      have z3 := m3.free 3
      obtain ⟨hD, hg⟩ := set4 HR.out (.slice oa 0 oc) (.slice va V.length vc) (.int .i64 n) (.slice ha S.length hc)
      have e0 := hD.cell (i := 0) rfl
      have e1 := hD.cell (i := 1) rfl
      have e2 := hD.cell (i := 2) rfl
      have e3 := hD.cell (i := 3) rfl
      have HBF := hid (HB.out.grown hg HB.out.size (fun k hk => by cases hk; omega))
      have HLF := hid (hL.blk HR.out hg (by omega))
      clear HF hX hL
      go_wp2_with fail
      try simp only [Exit.inBlock, Exit.then]
      exact bodyPost_ret (v := .tuple #[.agg #[.slice oa 0 oc, .slice va V.length vc, .int .i64 n, .slice ha S.length hc], .int .i64 0]) (by simp [results, Tryz.results49, go_sem, e0, e1, e2, e3]) rfl ⟨_, by rw [HFE.out]; rfl, by rw [HFE.out]; exact HLF.out, HBF.out⟩
    | cons o r =>
      have hl : (Cf.stt ⟨o :: r, V, n, S, f⟩).ops.length = r.length + 1 := by simp [Cf.stt]
      have hX : Blk wr w.heap.size #[.slice oa (r.length + 1) oc, .slice va V.length vc, .int .i64 n, .slice ha S.length hc] 28 := by have := HX.out; rw [hl] at this; exact this
      have hL : LT B wr (.agg #[.slice oa (r.length + 1) oc, .slice va V.length vc, .int .i64 n, .slice ha S.length hc]) (Cf.stt ⟨o :: r, V, n, S, f⟩) := by have := HL.out; rw [hl] at this; exact this
      have hcall := HONE.out wr _ o r V n S f HB.out HRT.out HFU.out HST.out hL
      have x0 := hX.cell (i := 0) rfl
      have x1 := hX.cell (i := 1) rfl
      have x2 := hX.cell (i := 2) rfl
      have x3 := hX.cell (i := 3) rfl
      have HX1 := hid hX
      have HL1 := hid hL
      have hpos : (0 : Int) < (r.length : Int) + 1 := by omega
      have hws := HX1.out.lt
      clear hX hL hl HX HL
      cases hO : one rs tb o ⟨r, V, n, S, f⟩ with
      | stop k =>
        rw [hO] at hcall
        have HFE : Hid (F = (⟨o :: r, V, n, S, f⟩, k)) := by show _ = _; rw [← HF.out]; exact fin_stop hO
        have hk0 := one_stop hO
        have hk1 : ¬ (k : Int) = 0 := by omega
        have hk2 : ((k : Int) == 0) = false := by simp only [beq_eq_false_iff_ne]; omega
        clear HF hO hk0
        go_wp2_with (go_at_call 82; refine hcall.mono ?_; clear hcall; rintro e w2 ⟨hout, hb2⟩; unfold OneOut at hout; subst hout; have A3 := bel_al w2 (.cells #[.slice oa (r.length + 1) oc, .slice va V.length vc, .int .i64 n, .slice ha S.length hc] 28); have B3 := hb2.trans (A3.mono hb2.size); have hX3 := HX1.out.on B3 HX1.out.lt; have hR3 := HR.out.on B3 HR.out.lt; have hB3 := HB.out.trans (B3.mono HB.out.size); have hL3 := HL1.out.on B3 (Nat.le_trans hBw HB.out.size); have y0 := hX3.cell (i := 0) rfl; have y1 := hX3.cell (i := 1) rfl; have y2 := hX3.cell (i := 2) rfl; have y3 := hX3.cell (i := 3) rfl; have a0 := hR3.cell (i := 0) rfl; have z0 := hR3.free 0; have m1 := hR3.set 0 (.slice oa (r.length + 1) oc); have a1 := m1.cell (i := 1) rfl; have z1 := m1.free 1; have m2 := m1.set 1 (.slice va V.length vc); have a2 := m2.cell (i := 2) rfl; have z2 := m2.free 2; have m3 := m2.set 2 (.int .i64 n); have a3 := m3.cell (i := 3) rfl; have z3 := m3.free 3; obtain ⟨hD, hg⟩ := set4 hR3 (.slice oa (r.length + 1) oc) (.slice va V.length vc) (.int .i64 n) (.slice ha S.length hc))
        have e0 := hD.cell (i := 0) rfl
        have e1 := hD.cell (i := 1) rfl
        have e2 := hD.cell (i := 2) rfl
        have e3 := hD.cell (i := 3) rfl
        have HBF := hid (hB3.grown hg hB3.size (fun k hk => by cases hk; omega))
        have HLF := hid (hL3.blk hR3 hg (by omega))
        try simp only [Exit.inBlock, Exit.then]
        exact bodyPost_ret (v := .tuple #[.agg #[.slice oa (r.length + 1) oc, .slice va V.length vc, .int .i64 n, .slice ha S.length hc], .int .i64 (k : Nat)]) (by simp [results, Tryz.results49, go_sem, e0, e1, e2, e3]) rfl ⟨_, by rw [HFE.out], by rw [HFE.out]; exact HLF.out, HBF.out⟩
      | go d =>
        rw [hO] at hcall
        obtain ⟨q1, q2, q3⟩ := fin_go HOK.out HTB.out HRT.out hO
        have HFD : Hid (fin rs tb d = F) := by show _ = _; rw [← q1]; exact HF.out
        obtain ⟨l1, l2⟩ := one_lim hO HST.out HFU.out
        have HL1' := hid l1
        have HL2' := hid l2
        have HRD := hid q2
        clear HF hO q1 q2 l1 l2
        go_wp2_with (go_at_call 82; refine hcall.mono ?_; clear hcall; rintro e w2 ⟨⟨sv2, rfl, hL2⟩, hb2⟩; obtain ⟨pa, pc, qa, qc, ta, tc, hsv, _⟩ := id hL2; subst hsv; have A3 := bel_al w2 (.cells #[.slice pa d.stt.ops.length pc, .slice qa d.stt.vals.length qc, .int .i64 d.stt.steps, .slice ta d.stt.heads.length tc] 28); have B3 := hb2.trans (A3.mono hb2.size); have hX3 := HX1.out.on B3 HX1.out.lt; have hR3 := HR.out.on B3 HR.out.lt; have hB3 := HB.out.trans (B3.mono HB.out.size); have hL3 := hL2.on A3 (Nat.le_trans hBw (Nat.le_trans HB.out.size hb2.size)); have hP3 := Blk.made w2 #[.slice pa d.stt.ops.length pc, .slice qa d.stt.vals.length qc, .int .i64 d.stt.steps, .slice ta d.stt.heads.length tc] 28; have y0 := hP3.cell (i := 0) rfl; have y1 := hP3.cell (i := 1) rfl; have y2 := hP3.cell (i := 2) rfl; have y3 := hP3.cell (i := 3) rfl; have a0 := hX3.cell (i := 0) rfl; have z0 := hX3.free 0; have m1 := hX3.set 0 (.slice pa d.stt.ops.length pc); have a1 := m1.cell (i := 1) rfl; have z1 := m1.free 1; have m2 := m1.set 1 (.slice qa d.stt.vals.length qc); have a2 := m2.cell (i := 2) rfl; have z2 := m2.free 2; have m3 := m2.set 2 (.int .i64 d.stt.steps); have a3 := m3.cell (i := 3) rfl; have z3 := m3.free 3; obtain ⟨hD, hg⟩ := set4 hX3 (.slice pa d.stt.ops.length pc) (.slice qa d.stt.vals.length qc) (.int .i64 d.stt.steps) (.slice ta d.stt.heads.length tc))
        have HBF := hid (hB3.grown hg hB3.size (fun k hk => by cases hk; omega))
        have HLF := hid (hL3.blk hX3 hg hBw)
        have HXF := hid hD
        have HRF := hid ((hg.block _ hR3.lt (by simp)).trans hR3)
        clear hD hg hX3 hR3 hB3 hL3 hP3
        go_roundg (mu d)
        case measure => omega
        case rel => exact ⟨d, pa, pc, qa, qc, ta, tc, Nat.le_refl _, rfl, HRD, HL2', HL1', HFD, HLF, HXF, HRF, HBF⟩

theorem lt_none (B : Nat) (w : World) : LT B w (.agg #[.slice none 0 0, .slice none 0 0, .int .i64 0, .slice none 0 0]) noStt := ⟨none, 0, none, 0, none, 0, rfl, ⟨[], rfl, World.ownsRow_nil _ _ _ _, fun i o h => by simp [noStt] at h⟩, ⟨[], World.ownsRow_nil _ _ _ _, fun i o h => by simp [noStt] at h⟩, World.ownsRow_nil _ _ _ _⟩

set_option maxHeartbeats 8000000 in
theorem rrun_any (w : World) (rv mv : Value) (rs : List Rl) (hr : LiesR w rv rs) (tb : Tb) (htb : TbOk tb) (hmv : ∃ a n k, mv = .slice a n k) (hone : RsOk rs → ∀ w1, Below w.heap.size w w1 → OneAt w.heap.size w1 rv mv rs tb) (ov vv hv : Value) (s : Stt) (hA : StA w ov vv hv s) (fu : Int) (hfu : -9223372036854775808 ≤ fu ∧ fu ≤ 9223372036854775807) (hlim : s.ops.length + 8 * fu.toNat ≤ 2513169500000) :
    Calls Tryz.prog 20 #[rv, .agg #[ov, vv, .int .i64 s.steps, hv], .int .i64 fu, mv] w fun e w' => ∃ sv', e = .returned (.tuple #[sv', .int .i64 ((runP rs tb s fu).2 : Nat)]) ∧ LT w.heap.size w' sv' (runP rs tb s fu).1 ∧ Below w.heap.size w w' := by
  obtain ⟨oa, oc, va, vc, ha, hc, rfl, rfl, rfl⟩ := trio_form hA
  have hto := fun w1 (hb : Below w.heap.size w w1) => together_any w1 rv rs (hr.on hb)
  have hrg := fun w1 (hb : Below w.heap.size w w1) => rright_any w1 _ _ _ s.steps s.ops s.vals s.heads (hA.on hb).lies
  have hco := fun w1 (hb : Below w.heap.size w w1) => rcopy_in w1 _ _ _ s (hA.on hb)
  have HRR : Hid (∀ w1, Below w.heap.size w w1 → ∃ a n k, rv = .slice a n k) := fun _ _ => by obtain ⟨a, k, e, _⟩ := hr; exact ⟨_, _, _, e⟩
  obtain ⟨ra, rc, hrv, _⟩ := id hr
  subst hrv
  have HB0 : Hid (Below w.heap.size w ((w.alloc (.cells #[.slice oa s.ops.length oc, .slice va s.vals.length vc, .int .i64 s.steps, .slice ha s.heads.length hc] 28)).alloc (.cells #[.slice none 0 0, .slice none 0 0, .int .i64 0, .slice none 0 0] 28))) := ((Below.refl _ w).alloc (Nat.le_refl _) _).alloc (by simp) _
  have HX : Hid (Blk ((w.alloc (.cells #[.slice oa s.ops.length oc, .slice va s.vals.length vc, .int .i64 s.steps, .slice ha s.heads.length hc] 28)).alloc (.cells #[.slice none 0 0, .slice none 0 0, .int .i64 0, .slice none 0 0] 28)) w.heap.size #[.slice oa s.ops.length oc, .slice va s.vals.length vc, .int .i64 s.steps, .slice ha s.heads.length hc] 28) := (Blk.made w _ 28).alloc _
  have HR : Hid (Blk ((w.alloc (.cells #[.slice oa s.ops.length oc, .slice va s.vals.length vc, .int .i64 s.steps, .slice ha s.heads.length hc] 28)).alloc (.cells #[.slice none 0 0, .slice none 0 0, .int .i64 0, .slice none 0 0] 28)) (w.heap.size + 1) #[.slice none 0 0, .slice none 0 0, .int .i64 0, .slice none 0 0] 28) := Blk.madeAt _ _ _ (by simp)
  have HA := hid hA
  have HONE := hid hone
  have HTB := hid htb
  have HMV := hid hmv
  have HE : Hid (runP rs tb s fu = if chkRs rs = 0 then (if stR s.steps s.ops s.vals s.heads = true then ((fin rs tb (s.cf fu)).1.stt, (fin rs tb (s.cf fu)).2) else (noStt, 3)) else (noStt, chkRs rs)) := rfl
  generalize runP rs tb s fu = F at HE ⊢
  have HZ : Hid (chkRs rs = 0 → RsOk rs) := fun h => RsOk.of h
  generalize chkRs rs = E at hto HE HZ
  obtain ⟨ma, mn, mc, rfl⟩ := hmv
  clear hr hA hone htb
  by_cases hE : E = 0
  · subst hE
    have HOK := hid (HZ.out rfl)
    cases hs : stR s.steps s.ops s.vals s.heads with
    | false =>
      rw [hs] at hrg
      have HF : Hid (F = (noStt, 3)) := by show _ = _; rw [HE.out, if_pos rfl, hs]; rfl
      clear HE HZ hs HONE
      go_enter Tryz.func20, Tryz.ntmps20
      go_wp2_with (first | (go_at_call 23; refine (hto _ HB0.out).mono ?_; clear hto; rintro e w1 ⟨rfl, hb1⟩; have HB1 := hid (HB0.out.trans (hb1.mono HB0.out.size)); have hX1 := HX.out.on hb1 HX.out.lt; have hR1 := HR.out.on hb1 HR.out.lt; obtain ⟨x0, x1, x2, x3⟩ := four hX1; clear hb1) | (go_at_call 16; refine (hrg _ HB1.out).mono ?_; clear hrg; rintro e w2 ⟨rfl, hb2⟩; have hB2 := HB1.out.trans (hb2.mono HB1.out.size); have hR2 := hR1.on hb2 hR1.lt; have a0 := hR2.cell (i := 0) rfl; have z0 := hR2.free 0; have m1 := hR2.set 0 (.slice none 0 0); have a1 := m1.cell (i := 1) rfl; have z1 := m1.free 1; have m2 := m1.set 1 (.slice none 0 0); have a2 := m2.cell (i := 2) rfl; have z2 := m2.free 2; have m3 := m2.set 2 (.int .i64 0); have a3 := m3.cell (i := 3) rfl; have z3 := m3.free 3; obtain ⟨hD, hg⟩ := set4 hR2 (.slice none 0 0) (.slice none 0 0) (.int .i64 0) (.slice none 0 0); have e0 := hD.cell (i := 0) rfl; have e1 := hD.cell (i := 1) rfl; have e2 := hD.cell (i := 2) rfl; have e3 := hD.cell (i := 3) rfl))
      try simp only [Exit.inBlock, Exit.then]
      exact bodyPost_ret (v := .tuple #[.agg #[.slice none 0 0, .slice none 0 0, .int .i64 0, .slice none 0 0], .int .i64 3]) (by simp [results, Tryz.results20, go_sem, e0, e1, e2, e3]) rfl ⟨_, by rw [HF.out]; rfl, by rw [HF.out]; exact lt_none _ _, hB2.grown hg hB2.size (fun k hk => by cases hk; omega)⟩
    | true =>
      rw [hs] at hrg
      have HF : Hid (F = ((fin rs tb (s.cf fu)).1.stt, (fin rs tb (s.cf fu)).2)) := by show _ = _; rw [HE.out, if_pos rfl, hs]; rfl
      have HRT := hid (rt_of (fu := fu) hs hlim)
      have hwst := HA.out.st
      clear HE HZ hs
      go_enter Tryz.func20, Tryz.ntmps20
      go_wp2_with (first | (go_at_call 23; refine (hto _ HB0.out).mono ?_; clear hto; rintro e w1 ⟨rfl, hb1⟩; have HB1 := hid (HB0.out.trans (hb1.mono HB0.out.size)); have HX1 := hid (HX.out.on hb1 HX.out.lt); have HR1 := hid (HR.out.on hb1 HR.out.lt); obtain ⟨x0, x1, x2, x3⟩ := four HX1.out; clear hb1) | (go_at_call 16; refine (hrg _ HB1.out).mono ?_; clear hrg; rintro e w2 ⟨rfl, hb2⟩; have HB2 := hid (HB1.out.trans (hb2.mono HB1.out.size)); have HX2 := hid (HX1.out.on hb2 HX1.out.lt); have HR2 := hid (HR1.out.on hb2 HR1.out.lt); clear x0 x1 x2 x3; obtain ⟨x0, x1, x2, x3⟩ := four HX2.out; clear hb2 HX1 HR1 HB1) | (go_at_call 15; refine (hco _ HB2.out).mono ?_; clear hco; rintro e w3 ⟨sv3, rfl, ho3, hb3⟩; have HB3 := hid (HB2.out.trans (hb3.mono HB2.out.size)); have HR3 := hid (HR2.out.on hb3 HR2.out.lt); have hlt3 : LT w.heap.size w3 sv3 s := ho3.lt (fun o ho => (HA.out.lo.facts o ho).1) (fun v hv => HA.out.lv.fine v hv); have hgo := rgo_any w.heap.size w3 HB3.out.size _ _ rs tb HOK.out HTB.out (HONE.out HOK.out w3 HB3.out) (s.cf fu) HRT.out hfu hwst sv3 (by simpa [Stt.cf, Cf.stt] using hlt3) ⟨_, _, _, rfl⟩ ⟨_, _, _, rfl⟩; rw [show (fin rs tb (s.cf fu)).1.stt = F.1 by rw [HF.out], show (fin rs tb (s.cf fu)).2 = F.2 by rw [HF.out]] at hgo; obtain ⟨c1, c2, c3, c4, c5, c6, hsv3, _⟩ := hlt3; subst hsv3; clear ho3 hb3 HX2 HR2 HB2 x0 x1 x2 x3) | (go_at_call 49; refine hgo.mono ?_; clear hgo; rintro e w4 ⟨sv4, rfl, hl4, hb4⟩; have hB4 := HB3.out.trans (hb4.mono HB3.out.size); have hR4 := HR3.out.on hb4 HR3.out.lt; have hl4' := hl4; obtain ⟨pa, pc, qa, qc, ta, tc, hsv4, _⟩ := id hl4'; subst hsv4; have a0 := hR4.cell (i := 0) rfl; have z0 := hR4.free 0; have m1 := hR4.set 0 (.slice pa F.1.ops.length pc); have a1 := m1.cell (i := 1) rfl; have z1 := m1.free 1; have m2 := m1.set 1 (.slice qa F.1.vals.length qc); have a2 := m2.cell (i := 2) rfl; have z2 := m2.free 2; have m3 := m2.set 2 (.int .i64 F.1.steps); have a3 := m3.cell (i := 3) rfl; have z3 := m3.free 3; obtain ⟨hD, hg⟩ := set4 hR4 (.slice pa F.1.ops.length pc) (.slice qa F.1.vals.length qc) (.int .i64 F.1.steps) (.slice ta F.1.heads.length tc); have e0 := hD.cell (i := 0) rfl; have e1 := hD.cell (i := 1) rfl; have e2 := hD.cell (i := 2) rfl; have e3 := hD.cell (i := 3) rfl))
      have HLF := hl4'.blk hR4 hg (by omega)
      try simp only [Exit.inBlock, Exit.then]
      exact bodyPost_ret (v := .tuple #[.agg #[.slice pa F.1.ops.length pc, .slice qa F.1.vals.length qc, .int .i64 F.1.steps, .slice ta F.1.heads.length tc], .int .i64 (F.2 : Nat)]) (by simp [results, Tryz.results20, go_sem, e0, e1, e2, e3]) rfl ⟨_, rfl, HLF, hB4.grown hg hB4.size (fun k hk => by cases hk; omega)⟩
  · have HF : Hid (F = (noStt, E)) := by show _ = _; rw [HE.out, if_neg hE]
    have hE1 : ¬ (E : Int) = 0 := by omega
    have hE2 : ((E : Int) == 0) = false := by simp only [beq_eq_false_iff_ne]; omega
    clear HE HZ HONE
    go_enter Tryz.func20, Tryz.ntmps20
    go_wp2_with (go_at_call 23; refine (hto _ HB0.out).mono ?_; clear hto; rintro e w1 ⟨rfl, hb1⟩; have hB1 := HB0.out.trans (hb1.mono HB0.out.size); have hR1 := HR.out.on hb1 HR.out.lt; have a0 := hR1.cell (i := 0) rfl; have z0 := hR1.free 0; have m1 := hR1.set 0 (.slice none 0 0); have a1 := m1.cell (i := 1) rfl; have z1 := m1.free 1; have m2 := m1.set 1 (.slice none 0 0); have a2 := m2.cell (i := 2) rfl; have z2 := m2.free 2; have m3 := m2.set 2 (.int .i64 0); have a3 := m3.cell (i := 3) rfl; have z3 := m3.free 3; obtain ⟨hD, hg⟩ := set4 hR1 (.slice none 0 0) (.slice none 0 0) (.int .i64 0) (.slice none 0 0); have e0 := hD.cell (i := 0) rfl; have e1 := hD.cell (i := 1) rfl; have e2 := hD.cell (i := 2) rfl; have e3 := hD.cell (i := 3) rfl)
    try simp only [Exit.inBlock, Exit.then]
    exact bodyPost_ret (v := .tuple #[.agg #[.slice none 0 0, .slice none 0 0, .int .i64 0, .slice none 0 0], .int .i64 (E : Nat)]) (by simp [results, Tryz.results20, go_sem, e0, e1, e2, e3]) rfl ⟨_, by rw [HF.out], by rw [HF.out]; exact lt_none _ _, hB1.grown hg hB1.size (fun k hk => by cases hk; omega)⟩

theorem LiesR.fine {w : World} {v : Value} {rs : List Rl} (h : LiesR w v rs) : ∀ r ∈ rs, Fine r.l ∧ Fine r.r ∧ -9223372036854775808 ≤ r.id ∧ r.id ≤ 9223372036854775807 := by
  intro r hr
  obtain ⟨i, hi⟩ := List.getElem?_of_mem hr
  obtain ⟨a, c, _, _, _, HC⟩ := h
  obtain ⟨g, off, x, y, _, _, _, _, _, hx, hy, h5⟩ := HC i r hi
  obtain ⟨_, _, _, _, _, hf, _⟩ := hx
  obtain ⟨_, _, _, _, _, hf2, _⟩ := hy
  exact ⟨hf, hf2, h5⟩
theorem OwnsR.form {w : World} {B : Nat} {v : Value} {rs : List Rl} (h : OwnsR w B v rs) : ∃ a c, v = .slice a rs.length c := by
  obtain ⟨ps, _, h1, _⟩ := h
  obtain ⟨a, c, hv, _⟩ := own_cells h1
  exact ⟨a, c, hv⟩

set_option maxHeartbeats 4000000 in
theorem run_wide (w : World) (rv : Value) (rs : List Rl) (hr : LiesR w rv rs) (s : Stt) (ov vv hv : Value) (hin : StIn w ov vv hv s.ops s.vals s.heads) (hwf : StWf s) (fu : Int) (hfu : -9223372036854775808 ≤ fu ∧ fu ≤ 9223372036854775807) (tv : Value) (htv : tv = .nilIface ∨ ∃ t v, tv = .iface t v) (tb : Tb) (htb : TbOk tb) (hask : AskAt w tv tb)
    (hlim : s.ops.length + 8 * fu.toNat ≤ 2513169500000) (lv : s.vals.length ≤ 7539508500002) (lnum : s.vals.length + s.ops.length ≤ 9223372036854775000) :
    Calls Tryz.prog 18 #[rv, .agg #[ov, vv, .int .i64 s.steps, hv], .int .i64 fu, tv] w fun e w' => ∃ sv, e = .returned (.tuple #[sv, .int .i64 ((runP rs tb s fu).2 : Nat)]) ∧ OutSt w.heap.size w' sv (runP rs tb s fu).1 ∧ Below w.heap.size w w' := by
  have hls := hin.lies hwf lnum
  have hc1 : ∀ w1, Below w.heap.size w w1 → _ := fun w1 hb => checkRules_any w1 rv rs (hr.on hb)
  have hc2 : ∀ w1, Below w.heap.size w w1 → _ := fun w1 hb => check7_any w1 ov vv hv s.steps s.ops s.vals s.heads (hls.on hb)
  have HB0 : Hid (Below w.heap.size w ((w.alloc (.cells #[ov, vv, .int .i64 s.steps, hv] 28)).alloc (.cells #[.slice none 0 0, .slice none 0 0, .int .i64 0, .slice none 0 0] 28))) := ((Below.refl _ w).alloc (Nat.le_refl _) _).alloc (by simp) _
  have HX : Hid (Blk ((w.alloc (.cells #[ov, vv, .int .i64 s.steps, hv] 28)).alloc (.cells #[.slice none 0 0, .slice none 0 0, .int .i64 0, .slice none 0 0] 28)) w.heap.size #[ov, vv, .int .i64 s.steps, hv] 28) := (Blk.made w _ 28).alloc _
  have HR : Hid (Blk ((w.alloc (.cells #[ov, vv, .int .i64 s.steps, hv] 28)).alloc (.cells #[.slice none 0 0, .slice none 0 0, .int .i64 0, .slice none 0 0] 28)) (w.heap.size + 1) #[.slice none 0 0, .slice none 0 0, .int .i64 0, .slice none 0 0] 28) := by
    have := Blk.made (w.alloc (.cells #[ov, vv, .int .i64 s.steps, hv] 28)) #[.slice none 0 0, .slice none 0 0, .int .i64 0, .slice none 0 0] 28
    rwa [show (w.alloc (.cells #[ov, vv, .int .i64 s.steps, hv] 28)).heap.size = w.heap.size + 1 by simp] at this
  have HIN : Hid (StIn w ov vv hv s.ops s.vals s.heads) := hin
  have HLR : Hid (LiesR w rv rs) := hr
  have HTB : Hid (TbOk tb) := htb
  have HASK : Hid (AskAt w tv tb) := hask
  have HTV : Hid (tv = .nilIface ∨ ∃ t v, tv = .iface t v) := htv
  have HLIM : Hid (s.ops.length + 8 * fu.toNat ≤ 2513169500000) := hlim
  have hol : s.ops.length ≤ 2513169500020 := by omega
  obtain ⟨oa, oc, hov, _⟩ := id hls.lo
  obtain ⟨va, vc, hvv, _⟩ := id hls.lv
  obtain ⟨ha, hc, hhv, _⟩ := id hls.lh
  obtain ⟨ra, rc, hrv, _⟩ := hr
  subst hov
  subst hvv
  subst hhv
  subst hrv
  have HE : Hid (runP rs tb s fu = if chkRs rs = 0 then (if stR s.steps s.ops s.vals s.heads = true then ((fin rs tb (s.cf fu)).1.stt, (fin rs tb (s.cf fu)).2) else (noStt, 3)) else (noStt, chkRs rs)) := rfl
  generalize runP rs tb s fu = RP at HE ⊢
  have HZ : Hid (chkRs rs = 0 → RsOk rs) := fun h => by
    unfold chkRs at h
    split at h
    · rename_i h0; exact chkAll_zero.1 h0
    · rename_i h0; exact absurd h h0
  generalize chkRs rs = E at hc1 HE HZ
  clear hin hask htb htv hlim
  by_cases hE : E = 0
  · subst hE
    have HOK : Hid (RsOk rs) := HZ.out rfl
    cases hs : stR s.steps s.ops s.vals s.heads with
    | false =>
      rw [hs] at hc2
      have HRP : Hid (RP = (noStt, 3)) := by show _ = _; rw [HE.out, hs]; rfl
      clear HE HZ
      go_enter Tryz.func18, Tryz.ntmps18
      go_wp2_with (first | (go_at_call 45; refine (hc1 _ HB0.out).mono ?_; rintro e w1 ⟨rfl, hb1⟩; have hB1 := HB0.out.trans (hb1.mono HB0.out.size); have hX1 := HX.out.on hb1 HX.out.lt; have hR1 := HR.out.on hb1 HR.out.lt; have x0 := hX1.cell (i := 0) rfl; have x1 := hX1.cell (i := 1) rfl; have x2 := hX1.cell (i := 2) rfl; have x3 := hX1.cell (i := 3) rfl) | (go_at_call 14; refine (hc2 _ hB1).mono ?_; rintro e w2 ⟨rfl, hb2⟩; have hB2 := hB1.trans (hb2.mono hB1.size); have hR2 := hR1.on hb2 hR1.lt; have a0 := hR2.cell (i := 0) rfl; have z0 := hR2.free 0; have m1 := hR2.set 0 (.slice none 0 0); have a1 := m1.cell (i := 1) rfl; have z1 := m1.free 1; have m2 := m1.set 1 (.slice none 0 0); have a2 := m2.cell (i := 2) rfl; have z2 := m2.free 2; have m3 := m2.set 2 (.int .i64 0); have a3 := m3.cell (i := 3) rfl; have z3 := m3.free 3))
      obtain ⟨hD, hg⟩ := set4 hR2 (.slice none 0 0) (.slice none 0 0) (.int .i64 0) (.slice none 0 0)
      have e0 := hD.cell (i := 0) rfl
      have e1 := hD.cell (i := 1) rfl
      have e2 := hD.cell (i := 2) rfl
      have e3 := hD.cell (i := 3) rfl
      try simp only [Exit.inBlock, Exit.then]
      refine bodyPost_ret (v := .tuple #[.agg #[.slice none 0 0, .slice none 0 0, .int .i64 0, .slice none 0 0], .int .i64 (RP.2 : Nat)]) (by rw [HRP.out]; simp [results, Tryz.results18, go_sem, e0, e1, e2, e3]) rfl ⟨_, rfl, by rw [HRP.out]; exact outSt_none _ _, hB2.grown hg hB2.size (fun k hk => by cases hk; omega)⟩
    | true =>
      rw [hs] at hc2
      have hHRT : Rt (s.cf fu) := rt_of hs HLIM.out
      have HRT : Hid (Rt (s.cf fu)) := hHRT
      have hRT2 : Rt (fin rs tb (s.cf fu)).1 := runN_rt HOK.out HTB.out _ _ hHRT
      have hRP : RP = ((fin rs tb (s.cf fu)).1.stt, (fin rs tb (s.cf fu)).2) := by rw [HE.out, hs]; rfl
      obtain ⟨CF, hCF⟩ : ∃ CF, fin rs tb (s.cf fu) = CF := ⟨_, rfl⟩
      have HCF : Hid (fin rs tb (s.cf fu) = CF) := hCF
      rw [hCF] at hRT2 hRP
      have HRP : Hid (RP = (CF.1.stt, CF.2)) := hRP
      have HRT2 : Hid (Rt CF.1) := hRT2
      clear hRP hRT2 hCF hHRT
      have hwst := hwf.steps
      have lh : s.heads.length ≤ 7539508500002 := by have := HRT.out.hds.len; simp only [Stt.cf] at this; omega
      clear HE HZ hs hls hwf
      have hbeg : ∀ w2, Below w.heap.size w w2 → _ := fun w2 hb => begin_any w2 _ _ _ s.ops s.vals s.heads s.steps fu (HIN.out.on hb) (.slice ra rs.length rc) tv ⟨_, _, _, rfl⟩ HTV.out hol lv lh
      go_enter Tryz.func18, Tryz.ntmps18
      go_wp2_with (first | (go_at_call 45; refine (hc1 _ HB0.out).mono ?_; rintro e w1 ⟨rfl, hb1⟩; have hB1 := HB0.out.trans (hb1.mono HB0.out.size); have hX1 := HX.out.on hb1 HX.out.lt; have hR1 := HR.out.on hb1 HR.out.lt; have x0 := hX1.cell (i := 0) rfl; have x1 := hX1.cell (i := 1) rfl; have x2 := hX1.cell (i := 2) rfl; have x3 := hX1.cell (i := 3) rfl) | (go_at_call 14; refine (hc2 _ hB1).mono ?_; rintro e w2 ⟨rfl, hb2⟩; have hB2 := hB1.trans (hb2.mono hB1.size); have hR2 := hR1.on hb2 hR1.lt; have hX2 := hX1.on hb2 hX1.lt; have x0 := hX2.cell (i := 0) rfl; have x1 := hX2.cell (i := 1) rfl; have x2 := hX2.cell (i := 2) rfl; have x3 := hX2.cell (i := 3) rfl) | (go_at_call 46; refine (hbeg w2 hB2).mono ?_; rintro e w3 ⟨p, ov3, vv3, hv3, rfl, hRn3, hb3⟩; have hR3 := hR2.on hb3 hR2.lt; have hgo := goOn_any w2 w3 hb3 p ov3 vv3 hv3 _ tv (s.cf fu) (by simpa [Stt.cf] using hRn3) HRT.out rs (HLR.out.on hB2) HOK.out tb HTB.out (HASK.out.on hB2) hwst hfu; rw [HCF.out] at hgo) | (go_at_call 47; refine hgo.mono ?_; rintro e w4 ⟨rfl, ⟨ov4, vv4, hv4, hRn4⟩, hk4⟩; have hR4 : Blk w4 (w.heap.size + 1) #[.slice none 0 0, .slice none 0 0, .int .i64 0, .slice none 0 0] 28 := (hk4.low.block _ (by have := hR2.lt; omega)).trans hR3; have hB4 := (hB2.trans (hb3.mono hB2.size)).trans (hk4.low.mono hB2.size); obtain ⟨a4, c4, f4⟩ := hRn4.ops.form; rw [List.length_reverse] at f4; obtain ⟨a4', c4', f4'⟩ := hRn4.vals.form; obtain ⟨a4'', c4'', f4''⟩ := OwnsS.form hRn4.heads; subst f4; subst f4'; subst f4''; have y0 := hRn4.blk.cell (i := 0) rfl; have y1 := hRn4.blk.cell (i := 1) rfl; have y2 := hRn4.blk.cell (i := 2) rfl; have y3 := hRn4.blk.cell (i := 3) rfl; have hst5 := state_of_rn hRn4 HRT2.out) | (go_at_call 29; refine hst5.mono ?_; rintro e w5 ⟨sv5, rfl, hO5, hb5⟩; obtain ⟨ov5, vv5, hv5, hsv, q1, q2, q3⟩ := id hO5; obtain ⟨a5, c5, f5⟩ := q1.form; obtain ⟨a5', c5', f5'⟩ := q2.form; obtain ⟨a5'', c5'', f5''⟩ := OwnsS.form q3; subst f5; subst f5'; subst f5''; subst hsv; have hR5 := hR4.on hb5 hR4.lt; have hB5 := hB4.trans (hb5.mono hB4.size); have a0 := hR5.cell (i := 0) rfl; have z0 := hR5.free 0; have m1 := hR5.set 0 (.slice a5 CF.1.stt.ops.length c5); have a1 := m1.cell (i := 1) rfl; have z1 := m1.free 1; have m2 := m1.set 1 (.slice a5' CF.1.stt.vals.length c5'); have a2 := m2.cell (i := 2) rfl; have z2 := m2.free 2; have m3 := m2.set 2 (.int .i64 CF.1.stt.steps); have a3 := m3.cell (i := 3) rfl; have z3 := m3.free 3))
      obtain ⟨hD, hg⟩ := set4 hR5 (.slice a5 CF.1.stt.ops.length c5) (.slice a5' CF.1.stt.vals.length c5') (.int .i64 CF.1.stt.steps) (.slice a5'' CF.1.stt.heads.length c5'')
      have e0 := hD.cell (i := 0) rfl
      have e1 := hD.cell (i := 1) rfl
      have e2 := hD.cell (i := 2) rfl
      have e3 := hD.cell (i := 3) rfl
      try simp only [Exit.inBlock, Exit.then]
      have hBB : w.heap.size ≤ w4.heap.size := hB4.size
      refine bodyPost_ret (v := .tuple #[.agg #[.slice a5 CF.1.stt.ops.length c5, .slice a5' CF.1.stt.vals.length c5', .int .i64 CF.1.stt.steps, .slice a5'' CF.1.stt.heads.length c5''], .int .i64 (RP.2 : Nat)]) (by rw [HRP.out]; simp [results, Tryz.results18, go_sem, e0, e1, e2, e3]) rfl ⟨_, rfl, by rw [HRP.out]; exact (hO5.base hBB).blk hR5 hg, hB5.grown hg hB5.size (fun k hk => by cases hk; omega)⟩
  · have HRP : Hid (RP = (noStt, E)) := by show _ = _; rw [HE.out, if_neg hE]
    have hE1 : ¬ (E : Int) = 0 := by omega
    clear HE HZ
    go_enter Tryz.func18, Tryz.ntmps18
    go_wp2_with (go_at_call 45; refine (hc1 _ HB0.out).mono ?_; rintro e w1 ⟨rfl, hb1⟩; have hB1 := HB0.out.trans (hb1.mono HB0.out.size); have hR1 := HR.out.on hb1 HR.out.lt; have a0 := hR1.cell (i := 0) rfl; have z0 := hR1.free 0; have m1 := hR1.set 0 (.slice none 0 0); have a1 := m1.cell (i := 1) rfl; have z1 := m1.free 1; have m2 := m1.set 1 (.slice none 0 0); have a2 := m2.cell (i := 2) rfl; have z2 := m2.free 2; have m3 := m2.set 2 (.int .i64 0); have a3 := m3.cell (i := 3) rfl; have z3 := m3.free 3)
    obtain ⟨hD, hg⟩ := set4 hR1 (.slice none 0 0) (.slice none 0 0) (.int .i64 0) (.slice none 0 0)
    have e0 := hD.cell (i := 0) rfl
    have e1 := hD.cell (i := 1) rfl
    have e2 := hD.cell (i := 2) rfl
    have e3 := hD.cell (i := 3) rfl
    try simp only [Exit.inBlock, Exit.then]
    refine bodyPost_ret (v := .tuple #[.agg #[.slice none 0 0, .slice none 0 0, .int .i64 0, .slice none 0 0], .int .i64 (RP.2 : Nat)]) (by rw [HRP.out]; simp [results, Tryz.results18, go_sem, e0, e1, e2, e3]) rfl ⟨_, rfl, by rw [HRP.out]; exact outSt_none _ _, hB1.grown hg hB1.size (fun k hk => by cases hk; omega)⟩

end Go.Proofs.YtgijdhnkkbenoaaGreat
