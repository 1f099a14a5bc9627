/-
  Run's contract without a bound on the heads; and copies of rules.
-/
import Derived.Test.YtbdlokijednoiaaBM
import Derived.Deep.LoopGhost
namespace Go.Proofs.Ytbdlokijednoiaa
open Go.RowKit
set_option linter.unusedVariables false
set_option linter.unusedSimpArgs false
set_option maxRecDepth 100000

theorem noTb_eq : tbM [] = noTb := rfl
theorem four {w : World} {k : Nat} {a b c d : Value} {t : TypeId} (h : Blk w k #[a, b, c, d] t) : w.cell? ⟨k, 0, none⟩ = some a ∧ w.cell? ⟨k, 1, none⟩ = some b ∧ w.cell? ⟨k, 2, none⟩ = some c ∧ w.cell? ⟨k, 3, none⟩ = some d := ⟨h.cell rfl, h.cell rfl, h.cell rfl, h.cell rfl⟩
theorem trio_form {w : World} {ov vv hv : Value} {s : Stt} (h : StA w ov vv hv s) : ∃ oa oc va vc ha hc, ov = .slice oa s.ops.length oc ∧ vv = .slice va s.vals.length vc ∧ hv = .slice ha s.heads.length hc := by
  obtain ⟨oa, oc, e1, _⟩ := h.lo
  obtain ⟨va, vc, e2, _⟩ := h.lv
  obtain ⟨ha, hc, e3, _⟩ := h.lh
  exact ⟨oa, oc, va, vc, ha, hc, e1, e2, e3⟩

theorem lt_none (B : Nat) (w : World) : LT B w (.agg #[.slice none 0 0, .slice none 0 0, .int .i64 0, .slice none 0 0]) noStt := ⟨none, 0, none, 0, none, 0, rfl, ⟨[], rfl, World.ownsRow_nil _ _ _ _, fun i o h => by simp [noStt] at h⟩, ⟨[], World.ownsRow_nil _ _ _ _, fun i o h => by simp [noStt] at h⟩, World.ownsRow_nil _ _ _ _⟩

theorem LiesR.fine {w : World} {v : Value} {rs : List Rl} (h : LiesR w v rs) : ∀ r ∈ rs, Fine r.l ∧ Fine r.r ∧ -9223372036854775808 ≤ r.id ∧ r.id ≤ 9223372036854775807 := by
  intro r hr
  obtain ⟨i, hi⟩ := List.getElem?_of_mem hr
  obtain ⟨a, c, _, _, _, HC⟩ := h
  obtain ⟨g, off, x, y, _, _, _, _, _, hx, hy, h5⟩ := HC i r hi
  obtain ⟨_, _, _, _, _, hf, _⟩ := hx
  obtain ⟨_, _, _, _, _, hf2, _⟩ := hy
  exact ⟨hf, hf2, h5⟩
theorem OwnsR.form {w : World} {B : Nat} {v : Value} {rs : List Rl} (h : OwnsR w B v rs) : ∃ a c, v = .slice a rs.length c := by
  obtain ⟨ps, _, h1, _⟩ := h
  obtain ⟨a, c, hv, _⟩ := own_cells h1
  exact ⟨a, c, hv⟩

set_option maxHeartbeats 4000000 in
theorem run_wide (w : World) (rv : Value) (rs : List Rl) (hr : LiesR w rv rs) (s : Stt) (ov vv hv : Value) (hin : StIn w ov vv hv s.ops s.vals s.heads) (hwf : StWf s) (fu : Int) (hfu : -9223372036854775808 ≤ fu ∧ fu ≤ 9223372036854775807) (tv : Value) (htv : tv = .nilIface ∨ ∃ t v, tv = .iface t v) (tb : Tb) (htb : TbOk tb) (hask : AskAt w tv tb)
    (hlim : s.ops.length + 8 * fu.toNat ≤ 2513169500000) (lv : s.vals.length ≤ 7539508500002) (lnum : s.vals.length + s.ops.length ≤ 9223372036854775000) :
    Calls Try.prog 11 #[rv, .agg #[ov, vv, .int .i64 s.steps, hv], .int .i64 fu, tv] w fun e w' => ∃ sv, e = .returned (.tuple #[sv, .int .i64 ((runP rs tb s fu).2 : Nat)]) ∧ OutSt w.heap.size w' sv (runP rs tb s fu).1 ∧ Below w.heap.size w w' := by
  have hls := hin.lies hwf lnum
  have hc1 : ∀ w1, Below w.heap.size w w1 → _ := fun w1 hb => checkRules_any w1 rv rs (hr.on hb)
  have hc2 : ∀ w1, Below w.heap.size w w1 → _ := fun w1 hb => check7_any w1 ov vv hv s.steps s.ops s.vals s.heads (hls.on hb)
  have HB0 : Hid (Below w.heap.size w ((w.alloc (.cells #[ov, vv, .int .i64 s.steps, hv] 39)).alloc (.cells #[.slice none 0 0, .slice none 0 0, .int .i64 0, .slice none 0 0] 39))) := ((Below.refl _ w).alloc (Nat.le_refl _) _).alloc (by simp) _
  have HX : Hid (Blk ((w.alloc (.cells #[ov, vv, .int .i64 s.steps, hv] 39)).alloc (.cells #[.slice none 0 0, .slice none 0 0, .int .i64 0, .slice none 0 0] 39)) w.heap.size #[ov, vv, .int .i64 s.steps, hv] 39) := (Blk.made w _ 39).alloc _
  have HR : Hid (Blk ((w.alloc (.cells #[ov, vv, .int .i64 s.steps, hv] 39)).alloc (.cells #[.slice none 0 0, .slice none 0 0, .int .i64 0, .slice none 0 0] 39)) (w.heap.size + 1) #[.slice none 0 0, .slice none 0 0, .int .i64 0, .slice none 0 0] 39) := by
    have := Blk.made (w.alloc (.cells #[ov, vv, .int .i64 s.steps, hv] 39)) #[.slice none 0 0, .slice none 0 0, .int .i64 0, .slice none 0 0] 39
    rwa [show (w.alloc (.cells #[ov, vv, .int .i64 s.steps, hv] 39)).heap.size = w.heap.size + 1 by simp] at this
  have HIN : Hid (StIn w ov vv hv s.ops s.vals s.heads) := hin
  have HLR : Hid (LiesR w rv rs) := hr
  have HTB : Hid (TbOk tb) := htb
  have HASK : Hid (AskAt w tv tb) := hask
  have HTV : Hid (tv = .nilIface ∨ ∃ t v, tv = .iface t v) := htv
  have HLIM : Hid (s.ops.length + 8 * fu.toNat ≤ 2513169500000) := hlim
  have hol : s.ops.length ≤ 2513169500020 := by omega
  obtain ⟨oa, oc, hov, _⟩ := id hls.lo
  obtain ⟨va, vc, hvv, _⟩ := id hls.lv
  obtain ⟨ha, hc, hhv, _⟩ := id hls.lh
  obtain ⟨ra, rc, hrv, _⟩ := hr
  subst hov
  subst hvv
  subst hhv
  subst hrv
  have HE : Hid (runP rs tb s fu = if chkRs rs = 0 then (if stR s.steps s.ops s.vals s.heads = true then ((fin rs tb (s.cf fu)).1.stt, (fin rs tb (s.cf fu)).2) else (noStt, 3)) else (noStt, chkRs rs)) := rfl
  generalize runP rs tb s fu = RP at HE ⊢
  have HZ : Hid (chkRs rs = 0 → RsOk rs) := fun h => by
    unfold chkRs at h
    split at h
    · rename_i h0; exact chkAll_zero.1 h0
    · rename_i h0; exact absurd h h0
  generalize chkRs rs = E at hc1 HE HZ
  clear hin hask htb htv hlim
  by_cases hE : E = 0
  · subst hE
    have HOK : Hid (RsOk rs) := HZ.out rfl
    cases hs : stR s.steps s.ops s.vals s.heads with
    | false =>
      rw [hs] at hc2
      have HRP : Hid (RP = (noStt, 3)) := by show _ = _; rw [HE.out, hs]; rfl
      clear HE HZ
      go_enter Try.func11, Try.ntmps11
      go_wp2_with (first | (go_at_call 16; refine (hc1 _ HB0.out).mono ?_; rintro e w1 ⟨rfl, hb1⟩; have hB1 := HB0.out.trans (hb1.mono HB0.out.size); have hX1 := HX.out.on hb1 HX.out.lt; have hR1 := HR.out.on hb1 HR.out.lt; have x0 := hX1.cell (i := 0) rfl; have x1 := hX1.cell (i := 1) rfl; have x2 := hX1.cell (i := 2) rfl; have x3 := hX1.cell (i := 3) rfl) | (go_at_call 22; refine (hc2 _ hB1).mono ?_; rintro e w2 ⟨rfl, hb2⟩; have hB2 := hB1.trans (hb2.mono hB1.size); have hR2 := hR1.on hb2 hR1.lt; have a0 := hR2.cell (i := 0) rfl; have z0 := hR2.free 0; have m1 := hR2.set 0 (.slice none 0 0); have a1 := m1.cell (i := 1) rfl; have z1 := m1.free 1; have m2 := m1.set 1 (.slice none 0 0); have a2 := m2.cell (i := 2) rfl; have z2 := m2.free 2; have m3 := m2.set 2 (.int .i64 0); have a3 := m3.cell (i := 3) rfl; have z3 := m3.free 3))
      obtain ⟨hD, hg⟩ := set4 hR2 (.slice none 0 0) (.slice none 0 0) (.int .i64 0) (.slice none 0 0)
      have e0 := hD.cell (i := 0) rfl
      have e1 := hD.cell (i := 1) rfl
      have e2 := hD.cell (i := 2) rfl
      have e3 := hD.cell (i := 3) rfl
      try simp only [Exit.inBlock, Exit.then]
      refine bodyPost_ret (v := .tuple #[.agg #[.slice none 0 0, .slice none 0 0, .int .i64 0, .slice none 0 0], .int .i64 (RP.2 : Nat)]) (by rw [HRP.out]; simp [results, Try.results11, go_sem, e0, e1, e2, e3]) rfl ⟨_, rfl, by rw [HRP.out]; exact outSt_none _ _, hB2.grown hg hB2.size (fun k hk => by cases hk; omega)⟩
    | true =>
      rw [hs] at hc2
      have hHRT : Rt (s.cf fu) := rt_of hs HLIM.out
      have HRT : Hid (Rt (s.cf fu)) := hHRT
      have hRT2 : Rt (fin rs tb (s.cf fu)).1 := runN_rt HOK.out HTB.out _ _ hHRT
      have hRP : RP = ((fin rs tb (s.cf fu)).1.stt, (fin rs tb (s.cf fu)).2) := by rw [HE.out, hs]; rfl
      obtain ⟨CF, hCF⟩ : ∃ CF, fin rs tb (s.cf fu) = CF := ⟨_, rfl⟩
      have HCF : Hid (fin rs tb (s.cf fu) = CF) := hCF
      rw [hCF] at hRT2 hRP
      have HRP : Hid (RP = (CF.1.stt, CF.2)) := hRP
      have HRT2 : Hid (Rt CF.1) := hRT2
      clear hRP hRT2 hCF hHRT
      have hwst := hwf.steps
      have lh : s.heads.length ≤ 7539508500002 := by have := HRT.out.hds.len; simp only [Stt.cf] at this; omega
      clear HE HZ hs hls hwf
      have hbeg : ∀ w2, Below w.heap.size w w2 → _ := fun w2 hb => begin_any w2 _ _ _ s.ops s.vals s.heads s.steps fu (HIN.out.on hb) (.slice ra rs.length rc) tv ⟨_, _, _, rfl⟩ HTV.out hol lv lh
      go_enter Try.func11, Try.ntmps11
      go_wp2_with (first | (go_at_call 16; refine (hc1 _ HB0.out).mono ?_; rintro e w1 ⟨rfl, hb1⟩; have hB1 := HB0.out.trans (hb1.mono HB0.out.size); have hX1 := HX.out.on hb1 HX.out.lt; have hR1 := HR.out.on hb1 HR.out.lt; have x0 := hX1.cell (i := 0) rfl; have x1 := hX1.cell (i := 1) rfl; have x2 := hX1.cell (i := 2) rfl; have x3 := hX1.cell (i := 3) rfl) | (go_at_call 22; refine (hc2 _ hB1).mono ?_; rintro e w2 ⟨rfl, hb2⟩; have hB2 := hB1.trans (hb2.mono hB1.size); have hR2 := hR1.on hb2 hR1.lt; have hX2 := hX1.on hb2 hX1.lt; have x0 := hX2.cell (i := 0) rfl; have x1 := hX2.cell (i := 1) rfl; have x2 := hX2.cell (i := 2) rfl; have x3 := hX2.cell (i := 3) rfl) | (go_at_call 23; refine (hbeg w2 hB2).mono ?_; rintro e w3 ⟨p, ov3, vv3, hv3, rfl, hRn3, hb3⟩; have hR3 := hR2.on hb3 hR2.lt; have hgo := goOn_any w2 w3 hb3 p ov3 vv3 hv3 _ tv (s.cf fu) (by simpa [Stt.cf] using hRn3) HRT.out rs (HLR.out.on hB2) HOK.out tb HTB.out (HASK.out.on hB2) hwst hfu; rw [HCF.out] at hgo) | (go_at_call 24; refine hgo.mono ?_; rintro e w4 ⟨rfl, ⟨ov4, vv4, hv4, hRn4⟩, hk4⟩; have hR4 : Blk w4 (w.heap.size + 1) #[.slice none 0 0, .slice none 0 0, .int .i64 0, .slice none 0 0] 39 := (hk4.low.block _ (by have := hR2.lt; omega)).trans hR3; have hB4 := (hB2.trans (hb3.mono hB2.size)).trans (hk4.low.mono hB2.size); obtain ⟨a4, c4, f4⟩ := hRn4.ops.form; rw [List.length_reverse] at f4; obtain ⟨a4', c4', f4'⟩ := hRn4.vals.form; obtain ⟨a4'', c4'', f4''⟩ := OwnsS.form hRn4.heads; subst f4; subst f4'; subst f4''; have y0 := hRn4.blk.cell (i := 0) rfl; have y1 := hRn4.blk.cell (i := 1) rfl; have y2 := hRn4.blk.cell (i := 2) rfl; have y3 := hRn4.blk.cell (i := 3) rfl; have hst5 := state_of_rn hRn4 HRT2.out) | (go_at_call 20; refine hst5.mono ?_; rintro e w5 ⟨sv5, rfl, hO5, hb5⟩; obtain ⟨ov5, vv5, hv5, hsv, q1, q2, q3⟩ := id hO5; obtain ⟨a5, c5, f5⟩ := q1.form; obtain ⟨a5', c5', f5'⟩ := q2.form; obtain ⟨a5'', c5'', f5''⟩ := OwnsS.form q3; subst f5; subst f5'; subst f5''; subst hsv; have hR5 := hR4.on hb5 hR4.lt; have hB5 := hB4.trans (hb5.mono hB4.size); have a0 := hR5.cell (i := 0) rfl; have z0 := hR5.free 0; have m1 := hR5.set 0 (.slice a5 CF.1.stt.ops.length c5); have a1 := m1.cell (i := 1) rfl; have z1 := m1.free 1; have m2 := m1.set 1 (.slice a5' CF.1.stt.vals.length c5'); have a2 := m2.cell (i := 2) rfl; have z2 := m2.free 2; have m3 := m2.set 2 (.int .i64 CF.1.stt.steps); have a3 := m3.cell (i := 3) rfl; have z3 := m3.free 3))
      obtain ⟨hD, hg⟩ := set4 hR5 (.slice a5 CF.1.stt.ops.length c5) (.slice a5' CF.1.stt.vals.length c5') (.int .i64 CF.1.stt.steps) (.slice a5'' CF.1.stt.heads.length c5'')
      have e0 := hD.cell (i := 0) rfl
      have e1 := hD.cell (i := 1) rfl
      have e2 := hD.cell (i := 2) rfl
      have e3 := hD.cell (i := 3) rfl
      try simp only [Exit.inBlock, Exit.then]
      have hBB : w.heap.size ≤ w4.heap.size := hB4.size
      refine bodyPost_ret (v := .tuple #[.agg #[.slice a5 CF.1.stt.ops.length c5, .slice a5' CF.1.stt.vals.length c5', .int .i64 CF.1.stt.steps, .slice a5'' CF.1.stt.heads.length c5''], .int .i64 (RP.2 : Nat)]) (by rw [HRP.out]; simp [results, Try.results11, go_sem, e0, e1, e2, e3]) rfl ⟨_, rfl, by rw [HRP.out]; exact (hO5.base hBB).blk hR5 hg, hB5.grown hg hB5.size (fun k hk => by cases hk; omega)⟩
  · have HRP : Hid (RP = (noStt, E)) := by show _ = _; rw [HE.out, if_neg hE]
    have hE1 : ¬ (E : Int) = 0 := by omega
    clear HE HZ
    go_enter Try.func11, Try.ntmps11
    go_wp2_with (go_at_call 16; refine (hc1 _ HB0.out).mono ?_; rintro e w1 ⟨rfl, hb1⟩; have hB1 := HB0.out.trans (hb1.mono HB0.out.size); have hR1 := HR.out.on hb1 HR.out.lt; have a0 := hR1.cell (i := 0) rfl; have z0 := hR1.free 0; have m1 := hR1.set 0 (.slice none 0 0); have a1 := m1.cell (i := 1) rfl; have z1 := m1.free 1; have m2 := m1.set 1 (.slice none 0 0); have a2 := m2.cell (i := 2) rfl; have z2 := m2.free 2; have m3 := m2.set 2 (.int .i64 0); have a3 := m3.cell (i := 3) rfl; have z3 := m3.free 3)
    obtain ⟨hD, hg⟩ := set4 hR1 (.slice none 0 0) (.slice none 0 0) (.int .i64 0) (.slice none 0 0)
    have e0 := hD.cell (i := 0) rfl
    have e1 := hD.cell (i := 1) rfl
    have e2 := hD.cell (i := 2) rfl
    have e3 := hD.cell (i := 3) rfl
    try simp only [Exit.inBlock, Exit.then]
    refine bodyPost_ret (v := .tuple #[.agg #[.slice none 0 0, .slice none 0 0, .int .i64 0, .slice none 0 0], .int .i64 (RP.2 : Nat)]) (by rw [HRP.out]; simp [results, Try.results11, go_sem, e0, e1, e2, e3]) rfl ⟨_, rfl, by rw [HRP.out]; exact outSt_none _ _, hB1.grown hg hB1.size (fun k hk => by cases hk; omega)⟩

end Go.Proofs.Ytbdlokijednoiaa
