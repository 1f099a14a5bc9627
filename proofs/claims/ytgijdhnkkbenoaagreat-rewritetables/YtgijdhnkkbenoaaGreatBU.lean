/-
  A run in two slices, plainly; a state that a run came to, as it lies in memory.
-/
import Derived.Test.YtgijdhnkkbenoaaGreatBO
import Derived.Test.YtgijdhnkkbenoaaGreatBT
namespace Go.Proofs.YtgijdhnkkbenoaaGreat
open Go.RowKit
set_option linter.unusedVariables false
set_option linter.unusedSimpArgs false
set_option maxRecDepth 100000

theorem one_heads {rs : List Rl} {o : Opr} {c d : Cf} (h : one rs noTb o c = .go d) : d.heads.length ≤ c.heads.length + 1 := by
  unfold one at h
  split at h
  · cases h; simp
  · split at h
    · cases h
    · simp only [noTb] at h
      split at h
      · cases h; exact jn1_len _ _
      · split at h
        · cases h
        · cases h; exact jn1_len _ _
theorem ns_small {rs : List Rl} (hr : RsOk rs) : ∀ (n : Nat) {c d : Cf}, Rt c → ns rs noTb n c = some d → mu d + n ≤ mu c ∧ d.heads.length ≤ c.heads.length + n
  | 0, c, d, hc, h => by simp only [ns, Option.some.injEq] at h; subst h; exact ⟨Nat.le_refl _, Nat.le_refl _⟩
  | n + 1, ⟨stk, V, m, S, f⟩, d, hc, h => by
    simp only [ns] at h
    cases h1 : nx rs noTb ⟨stk, V, m, S, f⟩ with
    | none => rw [h1] at h; cases h
    | some x =>
      rw [h1] at h
      obtain ⟨o, r, e, h2⟩ := nx_inv h1
      simp only at e h2
      subst e
      obtain ⟨_, q2, q3⟩ := fin_go hr noTb_ok hc h2
      obtain ⟨p1, p2⟩ := ns_small hr n q2 h
      have h3 := one_heads h2
      simp only at h3 ⊢
      omega
theorem right_of {c : Cf} (h : Rt c) (h0 : 0 ≤ c.steps) : stR c.stt.steps c.stt.ops c.stt.vals c.stt.heads = true := by
  unfold stR
  simp only [Bool.and_eq_true, decide_eq_true_eq]
  refine ⟨⟨⟨⟨⟨h0, ?_⟩, ?_⟩, ?_⟩, (ris_up _).2 h.hds.up⟩, by show cnt c.stk.reverse.reverse c.vals.length = some 1; rw [List.reverse_reverse]; exact h.one⟩
  · exact List.all_eq_true.2 fun o ho => opR_iff.2 (h.ops o (List.mem_reverse.1 ho))
  · exact List.all_eq_true.2 fun v hv => h.vals v hv
  · exact List.all_eq_true.2 fun x hx => by simpa [symB] using h.hds.sym x hx
/-- a state that a short run comes to -/
structure Small (s : Stt) : Prop where
  ok : SttOk s
  hds : Hds s.heads
  s0 : 0 ≤ s.steps
  s1 : s.steps ≤ 1000
  no : s.ops.length ≤ 3000
  nv : s.vals.length ≤ 10000
  nh : s.heads.length ≤ 3000
theorem small_of {c : Cf} (h : Rt c) (h0 : 0 ≤ c.steps) (h1 : c.steps ≤ 1000) (h2 : c.stk.length ≤ 3000) (h3 : c.heads.length ≤ 3000) : Small c.stt := by
  have := cnt_le _ _ h.ops h.one
  refine ⟨⟨fun o ho => h.ops o (List.mem_reverse.1 ho), h.vals⟩, h.hds, h0, h1, by simp only [Cf.stt, List.length_reverse]; exact h2, by simp only [Cf.stt]; omega, h3⟩
theorem small_start {T : List Cl} (hg : grd T = true) : Small (startP T).1 := by
  have hs := (run_start (rs := []) (T := T) (fu := 0) rfl hg (by decide)).1
  have h64 := (check_zero (grd_iff.1 hg).1).1
  have := small_of hs (Int.le_refl _) (by simp) (by simp only [todo_len]; omega) (by simp)
  rw [startP_grd hg]
  exact this
section
variable {rs : List Rl} {T : List Cl} {n m : Int} {x : Stt} {f : Nat}
theorem slices (hc : chkRs rs = 0) (hg : grd T = true) (hn : 0 ≤ n ∧ n ≤ 149) (hm : 0 ≤ m ∧ m ≤ 149) (h : runP rs noTb (startP T).1 n = (x, f)) :
    Small x ∧ ((f ≠ 0 ∧ f ≠ 14) → runP rs noTb (startP T).1 (n + m) = (x, f)) ∧
      ((f = 0 ∨ f = 14) → stR x.steps x.ops x.vals x.heads = true ∧ x.steps ≤ n ∧ runP rs noTb (startP T).1 (x.steps + m) = runP rs noTb x m ∧ (f = 0 → runP rs noTb x m = (x, 0))) := by
  have hok := RsOk.of hc
  have h64 := (check_zero (grd_iff.1 hg).1).1
  obtain ⟨hrt, hrun⟩ := run_start (rs := rs) (T := T) (fu := n) hc hg (by omega)
  obtain ⟨k, d, e, p1, p2, p3, p4⟩ := fin_ex hok noTb_ok _ _ (Nat.lt_succ_self _) hrt
  rw [p3] at hrun
  rw [hrun] at h
  simp only [Prod.mk.injEq] at h
  obtain ⟨e1, e2⟩ := h
  subst e1 e2
  obtain ⟨f1, f2⟩ := ns_fuel k p1
  simp only at f1 f2
  have hst := ns_steps k p1 (Int.le_refl _) (by simp only; omega)
  simp only at hst
  obtain ⟨m1, m2⟩ := ns_small hok k hrt p1
  unfold mu at m1
  simp only [todo_len, List.length_nil] at m1 m2
  obtain ⟨hs1, hs2⟩ := halt_sh p2
  have key : ∀ F : Int, 0 ≤ F → F ≤ 149 → fin rs noTb ⟨todo [] T, [], 0, [], n - d.fuel + F⟩ = fin rs noTb (d.sh (F - d.fuel)) := fun F a b => by
    obtain ⟨hr2, _⟩ := run_start (rs := rs) (T := T) (fu := n - d.fuel + F) hc hg (by omega)
    have h2 := ns_sh (F - d.fuel) k p1 (by right; omega)
    have e : Cf.sh (F - d.fuel) ⟨todo [] T, [], 0, [], n⟩ = ⟨todo [] T, [], 0, [], n - d.fuel + F⟩ := by simp only [Cf.sh]; congr 1; omega
    rw [e] at h2
    exact (fin_ns hok noTb_ok k hr2 h2).1
  refine ⟨small_of p4 (by omega) (by omega) (by omega) (by omega), fun ⟨g1, g2⟩ => ?_, fun g => ?_⟩
  · obtain ⟨hr2, hrun2⟩ := run_start (rs := rs) (T := T) (fu := n + m) hc hg (by omega)
    have h2 := ns_sh m k p1 (by right; omega)
    have e : Cf.sh m ⟨todo [] T, [], 0, [], n⟩ = ⟨todo [] T, [], 0, [], n + m⟩ := rfl
    rw [e] at h2
    rw [hrun2, (fin_ns hok noTb_ok k hr2 h2).1, fin_halt (hs2 m (fun h => absurd h g2))]
    rfl
  · have hR := right_of p4 (by omega)
    have hx : ∀ F : Int, runP rs noTb d.stt F = ((fin rs noTb (d.sh (F - d.fuel))).1.stt, (fin rs noTb (d.sh (F - d.fuel))).2) := fun F => by
      have e : d.stt.cf F = d.sh (F - d.fuel) := by
        unfold Stt.cf Cf.stt Cf.sh
        simp only [List.reverse_reverse]
        congr 1
        omega
      unfold runP
      rw [if_pos hc, if_pos hR, e]
    refine ⟨hR, by simp only [Cf.stt]; omega, ?_, fun e0 => ?_⟩
    · obtain ⟨_, hrun2⟩ := run_start (rs := rs) (T := T) (fu := n - d.fuel + m) hc hg (by omega)
      have es : d.stt.steps + m = n - d.fuel + m := by simp only [Cf.stt]; omega
      rw [es, hrun2, key m hm.1 hm.2, hx m]
    · subst e0
      rw [hx m, fin_halt (hs2 (m - d.fuel) (fun h => by cases h))]
      rfl
end
/-- a state of the call's own, as Copy, Run and Check take it -/
theorem OutSt.sta {B : Nat} {w : World} {sv : Value} {s : Stt} (h : OutSt B w sv s) (hk : Small s) : ∃ oa oc va vc ha hc, sv = .agg #[.slice oa s.ops.length oc, .slice va s.vals.length vc, .int .i64 s.steps, .slice ha s.heads.length hc] ∧ StA w (.slice oa s.ops.length oc) (.slice va s.vals.length vc) (.slice ha s.heads.length hc) s ∧ StIn w (.slice oa s.ops.length oc) (.slice va s.vals.length vc) (.slice ha s.heads.length hc) s.ops s.vals s.heads := by
  obtain ⟨k1, k2, k3, k4, k5, k6, k7⟩ := hk
  obtain ⟨oa, oc, va, vc, ha, hc, e, q1, q2, q3⟩ := h.trio k1
  obtain ⟨ov, vv, hv, e2, h1, h2, h3⟩ := h
  subst e
  simp only [Value.agg.injEq, Array.mk.injEq, List.cons.injEq, and_true, true_and] at e2
  obtain ⟨rfl, rfl, rfl⟩ := e2
  have hs := k2.size
  refine ⟨oa, oc, va, vc, ha, hc, rfl, ⟨q1, q2, q3, fun x hx => ?_, fun n c en => ?_, by omega, by omega, by omega, fun o ho => ?_, fun l hl => ?_, by omega⟩, OutSt.in h1 h2 h3 (fun o ho => (k1.1 o ho).fine) (fun v hv => fine_check (grd_iff.1 (k1.2 v hv)).1)⟩
  · have := hs x hx
    unfold maxLen
    omega
  · obtain ⟨_, hn | ⟨g, cap, cur, e, _⟩⟩ := h3
    · have := hn.1
      rw [en] at this
      cases this
      rfl
    · rw [en] at e
      cases e
  · have := (opOk.small (k1.1 o ho)).1
    omega
  · have := (check_zero (grd_iff.1 (k1.2 l hl)).1).1
    omega
theorem Small.wf {s : Stt} (h : Small s) : StWf s := by
  obtain ⟨k1, k2, k3, k4, k5, k6, k7⟩ := h
  refine ⟨fun o ho => ?_, by omega, fun x hx => ?_⟩
  · obtain ⟨q1, q2, q3, q4, q5, q6⟩ := opOk.small (k1.1 o ho)
    omega
  · have := k2.size x hx
    unfold maxLen
    omega
theorem OutSt.in2 {B : Nat} {w : World} {s : Stt} {oa va ha : Option Addr} {oc vc hc : Nat} (h : OutSt B w (.agg #[.slice oa s.ops.length oc, .slice va s.vals.length vc, .int .i64 s.steps, .slice ha s.heads.length hc]) s) (hk : Small s) : StA w (.slice oa s.ops.length oc) (.slice va s.vals.length vc) (.slice ha s.heads.length hc) s ∧ StIn w (.slice oa s.ops.length oc) (.slice va s.vals.length vc) (.slice ha s.heads.length hc) s.ops s.vals s.heads := by
  obtain ⟨_, _, _, _, _, _, e, h1, h2⟩ := h.sta hk
  simp only [Value.agg.injEq, Array.mk.injEq, List.cons.injEq, Value.slice.injEq, and_true, true_and] at e
  obtain ⟨⟨rfl, rfl⟩, ⟨rfl, rfl⟩, rfl, rfl⟩ := e
  exact ⟨h1, h2⟩
theorem OutSt.lies2 {B : Nat} {w : World} {s : Stt} {oa va ha : Option Addr} {oc vc hc : Nat} (h : OutSt B w (.agg #[.slice oa s.ops.length oc, .slice va s.vals.length vc, .int .i64 s.steps, .slice ha s.heads.length hc]) s) (hk : SttOk s) : LiesO w (.slice oa s.ops.length oc) s.ops ∧ LiesT w (.slice va s.vals.length vc) s.vals ∧ LiesS w (.slice ha s.heads.length hc) s.heads := by
  obtain ⟨_, _, _, _, _, _, e, h1, h2, h3⟩ := h.trio hk
  simp only [Value.agg.injEq, Array.mk.injEq, List.cons.injEq, Value.slice.injEq, and_true, true_and] at e
  obtain ⟨⟨rfl, rfl⟩, ⟨rfl, rfl⟩, rfl, rfl⟩ := e
  exact ⟨h1, h2, h3⟩

end Go.Proofs.YtgijdhnkkbenoaaGreat
