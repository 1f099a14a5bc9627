/-
  Proved: whatever term and whatever state are handed in, the law RewriteStarts answers true and leaves them as they were; no conditions beyond those of the given row.
-/
import Derived.Test.YtgijdhnkkbenoaaGreatRows
import Derived.Test.YtgijdhnkkbenoaaGreatBL
import Derived.Test.YtgijdhnkkbenoaaGreatAA
import Derived.ProofKit
import Derived.OpenShut
import Derived.ShutString
import Derived.ChangeOld
import Derived.Below
import Derived.SizedLaws
import Derived.Lib.SmallJoins
namespace Go.Proofs.YtgijdhnkkbenoaaGreat
open Go.ChangeShapes Go.WideShapes Go.ChangeAt Go.RowKit Go.Joins
open Go.ChangeMaps (open_string shut_string)
set_option linter.unusedVariables false
set_option linter.unusedSimpArgs false
set_option maxRecDepth 100000

theorem four {w : World} {k : Nat} {a b c d : Value} {t : TypeId} (h : Blk w k #[a, b, c, d] t) : w.cell? ⟨k, 0, none⟩ = some a ∧ w.cell? ⟨k, 1, none⟩ = some b ∧ w.cell? ⟨k, 2, none⟩ = some c ∧ w.cell? ⟨k, 3, none⟩ = some d := ⟨h.cell rfl, h.cell rfl, h.cell rfl, h.cell rfl⟩
theorem trio_form {w : World} {ov vv hv : Value} {s : Stt} (h : StA w ov vv hv s) : ∃ oa oc va vc ha hc, ov = .slice oa s.ops.length oc ∧ vv = .slice va s.vals.length vc ∧ hv = .slice ha s.heads.length hc := by
  obtain ⟨oa, oc, e1, _⟩ := h.lo
  obtain ⟨va, vc, e2, _⟩ := h.lv
  obtain ⟨ha, hc, e3, _⟩ := h.lh
  exact ⟨oa, oc, va, vc, ha, hc, e1, e2, e3⟩

set_option maxHeartbeats 8000000 in
theorem rewriteStarts_walk (v0 : Value) (T : List Cl) (ov vv hv : Value) (s : Stt) (w : World) (hT : Lies w v0 T) (z0 : T.length * 24 ≤ 140737488355328) (hA : StA w ov vv hv s) :
    Calls Tryz.prog 3 #[v0, .agg #[ov, vv, .int .i64 s.steps, hv]] w fun e w' => e = .returned (.bool true) ∧ Below w.heap.size w w' := by
  obtain ⟨oa, oc, va, vc, ha, hc, rfl, rfl, rfl⟩ := trio_form hA
  have HB0 : Hid (Below w.heap.size w (w.alloc (.cells #[.slice oa s.ops.length oc, .slice va s.vals.length vc, .int .i64 s.steps, .slice ha s.heads.length hc] 28))) := (Below.refl _ w).alloc (Nat.le_refl _) _
  have HX0 : Hid (Blk (w.alloc (.cells #[.slice oa s.ops.length oc, .slice va s.vals.length vc, .int .i64 s.steps, .slice ha s.heads.length hc] 28)) w.heap.size #[.slice oa s.ops.length oc, .slice va s.vals.length vc, .int .i64 s.steps, .slice ha s.heads.length hc] 28) := Blk.made _ _ _
  have HA := hid hA
  have hwk := wakes_any (w.alloc (.cells #[.slice oa s.ops.length oc, .slice va s.vals.length vc, .int .i64 s.steps, .slice ha s.heads.length hc] 28))
  have hcp : ∀ w1, Below w.heap.size w w1 → _ := fun w1 hb => copy_any w1 v0 T (hT.on hb) z0
  have hst : ∀ w1 v, Lies w1 v T → _ := fun w1 v h => start_any w1 v T h
  have hrs : ∀ w1, Below w.heap.size w w1 → _ := fun w1 hb => rstart_any w1 v0 T (hT.on hb)
  have HF : Hid (Fine T) := by obtain ⟨_, _, _, _, _, hf, _⟩ := hT; exact hf
  have HSK := hid (startP_ok T)
  generalize startP T = SP at hst hrs HSK
  obtain ⟨ta, tc, rfl, _⟩ := hT
  have hrg : ∀ w1, Below w.heap.size w w1 → _ := fun w1 hb => rright_any w1 _ _ _ s.steps s.ops s.vals s.heads (HA.out.on hb).lies
  have hco : ∀ w1, Below w.heap.size w w1 → _ := fun w1 hb => rcopy_in w1 _ _ _ s (HA.out.on hb)
  clear hA z0
  go_enter Tryz.func3, Tryz.ntmps3
  go_upto_region 7 with (first
    | (go_at_call 9; refine hwk.mono ?_; clear hwk; rintro e w1 ⟨rfl, hb1⟩; have HB1 := hid (HB0.out.trans (hb1.mono HB0.out.size)); have HX1 := hid (HX0.out.on hb1 HX0.out.lt); clear HB0 HX0 hb1)
    | (go_at_call 11; refine (hcp _ HB1.out).mono ?_; clear hcp; rintro e w2 ⟨x2, rfl, hx2, hb2⟩; have hl2 := Owns.lies hx2 HF.out; obtain ⟨xa, xc, hxv, _⟩ := own_cells hx2; subst hxv; have HB2 := hid (HB1.out.trans (hb2.mono HB1.out.size)); have HX2 := hid (HX1.out.on hb2 HX1.out.lt); clear hb2 hx2)
    | (go_at_call 10; refine (hst _ _ hl2).mono ?_; clear hst; rintro e w3 ⟨sv3, rfl, ho3, hb3⟩; obtain ⟨p1, p2, p3, p4, p5, p6, hsv, q1, q2, q3⟩ := ho3.trio HSK.out; subst hsv; have HB3 := hid (HB2.out.trans (hb3.mono HB2.out.size)); have HX3 := hid (HX2.out.on hb3 HX2.out.lt); have A3 := bel_al w3 (.cells #[.slice p1 SP.1.ops.length p2, .slice p3 SP.1.vals.length p4, .int .i64 SP.1.steps, .slice p5 SP.1.heads.length p6] 28); have HM4 := hid (Blk.made w3 #[.slice p1 SP.1.ops.length p2, .slice p3 SP.1.vals.length p4, .int .i64 SP.1.steps, .slice p5 SP.1.heads.length p6] 28); have HB4 := hid (HB3.out.trans (A3.mono HB3.out.size)); have HX4 := hid (HX3.out.on A3 HX3.out.lt); have Q4 := hid (q1.on A3); have R4 := hid (q2.on A3); have S4 := hid (q3.on A3); clear hb3 ho3 q1 q2 q3 hl2 A3)
    | (go_at_call 12; refine (hrs _ HB4.out).mono ?_; clear hrs; rintro e w5 ⟨sv5, rfl, ho5, hb5⟩; obtain ⟨r1, r2, r3, r4, r5, r6, hsv, q1, q2, q3⟩ := ho5.trio HSK.out; subst hsv; have HB5 := hid (HB4.out.trans (hb5.mono HB4.out.size)); have HX5 := hid (HX4.out.on hb5 HX4.out.lt); have A5 := bel_al w5 (.cells #[.slice r1 SP.1.ops.length r2, .slice r3 SP.1.vals.length r4, .int .i64 SP.1.steps, .slice r5 SP.1.heads.length r6] 28); have HB6 := hid (HB5.out.trans (A5.mono HB5.out.size)); have HX6 := hid (HX5.out.on A5 HX5.out.lt); have hM6 := (HM4.out.on hb5 HM4.out.lt).on A5 (HM4.out.on hb5 HM4.out.lt).lt; have hN6 := Blk.made w5 #[.slice r1 SP.1.ops.length r2, .slice r3 SP.1.vals.length r4, .int .i64 SP.1.steps, .slice r5 SP.1.heads.length r6] 28; obtain ⟨m0, m1, m2, m3⟩ := four hM6; have hsm := rsame_any _ _ _ _ _ _ _ _ _ SP.1.steps _ ((Q4.out.on hb5).on A5) ((R4.out.on hb5).on A5) ((S4.out.on hb5).on A5) (q1.on A5) (q2.on A5) (q3.on A5); clear hb5 ho5 q1 q2 q3 A5 Q4 R4 S4 HM4 hM6 hN6)
    | (go_at_call 13; refine hsm.mono ?_; clear hsm; rintro e w7 ⟨rfl, hb7⟩; have HB7 := hid (HB6.out.trans (hb7.mono HB6.out.size)); have HX7 := hid (HX6.out.on hb7 HX6.out.lt); clear hb7))
  cases hR : stR s.steps s.ops s.vals s.heads with
  | true =>
    rw [hR] at hrg
    go_wp2_with fail
    have hB : Below w.heap.size w w7.drew := HB7.out.drew
    have hX : Blk w7.drew w.heap.size #[.slice oa s.ops.length oc, .slice va s.vals.length vc, .int .i64 s.steps, .slice ha s.heads.length hc] 28 := HX7.out
    have HC0 := four hX
    refine wp_region_m (fun w' => (w'.cell? ⟨w.heap.size, 0, none⟩ = some (.slice oa s.ops.length oc) ∧ w'.cell? ⟨w.heap.size, 1, none⟩ = some (.slice va s.vals.length vc) ∧ w'.cell? ⟨w.heap.size, 2, none⟩ = some (.int .i64 s.steps) ∧ w'.cell? ⟨w.heap.size, 3, none⟩ = some (.slice ha s.heads.length hc))) 100 (by kernel_rfl) ?_
    refine wpAnyM_pick (i := 0) (some 31) (v := ?vz1) rfl rfl (by kernel_rfl) (by kernel_rfl) (by kernel_rfl) (by kernel_rfl) (fun _ _ _ h => h) (Or.inl ⟨by rfl, ?hz1⟩) HC0 ?rz1
    case hz1 => intro w hSw; go_simp; try with_reducible rfl
    try simp only [Act.put, List.setIfInBounds_toArray, List.set_cons_zero, List.set_cons_succ]
    refine wpAnyM_pick (i := 4) (some 35) (v := ?vz2) rfl rfl (by kernel_rfl) (by kernel_rfl) (by kernel_rfl) (by kernel_rfl) (fun _ _ _ h => h) (Or.inl ⟨by rfl, ?hz2⟩) HC0 ?rz2
    case hz2 => intro w hSw; go_simp; try with_reducible rfl
    try simp only [Act.put, List.setIfInBounds_toArray, List.set_cons_zero, List.set_cons_succ]
    refine wpAnyM_one (i := 1) (by kernel_rfl) rfl (fun K hK => ?_)
    go_simp
    go_at_call 15
    refine (hco _ hB).mono ?_
    rintro e w8a ⟨svx, rfl, hox, hbx⟩
    obtain ⟨a1x, a2x, a3x, a4x, a5x, a6x, hsvx, hinx, hwfx, hlsx⟩ := hox.copy HA.out
    subst hsvx
    have hBx := hB.trans (hbx.mono hB.size)
    have hXx := hX.on hbx hX.lt
    have hckx := check7_any _ _ _ _ _ _ _ _ hlsx
    rw [hR] at hckx
    clear hox hbx hinx hwfx hlsx
    go_wp2_with fail
    refine hK.out _ _ (fun _ => four hXx) ?_
    clear hK K
    try simp only [Act.put, List.setIfInBounds_toArray, List.set_cons_zero, List.set_cons_succ]
    refine wpAnyM_one (i := 2) (by kernel_rfl) rfl (fun K hK => ?_)
    go_simp
    go_at_call 14
    refine hckx.mono ?_
    rintro e w8b ⟨rfl, hcx⟩
    have hBcx := hBx.trans (hcx.mono hBx.size)
    have hXcx := hXx.on hcx hXx.lt
    clear hckx hcx
    go_wp2_with fail
    refine hK.out _ _ (fun _ => four hXcx) ?_
    clear hK K
    try simp only [Act.put, List.setIfInBounds_toArray, List.set_cons_zero, List.set_cons_succ]
    refine wpAnyM_pick (i := 3) (some 34) (v := ?vz3) rfl rfl (by kernel_rfl) (by kernel_rfl) (by kernel_rfl) (by kernel_rfl) (fun _ _ _ h => h) (Or.inl ⟨by rfl, ?hz3⟩) (four hXcx) ?rz3
    case hz3 => intro w hSw; go_simp; try with_reducible rfl
    try simp only [Act.put, List.setIfInBounds_toArray, List.set_cons_zero, List.set_cons_succ]
    refine wpAnyM_one (i := 5) (by kernel_rfl) rfl (fun K hK => ?_)
    go_simp
    go_at_call 16
    refine (hrg _ hBcx).mono ?_
    rintro e w9 ⟨rfl, hb9⟩
    have hB9 := hBcx.trans (hb9.mono hBcx.size)
    have hX9 := hXcx.on hb9 hXcx.lt
    clear hb9
    go_wp2_with fail
    refine hK.out _ _ (fun _ => four hX9) ?_
    clear hK K
    try simp only [Act.put, List.setIfInBounds_toArray, List.set_cons_zero, List.set_cons_succ]
    refine wpAnyM_pick (i := 6) (some 37) (v := ?vz4) rfl rfl (by kernel_rfl) (by kernel_rfl) (by kernel_rfl) (by kernel_rfl) (fun _ _ _ h => h) (Or.inl ⟨by rfl, ?hz4⟩) (four hX9) ?rz4
    case hz4 => intro w hSw; go_simp; try with_reducible rfl
    try simp only [Act.put, List.setIfInBounds_toArray, List.set_cons_zero, List.set_cons_succ]
    refine wpAnyM_pick (i := 7) (some 38) (v := ?vz5) rfl rfl (by kernel_rfl) (by kernel_rfl) (by kernel_rfl) (by kernel_rfl) (fun _ _ _ h => h) (Or.inl ⟨by rfl, ?hz5⟩) (four hX9) ?rz5
    case hz5 => intro w hSw; go_simp; try with_reducible rfl
    try simp only [Act.put, List.setIfInBounds_toArray, List.set_cons_zero, List.set_cons_succ]
    refine wpAnyM_pick (i := 8) (some 39) (v := ?vz6) rfl rfl (by kernel_rfl) (by kernel_rfl) (by kernel_rfl) (by kernel_rfl) (fun _ _ _ h => h) (Or.inl ⟨by rfl, ?hz6⟩) (four hX9) ?rz6
    case hz6 => intro w hSw; go_simp; try with_reducible rfl
    try simp only [Act.put, List.setIfInBounds_toArray, List.set_cons_zero, List.set_cons_succ]
    refine wpAnyM_one (i := 9) (by kernel_rfl) rfl (fun K hK => ?_)
    go_simp
    go_at_call 16
    refine (hrg _ hB9).mono ?_
    rintro e w10 ⟨rfl, hb10⟩
    have hB10 := hB9.trans (hb10.mono hB9.size)
    have hX10 := hX9.on hb10 hX9.lt
    clear hb10
    go_wp2_with fail
    refine hK.out _ _ (fun _ => four hX10) ?_
    clear hK K
    try simp only [Act.put, List.setIfInBounds_toArray, List.set_cons_zero, List.set_cons_succ]
    refine wpAnyM_pick (i := 10) (some 41) (v := ?vz7) rfl rfl (by kernel_rfl) (by kernel_rfl) (by kernel_rfl) (by kernel_rfl) (fun _ _ _ h => h) (Or.inl ⟨by rfl, ?hz7⟩) (four hX10) ?rz7
    case hz7 => intro w hSw; go_simp; try with_reducible rfl
    try simp only [Act.put, List.setIfInBounds_toArray, List.set_cons_zero, List.set_cons_succ]
    refine wpAnyM_pick (i := 11) (some 42) (v := undef) rfl rfl (by kernel_rfl) (by kernel_rfl) (by kernel_rfl) (by kernel_rfl) (fun _ _ _ h => h) (Or.inr ⟨by rfl, rfl⟩) (four hX10) ?rz8
    try simp only [Act.put, List.setIfInBounds_toArray, List.set_cons_zero, List.set_cons_succ]
    refine wpAnyM_pick (i := 12) (some 43) (v := undef) rfl rfl (by kernel_rfl) (by kernel_rfl) (by kernel_rfl) (by kernel_rfl) (fun _ _ _ h => h) (Or.inr ⟨by rfl, rfl⟩) (four hX10) ?rz9
    try simp only [Act.put, List.setIfInBounds_toArray, List.set_cons_zero, List.set_cons_succ]
    refine wpAnyM_pick (i := 13) (some 44) (v := undef) rfl rfl (by kernel_rfl) (by kernel_rfl) (by kernel_rfl) (by kernel_rfl) (fun _ _ _ h => h) (Or.inr ⟨by rfl, rfl⟩) (four hX10) ?rz10
    try simp only [Act.put, List.setIfInBounds_toArray, List.set_cons_zero, List.set_cons_succ]
    refine wpAnyM_pick (i := 14) (some 45) (v := undef) rfl rfl (by kernel_rfl) (by kernel_rfl) (by kernel_rfl) (by kernel_rfl) (fun _ _ _ h => h) (Or.inr ⟨by rfl, rfl⟩) (four hX10) ?rz11
    try simp only [Act.put, List.setIfInBounds_toArray, List.set_cons_zero, List.set_cons_succ]
    refine wpAnyM_pick (i := 15) (some 46) (v := ?vz12) rfl rfl (by kernel_rfl) (by kernel_rfl) (by kernel_rfl) (by kernel_rfl) (fun _ _ _ h => h) (Or.inl ⟨by rfl, ?hz12⟩) (four hX10) ?rz12
    case hz12 => intro w hSw; go_simp; try with_reducible rfl
    try simp only [Act.put, List.setIfInBounds_toArray, List.set_cons_zero, List.set_cons_succ]
    refine wpAnyM_pick (i := 16) (some 47) (v := ?vz13) rfl rfl (by kernel_rfl) (by kernel_rfl) (by kernel_rfl) (by kernel_rfl) (fun _ _ _ h => h) (Or.inl ⟨by rfl, ?hz13⟩) (four hX10) ?rz13
    case hz13 => intro w hSw; go_simp; try with_reducible rfl
    try simp only [Act.put, List.setIfInBounds_toArray, List.set_cons_zero, List.set_cons_succ]
    refine wpAnyM_one (i := 17) (by kernel_rfl) rfl (fun K hK => ?_)
    go_simp
    refine hK.out _ _ (fun _ => four hX10) ?_
    clear hK K
    try simp only [Act.put, List.setIfInBounds_toArray, List.set_cons_zero, List.set_cons_succ]
    refine wpAnyM_done (by kernel_rfl) ?_ _
    try simp only [Act.put, List.setIfInBounds_toArray, List.set_cons_zero, List.set_cons_succ]
    go_wp2_with fail
    go_ret
    exact ⟨rfl, hB10⟩
  | false =>
    rw [hR] at hrg
    go_wp2_with fail
    have hB : Below w.heap.size w w7.drew := HB7.out.drew
    have hX : Blk w7.drew w.heap.size #[.slice oa s.ops.length oc, .slice va s.vals.length vc, .int .i64 s.steps, .slice ha s.heads.length hc] 28 := HX7.out
    have HC0 := four hX
    refine wp_region_m (fun w' => (w'.cell? ⟨w.heap.size, 0, none⟩ = some (.slice oa s.ops.length oc) ∧ w'.cell? ⟨w.heap.size, 1, none⟩ = some (.slice va s.vals.length vc) ∧ w'.cell? ⟨w.heap.size, 2, none⟩ = some (.int .i64 s.steps) ∧ w'.cell? ⟨w.heap.size, 3, none⟩ = some (.slice ha s.heads.length hc))) 100 (by kernel_rfl) ?_
    refine wpAnyM_pick (i := 0) (some 31) (v := ?vz14) rfl rfl (by kernel_rfl) (by kernel_rfl) (by kernel_rfl) (by kernel_rfl) (fun _ _ _ h => h) (Or.inl ⟨by rfl, ?hz14⟩) HC0 ?rz14
    case hz14 => intro w hSw; go_simp; try with_reducible rfl
    try simp only [Act.put, List.setIfInBounds_toArray, List.set_cons_zero, List.set_cons_succ]
    refine wpAnyM_pick (i := 4) (some 35) (v := ?vz15) rfl rfl (by kernel_rfl) (by kernel_rfl) (by kernel_rfl) (by kernel_rfl) (fun _ _ _ h => h) (Or.inl ⟨by rfl, ?hz15⟩) HC0 ?rz15
    case hz15 => intro w hSw; go_simp; try with_reducible rfl
    try simp only [Act.put, List.setIfInBounds_toArray, List.set_cons_zero, List.set_cons_succ]
    refine wpAnyM_one (i := 1) (by kernel_rfl) rfl (fun K hK => ?_)
    go_simp
    go_at_call 15
    refine (hco _ hB).mono ?_
    rintro e w8a ⟨svx, rfl, hox, hbx⟩
    obtain ⟨a1x, a2x, a3x, a4x, a5x, a6x, hsvx, hinx, hwfx, hlsx⟩ := hox.copy HA.out
    subst hsvx
    have hBx := hB.trans (hbx.mono hB.size)
    have hXx := hX.on hbx hX.lt
    have hckx := check7_any _ _ _ _ _ _ _ _ hlsx
    rw [hR] at hckx
    clear hox hbx hinx hwfx hlsx
    go_wp2_with fail
    refine hK.out _ _ (fun _ => four hXx) ?_
    clear hK K
    try simp only [Act.put, List.setIfInBounds_toArray, List.set_cons_zero, List.set_cons_succ]
    refine wpAnyM_one (i := 2) (by kernel_rfl) rfl (fun K hK => ?_)
    go_simp
    go_at_call 14
    refine hckx.mono ?_
    rintro e w8b ⟨rfl, hcx⟩
    have hBcx := hBx.trans (hcx.mono hBx.size)
    have hXcx := hXx.on hcx hXx.lt
    clear hckx hcx
    go_wp2_with fail
    refine hK.out _ _ (fun _ => four hXcx) ?_
    clear hK K
    try simp only [Act.put, List.setIfInBounds_toArray, List.set_cons_zero, List.set_cons_succ]
    refine wpAnyM_pick (i := 3) (some 34) (v := ?vz16) rfl rfl (by kernel_rfl) (by kernel_rfl) (by kernel_rfl) (by kernel_rfl) (fun _ _ _ h => h) (Or.inl ⟨by rfl, ?hz16⟩) (four hXcx) ?rz16
    case hz16 => intro w hSw; go_simp; try with_reducible rfl
    try simp only [Act.put, List.setIfInBounds_toArray, List.set_cons_zero, List.set_cons_succ]
    refine wpAnyM_one (i := 5) (by kernel_rfl) rfl (fun K hK => ?_)
    go_simp
    go_at_call 16
    refine (hrg _ hBcx).mono ?_
    rintro e w9 ⟨rfl, hb9⟩
    have hB9 := hBcx.trans (hb9.mono hBcx.size)
    have hX9 := hXcx.on hb9 hXcx.lt
    clear hb9
    go_wp2_with fail
    refine hK.out _ _ (fun _ => four hX9) ?_
    clear hK K
    try simp only [Act.put, List.setIfInBounds_toArray, List.set_cons_zero, List.set_cons_succ]
    refine wpAnyM_pick (i := 6) (some 37) (v := ?vz17) rfl rfl (by kernel_rfl) (by kernel_rfl) (by kernel_rfl) (by kernel_rfl) (fun _ _ _ h => h) (Or.inl ⟨by rfl, ?hz17⟩) (four hX9) ?rz17
    case hz17 => intro w hSw; go_simp; try with_reducible rfl
    try simp only [Act.put, List.setIfInBounds_toArray, List.set_cons_zero, List.set_cons_succ]
    refine wpAnyM_pick (i := 7) (some 38) (v := ?vz18) rfl rfl (by kernel_rfl) (by kernel_rfl) (by kernel_rfl) (by kernel_rfl) (fun _ _ _ h => h) (Or.inl ⟨by rfl, ?hz18⟩) (four hX9) ?rz18
    case hz18 => intro w hSw; go_simp; try with_reducible rfl
    try simp only [Act.put, List.setIfInBounds_toArray, List.set_cons_zero, List.set_cons_succ]
    refine wpAnyM_pick (i := 8) (some 39) (v := ?vz19) rfl rfl (by kernel_rfl) (by kernel_rfl) (by kernel_rfl) (by kernel_rfl) (fun _ _ _ h => h) (Or.inl ⟨by rfl, ?hz19⟩) (four hX9) ?rz19
    case hz19 => intro w hSw; go_simp; try with_reducible rfl
    try simp only [Act.put, List.setIfInBounds_toArray, List.set_cons_zero, List.set_cons_succ]
    refine wpAnyM_one (i := 9) (by kernel_rfl) rfl (fun K hK => ?_)
    go_simp
    go_at_call 16
    refine (hrg _ hB9).mono ?_
    rintro e w10 ⟨rfl, hb10⟩
    have hB10 := hB9.trans (hb10.mono hB9.size)
    have hX10 := hX9.on hb10 hX9.lt
    clear hb10
    go_wp2_with fail
    refine hK.out _ _ (fun _ => four hX10) ?_
    clear hK K
    try simp only [Act.put, List.setIfInBounds_toArray, List.set_cons_zero, List.set_cons_succ]
    refine wpAnyM_pick (i := 10) (some 41) (v := ?vz20) rfl rfl (by kernel_rfl) (by kernel_rfl) (by kernel_rfl) (by kernel_rfl) (fun _ _ _ h => h) (Or.inl ⟨by rfl, ?hz20⟩) (four hX10) ?rz20
    case hz20 => intro w hSw; go_simp; try with_reducible rfl
    try simp only [Act.put, List.setIfInBounds_toArray, List.set_cons_zero, List.set_cons_succ]
    refine wpAnyM_pick (i := 11) (some 42) (v := ?vz21) rfl rfl (by kernel_rfl) (by kernel_rfl) (by kernel_rfl) (by kernel_rfl) (fun _ _ _ h => h) (Or.inl ⟨by rfl, ?hz21⟩) (four hX10) ?rz21
    case hz21 => intro w hSw; go_simp; try with_reducible rfl
    try simp only [Act.put, List.setIfInBounds_toArray, List.set_cons_zero, List.set_cons_succ]
    refine wpAnyM_one (i := 12) (by kernel_rfl) rfl (fun K hK => ?_)
    go_simp
    go_at_call 15
    refine (hco _ hB10).mono ?_
    rintro e w11a ⟨svy, rfl, hoy, hby⟩
    obtain ⟨a1y, a2y, a3y, a4y, a5y, a6y, hsvy, hiny, hwfy, hlsy⟩ := hoy.copy HA.out
    subst hsvy
    have hBy := hB10.trans (hby.mono hB10.size)
    have hXy := hX10.on hby hX10.lt
    have hcky := check7_any _ _ _ _ _ _ _ _ hlsy
    rw [hR] at hcky
    clear hoy hby hiny hwfy hlsy
    go_wp2_with fail
    refine hK.out _ _ (fun _ => four hXy) ?_
    clear hK K
    try simp only [Act.put, List.setIfInBounds_toArray, List.set_cons_zero, List.set_cons_succ]
    refine wpAnyM_one (i := 13) (by kernel_rfl) rfl (fun K hK => ?_)
    go_simp
    go_at_call 14
    refine hcky.mono ?_
    rintro e w11b ⟨rfl, hcy⟩
    have hBcy := hBy.trans (hcy.mono hBy.size)
    have hXcy := hXy.on hcy hXy.lt
    clear hcky hcy
    go_wp2_with fail
    refine hK.out _ _ (fun _ => four hXcy) ?_
    clear hK K
    try simp only [Act.put, List.setIfInBounds_toArray, List.set_cons_zero, List.set_cons_succ]
    refine wpAnyM_pick (i := 14) (some 45) (v := ?vz22) rfl rfl (by kernel_rfl) (by kernel_rfl) (by kernel_rfl) (by kernel_rfl) (fun _ _ _ h => h) (Or.inl ⟨by rfl, ?hz22⟩) (four hXcy) ?rz22
    case hz22 => intro w hSw; go_simp; try with_reducible rfl
    try simp only [Act.put, List.setIfInBounds_toArray, List.set_cons_zero, List.set_cons_succ]
    refine wpAnyM_pick (i := 15) (some 46) (v := ?vz23) rfl rfl (by kernel_rfl) (by kernel_rfl) (by kernel_rfl) (by kernel_rfl) (fun _ _ _ h => h) (Or.inl ⟨by rfl, ?hz23⟩) (four hXcy) ?rz23
    case hz23 => intro w hSw; go_simp; try with_reducible rfl
    try simp only [Act.put, List.setIfInBounds_toArray, List.set_cons_zero, List.set_cons_succ]
    refine wpAnyM_pick (i := 16) (some 47) (v := ?vz24) rfl rfl (by kernel_rfl) (by kernel_rfl) (by kernel_rfl) (by kernel_rfl) (fun _ _ _ h => h) (Or.inl ⟨by rfl, ?hz24⟩) (four hXcy) ?rz24
    case hz24 => intro w hSw; go_simp; try with_reducible rfl
    try simp only [Act.put, List.setIfInBounds_toArray, List.set_cons_zero, List.set_cons_succ]
    refine wpAnyM_one (i := 17) (by kernel_rfl) rfl (fun K hK => ?_)
    go_simp
    refine hK.out _ _ (fun _ => four hXcy) ?_
    clear hK K
    try simp only [Act.put, List.setIfInBounds_toArray, List.set_cons_zero, List.set_cons_succ]
    refine wpAnyM_done (by kernel_rfl) ?_ _
    try simp only [Act.put, List.setIfInBounds_toArray, List.set_cons_zero, List.set_cons_succ]
    go_wp2_with fail
    go_ret
    exact ⟨rfl, hBcy⟩

theorem rewriteStarts_own : ownKnob Tryz.prog.godebug = none := by kernel_rfl
theorem rewriteStarts_laidOut : laidOutB Tryz.prog = true := by kernel_rfl

set_option maxRecDepth 100000 in
theorem rewriteStarts_lifted (os : Os) (started : os.Started) (H : Type) (enc : TypeId × Value → H) :
    ReturnsInHanded {} Tryz.checked os 3 .any (Rows.rewriteStartsSpec.pre6 enc Tryz.prog Tryz.f3 Rows.rewriteStartsRow.domain false) (Rows.rewriteStartsSpec.post enc Tryz.prog Tryz.f3 false true false false) := by
  refine returnsInHanded_of_change_sized (C := Tryz.checked) rewriteStarts_own started (by kernel_rfl) Tryz.func3
    (ChangeSpec.witness6 (enc := enc) (C := Tryz.checked) false ⟨#[], #[.slice none 0 0, .agg #[.slice none 0 0, .slice none 0 0, .int .i64 0, .slice none 0 0]], []⟩ 8 (by kernel_rfl) (by kernel_rfl) (by kernel_rfl) (by kernel_rfl)) ?_
  intro W base args ds gs before hval0 hW hcnd hsz0 _
  have hsz : (DataW.weightsEach Tryz.prog (Tryz.f3.params.toList ++ Rows.rewriteStartsSpec.plain.varTypes Tryz.prog) (ds ++ gs)).all (· ≤ reachBytes) = true := hsz0
  have hval : ∀ (j : Nat) t v, Tryz.f3.params[j]? = some t → args[j]? = some v → Value.okWide Tryz.prog W .any base t v := hval0
  have hW' := hW
  obtain ⟨p, q, hA0, hV, rfl, hfz, hnd⟩ := hW
  have hA : DataW.TrodAll enc Tryz.prog W 0 (fun _ => true) true Tryz.f3.params.toList args.toList ds p := hA0
  rw [Tryz.params3] at hA hval hsz
  obtain ⟨v0, vs0, d0, ds0, p0, q0, hargs, rfl, rfl, h0, r0⟩ := trodAll_cons hA
  obtain ⟨v1, vs1, d1, ds1, p1, q1, rfl, rfl, rfl, h1, r1⟩ := trodAll_cons r0
  obtain ⟨rfl, rfl, rfl⟩ := trodAll_nil r1
  obtain rfl : args = #[v0, v1] := by cases args; simp_all
  obtain ⟨rfl, rfl⟩ := trodVars_none hV
  have k0 := h0
  have lt0 : ∀ x ∈ p0, x.block < W.heap.size := by obtain ⟨m, hm⟩ := k0; exact DataW.trod_lt m _ _ _ hm
  have k1 := h1
  have lt1 : ∀ x ∈ p1, x.block < W.heap.size := by obtain ⟨m, hm⟩ := k1; exact DataW.trod_lt m _ _ _ hm
  obtain ⟨L0, l0, z0⟩ := open_cells (hval 0 23 v0 rfl rfl) h0 (fun n hn => by simpa using List.all_eq_true.1 hsz n (DataW.weights_mem_each (j := 0) (t := 23) rfl rfl n hn))
  obtain ⟨x1a, x1b, x1c, S1, rfl, l1⟩ := open_state (hval 1 28 v1 rfl rfl) h1 (fun n hn => by simpa using List.all_eq_true.1 hsz n (DataW.weights_mem_each (j := 1) (t := 28) rfl rfl n hn))
  clear hA0 hval0
  refine (rewriteStarts_walk v0 L0 x1a x1b x1c S1 W l0 z0 l1).mono fun e W' ⟨he, bel⟩ => ?_
  subst he
  exact ⟨_, rfl, _, _, _, [], _, [], hW', trodAll_mk1 (shut_bool Tryz.underlying4 _), (trodAll_cons_mk (Below.trod rewriteStarts_laidOut (by kernel_rfl) (of_decide_eq_true (by kernel_rfl)) k0 bel lt0) (trodAll_cons_mk (Below.trod rewriteStarts_laidOut (by kernel_rfl) (of_decide_eq_true (by kernel_rfl)) k1 bel lt1) trodAll_mk0)), rfl, bel.frame _, fun h => by cases h⟩

theorem rewriteStarts_holds : Rows.RewriteStartsSaid :=
  OpenClaim.holds_of_wide 3 Tryz.f3 rfl rfl rfl rfl rfl rfl rfl ⟨rfl, rfl, rfl, rfl, rfl⟩ rfl rfl rfl rfl rfl (by kernel_rfl) Tryz.func3 (by kernel_rfl)
    (of_decide_eq_true (by kernel_rfl)) (by unfold Func.isWrapper; first | (rw [if_pos (by decide +kernel)]; kernel_rfl) | (rw [if_neg (by decide +kernel)]; exact ⟨rfl, rfl⟩))
    (fun os started H enc _ => rewriteStarts_lifted os started H enc)

#print axioms rewriteStarts_holds

end Go.Proofs.YtgijdhnkkbenoaaGreat
