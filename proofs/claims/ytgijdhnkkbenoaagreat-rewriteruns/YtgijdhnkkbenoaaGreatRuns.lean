/-
  Proved: whatever rules, state and fuel are handed in, the law RewriteRuns answers true and leaves them as they were; no conditions beyond those of the given row.
-/
import Derived.Test.YtgijdhnkkbenoaaGreatRows
import Derived.Test.YtgijdhnkkbenoaaGreatBO
import Derived.ProofKit
import Derived.OpenShut
import Derived.ShutString
import Derived.ChangeOld
import Derived.Below
import Derived.SizedLaws
import Derived.Lib.SmallJoins
namespace Go.Proofs.YtgijdhnkkbenoaaGreat
open Go.ChangeShapes Go.WideShapes Go.ChangeAt Go.RowKit Go.Joins
open Go.ChangeMaps (open_string shut_string)
set_option linter.unusedVariables false
set_option linter.unusedSimpArgs false
set_option maxRecDepth 100000


set_option maxHeartbeats 16000000 in
theorem rewriteRuns_walk (v0 : Value) (rs : List Rl) (ov vv hv : Value) (s : Stt) (fu : Int) (hwf0 : (Lit.int .i64 fu).wf = true) (w : World) (hr : LiesR w v0 rs) (hz : rs.length * 56 ≤ 140737488351232 ∧ ∀ r ∈ rs, r.l.length * 24 ≤ 140737488355328 ∧ r.r.length * 24 ≤ 140737488355328) (hA : StA w ov vv hv s) :
    Calls Tryz.prog 4 #[v0, .agg #[ov, vv, .int .i64 s.steps, hv], .int .i64 fu] w fun e w' => e = .returned (.bool true) ∧ Below w.heap.size w w' := by
  have hfu : -9223372036854775808 ≤ fu ∧ fu ≤ 9223372036854775807 := by have := bounds_i64 hwf0; omega
  clear hwf0
  obtain ⟨oa, oc, va, vc, ha, hc, rfl, rfl, rfl⟩ := trio_form hA
  have HB0 : Hid (Below w.heap.size w (w.alloc (.cells #[.slice oa s.ops.length oc, .slice va s.vals.length vc, .int .i64 s.steps, .slice ha s.heads.length hc] 28))) := (Below.refl _ w).alloc (Nat.le_refl _) _
  have HX0 : Hid (Blk (w.alloc (.cells #[.slice oa s.ops.length oc, .slice va s.vals.length vc, .int .i64 s.steps, .slice ha s.heads.length hc] 28)) w.heap.size #[.slice oa s.ops.length oc, .slice va s.vals.length vc, .int .i64 s.steps, .slice ha s.heads.length hc] 28) := Blk.made _ _ _
  have HA := hid hA
  have HR := hid hr
  have hwk := wakes_any (w.alloc (.cells #[.slice oa s.ops.length oc, .slice va s.vals.length vc, .int .i64 s.steps, .slice ha s.heads.length hc] 28))
  have hfw : ∀ w1, Below w.heap.size w w1 → _ := fun w1 hb => few_any w1 v0 rs (HR.out.on hb) fu
  obtain ⟨ra, rc, hrv, _⟩ := id hr
  subst hrv
  by_cases hfew : rs.length ≤ 64 ∧ fu ≤ 300
  · rw [decide_eq_true hfew.1, decide_eq_true hfew.2] at hfw
    have hno := hA.no
    have hnv := hA.nv
    have hlim : s.ops.length + 8 * fu.toNat ≤ 2513169500000 := by omega
    have hlv : s.vals.length ≤ 7539508500002 := by omega
    have hlnum : s.vals.length + s.ops.length ≤ 9223372036854775000 := by omega
    have hru : ∀ w1, Below w.heap.size w w1 → _ := fun w1 hb => rules_any w1 _ rs (HR.out.on hb) (by omega) hz.2
    have hco : ∀ w1, Below w.heap.size w w1 → _ := fun w1 hb => rcopy_in w1 _ _ _ s (HA.out.on hb)
    have hrr : ∀ w1, Below w.heap.size w w1 → _ := fun w1 hb => rrun_any w1 _ (.slice none 0 0) rs (HR.out.on hb) noTb noTb_ok ⟨_, _, _, rfl⟩ (fun hok w2 hb2 => oneAt_nil w1.heap.size w2 hb2.size _ rs ((HR.out.on hb).on hb2) hok) _ _ _ s (HA.out.on hb) fu hfu hlim
    have HRF := hid hr.fine
    have HWF : Hid (StWf s) := ⟨fun o ho => (hA.lo.facts o ho).2, hA.st, hA.names⟩
    have HOKR := hid (runP_ok (rs := rs) noTb_ok (s := s) (fu := fu) hlim)
    obtain ⟨RP, hRP⟩ : ∃ RP, runP rs noTb s fu = RP := ⟨_, rfl⟩
    have HRP : Hid (runP rs noTb s fu = RP) := hRP
    rw [hRP] at HOKR hrr
    clear hr hA hRP hno hnv hz
    go_enter Tryz.func4, Tryz.ntmps4
    go_upto_region 5 with (first
      | (go_at_call 9; refine hwk.mono ?_; clear hwk; rintro e w1 ⟨rfl, hb1⟩; have HB1 := hid (HB0.out.trans (hb1.mono HB0.out.size)); have HX1 := hid (HX0.out.on hb1 HX0.out.lt); clear HB0 HX0 hb1)
      | (go_at_call 17; refine (hfw _ HB1.out).mono ?_; clear hfw; rintro e w2 ⟨rfl, rfl⟩))
    go_cut [7, 8] from 9 (fun s7 s8 wx => ∃ (p : Nat) (p1 : Option Addr) (p2 : Nat) (p3 : Option Addr) (p4 : Nat) (p5 : Option Addr) (p6 : Nat), s7 = .pointer (some ⟨p, 0, none⟩) ∧ s8 = .int .i64 (RP.2 : Nat) ∧ Blk wx w.heap.size #[.slice oa s.ops.length oc, .slice va s.vals.length vc, .int .i64 s.steps, .slice ha s.heads.length hc] 28 ∧ Below w.heap.size w wx ∧ Blk wx p #[.slice p1 RP.1.ops.length p2, .slice p3 RP.1.vals.length p4, .int .i64 RP.1.steps, .slice p5 RP.1.heads.length p6] 28 ∧ LSt wx (.agg #[.slice p1 RP.1.ops.length p2, .slice p3 RP.1.vals.length p4, .int .i64 RP.1.steps, .slice p5 RP.1.heads.length p6]) RP.1)
    case first =>
      have hB : Below w.heap.size w w1.drew := HB1.out.drew
      have hX : Blk w1.drew w.heap.size #[.slice oa s.ops.length oc, .slice va s.vals.length vc, .int .i64 s.steps, .slice ha s.heads.length hc] 28 := HX1.out
      have HC0 := four hX
      clear hrr
      refine wp_region_m (fun w' => (w'.cell? ⟨w.heap.size, 0, none⟩ = some (.slice oa s.ops.length oc) ∧ w'.cell? ⟨w.heap.size, 1, none⟩ = some (.slice va s.vals.length vc) ∧ w'.cell? ⟨w.heap.size, 2, none⟩ = some (.int .i64 s.steps) ∧ w'.cell? ⟨w.heap.size, 3, none⟩ = some (.slice ha s.heads.length hc))) 100 (by kernel_rfl) ?_
      generalize w1.drew = wd at hB hX HC0 ⊢
      refine wpAnyM_pick (i := 0) (some 18) (v := ?vz1) rfl rfl (by kernel_rfl) (by kernel_rfl) (by kernel_rfl) (by kernel_rfl) (fun _ _ _ h => h) (Or.inl ⟨by rfl, ?hz1⟩) HC0 ?rz1
      case hz1 => intro w hSw; go_simp; try with_reducible rfl
      try simp only [Act.put, List.setIfInBounds_toArray, List.set_cons_zero, List.set_cons_succ]
      refine wpAnyM_pick (i := 2) (some 20) (v := ?vz2) rfl rfl (by kernel_rfl) (by kernel_rfl) (by kernel_rfl) (by kernel_rfl) (fun _ _ _ h => h) (Or.inl ⟨by rfl, ?hz2⟩) HC0 ?rz2
      case hz2 => intro w hSw; go_simp; try with_reducible rfl
      try simp only [Act.put, List.setIfInBounds_toArray, List.set_cons_zero, List.set_cons_succ]
      refine wpAnyM_pick (i := 4) (some 22) (v := ?vz3) rfl rfl (by kernel_rfl) (by kernel_rfl) (by kernel_rfl) (by kernel_rfl) (fun _ _ _ h => h) (Or.inl ⟨by rfl, ?hz3⟩) HC0 ?rz3
      case hz3 => intro w hSw; go_simp; try with_reducible rfl
      try simp only [Act.put, List.setIfInBounds_toArray, List.set_cons_zero, List.set_cons_succ]
      refine wpAnyM_two (i := 1) (j := 9) (by kernel_rfl) rfl rfl (fun K hK => ?_) (fun K hK => ?_)
      · go_simp
        go_at_call 19
        refine (hru _ hB).mono ?_
        rintro e u1 ⟨rv1, rfl, ho1, hb1⟩
        have X1b := hX.on hb1 hX.lt
        have B1b := hB.trans (hb1.mono hB.size)
        have R1b := hid (ho1.lies HRF.out)
        obtain ⟨ra1, rc1, hrv1⟩ := ho1.form
        subst hrv1
        clear ho1
        go_wp2_with fail
        refine hK.out _ _ (fun _ => four X1b) ?_
        clear hK K
        try simp only [Act.put, List.setIfInBounds_toArray, List.set_cons_zero, List.set_cons_succ]
        refine wpAnyM_two (i := 3) (j := 9) (by kernel_rfl) rfl rfl (fun K hK => ?_) (fun K hK => ?_)
        · go_simp
          go_at_call 15
          refine (hco _ B1b).mono ?_
          rintro e u2 ⟨sv2, rfl, ho2, hb2⟩
          have X2b := X1b.on hb2 X1b.lt
          have B2b := B1b.trans (hb2.mono B1b.size)
          obtain ⟨b12, b22, b32, b42, b52, b62, hsv2, hin2, hwf2, hls2⟩ := ho2.copy HA.out
          subst hsv2
          have R2b := hid (R1b.out.on hb2)
          have I2b := hid hin2
          clear ho2 hin2 hwf2 hls2
          go_wp2_with fail
          refine hK.out _ _ (fun _ => four X2b) ?_
          clear hK K
          try simp only [Act.put, List.setIfInBounds_toArray, List.set_cons_zero, List.set_cons_succ]
          refine wpAnyM_two (i := 5) (j := 9) (by kernel_rfl) rfl rfl (fun K hK => ?_) (fun K hK => ?_)
          · go_simp
            go_at_call 18
            refine (run_wide _ _ rs R2b.out s _ _ _ I2b.out HWF.out fu hfu .nilIface (.inl rfl) noTb noTb_ok (ask_nil _) hlim hlv hlnum).mono ?_
            rw [HRP.out]
            rintro e u3 ⟨sv3, rfl, hO5, hb3⟩
            have X3b := X2b.on hb3 X2b.lt
            have B3b := B2b.trans (hb3.mono B2b.size)
            obtain ⟨p1, p2, p3, p4, p5, p6, hsv3, q13, q23, q33⟩ := hO5.trio HOKR.out
            subst hsv3
            have hL5 : LSt u3 _ RP.1 := ⟨_, _, _, _, _, _, rfl, q13, q23, q33⟩
            go_wp2_with fail
            refine hK.out _ _ (fun _ => four X3b) ?_
            clear hK K
            try simp only [Act.put, List.setIfInBounds_toArray, List.set_cons_zero, List.set_cons_succ]
            have A4 := bel_al u3 (.cells #[.slice p1 RP.1.ops.length p2, .slice p3 RP.1.vals.length p4, .int .i64 RP.1.steps, .slice p5 RP.1.heads.length p6] 28)
            have X4 := X3b.on A4 X3b.lt
            have B4 := B3b.trans (A4.mono B3b.size)
            have P4 := Blk.made u3 #[.slice p1 RP.1.ops.length p2, .slice p3 RP.1.vals.length p4, .int .i64 RP.1.steps, .slice p5 RP.1.heads.length p6] 28
            have L4 := hL5.on A4
            have A4z := bel_al u3 (.cells #[.slice none 0 0, .slice none 0 0, .int .i64 0, .slice none 0 0] 28)
            have X4z := X3b.on A4z X3b.lt
            refine wpAnyM_pick (i := 6) (some 17) (v := ?vz4) rfl rfl (by kernel_rfl) (by kernel_rfl) (by kernel_rfl) (by kernel_rfl) (fun _ _ _ h => h) (Or.inl ⟨by rfl, ?hz4⟩) (four X3b) ?rz4
            case hz4 => intro w hSw; go_simp; try with_reducible rfl
            try simp only [Act.put, List.setIfInBounds_toArray, List.set_cons_zero, List.set_cons_succ]
            refine wpAnyM_pick (i := 7) (some 24) (v := ?vz5) rfl rfl (by kernel_rfl) (by kernel_rfl) (by kernel_rfl) (by kernel_rfl) (fun _ _ _ h => h) (Or.inl ⟨by rfl, ?hz5⟩) (four X3b) ?rz5
            case hz5 => intro w hSw; go_simp; try with_reducible rfl
            try simp only [Act.put, List.setIfInBounds_toArray, List.set_cons_zero, List.set_cons_succ]
            refine wpAnyM_pick (i := 8) (some 25) (v := ?vz6) rfl rfl (by kernel_rfl) (by kernel_rfl) (by kernel_rfl) (by kernel_rfl) (fun _ _ _ h => h) (Or.inl ⟨by rfl, ?hz6⟩) (four X3b) ?rz6
            case hz6 => intro w hSw; go_simp; try with_reducible rfl
            try simp only [Act.put, List.setIfInBounds_toArray, List.set_cons_zero, List.set_cons_succ]
            refine wpAnyM_one (i := 9) (by kernel_rfl) rfl (fun K hK => ?_)
            go_simp
            refine hK.out _ _ (fun _ => four X4z) ?_
            clear hK K
            try simp only [Act.put, List.setIfInBounds_toArray, List.set_cons_zero, List.set_cons_succ]
            refine wpAnyM_one (i := 10) (by kernel_rfl) rfl (fun K hK => ?_)
            go_simp
            refine hK.out _ _ (fun _ => four X4) ?_
            clear hK K
            try simp only [Act.put, List.setIfInBounds_toArray, List.set_cons_zero, List.set_cons_succ]
            refine wpAnyM_one (i := 11) (by kernel_rfl) rfl (fun K hK => ?_)
            go_simp
            refine hK.out _ _ (fun _ => four X4) ?_
            clear hK K
            try simp only [Act.put, List.setIfInBounds_toArray, List.set_cons_zero, List.set_cons_succ]
            refine wpAnyM_done (by kernel_rfl) ?_ _
            try simp only [Act.put, List.setIfInBounds_toArray, List.set_cons_zero, List.set_cons_succ]
            go_wp2_with fail
            go_meet
            exact ⟨_, p1, p2, p3, p4, p5, p6, rfl, rfl, X4, B4, P4, L4⟩
          · have A3a := bel_al u2 (.cells #[.slice none 0 0, .slice none 0 0, .int .i64 0, .slice none 0 0] 28)
            have X3a := X2b.on A3a X2b.lt
            have B3a := B2b.trans (A3a.mono B2b.size)
            have P3a := Blk.made u2 #[.slice none 0 0, .slice none 0 0, .int .i64 0, .slice none 0 0] 28
            have hp3 := X2b.lt
            have R3a := hid (R2b.out.on A3a)
            have I3a := hid (I2b.out.on A3a)
            go_simp
            refine hK.out _ _ (fun _ => four X3a) ?_
            clear hK K
            try simp only [Act.put, List.setIfInBounds_toArray, List.set_cons_zero, List.set_cons_succ]
            refine wpAnyM_one (i := 5) (by kernel_rfl) rfl (fun K hK => ?_)
            go_simp
            go_at_call 18
            refine (run_wide _ _ rs R3a.out s _ _ _ I3a.out HWF.out fu hfu .nilIface (.inl rfl) noTb noTb_ok (ask_nil _) hlim hlv hlnum).mono ?_
            rw [HRP.out]
            rintro e u5 ⟨sv5, rfl, hO5, hb5⟩
            have X5b := X3a.on hb5 X3a.lt
            have B5b := B3a.trans (hb5.mono B3a.size)
            have P5b := P3a.on hb5 P3a.lt
            obtain ⟨p1, p2, p3, p4, p5, p6, hsv5, q15, q25, q35⟩ := hO5.trio HOKR.out
            subst hsv5
            have hL5 : LSt u5 _ RP.1 := ⟨_, _, _, _, _, _, rfl, q15, q25, q35⟩
            go_wp2_with fail
            refine hK.out _ _ (fun _ => four X5b) ?_
            clear hK K
            try simp only [Act.put, List.setIfInBounds_toArray, List.set_cons_zero, List.set_cons_succ]
            have a0 := P5b.cell (i := 0) rfl
            have z0 := P5b.free 0
            have m1 := P5b.set 0 (.slice p1 RP.1.ops.length p2)
            have a1 := m1.cell (i := 1) rfl
            have z1 := m1.free 1
            have m2 := m1.set 1 (.slice p3 RP.1.vals.length p4)
            have a2 := m2.cell (i := 2) rfl
            have z2 := m2.free 2
            have m3 := m2.set 2 (.int .i64 RP.1.steps)
            have a3 := m3.cell (i := 3) rfl
            have z3 := m3.free 3
            obtain ⟨hD, hg⟩ := set4 P5b (.slice p1 RP.1.ops.length p2) (.slice p3 RP.1.vals.length p4) (.int .i64 RP.1.steps) (.slice p5 RP.1.heads.length p6)
            have X6 := (hg.block _ X5b.lt (by simp; omega)).trans X5b
            have B6 := B5b.grown hg B5b.size (fun k hk => by cases hk; omega)
            have L6 := hO5.blk P5b hg
            obtain ⟨_, _, _, _, _, _, hsv6, l16, l26, l36⟩ := L6.trio HOKR.out
            simp only [Value.agg.injEq, Array.mk.injEq, List.cons.injEq, Value.slice.injEq, and_true, true_and] at hsv6
            obtain ⟨⟨rfl, rfl⟩, ⟨rfl, rfl⟩, rfl, rfl⟩ := hsv6
            refine wpAnyM_pick (i := 6) (some 17) (v := ?vz7) rfl rfl (by kernel_rfl) (by kernel_rfl) (by kernel_rfl) (by kernel_rfl) (fun _ _ _ h => h) (Or.inl ⟨by rfl, ?hz7⟩) (four X5b) ?rz7
            case hz7 => intro w hSw; go_simp; try with_reducible rfl
            try simp only [Act.put, List.setIfInBounds_toArray, List.set_cons_zero, List.set_cons_succ]
            refine wpAnyM_pick (i := 7) (some 24) (v := ?vz8) rfl rfl (by kernel_rfl) (by kernel_rfl) (by kernel_rfl) (by kernel_rfl) (fun _ _ _ h => h) (Or.inl ⟨by rfl, ?hz8⟩) (four X5b) ?rz8
            case hz8 => intro w hSw; go_simp; try with_reducible rfl
            try simp only [Act.put, List.setIfInBounds_toArray, List.set_cons_zero, List.set_cons_succ]
            refine wpAnyM_pick (i := 8) (some 25) (v := ?vz9) rfl rfl (by kernel_rfl) (by kernel_rfl) (by kernel_rfl) (by kernel_rfl) (fun _ _ _ h => h) (Or.inl ⟨by rfl, ?hz9⟩) (four X5b) ?rz9
            case hz9 => intro w hSw; go_simp; try with_reducible rfl
            try simp only [Act.put, List.setIfInBounds_toArray, List.set_cons_zero, List.set_cons_succ]
            refine wpAnyM_one (i := 10) (by kernel_rfl) rfl (fun K hK => ?_)
            go_simp
            refine hK.out _ _ (fun _ => four X6) ?_
            clear hK K
            try simp only [Act.put, List.setIfInBounds_toArray, List.set_cons_zero, List.set_cons_succ]
            refine wpAnyM_one (i := 11) (by kernel_rfl) rfl (fun K hK => ?_)
            go_simp
            refine hK.out _ _ (fun _ => four X6) ?_
            clear hK K
            try simp only [Act.put, List.setIfInBounds_toArray, List.set_cons_zero, List.set_cons_succ]
            refine wpAnyM_done (by kernel_rfl) ?_ _
            try simp only [Act.put, List.setIfInBounds_toArray, List.set_cons_zero, List.set_cons_succ]
            go_wp2_with fail
            go_meet
            exact ⟨_, p1, p2, p3, p4, p5, p6, rfl, rfl, X6, B6, hD, ⟨_, _, _, _, _, _, rfl, l16, l26, l36⟩⟩
        · have A2a := bel_al u1 (.cells #[.slice none 0 0, .slice none 0 0, .int .i64 0, .slice none 0 0] 28)
          have X2a := X1b.on A2a X1b.lt
          have B2a := B1b.trans (A2a.mono B1b.size)
          have P2a := Blk.made u1 #[.slice none 0 0, .slice none 0 0, .int .i64 0, .slice none 0 0] 28
          have hp2 := X1b.lt
          have R2a := hid (R1b.out.on A2a)
          go_simp
          refine hK.out _ _ (fun _ => four X2a) ?_
          clear hK K
          try simp only [Act.put, List.setIfInBounds_toArray, List.set_cons_zero, List.set_cons_succ]
          refine wpAnyM_one (i := 3) (by kernel_rfl) rfl (fun K hK => ?_)
          go_simp
          go_at_call 15
          refine (hco _ B2a).mono ?_
          rintro e u7 ⟨sv7, rfl, ho7, hb7⟩
          have X7b := X2a.on hb7 X2a.lt
          have B7b := B2a.trans (hb7.mono B2a.size)
          have P7b := P2a.on hb7 P2a.lt
          obtain ⟨b17, b27, b37, b47, b57, b67, hsv7, hin7, hwf7, hls7⟩ := ho7.copy HA.out
          subst hsv7
          have R7b := hid (R2a.out.on hb7)
          have I7b := hid hin7
          clear ho7 hin7 hwf7 hls7
          go_wp2_with fail
          refine hK.out _ _ (fun _ => four X7b) ?_
          clear hK K
          try simp only [Act.put, List.setIfInBounds_toArray, List.set_cons_zero, List.set_cons_succ]
          refine wpAnyM_one (i := 5) (by kernel_rfl) rfl (fun K hK => ?_)
          go_simp
          go_at_call 18
          refine (run_wide _ _ rs R7b.out s _ _ _ I7b.out HWF.out fu hfu .nilIface (.inl rfl) noTb noTb_ok (ask_nil _) hlim hlv hlnum).mono ?_
          rw [HRP.out]
          rintro e u8 ⟨sv8, rfl, hO5, hb8⟩
          have X8b := X7b.on hb8 X7b.lt
          have B8b := B7b.trans (hb8.mono B7b.size)
          have P8b := P7b.on hb8 P7b.lt
          obtain ⟨p1, p2, p3, p4, p5, p6, hsv8, q18, q28, q38⟩ := hO5.trio HOKR.out
          subst hsv8
          have hL5 : LSt u8 _ RP.1 := ⟨_, _, _, _, _, _, rfl, q18, q28, q38⟩
          go_wp2_with fail
          refine hK.out _ _ (fun _ => four X8b) ?_
          clear hK K
          try simp only [Act.put, List.setIfInBounds_toArray, List.set_cons_zero, List.set_cons_succ]
          have a0 := P8b.cell (i := 0) rfl
          have z0 := P8b.free 0
          have m1 := P8b.set 0 (.slice p1 RP.1.ops.length p2)
          have a1 := m1.cell (i := 1) rfl
          have z1 := m1.free 1
          have m2 := m1.set 1 (.slice p3 RP.1.vals.length p4)
          have a2 := m2.cell (i := 2) rfl
          have z2 := m2.free 2
          have m3 := m2.set 2 (.int .i64 RP.1.steps)
          have a3 := m3.cell (i := 3) rfl
          have z3 := m3.free 3
          obtain ⟨hD, hg⟩ := set4 P8b (.slice p1 RP.1.ops.length p2) (.slice p3 RP.1.vals.length p4) (.int .i64 RP.1.steps) (.slice p5 RP.1.heads.length p6)
          have X9 := (hg.block _ X8b.lt (by simp; omega)).trans X8b
          have B9 := B8b.grown hg B8b.size (fun k hk => by cases hk; omega)
          have L9 := hO5.blk P8b hg
          obtain ⟨_, _, _, _, _, _, hsv9, l19, l29, l39⟩ := L9.trio HOKR.out
          simp only [Value.agg.injEq, Array.mk.injEq, List.cons.injEq, Value.slice.injEq, and_true, true_and] at hsv9
          obtain ⟨⟨rfl, rfl⟩, ⟨rfl, rfl⟩, rfl, rfl⟩ := hsv9
          refine wpAnyM_pick (i := 6) (some 17) (v := ?vz10) rfl rfl (by kernel_rfl) (by kernel_rfl) (by kernel_rfl) (by kernel_rfl) (fun _ _ _ h => h) (Or.inl ⟨by rfl, ?hz10⟩) (four X8b) ?rz10
          case hz10 => intro w hSw; go_simp; try with_reducible rfl
          try simp only [Act.put, List.setIfInBounds_toArray, List.set_cons_zero, List.set_cons_succ]
          refine wpAnyM_pick (i := 7) (some 24) (v := ?vz11) rfl rfl (by kernel_rfl) (by kernel_rfl) (by kernel_rfl) (by kernel_rfl) (fun _ _ _ h => h) (Or.inl ⟨by rfl, ?hz11⟩) (four X8b) ?rz11
          case hz11 => intro w hSw; go_simp; try with_reducible rfl
          try simp only [Act.put, List.setIfInBounds_toArray, List.set_cons_zero, List.set_cons_succ]
          refine wpAnyM_pick (i := 8) (some 25) (v := ?vz12) rfl rfl (by kernel_rfl) (by kernel_rfl) (by kernel_rfl) (by kernel_rfl) (fun _ _ _ h => h) (Or.inl ⟨by rfl, ?hz12⟩) (four X8b) ?rz12
          case hz12 => intro w hSw; go_simp; try with_reducible rfl
          try simp only [Act.put, List.setIfInBounds_toArray, List.set_cons_zero, List.set_cons_succ]
          refine wpAnyM_one (i := 10) (by kernel_rfl) rfl (fun K hK => ?_)
          go_simp
          refine hK.out _ _ (fun _ => four X9) ?_
          clear hK K
          try simp only [Act.put, List.setIfInBounds_toArray, List.set_cons_zero, List.set_cons_succ]
          refine wpAnyM_one (i := 11) (by kernel_rfl) rfl (fun K hK => ?_)
          go_simp
          refine hK.out _ _ (fun _ => four X9) ?_
          clear hK K
          try simp only [Act.put, List.setIfInBounds_toArray, List.set_cons_zero, List.set_cons_succ]
          refine wpAnyM_done (by kernel_rfl) ?_ _
          try simp only [Act.put, List.setIfInBounds_toArray, List.set_cons_zero, List.set_cons_succ]
          go_wp2_with fail
          go_meet
          exact ⟨_, p1, p2, p3, p4, p5, p6, rfl, rfl, X9, B9, hD, ⟨_, _, _, _, _, _, rfl, l19, l29, l39⟩⟩
      · have A1a := bel_al wd (.cells #[.slice none 0 0, .slice none 0 0, .int .i64 0, .slice none 0 0] 28)
        have X1a := hX.on A1a hX.lt
        have B1a := hB.trans (A1a.mono hB.size)
        have P1a := Blk.made wd #[.slice none 0 0, .slice none 0 0, .int .i64 0, .slice none 0 0] 28
        have hp1 := hX.lt
        go_simp
        refine hK.out _ _ (fun _ => four X1a) ?_
        clear hK K
        try simp only [Act.put, List.setIfInBounds_toArray, List.set_cons_zero, List.set_cons_succ]
        refine wpAnyM_one (i := 1) (by kernel_rfl) rfl (fun K hK => ?_)
        go_simp
        go_at_call 19
        refine (hru _ B1a).mono ?_
        rintro e u10 ⟨rv10, rfl, ho10, hb10⟩
        have X10b := X1a.on hb10 X1a.lt
        have B10b := B1a.trans (hb10.mono B1a.size)
        have P10b := P1a.on hb10 P1a.lt
        have R10b := hid (ho10.lies HRF.out)
        obtain ⟨ra10, rc10, hrv10⟩ := ho10.form
        subst hrv10
        clear ho10
        go_wp2_with fail
        refine hK.out _ _ (fun _ => four X10b) ?_
        clear hK K
        try simp only [Act.put, List.setIfInBounds_toArray, List.set_cons_zero, List.set_cons_succ]
        refine wpAnyM_one (i := 3) (by kernel_rfl) rfl (fun K hK => ?_)
        go_simp
        go_at_call 15
        refine (hco _ B10b).mono ?_
        rintro e u11 ⟨sv11, rfl, ho11, hb11⟩
        have X11b := X10b.on hb11 X10b.lt
        have B11b := B10b.trans (hb11.mono B10b.size)
        have P11b := P10b.on hb11 P10b.lt
        obtain ⟨b111, b211, b311, b411, b511, b611, hsv11, hin11, hwf11, hls11⟩ := ho11.copy HA.out
        subst hsv11
        have R11b := hid (R10b.out.on hb11)
        have I11b := hid hin11
        clear ho11 hin11 hwf11 hls11
        go_wp2_with fail
        refine hK.out _ _ (fun _ => four X11b) ?_
        clear hK K
        try simp only [Act.put, List.setIfInBounds_toArray, List.set_cons_zero, List.set_cons_succ]
        refine wpAnyM_one (i := 5) (by kernel_rfl) rfl (fun K hK => ?_)
        go_simp
        go_at_call 18
        refine (run_wide _ _ rs R11b.out s _ _ _ I11b.out HWF.out fu hfu .nilIface (.inl rfl) noTb noTb_ok (ask_nil _) hlim hlv hlnum).mono ?_
        rw [HRP.out]
        rintro e u12 ⟨sv12, rfl, hO5, hb12⟩
        have X12b := X11b.on hb12 X11b.lt
        have B12b := B11b.trans (hb12.mono B11b.size)
        have P12b := P11b.on hb12 P11b.lt
        obtain ⟨p1, p2, p3, p4, p5, p6, hsv12, q112, q212, q312⟩ := hO5.trio HOKR.out
        subst hsv12
        have hL5 : LSt u12 _ RP.1 := ⟨_, _, _, _, _, _, rfl, q112, q212, q312⟩
        go_wp2_with fail
        refine hK.out _ _ (fun _ => four X12b) ?_
        clear hK K
        try simp only [Act.put, List.setIfInBounds_toArray, List.set_cons_zero, List.set_cons_succ]
        have a0 := P12b.cell (i := 0) rfl
        have z0 := P12b.free 0
        have m1 := P12b.set 0 (.slice p1 RP.1.ops.length p2)
        have a1 := m1.cell (i := 1) rfl
        have z1 := m1.free 1
        have m2 := m1.set 1 (.slice p3 RP.1.vals.length p4)
        have a2 := m2.cell (i := 2) rfl
        have z2 := m2.free 2
        have m3 := m2.set 2 (.int .i64 RP.1.steps)
        have a3 := m3.cell (i := 3) rfl
        have z3 := m3.free 3
        obtain ⟨hD, hg⟩ := set4 P12b (.slice p1 RP.1.ops.length p2) (.slice p3 RP.1.vals.length p4) (.int .i64 RP.1.steps) (.slice p5 RP.1.heads.length p6)
        have X13 := (hg.block _ X12b.lt (by simp; omega)).trans X12b
        have B13 := B12b.grown hg B12b.size (fun k hk => by cases hk; omega)
        have L13 := hO5.blk P12b hg
        obtain ⟨_, _, _, _, _, _, hsv13, l113, l213, l313⟩ := L13.trio HOKR.out
        simp only [Value.agg.injEq, Array.mk.injEq, List.cons.injEq, Value.slice.injEq, and_true, true_and] at hsv13
        obtain ⟨⟨rfl, rfl⟩, ⟨rfl, rfl⟩, rfl, rfl⟩ := hsv13
        refine wpAnyM_pick (i := 6) (some 17) (v := ?vz13) rfl rfl (by kernel_rfl) (by kernel_rfl) (by kernel_rfl) (by kernel_rfl) (fun _ _ _ h => h) (Or.inl ⟨by rfl, ?hz13⟩) (four X12b) ?rz13
        case hz13 => intro w hSw; go_simp; try with_reducible rfl
        try simp only [Act.put, List.setIfInBounds_toArray, List.set_cons_zero, List.set_cons_succ]
        refine wpAnyM_pick (i := 7) (some 24) (v := ?vz14) rfl rfl (by kernel_rfl) (by kernel_rfl) (by kernel_rfl) (by kernel_rfl) (fun _ _ _ h => h) (Or.inl ⟨by rfl, ?hz14⟩) (four X12b) ?rz14
        case hz14 => intro w hSw; go_simp; try with_reducible rfl
        try simp only [Act.put, List.setIfInBounds_toArray, List.set_cons_zero, List.set_cons_succ]
        refine wpAnyM_pick (i := 8) (some 25) (v := ?vz15) rfl rfl (by kernel_rfl) (by kernel_rfl) (by kernel_rfl) (by kernel_rfl) (fun _ _ _ h => h) (Or.inl ⟨by rfl, ?hz15⟩) (four X12b) ?rz15
        case hz15 => intro w hSw; go_simp; try with_reducible rfl
        try simp only [Act.put, List.setIfInBounds_toArray, List.set_cons_zero, List.set_cons_succ]
        refine wpAnyM_one (i := 10) (by kernel_rfl) rfl (fun K hK => ?_)
        go_simp
        refine hK.out _ _ (fun _ => four X13) ?_
        clear hK K
        try simp only [Act.put, List.setIfInBounds_toArray, List.set_cons_zero, List.set_cons_succ]
        refine wpAnyM_one (i := 11) (by kernel_rfl) rfl (fun K hK => ?_)
        go_simp
        refine hK.out _ _ (fun _ => four X13) ?_
        clear hK K
        try simp only [Act.put, List.setIfInBounds_toArray, List.set_cons_zero, List.set_cons_succ]
        refine wpAnyM_done (by kernel_rfl) ?_ _
        try simp only [Act.put, List.setIfInBounds_toArray, List.set_cons_zero, List.set_cons_succ]
        go_wp2_with fail
        go_meet
        exact ⟨_, p1, p2, p3, p4, p5, p6, rfl, rfl, X13, B13, hD, ⟨_, _, _, _, _, _, rfl, l113, l213, l313⟩⟩
    case rest =>
      obtain ⟨p, p1, p2, p3, p4, p5, p6, rfl, rfl, hX, hB, hP, hL⟩ := hcut
      have HX := hid hX
      have HB := hid hB
      have HP := hid hP
      have HL := hid hL
      obtain ⟨x0, x1, x2, x3⟩ := four hX
      clear hX hB hP hL hru hco HB1 HX1
      go_wp2_with (first
        | (go_at_call 20; refine (hrr _ HB.out).mono ?_; clear hrr; rintro e w3 ⟨sv3, rfl, hl3, hb3⟩; have hs3 := hl3.lst HOKR.out; obtain ⟨r1, r2, r3, r4, r5, r6, hsv3, _⟩ := id hs3; subst hsv3; have A4 := bel_al w3 (.cells #[.slice r1 RP.1.ops.length r2, .slice r3 RP.1.vals.length r4, .int .i64 RP.1.steps, .slice r5 RP.1.heads.length r6] 28); have HB4 := hid ((HB.out.trans (hb3.mono HB.out.size)).trans (A4.mono (HB.out.trans (hb3.mono HB.out.size)).size)); have hP4 := (HP.out.on hb3 HP.out.lt).on A4 (HP.out.on hb3 HP.out.lt).lt; obtain ⟨y0, y1, y2, y3⟩ := four hP4; obtain ⟨_, _, _, _, _, _, e5, q1, q2, q3⟩ := (HL.out.on hb3).on A4; obtain ⟨_, _, _, _, _, _, e6, t1, t2, t3⟩ := hs3.on A4; simp only [Value.agg.injEq, Array.mk.injEq, List.cons.injEq, Value.slice.injEq, and_true, true_and] at e5 e6; obtain ⟨⟨rfl, rfl⟩, ⟨rfl, rfl⟩, rfl, rfl⟩ := e5; obtain ⟨⟨rfl, rfl⟩, ⟨rfl, rfl⟩, rfl, rfl⟩ := e6; have hsm := rsame_any _ _ _ _ _ _ _ _ _ RP.1.steps _ q1 q2 q3 t1 t2 t3; clear q1 q2 q3 t1 t2 t3 hs3 hl3 hb3 A4)
        | (go_at_call 13; refine hsm.mono ?_; clear hsm; rintro e w5 ⟨rfl, hb5⟩; have HB5 := hid (HB4.out.trans (hb5.mono HB4.out.size)); clear hb5))
      go_ret
      exact ⟨rfl, HB5.out⟩
  · have hd : (decide (rs.length ≤ 64) && decide (fu ≤ 300)) = false := by
      cases h1 : decide (rs.length ≤ 64) with
      | false => rfl
      | true =>
        cases h2 : decide (fu ≤ 300) with
        | false => rfl
        | true => exact absurd ⟨of_decide_eq_true h1, of_decide_eq_true h2⟩ hfew
    rw [hd] at hfw
    clear hd hfew
    go_enter Tryz.func4, Tryz.ntmps4
    go_wp2_with (first
      | (go_at_call 9; refine hwk.mono ?_; clear hwk; rintro e w1 ⟨rfl, hb1⟩; have HB1 := hid (HB0.out.trans (hb1.mono HB0.out.size)); clear hb1)
      | (go_at_call 17; refine (hfw _ HB1.out).mono ?_; clear hfw; rintro e w2 ⟨rfl, rfl⟩))
    go_ret
    exact ⟨rfl, HB1.out⟩

theorem rewriteRuns_own : ownKnob Tryz.prog.godebug = none := by kernel_rfl
theorem rewriteRuns_laidOut : laidOutB Tryz.prog = true := by kernel_rfl

set_option maxRecDepth 100000 in
theorem rewriteRuns_lifted (os : Os) (started : os.Started) (H : Type) (enc : TypeId × Value → H) :
    ReturnsInHanded {} Tryz.checked os 4 .any (Rows.rewriteRunsSpec.pre6 enc Tryz.prog Tryz.f4 Rows.rewriteRunsRow.domain false) (Rows.rewriteRunsSpec.post enc Tryz.prog Tryz.f4 false true false false) := by
  refine returnsInHanded_of_change_sized (C := Tryz.checked) rewriteRuns_own started (by kernel_rfl) Tryz.func4
    (ChangeSpec.witness6 (enc := enc) (C := Tryz.checked) false ⟨#[], #[.slice none 0 0, .agg #[.slice none 0 0, .slice none 0 0, .int .i64 0, .slice none 0 0], .int .i64 0], []⟩ 8 (by kernel_rfl) (by kernel_rfl) (by kernel_rfl) (by kernel_rfl)) ?_
  intro W base args ds gs before hval0 hW hcnd hsz0 _
  have hsz : (DataW.weightsEach Tryz.prog (Tryz.f4.params.toList ++ Rows.rewriteRunsSpec.plain.varTypes Tryz.prog) (ds ++ gs)).all (· ≤ reachBytes) = true := hsz0
  have hval : ∀ (j : Nat) t v, Tryz.f4.params[j]? = some t → args[j]? = some v → Value.okWide Tryz.prog W .any base t v := hval0
  have hW' := hW
  obtain ⟨p, q, hA0, hV, rfl, hfz, hnd⟩ := hW
  have hA : DataW.TrodAll enc Tryz.prog W 0 (fun _ => true) true Tryz.f4.params.toList args.toList ds p := hA0
  rw [Tryz.params4] at hA hval hsz
  obtain ⟨v0, vs0, d0, ds0, p0, q0, hargs, rfl, rfl, h0, r0⟩ := trodAll_cons hA
  obtain ⟨v1, vs1, d1, ds1, p1, q1, rfl, rfl, rfl, h1, r1⟩ := trodAll_cons r0
  obtain ⟨v2, vs2, d2, ds2, p2, q2, rfl, rfl, rfl, h2, r2⟩ := trodAll_cons r1
  obtain ⟨rfl, rfl, rfl⟩ := trodAll_nil r2
  obtain rfl : args = #[v0, v1, v2] := by cases args; simp_all
  obtain ⟨rfl, rfl⟩ := trodVars_none hV
  have k0 := h0
  have lt0 : ∀ x ∈ p0, x.block < W.heap.size := by obtain ⟨m, hm⟩ := k0; exact DataW.trod_lt m _ _ _ hm
  have k1 := h1
  have lt1 : ∀ x ∈ p1, x.block < W.heap.size := by obtain ⟨m, hm⟩ := k1; exact DataW.trod_lt m _ _ _ hm
  have k2 := h2
  have lt2 : ∀ x ∈ p2, x.block < W.heap.size := by obtain ⟨m, hm⟩ := k2; exact DataW.trod_lt m _ _ _ hm
  obtain ⟨L0, l0, z0⟩ := open_rules (hval 0 41 v0 rfl rfl) h0 (fun n hn => by simpa using List.all_eq_true.1 hsz n (DataW.weights_mem_each (j := 0) (t := 41) rfl rfl n hn))
  obtain ⟨x1a, x1b, x1c, S1, rfl, l1⟩ := open_state (hval 1 28 v1 rfl rfl) h1 (fun n hn => by simpa using List.all_eq_true.1 hsz n (DataW.weights_mem_each (j := 1) (t := 28) rfl rfl n hn))
  obtain ⟨a2, rfl, rfl, rfl, w2⟩ := open_int Tryz.underlying3 (hval 2 3 v2 rfl rfl) h2
  clear hA0 hval0
  refine (rewriteRuns_walk v0 L0 x1a x1b x1c S1 a2 w2 W l0 z0 l1).mono fun e W' ⟨he, bel⟩ => ?_
  subst he
  exact ⟨_, rfl, _, _, _, [], _, [], hW', trodAll_mk1 (shut_bool Tryz.underlying4 _), (trodAll_cons_mk (Below.trod rewriteRuns_laidOut (by kernel_rfl) (of_decide_eq_true (by kernel_rfl)) k0 bel lt0) (trodAll_cons_mk (Below.trod rewriteRuns_laidOut (by kernel_rfl) (of_decide_eq_true (by kernel_rfl)) k1 bel lt1) (trodAll_cons_mk (Below.trod rewriteRuns_laidOut (by kernel_rfl) (of_decide_eq_true (by kernel_rfl)) k2 bel lt2) trodAll_mk0))), rfl, bel.frame _, fun h => by cases h⟩

theorem rewriteRuns_holds : Rows.RewriteRunsSaid :=
  OpenClaim.holds_of_wide 4 Tryz.f4 rfl rfl rfl rfl rfl rfl rfl ⟨rfl, rfl, rfl, rfl, rfl⟩ rfl rfl rfl rfl rfl (by kernel_rfl) Tryz.func4 (by kernel_rfl)
    (of_decide_eq_true (by kernel_rfl)) (by unfold Func.isWrapper; first | (rw [if_pos (by decide +kernel)]; kernel_rfl) | (rw [if_neg (by decide +kernel)]; exact ⟨rfl, rfl⟩))
    (fun os started H enc _ => rewriteRuns_lifted os started H enc)

#print axioms rewriteRuns_holds

end Go.Proofs.YtgijdhnkkbenoaaGreat
