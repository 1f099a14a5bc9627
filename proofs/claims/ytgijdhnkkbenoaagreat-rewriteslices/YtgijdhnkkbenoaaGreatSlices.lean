/-
  Proved: whatever rules, term and pair of fuels are handed in, the law RewriteSlices answers true and leaves them as they were; no conditions beyond those of the given row.
-/
import Derived.Test.YtgijdhnkkbenoaaGreatRows
import Derived.Test.YtgijdhnkkbenoaaGreatBU
import Derived.Test.YtgijdhnkkbenoaaGreatPair
import Derived.ProofKit
import Derived.OpenShut
import Derived.ShutString
import Derived.ChangeOld
import Derived.Below
import Derived.SizedLaws
import Derived.Lib.SmallJoins
namespace Go.Proofs.YtgijdhnkkbenoaaGreat
open Go.ChangeShapes Go.WideShapes Go.ChangeAt Go.RowKit Go.Joins
open Go.ChangeMaps (open_string shut_string)
set_option linter.unusedVariables false
set_option linter.unusedSimpArgs false
set_option maxRecDepth 100000


set_option maxHeartbeats 16000000 in
theorem rewriteSlices_walk (v0 : Value) (rs : List Rl) (v1 : Value) (T : List Cl) (a b : Int) (wa : (Lit.int .u8 a).wf = true) (wb : (Lit.int .u8 b).wf = true) (w : World) (hr : LiesR w v0 rs) (hz : rs.length * 56 ≤ 140737488351232 ∧ ∀ r ∈ rs, r.l.length * 24 ≤ 140737488355328 ∧ r.r.length * 24 ≤ 140737488355328) (hT : Lies w v1 T) (z1 : T.length * 24 ≤ 140737488355328) :
    Calls Tryz.prog 8 #[v0, v1, .agg #[.int .u8 a, .int .u8 b]] w fun e w' => e = .returned (.bool true) ∧ Below w.heap.size w w' := by
  have ha : 0 ≤ a ∧ a ≤ 255 := by have := bounds_u8 wa; omega
  have hb : 0 ≤ b ∧ b ≤ 255 := by have := bounds_u8 wb; omega
  clear wa wb
  have HB0 : Hid (Below w.heap.size w (w.alloc (.cells #[.int .u8 a, .int .u8 b] 66))) := (Below.refl _ w).alloc (Nat.le_refl _) _
  have HX0 : Hid (Blk (w.alloc (.cells #[.int .u8 a, .int .u8 b] 66)) w.heap.size #[.int .u8 a, .int .u8 b] 66) := Blk.made _ _ _
  have HR := hid hr
  have HT := hid hT
  have hwk := wakes_any (w.alloc (.cells #[.int .u8 a, .int .u8 b] 66))
  have hfw : ∀ w1, Below w.heap.size w w1 → _ := fun w1 hb => few_any w1 v0 rs (HR.out.on hb) 0
  obtain ⟨ra, rc, hrv, _⟩ := id hr
  subst hrv
  obtain ⟨ta, tc, htv, _, _, hfT, _⟩ := id hT
  subst htv
  by_cases hfew : rs.length ≤ 64
  · rw [decide_eq_true hfew, decide_eq_true (by decide : (0 : Int) ≤ 300)] at hfw
    have hru : ∀ w1, Below w.heap.size w w1 → _ := fun w1 hb => rules_any w1 _ rs (HR.out.on hb) (by omega) hz.2
    have hcp : ∀ w1, Below w.heap.size w w1 → _ := fun w1 hb => copy_any w1 _ T (HT.out.on hb) z1
    have hto : ∀ w1, Below w.heap.size w w1 → _ := fun w1 hb => together_any w1 _ rs (HR.out.on hb)
    have hsa : ∀ w1 u, Lies w1 u T → _ := fun w1 u hu => start_any w1 u T hu
    have HRF := hid hr.fine
    have HFT := hid hfT
    have HSK := hid (startP_ok T)
    clear hr hT hz z1 hfT hfew
    obtain ⟨n, hn⟩ : ∃ n, a % 150 = n := ⟨_, rfl⟩
    obtain ⟨m, hm⟩ : ∃ m, b % 150 = m := ⟨_, rfl⟩
    have hn1 : 0 ≤ n ∧ n ≤ 149 := by omega
    have hm1 : 0 ≤ m ∧ m ≤ 149 := by omega
    obtain ⟨⟨s, e0⟩, hSP⟩ : ∃ SP, startP T = SP := ⟨_, rfl⟩
    rw [hSP] at hsa HSK
    have hz0 := @startP_zero T
    have hss := @small_start T
    rw [hSP] at hz0 hss
    dsimp only at hsa HSK hz0 hss
    by_cases he : e0 = 0
    · subst he
      have hg := (hz0 rfl).2.1
      have HSMs := hid (hss hg)
      clear hz0 hss
      by_cases hc : chkRs rs = 0
      · rw [hc] at hto
        obtain ⟨⟨x, f⟩, hx⟩ : ∃ r, runP rs noTb s n = r := ⟨_, rfl⟩
        have hsl := slices (x := x) (f := f) hc hg hn1 hm1 (by rw [hSP]; exact hx)
        rw [hSP] at hsl
        dsimp only at hsl
        obtain ⟨hxs, hslC, hslD⟩ := hsl
        have HXS := hid hxs
        have HRP9 := hid hx
        have HC := hid hslC
        have HD := hid hslD
        clear hxs hslC hslD hx hc hg hSP
        go_enter Tryz.func8, Tryz.ntmps8
        go_upto_region 5 with (first
          | (go_at_call 9; refine hwk.mono ?_; clear hwk; rintro e w1 ⟨rfl, hb1⟩; have HB1 := hid (HB0.out.trans (hb1.mono HB0.out.size)); have HX1 := HX0.out.on hb1 HX0.out.lt; have c0 : w1.cell? ⟨w.heap.size, 0, none⟩ = some (.int .u8 a) := HX1.cell (i := 0) rfl; have c1 : w1.cell? ⟨w.heap.size, 1, none⟩ = some (.int .u8 b) := HX1.cell (i := 1) rfl; clear HB0 HX0 hb1 HX1)
          | (go_at_call 17; refine (hfw _ HB1.out).mono ?_; clear hfw; rintro e w2 ⟨rfl, rfl⟩))
        go_cut [7, 8] from 20 (fun s7 s8 wx => s7 = .int .i64 n ∧ s8 = .int .i64 m ∧ Below w.heap.size w wx)
        case first =>
          go_quiet (fail)
          go_wp2_with fail
          go_meet
          exact ⟨rfl, rfl, HB1.out.trans ⟨rfl, rfl, rfl, Nat.le_refl _, fun _ _ => rfl⟩⟩
        obtain ⟨rfl, rfl, hB2⟩ := hcut
        have HB2 := hid hB2
        clear hB2 HB1 hn hm
        go_upto_region 9 with (first
          | (go_at_call 11; refine (hcp _ HB2.out).mono ?_; clear hcp; rintro e w3 ⟨x3, rfl, ho3, hb3⟩; have hl3 := Owns.lies ho3 HFT.out; obtain ⟨xa, xc, hxv, _⟩ := own_cells ho3; subst hxv; have HB3 := hid (HB2.out.trans (hb3.mono HB2.out.size)); have hq3 := hsa w3 _ hl3; clear hb3 ho3 hl3 hsa)
          | (go_at_call 10; refine hq3.mono ?_; clear hq3; rintro e w4 ⟨sv4, rfl, ho4, hb4⟩; obtain ⟨s1, s2, s3, s4, s5, s6, hsv, _⟩ := ho4.trio HSK.out; subst hsv; have A5 := bel_al w4 (.cells #[.slice s1 s.ops.length s2, .slice s3 s.vals.length s4, .int .i64 s.steps, .slice s5 s.heads.length s6] 28); have HB5 := hid ((HB3.out.trans (hb4.mono HB3.out.size)).trans (A5.mono (HB3.out.trans (hb4.mono HB3.out.size)).size)); have HX5 := hid (Blk.made w4 #[.slice s1 s.ops.length s2, .slice s3 s.vals.length s4, .int .i64 s.steps, .slice s5 s.heads.length s6] 28); have HS5 := hid ((ho4.base (Nat.zero_le _)).on A5); clear A5 hb4 ho4)
          | (go_at_call 23; refine (hto _ HB5.out).mono ?_; clear hto; rintro e w6 ⟨rfl, hb6⟩; have HB6 := hid (HB5.out.trans (hb6.mono HB5.out.size)); have HX6 := hid (HX5.out.on hb6 HX5.out.lt); have HS6 := hid (HS5.out.on hb6); clear hb6 HX5 HS5))
        skip
        go_cut [11, 12] from 20 (fun s11 s12 wx => ∃ (p : Nat) (p1 : Option Addr) (p2 : Nat) (p3 : Option Addr) (p4 : Nat) (p5 : Option Addr) (p6 : Nat), s11 = .pointer (some ⟨p, 0, none⟩) ∧ s12 = .int .i64 (f : Nat) ∧ Below w6.heap.size w6 wx ∧ Blk wx p #[.slice p1 x.ops.length p2, .slice p3 x.vals.length p4, .int .i64 x.steps, .slice p5 x.heads.length p6] 28 ∧ OutSt 0 wx (.agg #[.slice p1 x.ops.length p2, .slice p3 x.vals.length p4, .int .i64 x.steps, .slice p5 x.heads.length p6]) x)
        case first =>
          have HX := HX6
          have HS := HS6
          have HSM := HSMs
          have HBV := HB6
          have HRP := HRP9
          have HOKR := hid HXS.out.ok
          have hno := HSM.out.no
          have hnv := HSM.out.nv
          have hlv : s.vals.length ≤ 7539508500002 := by omega
          have hlnum : s.vals.length + s.ops.length ≤ 9223372036854775000 := by omega
          have hfb : -9223372036854775808 ≤ n ∧ n ≤ 9223372036854775807 := by omega
          have hlim : s.ops.length + 8 * (n).toNat ≤ 2513169500000 := by omega
          have hB : Below w6.heap.size w6 w6.drew := (Below.refl _ w6).drew
          have HC0 := four (HX.out.on hB HX.out.lt)
          refine wp_region_m (fun w' => (w'.cell? ⟨w4.heap.size, 0, none⟩ = some (.slice s1 s.ops.length s2) ∧ w'.cell? ⟨w4.heap.size, 1, none⟩ = some (.slice s3 s.vals.length s4) ∧ w'.cell? ⟨w4.heap.size, 2, none⟩ = some (.int .i64 s.steps) ∧ w'.cell? ⟨w4.heap.size, 3, none⟩ = some (.slice s5 s.heads.length s6))) 100 (by kernel_rfl) ?_
          generalize w6.drew = wd at hB HC0 ⊢
          refine wpAnyM_pick (i := 0) (some 47) (v := ?vz1) rfl rfl (by kernel_rfl) (by kernel_rfl) (by kernel_rfl) (by kernel_rfl) (fun _ _ _ h => h) (Or.inl ⟨by rfl, ?hz1⟩) HC0 ?rz1
          case hz1 => intro w hSw; go_simp; try with_reducible rfl
          try simp only [Act.put, List.setIfInBounds_toArray, List.set_cons_zero, List.set_cons_succ]
          refine wpAnyM_pick (i := 2) (some 49) (v := ?vz2) rfl rfl (by kernel_rfl) (by kernel_rfl) (by kernel_rfl) (by kernel_rfl) (fun _ _ _ h => h) (Or.inl ⟨by rfl, ?hz2⟩) HC0 ?rz2
          case hz2 => intro w hSw; go_simp; try with_reducible rfl
          try simp only [Act.put, List.setIfInBounds_toArray, List.set_cons_zero, List.set_cons_succ]
          refine wpAnyM_pick (i := 4) (some 51) (v := ?vz3) rfl rfl (by kernel_rfl) (by kernel_rfl) (by kernel_rfl) (by kernel_rfl) (fun _ _ _ h => h) (Or.inl ⟨by rfl, ?hz3⟩) HC0 ?rz3
          case hz3 => intro w hSw; go_simp; try with_reducible rfl
          try simp only [Act.put, List.setIfInBounds_toArray, List.set_cons_zero, List.set_cons_succ]
          refine wpAnyM_two (i := 1) (j := 9) (by kernel_rfl) rfl rfl (fun K hK => ?_) (fun K hK => ?_)
          · go_simp
            go_at_call 19
            refine (hru _ (HBV.out.trans (hB.mono HBV.out.size))).mono ?_
            rintro e u1 ⟨rv1, rfl, ho1, hb1⟩
            have B1b := hB.trans (hb1.mono hB.size)
            have R1b := hid (ho1.lies HRF.out)
            obtain ⟨ra1, rc1, hrv1⟩ := ho1.form
            subst hrv1
            clear ho1
            go_wp2_with fail
            refine hK.out _ _ (fun _ => four (HX.out.on B1b HX.out.lt)) ?_
            clear hK K
            try simp only [Act.put, List.setIfInBounds_toArray, List.set_cons_zero, List.set_cons_succ]
            refine wpAnyM_two (i := 3) (j := 9) (by kernel_rfl) rfl rfl (fun K hK => ?_) (fun K hK => ?_)
            · go_simp
              go_at_call 15
              refine (rcopy_in _ _ _ _ s ((HS.out.on B1b).in2 HSM.out).1).mono ?_
              rintro e u2 ⟨sv2, rfl, ho2, hb2⟩
              have B2b := B1b.trans (hb2.mono B1b.size)
              obtain ⟨b12, b22, b32, b42, b52, b62, hsv2, _, hin2⟩ := ho2.sta HSM.out
              subst hsv2
              have R2b := hid (R1b.out.on hb2)
              have I2b := hid hin2
              clear ho2 hin2
              go_wp2_with fail
              refine hK.out _ _ (fun _ => four (HX.out.on B2b HX.out.lt)) ?_
              clear hK K
              try simp only [Act.put, List.setIfInBounds_toArray, List.set_cons_zero, List.set_cons_succ]
              refine wpAnyM_two (i := 5) (j := 9) (by kernel_rfl) rfl rfl (fun K hK => ?_) (fun K hK => ?_)
              · go_simp
                go_at_call 18
                refine (run_wide _ _ rs R2b.out s _ _ _ I2b.out HSM.out.wf n hfb .nilIface (.inl rfl) noTb noTb_ok (ask_nil _) hlim hlv hlnum).mono ?_
                rw [HRP.out]
                dsimp only
                rintro e u3 ⟨sv3, rfl, hO5, hb3⟩
                have B3b := B2b.trans (hb3.mono B2b.size)
                obtain ⟨p1, p2, p3, p4, p5, p6, hsv3, _⟩ := hO5.trio HOKR.out
                subst hsv3
                go_wp2_with fail
                refine hK.out _ _ (fun _ => four (HX.out.on B3b HX.out.lt)) ?_
                clear hK K
                try simp only [Act.put, List.setIfInBounds_toArray, List.set_cons_zero, List.set_cons_succ]
                have A4 := bel_al u3 (.cells #[.slice p1 x.ops.length p2, .slice p3 x.vals.length p4, .int .i64 x.steps, .slice p5 x.heads.length p6] 28)
                have B4 := B3b.trans (A4.mono B3b.size)
                have P4 := Blk.made u3 #[.slice p1 x.ops.length p2, .slice p3 x.vals.length p4, .int .i64 x.steps, .slice p5 x.heads.length p6] 28
                have L4 := (hO5.base (Nat.zero_le _)).on A4
                have A4z := bel_al u3 (.cells #[.slice none 0 0, .slice none 0 0, .int .i64 0, .slice none 0 0] 28)
                have B4z := B3b.trans (A4z.mono B3b.size)
                refine wpAnyM_pick (i := 6) (some 46) (v := ?vz4) rfl rfl (by kernel_rfl) (by kernel_rfl) (by kernel_rfl) (by kernel_rfl) (fun _ _ _ h => h) (Or.inl ⟨by rfl, ?hz4⟩) (four (HX.out.on B3b HX.out.lt)) ?rz4
                case hz4 => intro w hSw; go_simp; try with_reducible rfl
                try simp only [Act.put, List.setIfInBounds_toArray, List.set_cons_zero, List.set_cons_succ]
                refine wpAnyM_pick (i := 7) (some 53) (v := ?vz5) rfl rfl (by kernel_rfl) (by kernel_rfl) (by kernel_rfl) (by kernel_rfl) (fun _ _ _ h => h) (Or.inl ⟨by rfl, ?hz5⟩) (four (HX.out.on B3b HX.out.lt)) ?rz5
                case hz5 => intro w hSw; go_simp; try with_reducible rfl
                try simp only [Act.put, List.setIfInBounds_toArray, List.set_cons_zero, List.set_cons_succ]
                refine wpAnyM_pick (i := 8) (some 54) (v := ?vz6) rfl rfl (by kernel_rfl) (by kernel_rfl) (by kernel_rfl) (by kernel_rfl) (fun _ _ _ h => h) (Or.inl ⟨by rfl, ?hz6⟩) (four (HX.out.on B3b HX.out.lt)) ?rz6
                case hz6 => intro w hSw; go_simp; try with_reducible rfl
                try simp only [Act.put, List.setIfInBounds_toArray, List.set_cons_zero, List.set_cons_succ]
                refine wpAnyM_one (i := 9) (by kernel_rfl) rfl (fun K hK => ?_)
                go_simp
                refine hK.out _ _ (fun _ => four (HX.out.on B4z HX.out.lt)) ?_
                clear hK K
                try simp only [Act.put, List.setIfInBounds_toArray, List.set_cons_zero, List.set_cons_succ]
                refine wpAnyM_one (i := 10) (by kernel_rfl) rfl (fun K hK => ?_)
                go_simp
                refine hK.out _ _ (fun _ => four (HX.out.on B4 HX.out.lt)) ?_
                clear hK K
                try simp only [Act.put, List.setIfInBounds_toArray, List.set_cons_zero, List.set_cons_succ]
                refine wpAnyM_one (i := 11) (by kernel_rfl) rfl (fun K hK => ?_)
                go_simp
                refine hK.out _ _ (fun _ => four (HX.out.on B4 HX.out.lt)) ?_
                clear hK K
                try simp only [Act.put, List.setIfInBounds_toArray, List.set_cons_zero, List.set_cons_succ]
                refine wpAnyM_done (by kernel_rfl) ?_ _
                try simp only [Act.put, List.setIfInBounds_toArray, List.set_cons_zero, List.set_cons_succ]
                go_wp2_with fail
                go_meet
                exact ⟨_, p1, p2, p3, p4, p5, p6, rfl, rfl, B4, P4, L4⟩
              · have A3a := bel_al u2 (.cells #[.slice none 0 0, .slice none 0 0, .int .i64 0, .slice none 0 0] 28)
                have B3a := B2b.trans (A3a.mono B2b.size)
                have P3a := Blk.made u2 #[.slice none 0 0, .slice none 0 0, .int .i64 0, .slice none 0 0] 28
                have hp3 : w6.heap.size ≤ u2.heap.size := B2b.size
                have R3a := hid (R2b.out.on A3a)
                have I3a := hid (I2b.out.on A3a)
                go_simp
                refine hK.out _ _ (fun _ => four (HX.out.on B3a HX.out.lt)) ?_
                clear hK K
                try simp only [Act.put, List.setIfInBounds_toArray, List.set_cons_zero, List.set_cons_succ]
                refine wpAnyM_one (i := 5) (by kernel_rfl) rfl (fun K hK => ?_)
                go_simp
                go_at_call 18
                refine (run_wide _ _ rs R3a.out s _ _ _ I3a.out HSM.out.wf n hfb .nilIface (.inl rfl) noTb noTb_ok (ask_nil _) hlim hlv hlnum).mono ?_
                rw [HRP.out]
                dsimp only
                rintro e u5 ⟨sv5, rfl, hO5, hb5⟩
                have B5b := B3a.trans (hb5.mono B3a.size)
                have P5b := P3a.on hb5 P3a.lt
                obtain ⟨p1, p2, p3, p4, p5, p6, hsv5, _⟩ := hO5.trio HOKR.out
                subst hsv5
                go_wp2_with fail
                refine hK.out _ _ (fun _ => four (HX.out.on B5b HX.out.lt)) ?_
                clear hK K
                try simp only [Act.put, List.setIfInBounds_toArray, List.set_cons_zero, List.set_cons_succ]
                have a0 := P5b.cell (i := 0) rfl
                have z0 := P5b.free 0
                have m1 := P5b.set 0 (.slice p1 x.ops.length p2)
                have a1 := m1.cell (i := 1) rfl
                have z1 := m1.free 1
                have m2 := m1.set 1 (.slice p3 x.vals.length p4)
                have a2 := m2.cell (i := 2) rfl
                have z2 := m2.free 2
                have m3 := m2.set 2 (.int .i64 x.steps)
                have a3 := m3.cell (i := 3) rfl
                have z3 := m3.free 3
                obtain ⟨hD, hg⟩ := set4 P5b (.slice p1 x.ops.length p2) (.slice p3 x.vals.length p4) (.int .i64 x.steps) (.slice p5 x.heads.length p6)
                have B6 := B5b.grown hg B5b.size (fun k hk => by cases hk; omega)
                have L6 := (hO5.base (Nat.zero_le _)).blk P5b hg
                refine wpAnyM_pick (i := 6) (some 46) (v := ?vz7) rfl rfl (by kernel_rfl) (by kernel_rfl) (by kernel_rfl) (by kernel_rfl) (fun _ _ _ h => h) (Or.inl ⟨by rfl, ?hz7⟩) (four (HX.out.on B5b HX.out.lt)) ?rz7
                case hz7 => intro w hSw; go_simp; try with_reducible rfl
                try simp only [Act.put, List.setIfInBounds_toArray, List.set_cons_zero, List.set_cons_succ]
                refine wpAnyM_pick (i := 7) (some 53) (v := ?vz8) rfl rfl (by kernel_rfl) (by kernel_rfl) (by kernel_rfl) (by kernel_rfl) (fun _ _ _ h => h) (Or.inl ⟨by rfl, ?hz8⟩) (four (HX.out.on B5b HX.out.lt)) ?rz8
                case hz8 => intro w hSw; go_simp; try with_reducible rfl
                try simp only [Act.put, List.setIfInBounds_toArray, List.set_cons_zero, List.set_cons_succ]
                refine wpAnyM_pick (i := 8) (some 54) (v := ?vz9) rfl rfl (by kernel_rfl) (by kernel_rfl) (by kernel_rfl) (by kernel_rfl) (fun _ _ _ h => h) (Or.inl ⟨by rfl, ?hz9⟩) (four (HX.out.on B5b HX.out.lt)) ?rz9
                case hz9 => intro w hSw; go_simp; try with_reducible rfl
                try simp only [Act.put, List.setIfInBounds_toArray, List.set_cons_zero, List.set_cons_succ]
                refine wpAnyM_one (i := 10) (by kernel_rfl) rfl (fun K hK => ?_)
                go_simp
                refine hK.out _ _ (fun _ => four (HX.out.on B6 HX.out.lt)) ?_
                clear hK K
                try simp only [Act.put, List.setIfInBounds_toArray, List.set_cons_zero, List.set_cons_succ]
                refine wpAnyM_one (i := 11) (by kernel_rfl) rfl (fun K hK => ?_)
                go_simp
                refine hK.out _ _ (fun _ => four (HX.out.on B6 HX.out.lt)) ?_
                clear hK K
                try simp only [Act.put, List.setIfInBounds_toArray, List.set_cons_zero, List.set_cons_succ]
                refine wpAnyM_done (by kernel_rfl) ?_ _
                try simp only [Act.put, List.setIfInBounds_toArray, List.set_cons_zero, List.set_cons_succ]
                go_wp2_with fail
                go_meet
                exact ⟨_, p1, p2, p3, p4, p5, p6, rfl, rfl, B6, hD, L6⟩
            · have A2a := bel_al u1 (.cells #[.slice none 0 0, .slice none 0 0, .int .i64 0, .slice none 0 0] 28)
              have B2a := B1b.trans (A2a.mono B1b.size)
              have P2a := Blk.made u1 #[.slice none 0 0, .slice none 0 0, .int .i64 0, .slice none 0 0] 28
              have hp2 : w6.heap.size ≤ u1.heap.size := B1b.size
              have R2a := hid (R1b.out.on A2a)
              go_simp
              refine hK.out _ _ (fun _ => four (HX.out.on B2a HX.out.lt)) ?_
              clear hK K
              try simp only [Act.put, List.setIfInBounds_toArray, List.set_cons_zero, List.set_cons_succ]
              refine wpAnyM_one (i := 3) (by kernel_rfl) rfl (fun K hK => ?_)
              go_simp
              go_at_call 15
              refine (rcopy_in _ _ _ _ s ((HS.out.on B2a).in2 HSM.out).1).mono ?_
              rintro e u7 ⟨sv7, rfl, ho7, hb7⟩
              have B7b := B2a.trans (hb7.mono B2a.size)
              have P7b := P2a.on hb7 P2a.lt
              obtain ⟨b17, b27, b37, b47, b57, b67, hsv7, _, hin7⟩ := ho7.sta HSM.out
              subst hsv7
              have R7b := hid (R2a.out.on hb7)
              have I7b := hid hin7
              clear ho7 hin7
              go_wp2_with fail
              refine hK.out _ _ (fun _ => four (HX.out.on B7b HX.out.lt)) ?_
              clear hK K
              try simp only [Act.put, List.setIfInBounds_toArray, List.set_cons_zero, List.set_cons_succ]
              refine wpAnyM_one (i := 5) (by kernel_rfl) rfl (fun K hK => ?_)
              go_simp
              go_at_call 18
              refine (run_wide _ _ rs R7b.out s _ _ _ I7b.out HSM.out.wf n hfb .nilIface (.inl rfl) noTb noTb_ok (ask_nil _) hlim hlv hlnum).mono ?_
              rw [HRP.out]
              dsimp only
              rintro e u8 ⟨sv8, rfl, hO5, hb8⟩
              have B8b := B7b.trans (hb8.mono B7b.size)
              have P8b := P7b.on hb8 P7b.lt
              obtain ⟨p1, p2, p3, p4, p5, p6, hsv8, _⟩ := hO5.trio HOKR.out
              subst hsv8
              go_wp2_with fail
              refine hK.out _ _ (fun _ => four (HX.out.on B8b HX.out.lt)) ?_
              clear hK K
              try simp only [Act.put, List.setIfInBounds_toArray, List.set_cons_zero, List.set_cons_succ]
              have a0 := P8b.cell (i := 0) rfl
              have z0 := P8b.free 0
              have m1 := P8b.set 0 (.slice p1 x.ops.length p2)
              have a1 := m1.cell (i := 1) rfl
              have z1 := m1.free 1
              have m2 := m1.set 1 (.slice p3 x.vals.length p4)
              have a2 := m2.cell (i := 2) rfl
              have z2 := m2.free 2
              have m3 := m2.set 2 (.int .i64 x.steps)
              have a3 := m3.cell (i := 3) rfl
              have z3 := m3.free 3
              obtain ⟨hD, hg⟩ := set4 P8b (.slice p1 x.ops.length p2) (.slice p3 x.vals.length p4) (.int .i64 x.steps) (.slice p5 x.heads.length p6)
              have B9 := B8b.grown hg B8b.size (fun k hk => by cases hk; omega)
              have L9 := (hO5.base (Nat.zero_le _)).blk P8b hg
              refine wpAnyM_pick (i := 6) (some 46) (v := ?vz10) rfl rfl (by kernel_rfl) (by kernel_rfl) (by kernel_rfl) (by kernel_rfl) (fun _ _ _ h => h) (Or.inl ⟨by rfl, ?hz10⟩) (four (HX.out.on B8b HX.out.lt)) ?rz10
              case hz10 => intro w hSw; go_simp; try with_reducible rfl
              try simp only [Act.put, List.setIfInBounds_toArray, List.set_cons_zero, List.set_cons_succ]
              refine wpAnyM_pick (i := 7) (some 53) (v := ?vz11) rfl rfl (by kernel_rfl) (by kernel_rfl) (by kernel_rfl) (by kernel_rfl) (fun _ _ _ h => h) (Or.inl ⟨by rfl, ?hz11⟩) (four (HX.out.on B8b HX.out.lt)) ?rz11
              case hz11 => intro w hSw; go_simp; try with_reducible rfl
              try simp only [Act.put, List.setIfInBounds_toArray, List.set_cons_zero, List.set_cons_succ]
              refine wpAnyM_pick (i := 8) (some 54) (v := ?vz12) rfl rfl (by kernel_rfl) (by kernel_rfl) (by kernel_rfl) (by kernel_rfl) (fun _ _ _ h => h) (Or.inl ⟨by rfl, ?hz12⟩) (four (HX.out.on B8b HX.out.lt)) ?rz12
              case hz12 => intro w hSw; go_simp; try with_reducible rfl
              try simp only [Act.put, List.setIfInBounds_toArray, List.set_cons_zero, List.set_cons_succ]
              refine wpAnyM_one (i := 10) (by kernel_rfl) rfl (fun K hK => ?_)
              go_simp
              refine hK.out _ _ (fun _ => four (HX.out.on B9 HX.out.lt)) ?_
              clear hK K
              try simp only [Act.put, List.setIfInBounds_toArray, List.set_cons_zero, List.set_cons_succ]
              refine wpAnyM_one (i := 11) (by kernel_rfl) rfl (fun K hK => ?_)
              go_simp
              refine hK.out _ _ (fun _ => four (HX.out.on B9 HX.out.lt)) ?_
              clear hK K
              try simp only [Act.put, List.setIfInBounds_toArray, List.set_cons_zero, List.set_cons_succ]
              refine wpAnyM_done (by kernel_rfl) ?_ _
              try simp only [Act.put, List.setIfInBounds_toArray, List.set_cons_zero, List.set_cons_succ]
              go_wp2_with fail
              go_meet
              exact ⟨_, p1, p2, p3, p4, p5, p6, rfl, rfl, B9, hD, L9⟩
          · have A1a := bel_al wd (.cells #[.slice none 0 0, .slice none 0 0, .int .i64 0, .slice none 0 0] 28)
            have B1a := hB.trans (A1a.mono hB.size)
            have P1a := Blk.made wd #[.slice none 0 0, .slice none 0 0, .int .i64 0, .slice none 0 0] 28
            have hp1 : w6.heap.size ≤ wd.heap.size := hB.size
            go_simp
            refine hK.out _ _ (fun _ => four (HX.out.on B1a HX.out.lt)) ?_
            clear hK K
            try simp only [Act.put, List.setIfInBounds_toArray, List.set_cons_zero, List.set_cons_succ]
            refine wpAnyM_one (i := 1) (by kernel_rfl) rfl (fun K hK => ?_)
            go_simp
            go_at_call 19
            refine (hru _ (HBV.out.trans (B1a.mono HBV.out.size))).mono ?_
            rintro e u10 ⟨rv10, rfl, ho10, hb10⟩
            have B10b := B1a.trans (hb10.mono B1a.size)
            have P10b := P1a.on hb10 P1a.lt
            have R10b := hid (ho10.lies HRF.out)
            obtain ⟨ra10, rc10, hrv10⟩ := ho10.form
            subst hrv10
            clear ho10
            go_wp2_with fail
            refine hK.out _ _ (fun _ => four (HX.out.on B10b HX.out.lt)) ?_
            clear hK K
            try simp only [Act.put, List.setIfInBounds_toArray, List.set_cons_zero, List.set_cons_succ]
            refine wpAnyM_one (i := 3) (by kernel_rfl) rfl (fun K hK => ?_)
            go_simp
            go_at_call 15
            refine (rcopy_in _ _ _ _ s ((HS.out.on B10b).in2 HSM.out).1).mono ?_
            rintro e u11 ⟨sv11, rfl, ho11, hb11⟩
            have B11b := B10b.trans (hb11.mono B10b.size)
            have P11b := P10b.on hb11 P10b.lt
            obtain ⟨b111, b211, b311, b411, b511, b611, hsv11, _, hin11⟩ := ho11.sta HSM.out
            subst hsv11
            have R11b := hid (R10b.out.on hb11)
            have I11b := hid hin11
            clear ho11 hin11
            go_wp2_with fail
            refine hK.out _ _ (fun _ => four (HX.out.on B11b HX.out.lt)) ?_
            clear hK K
            try simp only [Act.put, List.setIfInBounds_toArray, List.set_cons_zero, List.set_cons_succ]
            refine wpAnyM_one (i := 5) (by kernel_rfl) rfl (fun K hK => ?_)
            go_simp
            go_at_call 18
            refine (run_wide _ _ rs R11b.out s _ _ _ I11b.out HSM.out.wf n hfb .nilIface (.inl rfl) noTb noTb_ok (ask_nil _) hlim hlv hlnum).mono ?_
            rw [HRP.out]
            dsimp only
            rintro e u12 ⟨sv12, rfl, hO5, hb12⟩
            have B12b := B11b.trans (hb12.mono B11b.size)
            have P12b := P11b.on hb12 P11b.lt
            obtain ⟨p1, p2, p3, p4, p5, p6, hsv12, _⟩ := hO5.trio HOKR.out
            subst hsv12
            go_wp2_with fail
            refine hK.out _ _ (fun _ => four (HX.out.on B12b HX.out.lt)) ?_
            clear hK K
            try simp only [Act.put, List.setIfInBounds_toArray, List.set_cons_zero, List.set_cons_succ]
            have a0 := P12b.cell (i := 0) rfl
            have z0 := P12b.free 0
            have m1 := P12b.set 0 (.slice p1 x.ops.length p2)
            have a1 := m1.cell (i := 1) rfl
            have z1 := m1.free 1
            have m2 := m1.set 1 (.slice p3 x.vals.length p4)
            have a2 := m2.cell (i := 2) rfl
            have z2 := m2.free 2
            have m3 := m2.set 2 (.int .i64 x.steps)
            have a3 := m3.cell (i := 3) rfl
            have z3 := m3.free 3
            obtain ⟨hD, hg⟩ := set4 P12b (.slice p1 x.ops.length p2) (.slice p3 x.vals.length p4) (.int .i64 x.steps) (.slice p5 x.heads.length p6)
            have B13 := B12b.grown hg B12b.size (fun k hk => by cases hk; omega)
            have L13 := (hO5.base (Nat.zero_le _)).blk P12b hg
            refine wpAnyM_pick (i := 6) (some 46) (v := ?vz13) rfl rfl (by kernel_rfl) (by kernel_rfl) (by kernel_rfl) (by kernel_rfl) (fun _ _ _ h => h) (Or.inl ⟨by rfl, ?hz13⟩) (four (HX.out.on B12b HX.out.lt)) ?rz13
            case hz13 => intro w hSw; go_simp; try with_reducible rfl
            try simp only [Act.put, List.setIfInBounds_toArray, List.set_cons_zero, List.set_cons_succ]
            refine wpAnyM_pick (i := 7) (some 53) (v := ?vz14) rfl rfl (by kernel_rfl) (by kernel_rfl) (by kernel_rfl) (by kernel_rfl) (fun _ _ _ h => h) (Or.inl ⟨by rfl, ?hz14⟩) (four (HX.out.on B12b HX.out.lt)) ?rz14
            case hz14 => intro w hSw; go_simp; try with_reducible rfl
            try simp only [Act.put, List.setIfInBounds_toArray, List.set_cons_zero, List.set_cons_succ]
            refine wpAnyM_pick (i := 8) (some 54) (v := ?vz15) rfl rfl (by kernel_rfl) (by kernel_rfl) (by kernel_rfl) (by kernel_rfl) (fun _ _ _ h => h) (Or.inl ⟨by rfl, ?hz15⟩) (four (HX.out.on B12b HX.out.lt)) ?rz15
            case hz15 => intro w hSw; go_simp; try with_reducible rfl
            try simp only [Act.put, List.setIfInBounds_toArray, List.set_cons_zero, List.set_cons_succ]
            refine wpAnyM_one (i := 10) (by kernel_rfl) rfl (fun K hK => ?_)
            go_simp
            refine hK.out _ _ (fun _ => four (HX.out.on B13 HX.out.lt)) ?_
            clear hK K
            try simp only [Act.put, List.setIfInBounds_toArray, List.set_cons_zero, List.set_cons_succ]
            refine wpAnyM_one (i := 11) (by kernel_rfl) rfl (fun K hK => ?_)
            go_simp
            refine hK.out _ _ (fun _ => four (HX.out.on B13 HX.out.lt)) ?_
            clear hK K
            try simp only [Act.put, List.setIfInBounds_toArray, List.set_cons_zero, List.set_cons_succ]
            refine wpAnyM_done (by kernel_rfl) ?_ _
            try simp only [Act.put, List.setIfInBounds_toArray, List.set_cons_zero, List.set_cons_succ]
            go_wp2_with fail
            go_meet
            exact ⟨_, p1, p2, p3, p4, p5, p6, rfl, rfl, B13, hD, L13⟩
        case rest =>
          obtain ⟨p, p1, p2, p3, p4, p5, p6, rfl, rfl, hB9, hP9, hO9⟩ := hcut
          have HB9 := hid (HB6.out.trans (hB9.mono HB6.out.size))
          have HXs := hid (HX6.out.on hB9 HX6.out.lt)
          have HSs := hid (HS6.out.on hB9)
          have HXx := hid hP9
          have HSx := hid hO9
          clear HX6 HS6 HB6 hB9 hP9 hO9 HRP9 HB2 HB3 HB5
          by_cases hf : f = 0 ∨ f = 14
          · obtain ⟨hR, hle, hrun, hz0⟩ := HD.out hf
            clear HC HD
            obtain ⟨⟨y, g⟩, hy⟩ : ∃ r, runP rs noTb x m = r := ⟨_, rfl⟩
            rw [hy] at hrun hz0
            have HRP16 := hid hy
            have HRP17 := hid hrun
            have HSR := hid hR
            have HOKY : Hid (SttOk y) := by
              have k1 := HXS.out.no
              have := runP_ok (rs := rs) noTb_ok (s := x) (fu := m) (by omega)
              rw [hy] at this
              exact this
            clear hrun hy hR
            go_upto_region 10 with fail
            go_cut [12, 60] from 20 (fun s12 s60 wx => s12 = .int .i64 (f : Nat) ∧ s60 = .bool false ∧ wx = wc)
            case first =>
              rcases hf with rfl | rfl
              · go_wp2_with fail
                go_meet
                exact ⟨rfl, rfl, rfl⟩
              · go_wp2_with fail
                go_meet
                exact ⟨rfl, rfl, rfl⟩
            obtain ⟨rfl, rfl, rfl⟩ := hcut
            obtain ⟨i0, i1, i2, i3⟩ := four HXx.out
            go_upto_region 16 with (first
              | (go_at_call 15; refine (rcopy_in _ _ _ _ x (HSx.out.in2 HXS.out).1).mono ?_; rintro e w10 ⟨sv10, rfl, ho10, hb10⟩; obtain ⟨c1, c2, c3, c4, c5, c6, hsv10, hst10, _⟩ := ho10.sta HXS.out; subst hsv10; have HB10 := hid (HB9.out.trans (hb10.mono HB9.out.size)); have HXs10 := hid (HXs.out.on hb10 HXs.out.lt); have HXx10 := hid (HXx.out.on hb10 HXx.out.lt); have HSs10 := hid (HSs.out.on hb10); have HSx10 := hid (HSx.out.on hb10); have hck := check7_any w10 _ _ _ x.steps x.ops x.vals x.heads hst10.lies; rw [if_pos HSR.out] at hck; clear HXs HXx HSs HSx HB9 hb10 ho10 hst10 i0 i1 i2 i3)
              | (go_at_call 14; refine hck.mono ?_; clear hck; rintro e w12 ⟨rfl, hb12⟩; have HB12 := hid (HB10.out.trans (hb12.mono HB10.out.size)); have HXs12 := hid (HXs10.out.on hb12 HXs10.out.lt); have HXx12 := hid (HXx10.out.on hb12 HXx10.out.lt); have HSs12 := hid (HSs10.out.on hb12); have HSx12 := hid (HSx10.out.on hb12); obtain ⟨j0, j1, j2, j3⟩ := four HXx12.out; clear HXs10 HXx10 HSs10 HSx10 HB10 hb12))
            clear j0 j1 j2 j3
            go_cut [16, 17] from 20 (fun s16 s17 wx => ∃ (p : Nat) (q1 : Option Addr) (q2 : Nat) (q3 : Option Addr) (q4 : Nat) (q5 : Option Addr) (q6 : Nat), s16 = .pointer (some ⟨p, 0, none⟩) ∧ s17 = .int .i64 (g : Nat) ∧ Below w12.heap.size w12 wx ∧ Blk wx p #[.slice q1 y.ops.length q2, .slice q3 y.vals.length q4, .int .i64 y.steps, .slice q5 y.heads.length q6] 28 ∧ OutSt 0 wx (.agg #[.slice q1 y.ops.length q2, .slice q3 y.vals.length q4, .int .i64 y.steps, .slice q5 y.heads.length q6]) y)
            case first =>
              have HX := HXx12
              have HS := HSx12
              have HSM := HXS
              have HBV := HB12
              have HRP := HRP16
              have HOKR := HOKY
              have hno := HSM.out.no
              have hnv := HSM.out.nv
              have hlv : x.vals.length ≤ 7539508500002 := by omega
              have hlnum : x.vals.length + x.ops.length ≤ 9223372036854775000 := by omega
              have hfb : -9223372036854775808 ≤ m ∧ m ≤ 9223372036854775807 := by omega
              have hlim : x.ops.length + 8 * (m).toNat ≤ 2513169500000 := by omega
              have hB : Below w12.heap.size w12 w12.drew := (Below.refl _ w12).drew
              have HC0 := four (HX.out.on hB HX.out.lt)
              refine wp_region_m (fun w' => (w'.cell? ⟨p, 0, none⟩ = some (.slice p1 x.ops.length p2) ∧ w'.cell? ⟨p, 1, none⟩ = some (.slice p3 x.vals.length p4) ∧ w'.cell? ⟨p, 2, none⟩ = some (.int .i64 x.steps) ∧ w'.cell? ⟨p, 3, none⟩ = some (.slice p5 x.heads.length p6))) 100 (by kernel_rfl) ?_
              generalize w12.drew = wd at hB HC0 ⊢
              refine wpAnyM_pick (i := 0) (some 86) (v := ?vz16) rfl rfl (by kernel_rfl) (by kernel_rfl) (by kernel_rfl) (by kernel_rfl) (fun _ _ _ h => h) (Or.inl ⟨by rfl, ?hz16⟩) HC0 ?rz16
              case hz16 => intro w hSw; go_simp; try with_reducible rfl
              try simp only [Act.put, List.setIfInBounds_toArray, List.set_cons_zero, List.set_cons_succ]
              refine wpAnyM_pick (i := 2) (some 88) (v := ?vz17) rfl rfl (by kernel_rfl) (by kernel_rfl) (by kernel_rfl) (by kernel_rfl) (fun _ _ _ h => h) (Or.inl ⟨by rfl, ?hz17⟩) HC0 ?rz17
              case hz17 => intro w hSw; go_simp; try with_reducible rfl
              try simp only [Act.put, List.setIfInBounds_toArray, List.set_cons_zero, List.set_cons_succ]
              refine wpAnyM_pick (i := 4) (some 90) (v := ?vz18) rfl rfl (by kernel_rfl) (by kernel_rfl) (by kernel_rfl) (by kernel_rfl) (fun _ _ _ h => h) (Or.inl ⟨by rfl, ?hz18⟩) HC0 ?rz18
              case hz18 => intro w hSw; go_simp; try with_reducible rfl
              try simp only [Act.put, List.setIfInBounds_toArray, List.set_cons_zero, List.set_cons_succ]
              refine wpAnyM_two (i := 1) (j := 9) (by kernel_rfl) rfl rfl (fun K hK => ?_) (fun K hK => ?_)
              · go_simp
                go_at_call 19
                refine (hru _ (HBV.out.trans (hB.mono HBV.out.size))).mono ?_
                rintro e u14 ⟨rv14, rfl, ho14, hb14⟩
                have B14b := hB.trans (hb14.mono hB.size)
                have R14b := hid (ho14.lies HRF.out)
                obtain ⟨ra14, rc14, hrv14⟩ := ho14.form
                subst hrv14
                clear ho14
                go_wp2_with fail
                refine hK.out _ _ (fun _ => four (HX.out.on B14b HX.out.lt)) ?_
                clear hK K
                try simp only [Act.put, List.setIfInBounds_toArray, List.set_cons_zero, List.set_cons_succ]
                refine wpAnyM_two (i := 3) (j := 9) (by kernel_rfl) rfl rfl (fun K hK => ?_) (fun K hK => ?_)
                · go_simp
                  go_at_call 15
                  refine (rcopy_in _ _ _ _ x ((HS.out.on B14b).in2 HSM.out).1).mono ?_
                  rintro e u15 ⟨sv15, rfl, ho15, hb15⟩
                  have B15b := B14b.trans (hb15.mono B14b.size)
                  obtain ⟨b115, b215, b315, b415, b515, b615, hsv15, _, hin15⟩ := ho15.sta HSM.out
                  subst hsv15
                  have R15b := hid (R14b.out.on hb15)
                  have I15b := hid hin15
                  clear ho15 hin15
                  go_wp2_with fail
                  refine hK.out _ _ (fun _ => four (HX.out.on B15b HX.out.lt)) ?_
                  clear hK K
                  try simp only [Act.put, List.setIfInBounds_toArray, List.set_cons_zero, List.set_cons_succ]
                  refine wpAnyM_two (i := 5) (j := 9) (by kernel_rfl) rfl rfl (fun K hK => ?_) (fun K hK => ?_)
                  · go_simp
                    go_at_call 18
                    refine (run_wide _ _ rs R15b.out x _ _ _ I15b.out HSM.out.wf m hfb .nilIface (.inl rfl) noTb noTb_ok (ask_nil _) hlim hlv hlnum).mono ?_
                    rw [HRP.out]
                    dsimp only
                    rintro e u16 ⟨sv16, rfl, hO5, hb16⟩
                    have B16b := B15b.trans (hb16.mono B15b.size)
                    obtain ⟨q1, q2, q3, q4, q5, q6, hsv16, _⟩ := hO5.trio HOKR.out
                    subst hsv16
                    go_wp2_with fail
                    refine hK.out _ _ (fun _ => four (HX.out.on B16b HX.out.lt)) ?_
                    clear hK K
                    try simp only [Act.put, List.setIfInBounds_toArray, List.set_cons_zero, List.set_cons_succ]
                    have A17 := bel_al u16 (.cells #[.slice q1 y.ops.length q2, .slice q3 y.vals.length q4, .int .i64 y.steps, .slice q5 y.heads.length q6] 28)
                    have B17 := B16b.trans (A17.mono B16b.size)
                    have P17 := Blk.made u16 #[.slice q1 y.ops.length q2, .slice q3 y.vals.length q4, .int .i64 y.steps, .slice q5 y.heads.length q6] 28
                    have L17 := (hO5.base (Nat.zero_le _)).on A17
                    have A17z := bel_al u16 (.cells #[.slice none 0 0, .slice none 0 0, .int .i64 0, .slice none 0 0] 28)
                    have B17z := B16b.trans (A17z.mono B16b.size)
                    refine wpAnyM_pick (i := 6) (some 85) (v := ?vz19) rfl rfl (by kernel_rfl) (by kernel_rfl) (by kernel_rfl) (by kernel_rfl) (fun _ _ _ h => h) (Or.inl ⟨by rfl, ?hz19⟩) (four (HX.out.on B16b HX.out.lt)) ?rz19
                    case hz19 => intro w hSw; go_simp; try with_reducible rfl
                    try simp only [Act.put, List.setIfInBounds_toArray, List.set_cons_zero, List.set_cons_succ]
                    refine wpAnyM_pick (i := 7) (some 92) (v := ?vz20) rfl rfl (by kernel_rfl) (by kernel_rfl) (by kernel_rfl) (by kernel_rfl) (fun _ _ _ h => h) (Or.inl ⟨by rfl, ?hz20⟩) (four (HX.out.on B16b HX.out.lt)) ?rz20
                    case hz20 => intro w hSw; go_simp; try with_reducible rfl
                    try simp only [Act.put, List.setIfInBounds_toArray, List.set_cons_zero, List.set_cons_succ]
                    refine wpAnyM_pick (i := 8) (some 93) (v := ?vz21) rfl rfl (by kernel_rfl) (by kernel_rfl) (by kernel_rfl) (by kernel_rfl) (fun _ _ _ h => h) (Or.inl ⟨by rfl, ?hz21⟩) (four (HX.out.on B16b HX.out.lt)) ?rz21
                    case hz21 => intro w hSw; go_simp; try with_reducible rfl
                    try simp only [Act.put, List.setIfInBounds_toArray, List.set_cons_zero, List.set_cons_succ]
                    refine wpAnyM_one (i := 9) (by kernel_rfl) rfl (fun K hK => ?_)
                    go_simp
                    refine hK.out _ _ (fun _ => four (HX.out.on B17z HX.out.lt)) ?_
                    clear hK K
                    try simp only [Act.put, List.setIfInBounds_toArray, List.set_cons_zero, List.set_cons_succ]
                    refine wpAnyM_one (i := 10) (by kernel_rfl) rfl (fun K hK => ?_)
                    go_simp
                    refine hK.out _ _ (fun _ => four (HX.out.on B17 HX.out.lt)) ?_
                    clear hK K
                    try simp only [Act.put, List.setIfInBounds_toArray, List.set_cons_zero, List.set_cons_succ]
                    refine wpAnyM_one (i := 11) (by kernel_rfl) rfl (fun K hK => ?_)
                    go_simp
                    refine hK.out _ _ (fun _ => four (HX.out.on B17 HX.out.lt)) ?_
                    clear hK K
                    try simp only [Act.put, List.setIfInBounds_toArray, List.set_cons_zero, List.set_cons_succ]
                    refine wpAnyM_done (by kernel_rfl) ?_ _
                    try simp only [Act.put, List.setIfInBounds_toArray, List.set_cons_zero, List.set_cons_succ]
                    go_wp2_with fail
                    go_meet
                    exact ⟨_, q1, q2, q3, q4, q5, q6, rfl, rfl, B17, P17, L17⟩
                  · have A16a := bel_al u15 (.cells #[.slice none 0 0, .slice none 0 0, .int .i64 0, .slice none 0 0] 28)
                    have B16a := B15b.trans (A16a.mono B15b.size)
                    have P16a := Blk.made u15 #[.slice none 0 0, .slice none 0 0, .int .i64 0, .slice none 0 0] 28
                    have hp16 : w12.heap.size ≤ u15.heap.size := B15b.size
                    have R16a := hid (R15b.out.on A16a)
                    have I16a := hid (I15b.out.on A16a)
                    go_simp
                    refine hK.out _ _ (fun _ => four (HX.out.on B16a HX.out.lt)) ?_
                    clear hK K
                    try simp only [Act.put, List.setIfInBounds_toArray, List.set_cons_zero, List.set_cons_succ]
                    refine wpAnyM_one (i := 5) (by kernel_rfl) rfl (fun K hK => ?_)
                    go_simp
                    go_at_call 18
                    refine (run_wide _ _ rs R16a.out x _ _ _ I16a.out HSM.out.wf m hfb .nilIface (.inl rfl) noTb noTb_ok (ask_nil _) hlim hlv hlnum).mono ?_
                    rw [HRP.out]
                    dsimp only
                    rintro e u18 ⟨sv18, rfl, hO5, hb18⟩
                    have B18b := B16a.trans (hb18.mono B16a.size)
                    have P18b := P16a.on hb18 P16a.lt
                    obtain ⟨q1, q2, q3, q4, q5, q6, hsv18, _⟩ := hO5.trio HOKR.out
                    subst hsv18
                    go_wp2_with fail
                    refine hK.out _ _ (fun _ => four (HX.out.on B18b HX.out.lt)) ?_
                    clear hK K
                    try simp only [Act.put, List.setIfInBounds_toArray, List.set_cons_zero, List.set_cons_succ]
                    have a0 := P18b.cell (i := 0) rfl
                    have z0 := P18b.free 0
                    have m1 := P18b.set 0 (.slice q1 y.ops.length q2)
                    have a1 := m1.cell (i := 1) rfl
                    have z1 := m1.free 1
                    have m2 := m1.set 1 (.slice q3 y.vals.length q4)
                    have a2 := m2.cell (i := 2) rfl
                    have z2 := m2.free 2
                    have m3 := m2.set 2 (.int .i64 y.steps)
                    have a3 := m3.cell (i := 3) rfl
                    have z3 := m3.free 3
                    obtain ⟨hD, hg⟩ := set4 P18b (.slice q1 y.ops.length q2) (.slice q3 y.vals.length q4) (.int .i64 y.steps) (.slice q5 y.heads.length q6)
                    have B19 := B18b.grown hg B18b.size (fun k hk => by cases hk; omega)
                    have L19 := (hO5.base (Nat.zero_le _)).blk P18b hg
                    refine wpAnyM_pick (i := 6) (some 85) (v := ?vz22) rfl rfl (by kernel_rfl) (by kernel_rfl) (by kernel_rfl) (by kernel_rfl) (fun _ _ _ h => h) (Or.inl ⟨by rfl, ?hz22⟩) (four (HX.out.on B18b HX.out.lt)) ?rz22
                    case hz22 => intro w hSw; go_simp; try with_reducible rfl
                    try simp only [Act.put, List.setIfInBounds_toArray, List.set_cons_zero, List.set_cons_succ]
                    refine wpAnyM_pick (i := 7) (some 92) (v := ?vz23) rfl rfl (by kernel_rfl) (by kernel_rfl) (by kernel_rfl) (by kernel_rfl) (fun _ _ _ h => h) (Or.inl ⟨by rfl, ?hz23⟩) (four (HX.out.on B18b HX.out.lt)) ?rz23
                    case hz23 => intro w hSw; go_simp; try with_reducible rfl
                    try simp only [Act.put, List.setIfInBounds_toArray, List.set_cons_zero, List.set_cons_succ]
                    refine wpAnyM_pick (i := 8) (some 93) (v := ?vz24) rfl rfl (by kernel_rfl) (by kernel_rfl) (by kernel_rfl) (by kernel_rfl) (fun _ _ _ h => h) (Or.inl ⟨by rfl, ?hz24⟩) (four (HX.out.on B18b HX.out.lt)) ?rz24
                    case hz24 => intro w hSw; go_simp; try with_reducible rfl
                    try simp only [Act.put, List.setIfInBounds_toArray, List.set_cons_zero, List.set_cons_succ]
                    refine wpAnyM_one (i := 10) (by kernel_rfl) rfl (fun K hK => ?_)
                    go_simp
                    refine hK.out _ _ (fun _ => four (HX.out.on B19 HX.out.lt)) ?_
                    clear hK K
                    try simp only [Act.put, List.setIfInBounds_toArray, List.set_cons_zero, List.set_cons_succ]
                    refine wpAnyM_one (i := 11) (by kernel_rfl) rfl (fun K hK => ?_)
                    go_simp
                    refine hK.out _ _ (fun _ => four (HX.out.on B19 HX.out.lt)) ?_
                    clear hK K
                    try simp only [Act.put, List.setIfInBounds_toArray, List.set_cons_zero, List.set_cons_succ]
                    refine wpAnyM_done (by kernel_rfl) ?_ _
                    try simp only [Act.put, List.setIfInBounds_toArray, List.set_cons_zero, List.set_cons_succ]
                    go_wp2_with fail
                    go_meet
                    exact ⟨_, q1, q2, q3, q4, q5, q6, rfl, rfl, B19, hD, L19⟩
                · have A15a := bel_al u14 (.cells #[.slice none 0 0, .slice none 0 0, .int .i64 0, .slice none 0 0] 28)
                  have B15a := B14b.trans (A15a.mono B14b.size)
                  have P15a := Blk.made u14 #[.slice none 0 0, .slice none 0 0, .int .i64 0, .slice none 0 0] 28
                  have hp15 : w12.heap.size ≤ u14.heap.size := B14b.size
                  have R15a := hid (R14b.out.on A15a)
                  go_simp
                  refine hK.out _ _ (fun _ => four (HX.out.on B15a HX.out.lt)) ?_
                  clear hK K
                  try simp only [Act.put, List.setIfInBounds_toArray, List.set_cons_zero, List.set_cons_succ]
                  refine wpAnyM_one (i := 3) (by kernel_rfl) rfl (fun K hK => ?_)
                  go_simp
                  go_at_call 15
                  refine (rcopy_in _ _ _ _ x ((HS.out.on B15a).in2 HSM.out).1).mono ?_
                  rintro e u20 ⟨sv20, rfl, ho20, hb20⟩
                  have B20b := B15a.trans (hb20.mono B15a.size)
                  have P20b := P15a.on hb20 P15a.lt
                  obtain ⟨b120, b220, b320, b420, b520, b620, hsv20, _, hin20⟩ := ho20.sta HSM.out
                  subst hsv20
                  have R20b := hid (R15a.out.on hb20)
                  have I20b := hid hin20
                  clear ho20 hin20
                  go_wp2_with fail
                  refine hK.out _ _ (fun _ => four (HX.out.on B20b HX.out.lt)) ?_
                  clear hK K
                  try simp only [Act.put, List.setIfInBounds_toArray, List.set_cons_zero, List.set_cons_succ]
                  refine wpAnyM_one (i := 5) (by kernel_rfl) rfl (fun K hK => ?_)
                  go_simp
                  go_at_call 18
                  refine (run_wide _ _ rs R20b.out x _ _ _ I20b.out HSM.out.wf m hfb .nilIface (.inl rfl) noTb noTb_ok (ask_nil _) hlim hlv hlnum).mono ?_
                  rw [HRP.out]
                  dsimp only
                  rintro e u21 ⟨sv21, rfl, hO5, hb21⟩
                  have B21b := B20b.trans (hb21.mono B20b.size)
                  have P21b := P20b.on hb21 P20b.lt
                  obtain ⟨q1, q2, q3, q4, q5, q6, hsv21, _⟩ := hO5.trio HOKR.out
                  subst hsv21
                  go_wp2_with fail
                  refine hK.out _ _ (fun _ => four (HX.out.on B21b HX.out.lt)) ?_
                  clear hK K
                  try simp only [Act.put, List.setIfInBounds_toArray, List.set_cons_zero, List.set_cons_succ]
                  have a0 := P21b.cell (i := 0) rfl
                  have z0 := P21b.free 0
                  have m1 := P21b.set 0 (.slice q1 y.ops.length q2)
                  have a1 := m1.cell (i := 1) rfl
                  have z1 := m1.free 1
                  have m2 := m1.set 1 (.slice q3 y.vals.length q4)
                  have a2 := m2.cell (i := 2) rfl
                  have z2 := m2.free 2
                  have m3 := m2.set 2 (.int .i64 y.steps)
                  have a3 := m3.cell (i := 3) rfl
                  have z3 := m3.free 3
                  obtain ⟨hD, hg⟩ := set4 P21b (.slice q1 y.ops.length q2) (.slice q3 y.vals.length q4) (.int .i64 y.steps) (.slice q5 y.heads.length q6)
                  have B22 := B21b.grown hg B21b.size (fun k hk => by cases hk; omega)
                  have L22 := (hO5.base (Nat.zero_le _)).blk P21b hg
                  refine wpAnyM_pick (i := 6) (some 85) (v := ?vz25) rfl rfl (by kernel_rfl) (by kernel_rfl) (by kernel_rfl) (by kernel_rfl) (fun _ _ _ h => h) (Or.inl ⟨by rfl, ?hz25⟩) (four (HX.out.on B21b HX.out.lt)) ?rz25
                  case hz25 => intro w hSw; go_simp; try with_reducible rfl
                  try simp only [Act.put, List.setIfInBounds_toArray, List.set_cons_zero, List.set_cons_succ]
                  refine wpAnyM_pick (i := 7) (some 92) (v := ?vz26) rfl rfl (by kernel_rfl) (by kernel_rfl) (by kernel_rfl) (by kernel_rfl) (fun _ _ _ h => h) (Or.inl ⟨by rfl, ?hz26⟩) (four (HX.out.on B21b HX.out.lt)) ?rz26
                  case hz26 => intro w hSw; go_simp; try with_reducible rfl
                  try simp only [Act.put, List.setIfInBounds_toArray, List.set_cons_zero, List.set_cons_succ]
                  refine wpAnyM_pick (i := 8) (some 93) (v := ?vz27) rfl rfl (by kernel_rfl) (by kernel_rfl) (by kernel_rfl) (by kernel_rfl) (fun _ _ _ h => h) (Or.inl ⟨by rfl, ?hz27⟩) (four (HX.out.on B21b HX.out.lt)) ?rz27
                  case hz27 => intro w hSw; go_simp; try with_reducible rfl
                  try simp only [Act.put, List.setIfInBounds_toArray, List.set_cons_zero, List.set_cons_succ]
                  refine wpAnyM_one (i := 10) (by kernel_rfl) rfl (fun K hK => ?_)
                  go_simp
                  refine hK.out _ _ (fun _ => four (HX.out.on B22 HX.out.lt)) ?_
                  clear hK K
                  try simp only [Act.put, List.setIfInBounds_toArray, List.set_cons_zero, List.set_cons_succ]
                  refine wpAnyM_one (i := 11) (by kernel_rfl) rfl (fun K hK => ?_)
                  go_simp
                  refine hK.out _ _ (fun _ => four (HX.out.on B22 HX.out.lt)) ?_
                  clear hK K
                  try simp only [Act.put, List.setIfInBounds_toArray, List.set_cons_zero, List.set_cons_succ]
                  refine wpAnyM_done (by kernel_rfl) ?_ _
                  try simp only [Act.put, List.setIfInBounds_toArray, List.set_cons_zero, List.set_cons_succ]
                  go_wp2_with fail
                  go_meet
                  exact ⟨_, q1, q2, q3, q4, q5, q6, rfl, rfl, B22, hD, L22⟩
              · have A14a := bel_al wd (.cells #[.slice none 0 0, .slice none 0 0, .int .i64 0, .slice none 0 0] 28)
                have B14a := hB.trans (A14a.mono hB.size)
                have P14a := Blk.made wd #[.slice none 0 0, .slice none 0 0, .int .i64 0, .slice none 0 0] 28
                have hp14 : w12.heap.size ≤ wd.heap.size := hB.size
                go_simp
                refine hK.out _ _ (fun _ => four (HX.out.on B14a HX.out.lt)) ?_
                clear hK K
                try simp only [Act.put, List.setIfInBounds_toArray, List.set_cons_zero, List.set_cons_succ]
                refine wpAnyM_one (i := 1) (by kernel_rfl) rfl (fun K hK => ?_)
                go_simp
                go_at_call 19
                refine (hru _ (HBV.out.trans (B14a.mono HBV.out.size))).mono ?_
                rintro e u23 ⟨rv23, rfl, ho23, hb23⟩
                have B23b := B14a.trans (hb23.mono B14a.size)
                have P23b := P14a.on hb23 P14a.lt
                have R23b := hid (ho23.lies HRF.out)
                obtain ⟨ra23, rc23, hrv23⟩ := ho23.form
                subst hrv23
                clear ho23
                go_wp2_with fail
                refine hK.out _ _ (fun _ => four (HX.out.on B23b HX.out.lt)) ?_
                clear hK K
                try simp only [Act.put, List.setIfInBounds_toArray, List.set_cons_zero, List.set_cons_succ]
                refine wpAnyM_one (i := 3) (by kernel_rfl) rfl (fun K hK => ?_)
                go_simp
                go_at_call 15
                refine (rcopy_in _ _ _ _ x ((HS.out.on B23b).in2 HSM.out).1).mono ?_
                rintro e u24 ⟨sv24, rfl, ho24, hb24⟩
                have B24b := B23b.trans (hb24.mono B23b.size)
                have P24b := P23b.on hb24 P23b.lt
                obtain ⟨b124, b224, b324, b424, b524, b624, hsv24, _, hin24⟩ := ho24.sta HSM.out
                subst hsv24
                have R24b := hid (R23b.out.on hb24)
                have I24b := hid hin24
                clear ho24 hin24
                go_wp2_with fail
                refine hK.out _ _ (fun _ => four (HX.out.on B24b HX.out.lt)) ?_
                clear hK K
                try simp only [Act.put, List.setIfInBounds_toArray, List.set_cons_zero, List.set_cons_succ]
                refine wpAnyM_one (i := 5) (by kernel_rfl) rfl (fun K hK => ?_)
                go_simp
                go_at_call 18
                refine (run_wide _ _ rs R24b.out x _ _ _ I24b.out HSM.out.wf m hfb .nilIface (.inl rfl) noTb noTb_ok (ask_nil _) hlim hlv hlnum).mono ?_
                rw [HRP.out]
                dsimp only
                rintro e u25 ⟨sv25, rfl, hO5, hb25⟩
                have B25b := B24b.trans (hb25.mono B24b.size)
                have P25b := P24b.on hb25 P24b.lt
                obtain ⟨q1, q2, q3, q4, q5, q6, hsv25, _⟩ := hO5.trio HOKR.out
                subst hsv25
                go_wp2_with fail
                refine hK.out _ _ (fun _ => four (HX.out.on B25b HX.out.lt)) ?_
                clear hK K
                try simp only [Act.put, List.setIfInBounds_toArray, List.set_cons_zero, List.set_cons_succ]
                have a0 := P25b.cell (i := 0) rfl
                have z0 := P25b.free 0
                have m1 := P25b.set 0 (.slice q1 y.ops.length q2)
                have a1 := m1.cell (i := 1) rfl
                have z1 := m1.free 1
                have m2 := m1.set 1 (.slice q3 y.vals.length q4)
                have a2 := m2.cell (i := 2) rfl
                have z2 := m2.free 2
                have m3 := m2.set 2 (.int .i64 y.steps)
                have a3 := m3.cell (i := 3) rfl
                have z3 := m3.free 3
                obtain ⟨hD, hg⟩ := set4 P25b (.slice q1 y.ops.length q2) (.slice q3 y.vals.length q4) (.int .i64 y.steps) (.slice q5 y.heads.length q6)
                have B26 := B25b.grown hg B25b.size (fun k hk => by cases hk; omega)
                have L26 := (hO5.base (Nat.zero_le _)).blk P25b hg
                refine wpAnyM_pick (i := 6) (some 85) (v := ?vz28) rfl rfl (by kernel_rfl) (by kernel_rfl) (by kernel_rfl) (by kernel_rfl) (fun _ _ _ h => h) (Or.inl ⟨by rfl, ?hz28⟩) (four (HX.out.on B25b HX.out.lt)) ?rz28
                case hz28 => intro w hSw; go_simp; try with_reducible rfl
                try simp only [Act.put, List.setIfInBounds_toArray, List.set_cons_zero, List.set_cons_succ]
                refine wpAnyM_pick (i := 7) (some 92) (v := ?vz29) rfl rfl (by kernel_rfl) (by kernel_rfl) (by kernel_rfl) (by kernel_rfl) (fun _ _ _ h => h) (Or.inl ⟨by rfl, ?hz29⟩) (four (HX.out.on B25b HX.out.lt)) ?rz29
                case hz29 => intro w hSw; go_simp; try with_reducible rfl
                try simp only [Act.put, List.setIfInBounds_toArray, List.set_cons_zero, List.set_cons_succ]
                refine wpAnyM_pick (i := 8) (some 93) (v := ?vz30) rfl rfl (by kernel_rfl) (by kernel_rfl) (by kernel_rfl) (by kernel_rfl) (fun _ _ _ h => h) (Or.inl ⟨by rfl, ?hz30⟩) (four (HX.out.on B25b HX.out.lt)) ?rz30
                case hz30 => intro w hSw; go_simp; try with_reducible rfl
                try simp only [Act.put, List.setIfInBounds_toArray, List.set_cons_zero, List.set_cons_succ]
                refine wpAnyM_one (i := 10) (by kernel_rfl) rfl (fun K hK => ?_)
                go_simp
                refine hK.out _ _ (fun _ => four (HX.out.on B26 HX.out.lt)) ?_
                clear hK K
                try simp only [Act.put, List.setIfInBounds_toArray, List.set_cons_zero, List.set_cons_succ]
                refine wpAnyM_one (i := 11) (by kernel_rfl) rfl (fun K hK => ?_)
                go_simp
                refine hK.out _ _ (fun _ => four (HX.out.on B26 HX.out.lt)) ?_
                clear hK K
                try simp only [Act.put, List.setIfInBounds_toArray, List.set_cons_zero, List.set_cons_succ]
                refine wpAnyM_done (by kernel_rfl) ?_ _
                try simp only [Act.put, List.setIfInBounds_toArray, List.set_cons_zero, List.set_cons_succ]
                go_wp2_with fail
                go_meet
                exact ⟨_, q1, q2, q3, q4, q5, q6, rfl, rfl, B26, hD, L26⟩
            case rest =>
              obtain ⟨p16, q1, q2, q3, q4, q5, q6, rfl, rfl, hB16, hP16, hO16⟩ := hcut
              have HB16 := hid (HB12.out.trans (hB16.mono HB12.out.size))
              have HXs16 := hid (HXs12.out.on hB16 HXs12.out.lt)
              have HXx16 := hid (HXx12.out.on hB16 HXx12.out.lt)
              have HSs16 := hid (HSs12.out.on hB16)
              have HSx16 := hid (HSx12.out.on hB16)
              have HXy16 := hid hP16
              have HSy16 := hid hO16
              clear HXs12 HXx12 HSs12 HSx12 HB12 hB16 hP16 hO16 HRP16
              go_upto_region 17 with fail
              go_cut [18, 19] from 20 (fun s18 s19 wx => ∃ (p : Nat) (r1 : Option Addr) (r2 : Nat) (r3 : Option Addr) (r4 : Nat) (r5 : Option Addr) (r6 : Nat), s18 = .pointer (some ⟨p, 0, none⟩) ∧ s19 = .int .i64 (g : Nat) ∧ Below wc.heap.size wc wx ∧ Blk wx p #[.slice r1 y.ops.length r2, .slice r3 y.vals.length r4, .int .i64 y.steps, .slice r5 y.heads.length r6] 28 ∧ OutSt 0 wx (.agg #[.slice r1 y.ops.length r2, .slice r3 y.vals.length r4, .int .i64 y.steps, .slice r5 y.heads.length r6]) y)
              case first =>
                have HX := HXs16
                have HS := HSs16
                have HSM := HSMs
                have HBV := HB16
                have HRP := HRP17
                have HOKR := HOKY
                have k2 := HXS.out.s0
                have k3 := HXS.out.s1
                have hno := HSM.out.no
                have hnv := HSM.out.nv
                have hlv : s.vals.length ≤ 7539508500002 := by omega
                have hlnum : s.vals.length + s.ops.length ≤ 9223372036854775000 := by omega
                have hfb : -9223372036854775808 ≤ (x.steps + m) ∧ (x.steps + m) ≤ 9223372036854775807 := by omega
                have hlim : s.ops.length + 8 * ((x.steps + m)).toNat ≤ 2513169500000 := by omega
                have hB : Below wc.heap.size wc wc.drew := (Below.refl _ wc).drew
                have HC0 := four (HX.out.on hB HX.out.lt)
                refine wp_region_m (fun w' => (w'.cell? ⟨w4.heap.size, 0, none⟩ = some (.slice s1 s.ops.length s2) ∧ w'.cell? ⟨w4.heap.size, 1, none⟩ = some (.slice s3 s.vals.length s4) ∧ w'.cell? ⟨w4.heap.size, 2, none⟩ = some (.int .i64 s.steps) ∧ w'.cell? ⟨w4.heap.size, 3, none⟩ = some (.slice s5 s.heads.length s6))) 100 (by kernel_rfl) ?_
                generalize wc.drew = wd at hB HC0 ⊢
                refine wpAnyM_pick (i := 0) (some 95) (v := ?vz31) rfl rfl (by kernel_rfl) (by kernel_rfl) (by kernel_rfl) (by kernel_rfl) (fun _ _ _ h => h) (Or.inl ⟨by rfl, ?hz31⟩) HC0 ?rz31
                case hz31 => intro w hSw; go_simp; try with_reducible rfl
                try simp only [Act.put, List.setIfInBounds_toArray, List.set_cons_zero, List.set_cons_succ]
                refine wpAnyM_pick (i := 2) (some 97) (v := ?vz32) rfl rfl (by kernel_rfl) (by kernel_rfl) (by kernel_rfl) (by kernel_rfl) (fun _ _ _ h => h) (Or.inl ⟨by rfl, ?hz32⟩) HC0 ?rz32
                case hz32 => intro w hSw; go_simp; try with_reducible rfl
                try simp only [Act.put, List.setIfInBounds_toArray, List.set_cons_zero, List.set_cons_succ]
                refine wpAnyM_pick (i := 3) (some 98) (v := ?vz33) rfl rfl (by kernel_rfl) (by kernel_rfl) (by kernel_rfl) (by kernel_rfl) (fun _ _ _ h => h) (Or.inl ⟨by rfl, ?hz33⟩) HC0 ?rz33
                case hz33 => intro w hSw; go_simp; try with_reducible rfl
                try simp only [Act.put, List.setIfInBounds_toArray, List.set_cons_zero, List.set_cons_succ]
                refine wpAnyM_pick (i := 4) (some 99) (v := ?vz34) rfl rfl (by kernel_rfl) (by kernel_rfl) (by kernel_rfl) (by kernel_rfl) (fun _ _ _ h => h) (Or.inl ⟨by rfl, ?hz34⟩) HC0 ?rz34
                case hz34 => intro w hSw; go_simp; try with_reducible rfl
                try simp only [Act.put, List.setIfInBounds_toArray, List.set_cons_zero, List.set_cons_succ]
                refine wpAnyM_pick (i := 5) (some 100) (v := ?vz35) rfl rfl (by kernel_rfl) (by kernel_rfl) (by kernel_rfl) (by kernel_rfl) (fun _ _ _ h => h) (Or.inl ⟨by rfl, ?hz35⟩) HC0 ?rz35
                case hz35 => intro w hSw; go_simp; try with_reducible rfl
                try simp only [Act.put, List.setIfInBounds_toArray, List.set_cons_zero, List.set_cons_succ]
                have hwr : IntKind.i64.wrap (x.steps + m) = (x.steps + m) := by
                  simp only [IntKind.wrap, IntKind.signed, IntKind.bits]
                  first | omega | (split <;> omega) | (simp; omega)
                rw [hwr]
                refine wpAnyM_two (i := 1) (j := 10) (by kernel_rfl) rfl rfl (fun K hK => ?_) (fun K hK => ?_)
                · go_simp
                  go_at_call 19
                  refine (hru _ (HBV.out.trans (hB.mono HBV.out.size))).mono ?_
                  rintro e u27 ⟨rv27, rfl, ho27, hb27⟩
                  have B27b := hB.trans (hb27.mono hB.size)
                  have R27b := hid (ho27.lies HRF.out)
                  obtain ⟨ra27, rc27, hrv27⟩ := ho27.form
                  subst hrv27
                  clear ho27
                  go_wp2_with fail
                  refine hK.out _ _ (fun _ => four (HX.out.on B27b HX.out.lt)) ?_
                  clear hK K
                  try simp only [Act.put, List.setIfInBounds_toArray, List.set_cons_zero, List.set_cons_succ]
                  refine wpAnyM_two (i := 6) (j := 10) (by kernel_rfl) rfl rfl (fun K hK => ?_) (fun K hK => ?_)
                  · go_simp
                    go_at_call 18
                    refine (run_wide _ _ rs R27b.out s _ _ _ ((HS.out.on B27b).in2 HSM.out).2 HSM.out.wf (x.steps + m) hfb .nilIface (.inl rfl) noTb noTb_ok (ask_nil _) hlim hlv hlnum).mono ?_
                    rw [HRP.out]
                    dsimp only
                    rintro e u28 ⟨sv28, rfl, hO5, hb28⟩
                    have B28b := B27b.trans (hb28.mono B27b.size)
                    obtain ⟨r1, r2, r3, r4, r5, r6, hsv28, _⟩ := hO5.trio HOKR.out
                    subst hsv28
                    go_wp2_with fail
                    refine hK.out _ _ (fun _ => four (HX.out.on B28b HX.out.lt)) ?_
                    clear hK K
                    try simp only [Act.put, List.setIfInBounds_toArray, List.set_cons_zero, List.set_cons_succ]
                    have A29 := bel_al u28 (.cells #[.slice r1 y.ops.length r2, .slice r3 y.vals.length r4, .int .i64 y.steps, .slice r5 y.heads.length r6] 28)
                    have B29 := B28b.trans (A29.mono B28b.size)
                    have P29 := Blk.made u28 #[.slice r1 y.ops.length r2, .slice r3 y.vals.length r4, .int .i64 y.steps, .slice r5 y.heads.length r6] 28
                    have L29 := (hO5.base (Nat.zero_le _)).on A29
                    have A29z := bel_al u28 (.cells #[.slice none 0 0, .slice none 0 0, .int .i64 0, .slice none 0 0] 28)
                    have B29z := B28b.trans (A29z.mono B28b.size)
                    refine wpAnyM_pick (i := 7) (some 94) (v := ?vz36) rfl rfl (by kernel_rfl) (by kernel_rfl) (by kernel_rfl) (by kernel_rfl) (fun _ _ _ h => h) (Or.inl ⟨by rfl, ?hz36⟩) (four (HX.out.on B28b HX.out.lt)) ?rz36
                    case hz36 => intro w hSw; go_simp; try with_reducible rfl
                    try simp only [Act.put, List.setIfInBounds_toArray, List.set_cons_zero, List.set_cons_succ]
                    refine wpAnyM_pick (i := 8) (some 102) (v := ?vz37) rfl rfl (by kernel_rfl) (by kernel_rfl) (by kernel_rfl) (by kernel_rfl) (fun _ _ _ h => h) (Or.inl ⟨by rfl, ?hz37⟩) (four (HX.out.on B28b HX.out.lt)) ?rz37
                    case hz37 => intro w hSw; go_simp; try with_reducible rfl
                    try simp only [Act.put, List.setIfInBounds_toArray, List.set_cons_zero, List.set_cons_succ]
                    refine wpAnyM_pick (i := 9) (some 103) (v := ?vz38) rfl rfl (by kernel_rfl) (by kernel_rfl) (by kernel_rfl) (by kernel_rfl) (fun _ _ _ h => h) (Or.inl ⟨by rfl, ?hz38⟩) (four (HX.out.on B28b HX.out.lt)) ?rz38
                    case hz38 => intro w hSw; go_simp; try with_reducible rfl
                    try simp only [Act.put, List.setIfInBounds_toArray, List.set_cons_zero, List.set_cons_succ]
                    refine wpAnyM_one (i := 10) (by kernel_rfl) rfl (fun K hK => ?_)
                    go_simp
                    refine hK.out _ _ (fun _ => four (HX.out.on B29z HX.out.lt)) ?_
                    clear hK K
                    try simp only [Act.put, List.setIfInBounds_toArray, List.set_cons_zero, List.set_cons_succ]
                    refine wpAnyM_one (i := 11) (by kernel_rfl) rfl (fun K hK => ?_)
                    go_simp
                    refine hK.out _ _ (fun _ => four (HX.out.on B29 HX.out.lt)) ?_
                    clear hK K
                    try simp only [Act.put, List.setIfInBounds_toArray, List.set_cons_zero, List.set_cons_succ]
                    refine wpAnyM_one (i := 12) (by kernel_rfl) rfl (fun K hK => ?_)
                    go_simp
                    refine hK.out _ _ (fun _ => four (HX.out.on B29 HX.out.lt)) ?_
                    clear hK K
                    try simp only [Act.put, List.setIfInBounds_toArray, List.set_cons_zero, List.set_cons_succ]
                    refine wpAnyM_done (by kernel_rfl) ?_ _
                    try simp only [Act.put, List.setIfInBounds_toArray, List.set_cons_zero, List.set_cons_succ]
                    go_wp2_with fail
                    go_meet
                    exact ⟨_, r1, r2, r3, r4, r5, r6, rfl, rfl, B29, P29, L29⟩
                  · have A28a := bel_al u27 (.cells #[.slice none 0 0, .slice none 0 0, .int .i64 0, .slice none 0 0] 28)
                    have B28a := B27b.trans (A28a.mono B27b.size)
                    have P28a := Blk.made u27 #[.slice none 0 0, .slice none 0 0, .int .i64 0, .slice none 0 0] 28
                    have hp28 : wc.heap.size ≤ u27.heap.size := B27b.size
                    have R28a := hid (R27b.out.on A28a)
                    go_simp
                    refine hK.out _ _ (fun _ => four (HX.out.on B28a HX.out.lt)) ?_
                    clear hK K
                    try simp only [Act.put, List.setIfInBounds_toArray, List.set_cons_zero, List.set_cons_succ]
                    refine wpAnyM_one (i := 6) (by kernel_rfl) rfl (fun K hK => ?_)
                    go_simp
                    go_at_call 18
                    refine (run_wide _ _ rs R28a.out s _ _ _ ((HS.out.on B28a).in2 HSM.out).2 HSM.out.wf (x.steps + m) hfb .nilIface (.inl rfl) noTb noTb_ok (ask_nil _) hlim hlv hlnum).mono ?_
                    rw [HRP.out]
                    dsimp only
                    rintro e u30 ⟨sv30, rfl, hO5, hb30⟩
                    have B30b := B28a.trans (hb30.mono B28a.size)
                    have P30b := P28a.on hb30 P28a.lt
                    obtain ⟨r1, r2, r3, r4, r5, r6, hsv30, _⟩ := hO5.trio HOKR.out
                    subst hsv30
                    go_wp2_with fail
                    refine hK.out _ _ (fun _ => four (HX.out.on B30b HX.out.lt)) ?_
                    clear hK K
                    try simp only [Act.put, List.setIfInBounds_toArray, List.set_cons_zero, List.set_cons_succ]
                    have a0 := P30b.cell (i := 0) rfl
                    have z0 := P30b.free 0
                    have m1 := P30b.set 0 (.slice r1 y.ops.length r2)
                    have a1 := m1.cell (i := 1) rfl
                    have z1 := m1.free 1
                    have m2 := m1.set 1 (.slice r3 y.vals.length r4)
                    have a2 := m2.cell (i := 2) rfl
                    have z2 := m2.free 2
                    have m3 := m2.set 2 (.int .i64 y.steps)
                    have a3 := m3.cell (i := 3) rfl
                    have z3 := m3.free 3
                    obtain ⟨hD, hg⟩ := set4 P30b (.slice r1 y.ops.length r2) (.slice r3 y.vals.length r4) (.int .i64 y.steps) (.slice r5 y.heads.length r6)
                    have B31 := B30b.grown hg B30b.size (fun k hk => by cases hk; omega)
                    have L31 := (hO5.base (Nat.zero_le _)).blk P30b hg
                    refine wpAnyM_pick (i := 7) (some 94) (v := ?vz39) rfl rfl (by kernel_rfl) (by kernel_rfl) (by kernel_rfl) (by kernel_rfl) (fun _ _ _ h => h) (Or.inl ⟨by rfl, ?hz39⟩) (four (HX.out.on B30b HX.out.lt)) ?rz39
                    case hz39 => intro w hSw; go_simp; try with_reducible rfl
                    try simp only [Act.put, List.setIfInBounds_toArray, List.set_cons_zero, List.set_cons_succ]
                    refine wpAnyM_pick (i := 8) (some 102) (v := ?vz40) rfl rfl (by kernel_rfl) (by kernel_rfl) (by kernel_rfl) (by kernel_rfl) (fun _ _ _ h => h) (Or.inl ⟨by rfl, ?hz40⟩) (four (HX.out.on B30b HX.out.lt)) ?rz40
                    case hz40 => intro w hSw; go_simp; try with_reducible rfl
                    try simp only [Act.put, List.setIfInBounds_toArray, List.set_cons_zero, List.set_cons_succ]
                    refine wpAnyM_pick (i := 9) (some 103) (v := ?vz41) rfl rfl (by kernel_rfl) (by kernel_rfl) (by kernel_rfl) (by kernel_rfl) (fun _ _ _ h => h) (Or.inl ⟨by rfl, ?hz41⟩) (four (HX.out.on B30b HX.out.lt)) ?rz41
                    case hz41 => intro w hSw; go_simp; try with_reducible rfl
                    try simp only [Act.put, List.setIfInBounds_toArray, List.set_cons_zero, List.set_cons_succ]
                    refine wpAnyM_one (i := 11) (by kernel_rfl) rfl (fun K hK => ?_)
                    go_simp
                    refine hK.out _ _ (fun _ => four (HX.out.on B31 HX.out.lt)) ?_
                    clear hK K
                    try simp only [Act.put, List.setIfInBounds_toArray, List.set_cons_zero, List.set_cons_succ]
                    refine wpAnyM_one (i := 12) (by kernel_rfl) rfl (fun K hK => ?_)
                    go_simp
                    refine hK.out _ _ (fun _ => four (HX.out.on B31 HX.out.lt)) ?_
                    clear hK K
                    try simp only [Act.put, List.setIfInBounds_toArray, List.set_cons_zero, List.set_cons_succ]
                    refine wpAnyM_done (by kernel_rfl) ?_ _
                    try simp only [Act.put, List.setIfInBounds_toArray, List.set_cons_zero, List.set_cons_succ]
                    go_wp2_with fail
                    go_meet
                    exact ⟨_, r1, r2, r3, r4, r5, r6, rfl, rfl, B31, hD, L31⟩
                · have A27a := bel_al wd (.cells #[.slice none 0 0, .slice none 0 0, .int .i64 0, .slice none 0 0] 28)
                  have B27a := hB.trans (A27a.mono hB.size)
                  have P27a := Blk.made wd #[.slice none 0 0, .slice none 0 0, .int .i64 0, .slice none 0 0] 28
                  have hp27 : wc.heap.size ≤ wd.heap.size := hB.size
                  go_simp
                  refine hK.out _ _ (fun _ => four (HX.out.on B27a HX.out.lt)) ?_
                  clear hK K
                  try simp only [Act.put, List.setIfInBounds_toArray, List.set_cons_zero, List.set_cons_succ]
                  refine wpAnyM_one (i := 1) (by kernel_rfl) rfl (fun K hK => ?_)
                  go_simp
                  go_at_call 19
                  refine (hru _ (HBV.out.trans (B27a.mono HBV.out.size))).mono ?_
                  rintro e u32 ⟨rv32, rfl, ho32, hb32⟩
                  have B32b := B27a.trans (hb32.mono B27a.size)
                  have P32b := P27a.on hb32 P27a.lt
                  have R32b := hid (ho32.lies HRF.out)
                  obtain ⟨ra32, rc32, hrv32⟩ := ho32.form
                  subst hrv32
                  clear ho32
                  go_wp2_with fail
                  refine hK.out _ _ (fun _ => four (HX.out.on B32b HX.out.lt)) ?_
                  clear hK K
                  try simp only [Act.put, List.setIfInBounds_toArray, List.set_cons_zero, List.set_cons_succ]
                  refine wpAnyM_one (i := 6) (by kernel_rfl) rfl (fun K hK => ?_)
                  go_simp
                  go_at_call 18
                  refine (run_wide _ _ rs R32b.out s _ _ _ ((HS.out.on B32b).in2 HSM.out).2 HSM.out.wf (x.steps + m) hfb .nilIface (.inl rfl) noTb noTb_ok (ask_nil _) hlim hlv hlnum).mono ?_
                  rw [HRP.out]
                  dsimp only
                  rintro e u33 ⟨sv33, rfl, hO5, hb33⟩
                  have B33b := B32b.trans (hb33.mono B32b.size)
                  have P33b := P32b.on hb33 P32b.lt
                  obtain ⟨r1, r2, r3, r4, r5, r6, hsv33, _⟩ := hO5.trio HOKR.out
                  subst hsv33
                  go_wp2_with fail
                  refine hK.out _ _ (fun _ => four (HX.out.on B33b HX.out.lt)) ?_
                  clear hK K
                  try simp only [Act.put, List.setIfInBounds_toArray, List.set_cons_zero, List.set_cons_succ]
                  have a0 := P33b.cell (i := 0) rfl
                  have z0 := P33b.free 0
                  have m1 := P33b.set 0 (.slice r1 y.ops.length r2)
                  have a1 := m1.cell (i := 1) rfl
                  have z1 := m1.free 1
                  have m2 := m1.set 1 (.slice r3 y.vals.length r4)
                  have a2 := m2.cell (i := 2) rfl
                  have z2 := m2.free 2
                  have m3 := m2.set 2 (.int .i64 y.steps)
                  have a3 := m3.cell (i := 3) rfl
                  have z3 := m3.free 3
                  obtain ⟨hD, hg⟩ := set4 P33b (.slice r1 y.ops.length r2) (.slice r3 y.vals.length r4) (.int .i64 y.steps) (.slice r5 y.heads.length r6)
                  have B34 := B33b.grown hg B33b.size (fun k hk => by cases hk; omega)
                  have L34 := (hO5.base (Nat.zero_le _)).blk P33b hg
                  refine wpAnyM_pick (i := 7) (some 94) (v := ?vz42) rfl rfl (by kernel_rfl) (by kernel_rfl) (by kernel_rfl) (by kernel_rfl) (fun _ _ _ h => h) (Or.inl ⟨by rfl, ?hz42⟩) (four (HX.out.on B33b HX.out.lt)) ?rz42
                  case hz42 => intro w hSw; go_simp; try with_reducible rfl
                  try simp only [Act.put, List.setIfInBounds_toArray, List.set_cons_zero, List.set_cons_succ]
                  refine wpAnyM_pick (i := 8) (some 102) (v := ?vz43) rfl rfl (by kernel_rfl) (by kernel_rfl) (by kernel_rfl) (by kernel_rfl) (fun _ _ _ h => h) (Or.inl ⟨by rfl, ?hz43⟩) (four (HX.out.on B33b HX.out.lt)) ?rz43
                  case hz43 => intro w hSw; go_simp; try with_reducible rfl
                  try simp only [Act.put, List.setIfInBounds_toArray, List.set_cons_zero, List.set_cons_succ]
                  refine wpAnyM_pick (i := 9) (some 103) (v := ?vz44) rfl rfl (by kernel_rfl) (by kernel_rfl) (by kernel_rfl) (by kernel_rfl) (fun _ _ _ h => h) (Or.inl ⟨by rfl, ?hz44⟩) (four (HX.out.on B33b HX.out.lt)) ?rz44
                  case hz44 => intro w hSw; go_simp; try with_reducible rfl
                  try simp only [Act.put, List.setIfInBounds_toArray, List.set_cons_zero, List.set_cons_succ]
                  refine wpAnyM_one (i := 11) (by kernel_rfl) rfl (fun K hK => ?_)
                  go_simp
                  refine hK.out _ _ (fun _ => four (HX.out.on B34 HX.out.lt)) ?_
                  clear hK K
                  try simp only [Act.put, List.setIfInBounds_toArray, List.set_cons_zero, List.set_cons_succ]
                  refine wpAnyM_one (i := 12) (by kernel_rfl) rfl (fun K hK => ?_)
                  go_simp
                  refine hK.out _ _ (fun _ => four (HX.out.on B34 HX.out.lt)) ?_
                  clear hK K
                  try simp only [Act.put, List.setIfInBounds_toArray, List.set_cons_zero, List.set_cons_succ]
                  refine wpAnyM_done (by kernel_rfl) ?_ _
                  try simp only [Act.put, List.setIfInBounds_toArray, List.set_cons_zero, List.set_cons_succ]
                  go_wp2_with fail
                  go_meet
                  exact ⟨_, r1, r2, r3, r4, r5, r6, rfl, rfl, B34, hD, L34⟩
              case rest =>
                obtain ⟨p17, r1, r2, r3, r4, r5, r6, rfl, rfl, hB17, hP17, hO17⟩ := hcut
                have HB17 := hid (HB16.out.trans (hB17.mono HB16.out.size))
                have HXx17 := hid (HXx16.out.on hB17 HXx16.out.lt)
                have HXy17 := hid (HXy16.out.on hB17 HXy16.out.lt)
                have HSx17 := hid (HSx16.out.on hB17)
                have HSy17 := hid (HSy16.out.on hB17)
                obtain ⟨t1, t2, t3⟩ := HSy17.out.lies2 HOKY.out
                obtain ⟨t4, t5, t6⟩ := hO17.lies2 HOKY.out
                have hsm := rsame_any wc _ _ _ _ _ _ _ _ y.steps _ t1 t2 t3 t4 t5 t6
                obtain ⟨j0, j1, j2, j3⟩ := four HXx17.out
                obtain ⟨k0, k1, k2, k3⟩ := four HXy17.out
                obtain ⟨l0, l1, l2, l3⟩ := four hP17
                clear HXs16 HXx16 HSs16 HSx16 HXy16 HSy16 HB16 hB17 hP17 hO17 HRP17 t1 t2 t3 t4 t5 t6
                have HF := hid hf
                clear hf
                go_upto_region 20 with (go_at_call 13; refine hsm.mono ?_; clear hsm; rintro e w18 ⟨rfl, hb18⟩; have HB18 := hid (HB17.out.trans (hb18.mono HB17.out.size)); clear j0 j1 j2 j3 k0 k1 k2 k3 l0 l1 l2 l3; obtain ⟨j0, j1, j2, j3⟩ := four (HXx17.out.on hb18 HXx17.out.lt); obtain ⟨k0, k1, k2, k3⟩ := four (HXy17.out.on hb18 HXy17.out.lt); obtain ⟨t1, t2, t3⟩ := (HSx17.out.on hb18).lies2 HXS.out.ok; obtain ⟨t4, t5, t6⟩ := (HSy17.out.on hb18).lies2 HOKY.out; clear hb18 HXx17 HXy17 HSx17 HSy17 HB17)
                rcases HF.out with rfl | rfl
                · have hyg := hz0 rfl
                  simp only [Prod.mk.injEq] at hyg
                  obtain ⟨e1, e2⟩ := hyg
                  subst e1 e2
                  have hsm2 := rsame_any w18 _ _ _ _ _ _ _ _ y.steps _ t1 t2 t3 t4 t5 t6
                  clear t1 t2 t3 t4 t5 t6 HF hz0
                  go_wp2_with (go_at_call 13; refine hsm2.mono ?_; clear hsm2; rintro e w19 ⟨rfl, hb19⟩; have HB19 := hid (HB18.out.trans (hb19.mono HB18.out.size)); clear hb19)
                  go_ret
                  exact ⟨rfl, HB19.out⟩
                · clear t1 t2 t3 t4 t5 t6 HF hz0
                  go_wp2_with fail
                  go_ret
                  exact ⟨rfl, HB18.out⟩
          · have hf1 : ¬ (f : Int) = 0 := by omega
            have hf2 : ((f : Int) == 0) = false := by simp only [beq_eq_false_iff_ne]; omega
            have hf3 : ¬ (f : Int) = 14 := by omega
            have hf4 : ((f : Int) == 14) = false := by simp only [beq_eq_false_iff_ne]; omega
            have hf5 : ((f : Int) != 0) = true := by simp only [bne_iff_ne]; omega
            have hf6 : ((f : Int) != 14) = true := by simp only [bne_iff_ne]; omega
            have HRP11 := hid (HC.out ⟨by omega, by omega⟩)
            clear HC HD hf
            go_upto_region 11 with fail
            go_cut [13, 14] from 20 (fun s13 s14 wx => ∃ (p : Nat) (q1 : Option Addr) (q2 : Nat) (q3 : Option Addr) (q4 : Nat) (q5 : Option Addr) (q6 : Nat), s13 = .pointer (some ⟨p, 0, none⟩) ∧ s14 = .int .i64 (f : Nat) ∧ Below wc.heap.size wc wx ∧ Blk wx p #[.slice q1 x.ops.length q2, .slice q3 x.vals.length q4, .int .i64 x.steps, .slice q5 x.heads.length q6] 28 ∧ OutSt 0 wx (.agg #[.slice q1 x.ops.length q2, .slice q3 x.vals.length q4, .int .i64 x.steps, .slice q5 x.heads.length q6]) x)
            case first =>
              have HX := HXs
              have HS := HSs
              have HSM := HSMs
              have HBV := HB9
              have HRP := HRP11
              have HOKR := hid HXS.out.ok
              have hno := HSM.out.no
              have hnv := HSM.out.nv
              have hlv : s.vals.length ≤ 7539508500002 := by omega
              have hlnum : s.vals.length + s.ops.length ≤ 9223372036854775000 := by omega
              have hfb : -9223372036854775808 ≤ (n + m) ∧ (n + m) ≤ 9223372036854775807 := by omega
              have hlim : s.ops.length + 8 * ((n + m)).toNat ≤ 2513169500000 := by omega
              have hB : Below wc.heap.size wc wc.drew := (Below.refl _ wc).drew
              have HC0 := four (HX.out.on hB HX.out.lt)
              refine wp_region_m (fun w' => (w'.cell? ⟨w4.heap.size, 0, none⟩ = some (.slice s1 s.ops.length s2) ∧ w'.cell? ⟨w4.heap.size, 1, none⟩ = some (.slice s3 s.vals.length s4) ∧ w'.cell? ⟨w4.heap.size, 2, none⟩ = some (.int .i64 s.steps) ∧ w'.cell? ⟨w4.heap.size, 3, none⟩ = some (.slice s5 s.heads.length s6))) 100 (by kernel_rfl) ?_
              generalize wc.drew = wd at hB HC0 ⊢
              refine wpAnyM_pick (i := 0) (some 62) (v := ?vz45) rfl rfl (by kernel_rfl) (by kernel_rfl) (by kernel_rfl) (by kernel_rfl) (fun _ _ _ h => h) (Or.inl ⟨by rfl, ?hz45⟩) HC0 ?rz45
              case hz45 => intro w hSw; go_simp; try with_reducible rfl
              try simp only [Act.put, List.setIfInBounds_toArray, List.set_cons_zero, List.set_cons_succ]
              refine wpAnyM_pick (i := 2) (some 64) (v := ?vz46) rfl rfl (by kernel_rfl) (by kernel_rfl) (by kernel_rfl) (by kernel_rfl) (fun _ _ _ h => h) (Or.inl ⟨by rfl, ?hz46⟩) HC0 ?rz46
              case hz46 => intro w hSw; go_simp; try with_reducible rfl
              try simp only [Act.put, List.setIfInBounds_toArray, List.set_cons_zero, List.set_cons_succ]
              refine wpAnyM_pick (i := 3) (some 65) (v := ?vz47) rfl rfl (by kernel_rfl) (by kernel_rfl) (by kernel_rfl) (by kernel_rfl) (fun _ _ _ h => h) (Or.inl ⟨by rfl, ?hz47⟩) HC0 ?rz47
              case hz47 => intro w hSw; go_simp; try with_reducible rfl
              try simp only [Act.put, List.setIfInBounds_toArray, List.set_cons_zero, List.set_cons_succ]
              refine wpAnyM_pick (i := 4) (some 66) (v := ?vz48) rfl rfl (by kernel_rfl) (by kernel_rfl) (by kernel_rfl) (by kernel_rfl) (fun _ _ _ h => h) (Or.inl ⟨by rfl, ?hz48⟩) HC0 ?rz48
              case hz48 => intro w hSw; go_simp; try with_reducible rfl
              try simp only [Act.put, List.setIfInBounds_toArray, List.set_cons_zero, List.set_cons_succ]
              refine wpAnyM_pick (i := 5) (some 67) (v := ?vz49) rfl rfl (by kernel_rfl) (by kernel_rfl) (by kernel_rfl) (by kernel_rfl) (fun _ _ _ h => h) (Or.inl ⟨by rfl, ?hz49⟩) HC0 ?rz49
              case hz49 => intro w hSw; go_simp; try with_reducible rfl
              try simp only [Act.put, List.setIfInBounds_toArray, List.set_cons_zero, List.set_cons_succ]
              have hwr : IntKind.i64.wrap (n + m) = (n + m) := by
                simp only [IntKind.wrap, IntKind.signed, IntKind.bits]
                first | omega | (split <;> omega) | (simp; omega)
              rw [hwr]
              refine wpAnyM_two (i := 1) (j := 10) (by kernel_rfl) rfl rfl (fun K hK => ?_) (fun K hK => ?_)
              · go_simp
                go_at_call 19
                refine (hru _ (HBV.out.trans (hB.mono HBV.out.size))).mono ?_
                rintro e u35 ⟨rv35, rfl, ho35, hb35⟩
                have B35b := hB.trans (hb35.mono hB.size)
                have R35b := hid (ho35.lies HRF.out)
                obtain ⟨ra35, rc35, hrv35⟩ := ho35.form
                subst hrv35
                clear ho35
                go_wp2_with fail
                refine hK.out _ _ (fun _ => four (HX.out.on B35b HX.out.lt)) ?_
                clear hK K
                try simp only [Act.put, List.setIfInBounds_toArray, List.set_cons_zero, List.set_cons_succ]
                refine wpAnyM_two (i := 6) (j := 10) (by kernel_rfl) rfl rfl (fun K hK => ?_) (fun K hK => ?_)
                · go_simp
                  go_at_call 18
                  refine (run_wide _ _ rs R35b.out s _ _ _ ((HS.out.on B35b).in2 HSM.out).2 HSM.out.wf (n + m) hfb .nilIface (.inl rfl) noTb noTb_ok (ask_nil _) hlim hlv hlnum).mono ?_
                  rw [HRP.out]
                  dsimp only
                  rintro e u36 ⟨sv36, rfl, hO5, hb36⟩
                  have B36b := B35b.trans (hb36.mono B35b.size)
                  obtain ⟨q1, q2, q3, q4, q5, q6, hsv36, _⟩ := hO5.trio HOKR.out
                  subst hsv36
                  go_wp2_with fail
                  refine hK.out _ _ (fun _ => four (HX.out.on B36b HX.out.lt)) ?_
                  clear hK K
                  try simp only [Act.put, List.setIfInBounds_toArray, List.set_cons_zero, List.set_cons_succ]
                  have A37 := bel_al u36 (.cells #[.slice q1 x.ops.length q2, .slice q3 x.vals.length q4, .int .i64 x.steps, .slice q5 x.heads.length q6] 28)
                  have B37 := B36b.trans (A37.mono B36b.size)
                  have P37 := Blk.made u36 #[.slice q1 x.ops.length q2, .slice q3 x.vals.length q4, .int .i64 x.steps, .slice q5 x.heads.length q6] 28
                  have L37 := (hO5.base (Nat.zero_le _)).on A37
                  have A37z := bel_al u36 (.cells #[.slice none 0 0, .slice none 0 0, .int .i64 0, .slice none 0 0] 28)
                  have B37z := B36b.trans (A37z.mono B36b.size)
                  refine wpAnyM_pick (i := 7) (some 61) (v := ?vz50) rfl rfl (by kernel_rfl) (by kernel_rfl) (by kernel_rfl) (by kernel_rfl) (fun _ _ _ h => h) (Or.inl ⟨by rfl, ?hz50⟩) (four (HX.out.on B36b HX.out.lt)) ?rz50
                  case hz50 => intro w hSw; go_simp; try with_reducible rfl
                  try simp only [Act.put, List.setIfInBounds_toArray, List.set_cons_zero, List.set_cons_succ]
                  refine wpAnyM_pick (i := 8) (some 69) (v := ?vz51) rfl rfl (by kernel_rfl) (by kernel_rfl) (by kernel_rfl) (by kernel_rfl) (fun _ _ _ h => h) (Or.inl ⟨by rfl, ?hz51⟩) (four (HX.out.on B36b HX.out.lt)) ?rz51
                  case hz51 => intro w hSw; go_simp; try with_reducible rfl
                  try simp only [Act.put, List.setIfInBounds_toArray, List.set_cons_zero, List.set_cons_succ]
                  refine wpAnyM_pick (i := 9) (some 70) (v := ?vz52) rfl rfl (by kernel_rfl) (by kernel_rfl) (by kernel_rfl) (by kernel_rfl) (fun _ _ _ h => h) (Or.inl ⟨by rfl, ?hz52⟩) (four (HX.out.on B36b HX.out.lt)) ?rz52
                  case hz52 => intro w hSw; go_simp; try with_reducible rfl
                  try simp only [Act.put, List.setIfInBounds_toArray, List.set_cons_zero, List.set_cons_succ]
                  refine wpAnyM_one (i := 10) (by kernel_rfl) rfl (fun K hK => ?_)
                  go_simp
                  refine hK.out _ _ (fun _ => four (HX.out.on B37z HX.out.lt)) ?_
                  clear hK K
                  try simp only [Act.put, List.setIfInBounds_toArray, List.set_cons_zero, List.set_cons_succ]
                  refine wpAnyM_one (i := 11) (by kernel_rfl) rfl (fun K hK => ?_)
                  go_simp
                  refine hK.out _ _ (fun _ => four (HX.out.on B37 HX.out.lt)) ?_
                  clear hK K
                  try simp only [Act.put, List.setIfInBounds_toArray, List.set_cons_zero, List.set_cons_succ]
                  refine wpAnyM_one (i := 12) (by kernel_rfl) rfl (fun K hK => ?_)
                  go_simp
                  refine hK.out _ _ (fun _ => four (HX.out.on B37 HX.out.lt)) ?_
                  clear hK K
                  try simp only [Act.put, List.setIfInBounds_toArray, List.set_cons_zero, List.set_cons_succ]
                  refine wpAnyM_done (by kernel_rfl) ?_ _
                  try simp only [Act.put, List.setIfInBounds_toArray, List.set_cons_zero, List.set_cons_succ]
                  go_wp2_with fail
                  go_meet
                  exact ⟨_, q1, q2, q3, q4, q5, q6, rfl, rfl, B37, P37, L37⟩
                · have A36a := bel_al u35 (.cells #[.slice none 0 0, .slice none 0 0, .int .i64 0, .slice none 0 0] 28)
                  have B36a := B35b.trans (A36a.mono B35b.size)
                  have P36a := Blk.made u35 #[.slice none 0 0, .slice none 0 0, .int .i64 0, .slice none 0 0] 28
                  have hp36 : wc.heap.size ≤ u35.heap.size := B35b.size
                  have R36a := hid (R35b.out.on A36a)
                  go_simp
                  refine hK.out _ _ (fun _ => four (HX.out.on B36a HX.out.lt)) ?_
                  clear hK K
                  try simp only [Act.put, List.setIfInBounds_toArray, List.set_cons_zero, List.set_cons_succ]
                  refine wpAnyM_one (i := 6) (by kernel_rfl) rfl (fun K hK => ?_)
                  go_simp
                  go_at_call 18
                  refine (run_wide _ _ rs R36a.out s _ _ _ ((HS.out.on B36a).in2 HSM.out).2 HSM.out.wf (n + m) hfb .nilIface (.inl rfl) noTb noTb_ok (ask_nil _) hlim hlv hlnum).mono ?_
                  rw [HRP.out]
                  dsimp only
                  rintro e u38 ⟨sv38, rfl, hO5, hb38⟩
                  have B38b := B36a.trans (hb38.mono B36a.size)
                  have P38b := P36a.on hb38 P36a.lt
                  obtain ⟨q1, q2, q3, q4, q5, q6, hsv38, _⟩ := hO5.trio HOKR.out
                  subst hsv38
                  go_wp2_with fail
                  refine hK.out _ _ (fun _ => four (HX.out.on B38b HX.out.lt)) ?_
                  clear hK K
                  try simp only [Act.put, List.setIfInBounds_toArray, List.set_cons_zero, List.set_cons_succ]
                  have a0 := P38b.cell (i := 0) rfl
                  have z0 := P38b.free 0
                  have m1 := P38b.set 0 (.slice q1 x.ops.length q2)
                  have a1 := m1.cell (i := 1) rfl
                  have z1 := m1.free 1
                  have m2 := m1.set 1 (.slice q3 x.vals.length q4)
                  have a2 := m2.cell (i := 2) rfl
                  have z2 := m2.free 2
                  have m3 := m2.set 2 (.int .i64 x.steps)
                  have a3 := m3.cell (i := 3) rfl
                  have z3 := m3.free 3
                  obtain ⟨hD, hg⟩ := set4 P38b (.slice q1 x.ops.length q2) (.slice q3 x.vals.length q4) (.int .i64 x.steps) (.slice q5 x.heads.length q6)
                  have B39 := B38b.grown hg B38b.size (fun k hk => by cases hk; omega)
                  have L39 := (hO5.base (Nat.zero_le _)).blk P38b hg
                  refine wpAnyM_pick (i := 7) (some 61) (v := ?vz53) rfl rfl (by kernel_rfl) (by kernel_rfl) (by kernel_rfl) (by kernel_rfl) (fun _ _ _ h => h) (Or.inl ⟨by rfl, ?hz53⟩) (four (HX.out.on B38b HX.out.lt)) ?rz53
                  case hz53 => intro w hSw; go_simp; try with_reducible rfl
                  try simp only [Act.put, List.setIfInBounds_toArray, List.set_cons_zero, List.set_cons_succ]
                  refine wpAnyM_pick (i := 8) (some 69) (v := ?vz54) rfl rfl (by kernel_rfl) (by kernel_rfl) (by kernel_rfl) (by kernel_rfl) (fun _ _ _ h => h) (Or.inl ⟨by rfl, ?hz54⟩) (four (HX.out.on B38b HX.out.lt)) ?rz54
                  case hz54 => intro w hSw; go_simp; try with_reducible rfl
                  try simp only [Act.put, List.setIfInBounds_toArray, List.set_cons_zero, List.set_cons_succ]
                  refine wpAnyM_pick (i := 9) (some 70) (v := ?vz55) rfl rfl (by kernel_rfl) (by kernel_rfl) (by kernel_rfl) (by kernel_rfl) (fun _ _ _ h => h) (Or.inl ⟨by rfl, ?hz55⟩) (four (HX.out.on B38b HX.out.lt)) ?rz55
                  case hz55 => intro w hSw; go_simp; try with_reducible rfl
                  try simp only [Act.put, List.setIfInBounds_toArray, List.set_cons_zero, List.set_cons_succ]
                  refine wpAnyM_one (i := 11) (by kernel_rfl) rfl (fun K hK => ?_)
                  go_simp
                  refine hK.out _ _ (fun _ => four (HX.out.on B39 HX.out.lt)) ?_
                  clear hK K
                  try simp only [Act.put, List.setIfInBounds_toArray, List.set_cons_zero, List.set_cons_succ]
                  refine wpAnyM_one (i := 12) (by kernel_rfl) rfl (fun K hK => ?_)
                  go_simp
                  refine hK.out _ _ (fun _ => four (HX.out.on B39 HX.out.lt)) ?_
                  clear hK K
                  try simp only [Act.put, List.setIfInBounds_toArray, List.set_cons_zero, List.set_cons_succ]
                  refine wpAnyM_done (by kernel_rfl) ?_ _
                  try simp only [Act.put, List.setIfInBounds_toArray, List.set_cons_zero, List.set_cons_succ]
                  go_wp2_with fail
                  go_meet
                  exact ⟨_, q1, q2, q3, q4, q5, q6, rfl, rfl, B39, hD, L39⟩
              · have A35a := bel_al wd (.cells #[.slice none 0 0, .slice none 0 0, .int .i64 0, .slice none 0 0] 28)
                have B35a := hB.trans (A35a.mono hB.size)
                have P35a := Blk.made wd #[.slice none 0 0, .slice none 0 0, .int .i64 0, .slice none 0 0] 28
                have hp35 : wc.heap.size ≤ wd.heap.size := hB.size
                go_simp
                refine hK.out _ _ (fun _ => four (HX.out.on B35a HX.out.lt)) ?_
                clear hK K
                try simp only [Act.put, List.setIfInBounds_toArray, List.set_cons_zero, List.set_cons_succ]
                refine wpAnyM_one (i := 1) (by kernel_rfl) rfl (fun K hK => ?_)
                go_simp
                go_at_call 19
                refine (hru _ (HBV.out.trans (B35a.mono HBV.out.size))).mono ?_
                rintro e u40 ⟨rv40, rfl, ho40, hb40⟩
                have B40b := B35a.trans (hb40.mono B35a.size)
                have P40b := P35a.on hb40 P35a.lt
                have R40b := hid (ho40.lies HRF.out)
                obtain ⟨ra40, rc40, hrv40⟩ := ho40.form
                subst hrv40
                clear ho40
                go_wp2_with fail
                refine hK.out _ _ (fun _ => four (HX.out.on B40b HX.out.lt)) ?_
                clear hK K
                try simp only [Act.put, List.setIfInBounds_toArray, List.set_cons_zero, List.set_cons_succ]
                refine wpAnyM_one (i := 6) (by kernel_rfl) rfl (fun K hK => ?_)
                go_simp
                go_at_call 18
                refine (run_wide _ _ rs R40b.out s _ _ _ ((HS.out.on B40b).in2 HSM.out).2 HSM.out.wf (n + m) hfb .nilIface (.inl rfl) noTb noTb_ok (ask_nil _) hlim hlv hlnum).mono ?_
                rw [HRP.out]
                dsimp only
                rintro e u41 ⟨sv41, rfl, hO5, hb41⟩
                have B41b := B40b.trans (hb41.mono B40b.size)
                have P41b := P40b.on hb41 P40b.lt
                obtain ⟨q1, q2, q3, q4, q5, q6, hsv41, _⟩ := hO5.trio HOKR.out
                subst hsv41
                go_wp2_with fail
                refine hK.out _ _ (fun _ => four (HX.out.on B41b HX.out.lt)) ?_
                clear hK K
                try simp only [Act.put, List.setIfInBounds_toArray, List.set_cons_zero, List.set_cons_succ]
                have a0 := P41b.cell (i := 0) rfl
                have z0 := P41b.free 0
                have m1 := P41b.set 0 (.slice q1 x.ops.length q2)
                have a1 := m1.cell (i := 1) rfl
                have z1 := m1.free 1
                have m2 := m1.set 1 (.slice q3 x.vals.length q4)
                have a2 := m2.cell (i := 2) rfl
                have z2 := m2.free 2
                have m3 := m2.set 2 (.int .i64 x.steps)
                have a3 := m3.cell (i := 3) rfl
                have z3 := m3.free 3
                obtain ⟨hD, hg⟩ := set4 P41b (.slice q1 x.ops.length q2) (.slice q3 x.vals.length q4) (.int .i64 x.steps) (.slice q5 x.heads.length q6)
                have B42 := B41b.grown hg B41b.size (fun k hk => by cases hk; omega)
                have L42 := (hO5.base (Nat.zero_le _)).blk P41b hg
                refine wpAnyM_pick (i := 7) (some 61) (v := ?vz56) rfl rfl (by kernel_rfl) (by kernel_rfl) (by kernel_rfl) (by kernel_rfl) (fun _ _ _ h => h) (Or.inl ⟨by rfl, ?hz56⟩) (four (HX.out.on B41b HX.out.lt)) ?rz56
                case hz56 => intro w hSw; go_simp; try with_reducible rfl
                try simp only [Act.put, List.setIfInBounds_toArray, List.set_cons_zero, List.set_cons_succ]
                refine wpAnyM_pick (i := 8) (some 69) (v := ?vz57) rfl rfl (by kernel_rfl) (by kernel_rfl) (by kernel_rfl) (by kernel_rfl) (fun _ _ _ h => h) (Or.inl ⟨by rfl, ?hz57⟩) (four (HX.out.on B41b HX.out.lt)) ?rz57
                case hz57 => intro w hSw; go_simp; try with_reducible rfl
                try simp only [Act.put, List.setIfInBounds_toArray, List.set_cons_zero, List.set_cons_succ]
                refine wpAnyM_pick (i := 9) (some 70) (v := ?vz58) rfl rfl (by kernel_rfl) (by kernel_rfl) (by kernel_rfl) (by kernel_rfl) (fun _ _ _ h => h) (Or.inl ⟨by rfl, ?hz58⟩) (four (HX.out.on B41b HX.out.lt)) ?rz58
                case hz58 => intro w hSw; go_simp; try with_reducible rfl
                try simp only [Act.put, List.setIfInBounds_toArray, List.set_cons_zero, List.set_cons_succ]
                refine wpAnyM_one (i := 11) (by kernel_rfl) rfl (fun K hK => ?_)
                go_simp
                refine hK.out _ _ (fun _ => four (HX.out.on B42 HX.out.lt)) ?_
                clear hK K
                try simp only [Act.put, List.setIfInBounds_toArray, List.set_cons_zero, List.set_cons_succ]
                refine wpAnyM_one (i := 12) (by kernel_rfl) rfl (fun K hK => ?_)
                go_simp
                refine hK.out _ _ (fun _ => four (HX.out.on B42 HX.out.lt)) ?_
                clear hK K
                try simp only [Act.put, List.setIfInBounds_toArray, List.set_cons_zero, List.set_cons_succ]
                refine wpAnyM_done (by kernel_rfl) ?_ _
                try simp only [Act.put, List.setIfInBounds_toArray, List.set_cons_zero, List.set_cons_succ]
                go_wp2_with fail
                go_meet
                exact ⟨_, q1, q2, q3, q4, q5, q6, rfl, rfl, B42, hD, L42⟩
            case rest =>
              obtain ⟨p11, q1, q2, q3, q4, q5, q6, rfl, rfl, hB11, hP11, hO11⟩ := hcut
              have HB11 := hid (HB9.out.trans (hB11.mono HB9.out.size))
              obtain ⟨t1, t2, t3⟩ := (HSx.out.on hB11).lies2 HXS.out.ok
              obtain ⟨t4, t5, t6⟩ := hO11.lies2 HXS.out.ok
              have hsm := rsame_any wc _ _ _ _ _ _ _ _ x.steps _ t1 t2 t3 t4 t5 t6
              obtain ⟨j0, j1, j2, j3⟩ := four (HXx.out.on hB11 HXx.out.lt)
              obtain ⟨k0, k1, k2, k3⟩ := four hP11
              clear t1 t2 t3 t4 t5 t6 hB11 hP11 hO11 HXx HSx HXs HSs HRP11 HB9
              go_wp2_with (go_at_call 13; refine hsm.mono ?_; clear hsm; rintro e w12 ⟨rfl, hb12⟩; have HB12 := hid (HB11.out.trans (hb12.mono HB11.out.size)); clear hb12)
              go_ret
              exact ⟨rfl, HB12.out⟩
      · have hC1 : ¬ (chkRs rs : Int) = 0 := by omega
        have hC2 : ((chkRs rs : Int) == 0) = false := by simp only [beq_eq_false_iff_ne]; omega
        generalize chkRs rs = cc at hto hC1 hC2
        clear hg hc hru
        go_enter Tryz.func8, Tryz.ntmps8
        go_upto_region 5 with (first
          | (go_at_call 9; refine hwk.mono ?_; clear hwk; rintro e w1 ⟨rfl, hb1⟩; have HB1 := hid (HB0.out.trans (hb1.mono HB0.out.size)); have HX1 := HX0.out.on hb1 HX0.out.lt; have c0 : w1.cell? ⟨w.heap.size, 0, none⟩ = some (.int .u8 a) := HX1.cell (i := 0) rfl; have c1 : w1.cell? ⟨w.heap.size, 1, none⟩ = some (.int .u8 b) := HX1.cell (i := 1) rfl; clear HB0 HX0 hb1 HX1)
          | (go_at_call 17; refine (hfw _ HB1.out).mono ?_; clear hfw; rintro e w2 ⟨rfl, rfl⟩))
        go_cut [7, 8] from 20 (fun s7 s8 wx => s7 = .int .i64 n ∧ s8 = .int .i64 m ∧ Below w.heap.size w wx)
        case first =>
          go_quiet (fail)
          go_wp2_with fail
          go_meet
          exact ⟨rfl, rfl, HB1.out.trans ⟨rfl, rfl, rfl, Nat.le_refl _, fun _ _ => rfl⟩⟩
        obtain ⟨rfl, rfl, hB2⟩ := hcut
        have HB2 := hid hB2
        clear hB2 HB1 hn hm
        go_wp2_with (first
          | (go_at_call 11; refine (hcp _ HB2.out).mono ?_; clear hcp; rintro e w3 ⟨x3, rfl, ho3, hb3⟩; have hl3 := Owns.lies ho3 HFT.out; obtain ⟨xa, xc, hxv, _⟩ := own_cells ho3; subst hxv; have HB3 := hid (HB2.out.trans (hb3.mono HB2.out.size)); have hq3 := hsa w3 _ hl3; clear hb3 ho3 hl3 hsa)
          | (go_at_call 10; refine hq3.mono ?_; clear hq3; rintro e w4 ⟨sv4, rfl, ho4, hb4⟩; obtain ⟨s1, s2, s3, s4, s5, s6, hsv, _⟩ := ho4.trio HSK.out; subst hsv; have A5 := bel_al w4 (.cells #[.slice s1 s.ops.length s2, .slice s3 s.vals.length s4, .int .i64 s.steps, .slice s5 s.heads.length s6] 28); have HB5 := hid ((HB3.out.trans (hb4.mono HB3.out.size)).trans (A5.mono (HB3.out.trans (hb4.mono HB3.out.size)).size)); have HX5 := hid (Blk.made w4 #[.slice s1 s.ops.length s2, .slice s3 s.vals.length s4, .int .i64 s.steps, .slice s5 s.heads.length s6] 28); have HS5 := hid ((ho4.base (Nat.zero_le _)).on A5); clear A5 hb4 ho4)
          | (go_at_call 23; refine (hto _ HB5.out).mono ?_; clear hto; rintro e w6 ⟨rfl, hb6⟩; have HB6 := hid (HB5.out.trans (hb6.mono HB5.out.size)); have HX6 := hid (HX5.out.on hb6 HX5.out.lt); have HS6 := hid (HS5.out.on hb6); clear hb6 HX5 HS5))
        go_ret
        exact ⟨rfl, HB6.out⟩
    · have hE1 : ¬ (e0 : Int) = 0 := by omega
      have hE2 : ((e0 : Int) == 0) = false := by simp only [beq_eq_false_iff_ne]; omega
      clear hz0 hss hru hto he
      go_enter Tryz.func8, Tryz.ntmps8
      go_upto_region 5 with (first
        | (go_at_call 9; refine hwk.mono ?_; clear hwk; rintro e w1 ⟨rfl, hb1⟩; have HB1 := hid (HB0.out.trans (hb1.mono HB0.out.size)); have HX1 := HX0.out.on hb1 HX0.out.lt; have c0 : w1.cell? ⟨w.heap.size, 0, none⟩ = some (.int .u8 a) := HX1.cell (i := 0) rfl; have c1 : w1.cell? ⟨w.heap.size, 1, none⟩ = some (.int .u8 b) := HX1.cell (i := 1) rfl; clear HB0 HX0 hb1 HX1)
        | (go_at_call 17; refine (hfw _ HB1.out).mono ?_; clear hfw; rintro e w2 ⟨rfl, rfl⟩))
      go_cut [7, 8] from 20 (fun s7 s8 wx => s7 = .int .i64 n ∧ s8 = .int .i64 m ∧ Below w.heap.size w wx)
      case first =>
        go_quiet (fail)
        go_wp2_with fail
        go_meet
        exact ⟨rfl, rfl, HB1.out.trans ⟨rfl, rfl, rfl, Nat.le_refl _, fun _ _ => rfl⟩⟩
      obtain ⟨rfl, rfl, hB2⟩ := hcut
      have HB2 := hid hB2
      clear hB2 HB1 hn hm
      go_wp2_with (first
        | (go_at_call 11; refine (hcp _ HB2.out).mono ?_; clear hcp; rintro e w3 ⟨x3, rfl, ho3, hb3⟩; have hl3 := Owns.lies ho3 HFT.out; obtain ⟨xa, xc, hxv, _⟩ := own_cells ho3; subst hxv; have HB3 := hid (HB2.out.trans (hb3.mono HB2.out.size)); have hq3 := hsa w3 _ hl3; clear hb3 ho3 hl3 hsa)
        | (go_at_call 10; refine hq3.mono ?_; clear hq3; rintro e w4 ⟨sv4, rfl, ho4, hb4⟩; obtain ⟨s1, s2, s3, s4, s5, s6, hsv, _⟩ := ho4.trio HSK.out; subst hsv; have A5 := bel_al w4 (.cells #[.slice s1 s.ops.length s2, .slice s3 s.vals.length s4, .int .i64 s.steps, .slice s5 s.heads.length s6] 28); have HB5 := hid ((HB3.out.trans (hb4.mono HB3.out.size)).trans (A5.mono (HB3.out.trans (hb4.mono HB3.out.size)).size)); have HX5 := hid (Blk.made w4 #[.slice s1 s.ops.length s2, .slice s3 s.vals.length s4, .int .i64 s.steps, .slice s5 s.heads.length s6] 28); have HS5 := hid ((ho4.base (Nat.zero_le _)).on A5); clear A5 hb4 ho4))
      go_ret
      exact ⟨rfl, HB5.out⟩
  · rw [decide_eq_false hfew] at hfw
    go_enter Tryz.func8, Tryz.ntmps8
    go_wp2_with (first
      | (go_at_call 9; refine hwk.mono ?_; clear hwk; rintro e w1 ⟨rfl, hb1⟩; have HB1 := hid (HB0.out.trans (hb1.mono HB0.out.size)); have HX1 := HX0.out.on hb1 HX0.out.lt; have c0 : w1.cell? ⟨w.heap.size, 0, none⟩ = some (.int .u8 a) := HX1.cell (i := 0) rfl; have c1 : w1.cell? ⟨w.heap.size, 1, none⟩ = some (.int .u8 b) := HX1.cell (i := 1) rfl; clear HB0 HX0 hb1 HX1)
      | (go_at_call 17; refine (hfw _ HB1.out).mono ?_; clear hfw; rintro e w2 ⟨rfl, rfl⟩))
    go_ret
    exact ⟨rfl, HB1.out⟩

theorem rewriteSlices_own : ownKnob Tryz.prog.godebug = none := by kernel_rfl
theorem rewriteSlices_laidOut : laidOutB Tryz.prog = true := by kernel_rfl

set_option maxRecDepth 100000 in
theorem rewriteSlices_lifted (os : Os) (started : os.Started) (H : Type) (enc : TypeId × Value → H) :
    ReturnsInHanded {} Tryz.checked os 8 .any (Rows.rewriteSlicesSpec.pre6 enc Tryz.prog Tryz.f8 Rows.rewriteSlicesRow.domain false) (Rows.rewriteSlicesSpec.post enc Tryz.prog Tryz.f8 false true false false) := by
  refine returnsInHanded_of_change_sized (C := Tryz.checked) rewriteSlices_own started (by kernel_rfl) Tryz.func8
    (ChangeSpec.witness6 (enc := enc) (C := Tryz.checked) false ⟨#[], #[.slice none 0 0, .slice none 0 0, .agg #[.int .u8 0, .int .u8 0]], []⟩ 8 (by kernel_rfl) (by kernel_rfl) (by kernel_rfl) (by kernel_rfl)) ?_
  intro W base args ds gs before hval0 hW hcnd hsz0 _
  have hsz : (DataW.weightsEach Tryz.prog (Tryz.f8.params.toList ++ Rows.rewriteSlicesSpec.plain.varTypes Tryz.prog) (ds ++ gs)).all (· ≤ reachBytes) = true := hsz0
  have hval : ∀ (j : Nat) t v, Tryz.f8.params[j]? = some t → args[j]? = some v → Value.okWide Tryz.prog W .any base t v := hval0
  have hW' := hW
  obtain ⟨p, q, hA0, hV, rfl, hfz, hnd⟩ := hW
  have hA : DataW.TrodAll enc Tryz.prog W 0 (fun _ => true) true Tryz.f8.params.toList args.toList ds p := hA0
  rw [Tryz.params8] at hA hval hsz
  obtain ⟨v0, vs0, d0, ds0, p0, q0, hargs, rfl, rfl, h0, r0⟩ := trodAll_cons hA
  obtain ⟨v1, vs1, d1, ds1, p1, q1, rfl, rfl, rfl, h1, r1⟩ := trodAll_cons r0
  obtain ⟨v2, vs2, d2, ds2, p2, q2, rfl, rfl, rfl, h2, r2⟩ := trodAll_cons r1
  obtain ⟨rfl, rfl, rfl⟩ := trodAll_nil r2
  obtain rfl : args = #[v0, v1, v2] := by cases args; simp_all
  obtain ⟨rfl, rfl⟩ := trodVars_none hV
  have k0 := h0
  have lt0 : ∀ x ∈ p0, x.block < W.heap.size := by obtain ⟨m, hm⟩ := k0; exact DataW.trod_lt m _ _ _ hm
  have k1 := h1
  have lt1 : ∀ x ∈ p1, x.block < W.heap.size := by obtain ⟨m, hm⟩ := k1; exact DataW.trod_lt m _ _ _ hm
  have k2 := h2
  have lt2 : ∀ x ∈ p2, x.block < W.heap.size := by obtain ⟨m, hm⟩ := k2; exact DataW.trod_lt m _ _ _ hm
  obtain ⟨L0, l0, z0⟩ := open_rules (hval 0 41 v0 rfl rfl) h0 (fun n hn => by simpa using List.all_eq_true.1 hsz n (DataW.weights_mem_each (j := 0) (t := 41) rfl rfl n hn))
  obtain ⟨L1, l1, z1⟩ := open_cells (hval 1 23 v1 rfl rfl) h1 (fun n hn => by simpa using List.all_eq_true.1 hsz n (DataW.weights_mem_each (j := 1) (t := 23) rfl rfl n hn))
  obtain ⟨x2a, x2b, rfl, w2a, w2b⟩ := open_pair (hval 2 66 v2 rfl rfl) h2
  clear hA0 hval0
  refine (rewriteSlices_walk v0 L0 v1 L1 x2a x2b w2a w2b W l0 z0 l1 z1).mono fun e W' ⟨he, bel⟩ => ?_
  subst he
  exact ⟨_, rfl, _, _, _, [], _, [], hW', trodAll_mk1 (shut_bool Tryz.underlying4 _), (trodAll_cons_mk (Below.trod rewriteSlices_laidOut (by kernel_rfl) (of_decide_eq_true (by kernel_rfl)) k0 bel lt0) (trodAll_cons_mk (Below.trod rewriteSlices_laidOut (by kernel_rfl) (of_decide_eq_true (by kernel_rfl)) k1 bel lt1) (trodAll_cons_mk (Below.trod rewriteSlices_laidOut (by kernel_rfl) (of_decide_eq_true (by kernel_rfl)) k2 bel lt2) trodAll_mk0))), rfl, bel.frame _, fun h => by cases h⟩

theorem rewriteSlices_holds : Rows.RewriteSlicesSaid :=
  OpenClaim.holds_of_wide 8 Tryz.f8 rfl rfl rfl rfl rfl rfl rfl ⟨rfl, rfl, rfl, rfl, rfl⟩ rfl rfl rfl rfl rfl (by kernel_rfl) Tryz.func8 (by kernel_rfl)
    (of_decide_eq_true (by kernel_rfl)) (by unfold Func.isWrapper; first | (rw [if_pos (by decide +kernel)]; kernel_rfl) | (rw [if_neg (by decide +kernel)]; exact ⟨rfl, rfl⟩))
    (fun os started H enc _ => rewriteSlices_lifted os started H enc)

#print axioms rewriteSlices_holds

end Go.Proofs.YtgijdhnkkbenoaaGreat
