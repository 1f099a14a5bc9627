/-
  wherever the power fails in a Commit, and while the disk is opened again, however often: all is as it was behind the last Commit, or as this one would have left it; opened once more it is the same.
-/
import Derived.Test.YtglallhblcjffaaGreatDoorCards
import Derived.Test.YtglallhblcjffaaGreatDoorTie
import Derived.Test.YtglallhblcjffaaGreatDoorVd
import Derived.Test.YtglallhblcjffaaGreatDoorOa
import Derived.Test.YtglallhblcjffaaGreatDoorEv
import Derived.ProofKit
import Derived.OpenShut
import Derived.ShutString
import Derived.ChangeOld
import Derived.Below
import Derived.SizedLaws
import Derived.Lib.SmallJoins
import Derived.SevenTiedAt
import Derived.Deep.DeepHandedRow
import Derived.LaidMore
import Derived.Lay
import Derived.LaidHandle
namespace Go.Proofs.YtglallhblcjffaaGreatDoor
open Go.ChangeShapes Go.WideShapes Go.ChangeAt Go.RowKit Go.Joins
open Go.ChangeMaps (open_string shut_string)
set_option linter.unusedVariables false
set_option linter.unusedSimpArgs false
set_option maxRecDepth 100000

set_option maxHeartbeats 16000000 in
theorem spaceCrash_walk (a0 : Int) (v1 : Value) (L1 : List Ac) (v2 : Value) (L2 : List Nat) (w0' : (Lit.int IntKind.i64 a0).wf = true) (w : World) (hE : Env w) (l1 : LiesA w v1 L1) (z1 : L1.length * 32 ≤ 140737488351232) (l2 : LiesU w v2 L2) (z2 : L2.length ≤ 140737488351232) :
    Calls Tryz.prog 4 #[.int .i64 a0, v1, v2] w fun e w' => e = .returned (.bool true) ∧ Below w.heap.size w w' := by
  obtain ⟨ua, uc, e1⟩ := l1.form
  subst e1
  obtain ⟨ca, cc, e2⟩ := l2.form
  subst e2
  have HWK := hid (wakes_any w hE)
  have HBG : Hid (∀ w1 : World, _) := fun w1 => begin_ws a0 5 w1
  have HEN : Hid (∀ w1 : World, Below w.heap.size w w1 → Env w1) := fun w1 hb => hE.on hE.pos hb
  generalize sz a0 = n at *
  have HU := hid l1
  have HC := hid l2
  obtain ⟨ln, hln⟩ : ∃ ln, L1.length = ln := ⟨_, rfl⟩
  obtain ⟨lc, hlc⟩ : ∃ lc, L2.length = lc := ⟨_, rfl⟩
  have HLN := hid hln
  have HLC := hid hlc
  have hz : ln ≤ 4398046510976 := by omega
  rw [hln] at HU ⊢
  rw [hlc] at HC z2 ⊢
  clear l1 l2 hln hlc z1
  have HKD : Hid (∀ (ak : Int) (w1 : World), Calls Tryz.prog 13 #[.int .i64 ak, .int .i64 10] w1 fun e w' => e = .returned (.int .i64 (kd ak 10)) ∧ w1 = w') := fun ak w1 => kind_any ak 10 (by decide) w1
  have HDO : Hid (∀ (w1 w2 : World) (g k q s N G : Nat) (x : Ac), Env w1 → N < 4611686018427380000 → Fit (G + 5000) → I64 x.pl → Ws w1 w2 g k q s n N G → Calls Tryz.prog 10 #[.pointer (some ⟨g, 0, none⟩), .agg #[.int .i64 x.kd, .int .i64 x.pl, .string x.tx]] w2 fun e V => e = .returned (.bool true) ∧ Ws w1 V g k q s n (N + 5) (G + 4000)) := fun w1 w2 g k q s N G x h1 h2 h3 h4 h5 => does_any x.kd x.pl x.tx h4 h1 h2 h3 h5
  go_enter Tryz.func4, Tryz.ntmps4
  by_cases h2k : 500 < ln
  · have hgi : (500 : Int) < (ln : Int) := by omega
    go_wp2_with (first
      | (go_at_call 8; refine HWK.out.mono ?_; clear HWK; rintro e w1 ⟨rfl, hb1⟩; have HB1 := hid hb1; clear hb1)
      | (go_at_call 9; refine (HBG.out _).mono ?_; clear HBG; rintro e w2 ⟨g, k, q, s, rfl, h2⟩; have HB2 := hid (HB1.out.trans (h2.below.mono HB1.out.size)); clear h2))
    go_ret
    exact ⟨rfl, HB2.out⟩
  · have hgi : ¬ (500 : Int) < (ln : Int) := by omega
    go_wp2_with (first
      | (go_at_call 8; refine HWK.out.mono ?_; clear HWK; rintro e w1 ⟨rfl, hb1⟩; have HB1 := hid hb1; clear hb1)
      | (go_at_call 9; refine (HBG.out _).mono ?_; clear HBG; rintro e w2 ⟨g, k, q0, s0, rfl, h2⟩; have HS2 := hid h2; clear h2))
    have HE1 := hid (HEN.out w1 HB1.out)
    go_loopw [31] (fun i wr => ∃ (j q s : Nat), j ≤ ln ∧ i = .int .i64 (j : Nat) ∧ Hid (Ws w1 wr g k q s n (10000 + 5 * j) (5000 + 60000 * j))) (fun i _ => ln - (intOf i).toNat)
    case atStart => exact ⟨0, q0, s0, Nat.zero_le _, rfl, HS2.out.monoN (by omega)⟩
    case round =>
      obtain ⟨j, q, s, hj, rfl, HS⟩ := hrel
      clear HS2
      by_cases hjm : j < ln
      · have hji : (j : Int) < (ln : Int) := by omega
        obtain ⟨x, hx⟩ : ∃ x, L1[j]? = some x := ⟨_, List.getElem?_eq_getElem (by rw [HLN.out]; exact hjm)⟩
        obtain ⟨ub, uo, e9, hul, d0, d1, d2, hpl, _⟩ := HU.out.at hx
        subst e9
        have hbw := HB1.out.trans (HS.out.below.mono HB1.out.size)
        have c0 := (hbw.cell (p := ⟨ub, uo + j * 3, none⟩) hul).trans d0
        have c1 := (hbw.cell (p := ⟨ub, uo + j * 3 + 1, none⟩) hul).trans d1
        have c2 := (hbw.cell (p := ⟨ub, uo + j * 3 + 2, none⟩) hul).trans d2
        have HKX := hid (HKD.out x.kd wr)
        by_cases hk6 : kd x.kd 10 = 6
        · rw [hk6] at HKX
          clear c1 c2 d0 d1 d2 hpl hx hul hbw hk6
          generalize x.kd = xk at *
          obtain ⟨b1, b2, d, f, now, was, h1, h2, h3⟩ := HS.out
          have H1 := hid h1.wg
          have HP := hid h2
          have HG := hid h3
          clear h1 h2 h3 HS
          obtain ⟨G0, hG0⟩ : ∃ G0, 5000 + 60000 * j = G0 := ⟨_, rfl⟩
          rw [hG0] at HG
          have HGB : Hid (G0 ≤ 40000000) := by show _ ≤ _; omega
          have HG0 := hid hG0
          clear hG0
          have g0 : wr.cell? ⟨g, 0, none⟩ = some (.pointer (some ⟨k, 0, none⟩)) := H1.out.wcell (i := 0) rfl
          by_cases hlc0 : 0 < lc
          · have hlci : (0 : Int) < (lc : Int) := by omega
            obtain ⟨m, hm⟩ : ∃ m, j % lc = m := ⟨_, rfl⟩
            have hml : m < lc := by rw [← hm]; exact Nat.mod_lt _ hlc0
            obtain ⟨y, hy⟩ : ∃ y, L2[m]? = some y := ⟨_, List.getElem?_eq_getElem (by rw [HLC.out]; exact hml)⟩
            obtain ⟨vb, vo, e8, hvl, t0, hy255⟩ := HC.out.at hy
            subst e8
            have hbw := HB1.out.trans (H1.out.below.mono HB1.out.size)
            have t1 : wr.cell? ⟨vb, vo + m, none⟩ = some (.int .u8 (y : Nat)) := (hbw.cell (p := ⟨vb, vo + m, none⟩) hvl).trans t0
            have hmod : (j : Int).tmod (lc : Int) = (m : Int) := by rw [← hm, Int.tmod_eq_emod_of_nonneg (by omega)]; rfl
            have hwm : IntKind.i64.wrap (m : Int) = (m : Int) := by rw [IntKind.wrap_i64]; omega
            have hwy : IntKind.i64.wrap (y : Int) = (y : Int) := by rw [IntKind.wrap_i64]; omega
            have hl0 : ¬ (lc : Int) = 0 := by omega
            have hmi : (m : Int) < (lc : Int) := by omega
            clear hy hm t0 hbw hvl
            go_wp2_with (go_at_call 13; refine HKX.out.mono ?_; clear HKX; rintro e w2 ⟨rfl, rfl⟩)
            clear t1 hmod hwm hwy hl0 hmi c0
            have HOKD := hid H1.out.good.1
            go_at_call 14
            refine (cut_wg (y : Int) (by omega) H1.out).mono ?_
            clear H1 g0
            rintro e w3 ⟨rfl, h3⟩
            have g1 : w3.cell? ⟨g, 1, none⟩ = some (.pointer (some ⟨s, 0, none⟩)) := h3.wcell (i := 1) rfl
            have HCM := hid (commit_wg (d := { d with lf := (y : Int) }) (f' := onD d) HE1.out (by show (d.lg.length + 5000) * 24 ≤ 140737488355328; have := HG.out; have := HGB.out; omega) (HP.out.cz HOKD.out) h3)
            clear h3
            go_wp2_with fail
            go_at_call 15
            refine HCM.out.mono ?_
            clear HCM g1
            rintro e w4 ⟨xx, d2, hh, rfl, h4, h5, h6, h7, h8⟩
            have HCR := hid (HP.out.cr (x := xx) h7)
            have g0 : w4.cell? ⟨g, 0, none⟩ = some (.pointer (some ⟨k, 0, none⟩)) := h4.wcell (i := 0) rfl
            have HL4 : Hid (Lk n hh (G0 + 5000) { d2 with lf := -1, dn := false }) := ⟨h6.len.trans HP.out.len, (by have e := h6.lg; have := HG.out; show d2.lg.length ≤ _; have e2 : d2.lg.length ≤ d.lg.length + 4000 := e; omega), rfl, (by show (-1 : Int) < 0; decide), h5⟩
            have HR4 := hid (restore_wk h4)
            clear h4 h5 h6 h7 h8
            go_wp2_with fail
            go_at_call 16
            refine HR4.out.mono ?_
            clear HR4 g0
            rintro e w5 ⟨rfl, h5⟩
            have H5 := hid h5
            clear h5
            go_wp2_with fail
            go_loopw [11] (fun i wr => ∃ (m : Nat) (d : Ds), m ≤ lc ∧ m ≤ 3 ∧ i = .int .i64 (m : Nat) ∧ Hid (Wk w1 wr g k s b1 b2 d now was) ∧ Hid (Lk n hh (G0 + 5000 + 8000 * m) d)) (fun i _ => lc - (intOf i).toNat)
            case atStart => exact ⟨0, _, Nat.zero_le _, Nat.zero_le _, rfl, H5, HL4⟩
            case round =>
              obtain ⟨m2, dx, hm1, hm3, rfl, HW, HL⟩ := hrel
              clear H5 HL4
              have g0 : wr.cell? ⟨g, 0, none⟩ = some (.pointer (some ⟨k, 0, none⟩)) := HW.out.wcell (i := 0) rfl
              by_cases hmm : m2 < lc ∧ m2 < 3
              · obtain ⟨hma, hmb⟩ := hmm
                have hmi : (m2 : Int) < (lc : Int) := by omega
                have hmi3 : (m2 : Int) < 3 := by omega
                obtain ⟨y2, hy2⟩ : ∃ y, L2[m2]? = some y := ⟨_, List.getElem?_eq_getElem (by rw [HLC.out]; exact hma)⟩
                obtain ⟨vb2, vo2, e8, hvl, t0, hy255'⟩ := HC.out.at hy2
                cases e8
                have hbw := HB1.out.trans (HW.out.below.mono HB1.out.size)
                have t1 : wr.cell? ⟨vb, vo + m2, none⟩ = some (.int .u8 (y2 : Nat)) := (hbw.cell (p := ⟨vb, vo + m2, none⟩) hvl).trans t0
                obtain ⟨y9, hy9⟩ : ∃ y9, y2 % 9 = y9 := ⟨_, rfl⟩
                have hmod : (y2 : Int).tmod 9 = (y9 : Int) := by rw [← hy9, Int.tmod_eq_emod_of_nonneg (by omega)]; omega
                have hw2 : IntKind.i64.wrap (y2 : Int) = (y2 : Int) := by rw [IntKind.wrap_i64]; omega
                have hw9 : IntKind.i64.wrap (y9 : Int) = (y9 : Int) := by rw [IntKind.wrap_i64]; omega
                have hy9b : y9 < 9 := by omega
                have HY2 := hid hy2
                clear hy2 t0 hbw hvl hy9
                go_wp2_with fail
                refine wp_region_d (fun w' => w'.cell? ⟨g, 0, none⟩ = some (.pointer (some ⟨k, 0, none⟩)) ∧ w'.cell? ⟨vb, vo + m2, none⟩ = some (.int .u8 (y2 : Nat))) (fun _ => true) (by kernel_rfl) ?_
                have hS : wr.drew.cell? ⟨g, 0, none⟩ = some (.pointer (some ⟨k, 0, none⟩)) ∧ wr.drew.cell? ⟨vb, vo + m2, none⟩ = some (.int .u8 (y2 : Nat)) := ⟨g0, t1⟩
                have HWD := hid (HW.out.on ((Below.refl _ wr).drew))
                clear HW g0 t1
                generalize wr.drew = wd at *
                refine wpAnyM_pick (i := 0) (some 84) (v := ?vz1) rfl rfl (by kernel_rfl) (by kernel_rfl) (by kernel_rfl) (by kernel_rfl) (fun _ _ _ h => h) (Or.inl ⟨by rfl, ?hz1⟩) hS ?rz1
                case hz1 => intro w hSw; (try have hs1 := hSw.1); (try have hs2 := hSw.2); (try (obtain ⟨ha1, ha2, ha3, ha4⟩ := hSw)); go_simp; try with_reducible rfl
                try simp only [Act.put, List.setIfInBounds_toArray, List.set_cons_zero, List.set_cons_succ]
                refine wpAnyM_pick (i := 1) (some 85) (v := ?vz2) rfl rfl (by kernel_rfl) (by kernel_rfl) (by kernel_rfl) (by kernel_rfl) (fun _ _ _ h => h) (Or.inl ⟨by rfl, ?hz2⟩) hS ?rz2
                case hz2 => intro w hSw; (try have hs1 := hSw.1); (try have hs2 := hSw.2); (try (obtain ⟨ha1, ha2, ha3, ha4⟩ := hSw)); go_simp; try with_reducible rfl
                try simp only [Act.put, List.setIfInBounds_toArray, List.set_cons_zero, List.set_cons_succ]
                refine wpAnyM_pick (i := 2) (some 86) (v := ?vz3) rfl rfl (by kernel_rfl) (by kernel_rfl) (by kernel_rfl) (by kernel_rfl) (fun _ _ _ h => h) (Or.inl ⟨by rfl, ?hz3⟩) hS ?rz3
                case hz3 => intro w hSw; (try have hs1 := hSw.1); (try have hs2 := hSw.2); (try (obtain ⟨ha1, ha2, ha3, ha4⟩ := hSw)); go_simp; try with_reducible rfl
                try simp only [Act.put, List.setIfInBounds_toArray, List.set_cons_zero, List.set_cons_succ]
                refine wpAnyM_pick (i := 3) (some 87) (v := ?vz4) rfl rfl (by kernel_rfl) (by kernel_rfl) (by kernel_rfl) (by kernel_rfl) (fun _ _ _ h => h) (Or.inl ⟨by rfl, ?hz4⟩) hS ?rz4
                case hz4 => intro w hSw; (try have hs1 := hSw.1); (try have hs2 := hSw.2); (try (obtain ⟨ha1, ha2, ha3, ha4⟩ := hSw)); go_simp; try with_reducible rfl
                try simp only [Act.put, List.setIfInBounds_toArray, List.set_cons_zero, List.set_cons_succ]
                refine wpAnyM_pick (i := 4) (some 88) (v := ?vz5) rfl rfl (by kernel_rfl) (by kernel_rfl) (by kernel_rfl) (by kernel_rfl) (fun _ _ _ h => h) (Or.inl ⟨by rfl, ?hz5⟩) hS ?rz5
                case hz5 => intro w hSw; (try have hs1 := hSw.1); (try have hs2 := hSw.2); (try (obtain ⟨ha1, ha2, ha3, ha4⟩ := hSw)); go_simp; try with_reducible rfl
                try simp only [Act.put, List.setIfInBounds_toArray, List.set_cons_zero, List.set_cons_succ]
                refine wpAnyM_pick (i := 5) (some 89) (v := ?vz6) rfl rfl (by kernel_rfl) (by kernel_rfl) (by kernel_rfl) (by kernel_rfl) (fun _ _ _ h => h) (Or.inl ⟨by rfl, ?hz6⟩) hS ?rz6
                case hz6 => intro w hSw; (try have hs1 := hSw.1); (try have hs2 := hSw.2); (try (obtain ⟨ha1, ha2, ha3, ha4⟩ := hSw)); go_simp; try with_reducible rfl
                try simp only [Act.put, List.setIfInBounds_toArray, List.set_cons_zero, List.set_cons_succ]
                refine wpAnyM_pick (i := 6) (some 90) (v := ?vz7) rfl rfl (by kernel_rfl) (by kernel_rfl) (by kernel_rfl) (by kernel_rfl) (fun _ _ _ h => h) (Or.inl ⟨by rfl, ?hz7⟩) hS ?rz7
                case hz7 => intro w hSw; (try have hs1 := hSw.1); (try have hs2 := hSw.2); (try (obtain ⟨ha1, ha2, ha3, ha4⟩ := hSw)); go_simp; try with_reducible rfl
                try simp only [Act.put, List.setIfInBounds_toArray, List.set_cons_zero, List.set_cons_succ]
                refine wpAnyM_pick (i := 7) (some 91) (v := ?vz8) rfl rfl (by kernel_rfl) (by kernel_rfl) (by kernel_rfl) (by kernel_rfl) (fun _ _ _ h => h) (Or.inl ⟨by rfl, ?hz8⟩) hS ?rz8
                case hz8 => intro w hSw; (try have hs1 := hSw.1); (try have hs2 := hSw.2); (try (obtain ⟨ha1, ha2, ha3, ha4⟩ := hSw)); go_simp; try with_reducible rfl
                try simp only [Act.put, List.setIfInBounds_toArray, List.set_cons_zero, List.set_cons_succ]
                refine wpAnyM_pick (i := 8) (some 92) (v := ?vz9) rfl rfl (by kernel_rfl) (by kernel_rfl) (by kernel_rfl) (by kernel_rfl) (fun _ _ _ h => h) (Or.inl ⟨by rfl, ?hz9⟩) hS ?rz9
                case hz9 => intro w hSw; (try have hs1 := hSw.1); (try have hs2 := hSw.2); (try (obtain ⟨ha1, ha2, ha3, ha4⟩ := hSw)); go_simp; try with_reducible rfl
                try simp only [Act.put, List.setIfInBounds_toArray, List.set_cons_zero, List.set_cons_succ]
                refine wpAnyM_pick (i := 9) (some 93) (v := ?vz10) rfl rfl (by kernel_rfl) (by kernel_rfl) (by kernel_rfl) (by kernel_rfl) (fun _ _ _ h => h) (Or.inl ⟨by rfl, ?hz10⟩) hS ?rz10
                case hz10 => intro w hSw; (try have hs1 := hSw.1); (try have hs2 := hSw.2); (try (obtain ⟨ha1, ha2, ha3, ha4⟩ := hSw)); go_simp; try with_reducible rfl
                try simp only [Act.put, List.setIfInBounds_toArray, List.set_cons_zero, List.set_cons_succ]
                have hbd := HWD.out.below
                have HCU := hid (cut_wk (y9 : Int) (by omega) HWD.out)
                clear HWD
                refine wpAnyM_one (i := 10) (by kernel_rfl) rfl (fun K hK => ?_)
                go_simp
                go_at_call 14
                refine HCU.out.mono ?_
                clear HCU
                rintro e x1 ⟨rfl, hx1⟩
                have g1 : x1.cell? ⟨g, 0, none⟩ = some (.pointer (some ⟨k, 0, none⟩)) := hx1.wcell (i := 0) rfl
                have hS2 : x1.cell? ⟨g, 0, none⟩ = some (.pointer (some ⟨k, 0, none⟩)) ∧ x1.cell? ⟨vb, vo + m2, none⟩ = some (.int .u8 (y2 : Nat)) := ⟨g1, by
                  obtain ⟨_, _, e8, hvl, t0, _⟩ := HC.out.at HY2.out
                  cases e8
                  exact ((HB1.out.trans (hx1.below.mono HB1.out.size)).cell (p := ⟨vb, vo + m2, none⟩) hvl).trans t0⟩
                have HO3 := hid (open_lk (G := G0 + 5000 + 8000 * m2) 3 (by decide) HE1.out (y9 : Int) (by have := HGB.out; unfold Fit; omega) HL.out HCR.out.la hx1)
                clear hx1 HL hbd
                go_wp2_with fail
                refine hK.out _ _ (fun _ => hS2) ?_
                clear hK K hS hS2
                try simp only [Act.put, List.setIfInBounds_toArray, List.set_cons_zero, List.set_cons_succ]
                refine wpAnyM_done (by kernel_rfl) ?_ _
                try simp only [Act.put, List.setIfInBounds_toArray, List.set_cons_zero, List.set_cons_succ]
                go_wp2_with fail
                go_at_call 12
                refine HO3.out.mono ?_
                clear HO3 g1
                rintro e x2 ⟨pp, yy, dy, rfl, hx2, hl2⟩
                have g2 : x2.cell? ⟨g, 0, none⟩ = some (.pointer (some ⟨k, 0, none⟩)) := hx2.wcell (i := 0) rfl
                have HR2 := hid (restore_wk hx2)
                have HL2 := hid hl2
                clear hx2 hl2
                go_wp2_with fail
                go_at_call 16
                refine HR2.out.mono ?_
                clear HR2 g2
                rintro e x3 ⟨rfl, hx3⟩
                have HX3 := hid hx3
                clear hx3
                go_wp2_with fail
                go_roundw
                case rel => exact ⟨m2 + 1, _, by omega, by omega, by go_num, HX3, (by show Lk _ _ _ _; rw [show G0 + 5000 + 8000 * (m2 + 1) = G0 + 5000 + 8000 * m2 + 8000 by omega]; exact HL2.out)⟩
                case measure => simp [intOf]; omega
              · by_cases hma : m2 < lc
                · have hmi : (m2 : Int) < (lc : Int) := by omega
                  have hmi3 : ¬ (m2 : Int) < 3 := by omega
                  have HO := hid (open_end (G := G0 + 30000) 2 (by decide) HE1.out (by have := HGB.out; unfold Fit; omega) ⟨HL.out.len, (by have := HL.out.lg; omega), HL.out.dn, HL.out.lf, HL.out.rz⟩ HCR.out.la HW.out)
                  clear HL HW
                  go_wp2_with fail
                  go_at_call 12
                  refine HO.out.mono ?_
                  clear HO
                  rintro e w6 ⟨q2, s2, d3, rfl, h6, h71, h72, h73, h74⟩
                  have h7 : Hid (d3.bs.length = n ∧ d3.lg.length ≤ G0 + 38000 ∧ Cz hh d3.bs ∧ d3.lf < 0) := ⟨h71, (by omega), h73, h74⟩
                  have HSHN := hid (HCR.out.shown HP.out.ok1 HP.out.ok2 HP.out.n1 HP.out.n2 h71 h73)
                  have y2 : w6.cell? ⟨g, 2, none⟩ = some (.pointer (some ⟨b1, 0, none⟩)) := h6.wcell (i := 2) rfl
                  have HS6 := hid (same_wg1 HE1.out (by decide) HP.out.ok1 (HP.out.n1.trans h71.symm) h6)
                  clear h6 h71 h72 h73 h74
                  go_wp2_with fail
                  go_at_call 11
                  refine HS6.out.mono ?_
                  clear HS6
                  rintro e w7 ⟨⟨bl, rfl, hbl⟩, h7w⟩
                  rw [h7.out.1] at hbl
                  cases bl with
                  | false =>
                    have hno : ¬ Shw n (onD d3) now := fun hs => by have := hbl.2 hs; cases this
                    obtain ⟨hsw, hx17⟩ : Shw n (onD d3) was ∧ xx = 17 := HSHN.out.2.resolve_left hno
                    subst hx17
                    have y3 : w7.cell? ⟨g, 3, none⟩ = some (.pointer (some ⟨b2, 0, none⟩)) := h7w.wcell (i := 3) rfl
                    have HS7 := hid (same_wg2 HE1.out (by decide) HP.out.ok2 (HP.out.n2.trans h7.out.1.symm) h7w)
                    have HSW := hid hsw
                    clear h7w hbl hno hsw
                    go_wp2_with fail
                    go_at_call 11
                    refine HS7.out.mono ?_
                    clear HS7
                    rintro e w8 ⟨⟨bl2, rfl, hb2⟩, h8⟩
                    obtain rfl : true = bl2 := (hb2.2 (by rw [h7.out.1]; exact HSW.out)).symm
                    have y0 : w8.cell? ⟨g, 0, none⟩ = some (.pointer (some ⟨k, 0, none⟩)) := h8.wcell (i := 0) rfl
                    have H8 := hid h8
                    clear h8 hb2 y2 y3
                    have hfl : laid d3.bs.length (onD d3 0) = true := by rw [h7.out.1]; exact HSHN.out.1
                    have HO9 := hid (again_wg 9 (by decide) HE1.out (by have := h7.out.2.1; have := HGB.out; unfold Fit; omega) h7.out.2.2.1.1 hfl H8.out)
                    clear H8
                    go_wp2_with fail
                    go_at_call 12
                    refine HO9.out.mono ?_
                    clear HO9
                    rintro e w9 ⟨q9, s9, rfl, h9⟩
                    have z3 : w9.cell? ⟨g, 3, none⟩ = some (.pointer (some ⟨b2, 0, none⟩)) := h9.wcell (i := 3) rfl
                    have HS9 := hid (same_w2 HE1.out HP.out.ok2 (HP.out.n2.trans h7.out.1.symm) h9)
                    clear h9
                    go_wp2_with fail
                    go_at_call 11
                    refine HS9.out.mono ?_
                    clear HS9
                    rintro e w10 ⟨⟨bl9, rfl, hb9⟩, h10⟩
                    obtain rfl : true = bl9 := (hb9.2 (by rw [h7.out.1]; exact HSW.out)).symm
                    have z1 : w10.cell? ⟨g, 1, none⟩ = some (.pointer (some ⟨s, 0, none⟩)) := h10.wcell (i := 1) rfl
                    have zf := h10.free 1
                    have H11 := hid h10.setS
                    have z4 : (w10.setCell ⟨g, 1, none⟩ (.pointer (some ⟨s2, 0, none⟩))).cell? ⟨g, 3, none⟩ = some (.pointer (some ⟨b2, 0, none⟩)) := H11.out.wcell (i := 3) rfl
                    have HCW := hid (Wg.copyWas HP.out.ok2 H11.out)
                    clear h10 H11 hb9
                    go_wp2_with fail
                    go_at_call 17
                    refine HCW.out.mono ?_
                    clear HCW z1 zf z3 z4
                    rintro e w12 ⟨b9, rfl, z5, z6, h12⟩
                    have HWS := hid (crash_ws (G := G0 + 60000) HP.out.ok2 HP.out.n2 h7.out.1 (by have := h7.out.2.1; omega) h7.out.2.2.2 h7.out.2.2.1.1 HSW.out HSHN.out.1 (M := 10000 + 5 * (j + 1)) (by omega) h12)
                    clear h12
                    go_wp2_with fail
                    go_roundw
                    case rel => exact ⟨j + 1, q2, s2, by omega, by go_num, HWS.out.mono (by have := HG0.out; omega)⟩
                    case measure => simp [intOf]; omega
                  | true =>
                    have HSW := hid (hbl.1 rfl)
                    have y3 : w7.cell? ⟨g, 2, none⟩ = some (.pointer (some ⟨b1, 0, none⟩)) := h7w.wcell (i := 2) rfl
                    have HS7 := hid (Wg.copyNow HP.out.ok1 h7w)
                    clear h7w hbl y2
                    go_wp2_with fail
                    go_at_call 17
                    refine HS7.out.mono ?_
                    clear HS7 y3
                    rintro e w8 ⟨b3, rfl, y4, y5, h8⟩
                    have y0 : (w8.setCell ⟨g, 3, none⟩ (.pointer (some ⟨b3, 0, none⟩))).cell? ⟨g, 0, none⟩ = some (.pointer (some ⟨k, 0, none⟩)) := h8.wcell (i := 0) rfl
                    have H8 := hid h8
                    clear h8
                    have hfl : laid d3.bs.length (onD d3 0) = true := by rw [h7.out.1]; exact HSHN.out.1
                    have HO9 := hid (again_wg 9 (by decide) HE1.out (by have := h7.out.2.1; have := HGB.out; unfold Fit; omega) h7.out.2.2.1.1 hfl H8.out)
                    clear H8
                    go_wp2_with fail
                    go_at_call 12
                    refine HO9.out.mono ?_
                    clear HO9
                    rintro e w9 ⟨q9, s9, rfl, h9⟩
                    have z3 : w9.cell? ⟨g, 3, none⟩ = some (.pointer (some ⟨b3, 0, none⟩)) := h9.wcell (i := 3) rfl
                    have HS9 := hid (same_w2 HE1.out HP.out.ok1 (HP.out.n1.trans h7.out.1.symm) h9)
                    clear h9
                    go_wp2_with fail
                    go_at_call 11
                    refine HS9.out.mono ?_
                    clear HS9
                    rintro e w10 ⟨⟨bl9, rfl, hb9⟩, h10⟩
                    obtain rfl : true = bl9 := (hb9.2 (by rw [h7.out.1]; exact HSW.out)).symm
                    have z1 : w10.cell? ⟨g, 1, none⟩ = some (.pointer (some ⟨s, 0, none⟩)) := h10.wcell (i := 1) rfl
                    have zf := h10.free 1
                    have H11 := hid h10.setS
                    have z4 : (w10.setCell ⟨g, 1, none⟩ (.pointer (some ⟨s2, 0, none⟩))).cell? ⟨g, 3, none⟩ = some (.pointer (some ⟨b3, 0, none⟩)) := H11.out.wcell (i := 3) rfl
                    have HCW := hid (Wg.copyWas HP.out.ok1 H11.out)
                    clear h10 H11 hb9
                    go_wp2_with fail
                    go_at_call 17
                    refine HCW.out.mono ?_
                    clear HCW z1 zf z3 z4
                    rintro e w12 ⟨b9, rfl, z5, z6, h12⟩
                    have HWS := hid (crash_ws (G := G0 + 60000) HP.out.ok1 HP.out.n1 h7.out.1 (by have := h7.out.2.1; omega) h7.out.2.2.2 h7.out.2.2.1.1 HSW.out HSHN.out.1 (M := 10000 + 5 * (j + 1)) (by omega) h12)
                    clear h12
                    go_wp2_with fail
                    go_roundw
                    case rel => exact ⟨j + 1, q2, s2, by omega, by go_num, HWS.out.mono (by have := HG0.out; omega)⟩
                    case measure => simp [intOf]; omega
                · have hmi : ¬ (m2 : Int) < (lc : Int) := by omega
                  have HO := hid (open_end (G := G0 + 30000) 2 (by decide) HE1.out (by have := HGB.out; unfold Fit; omega) ⟨HL.out.len, (by have := HL.out.lg; omega), HL.out.dn, HL.out.lf, HL.out.rz⟩ HCR.out.la HW.out)
                  clear HL HW
                  go_wp2_with fail
                  go_at_call 12
                  refine HO.out.mono ?_
                  clear HO
                  rintro e w6 ⟨q2, s2, d3, rfl, h6, h71, h72, h73, h74⟩
                  have h7 : Hid (d3.bs.length = n ∧ d3.lg.length ≤ G0 + 38000 ∧ Cz hh d3.bs ∧ d3.lf < 0) := ⟨h71, (by omega), h73, h74⟩
                  have HSHN := hid (HCR.out.shown HP.out.ok1 HP.out.ok2 HP.out.n1 HP.out.n2 h71 h73)
                  have y2 : w6.cell? ⟨g, 2, none⟩ = some (.pointer (some ⟨b1, 0, none⟩)) := h6.wcell (i := 2) rfl
                  have HS6 := hid (same_wg1 HE1.out (by decide) HP.out.ok1 (HP.out.n1.trans h71.symm) h6)
                  clear h6 h71 h72 h73 h74
                  go_wp2_with fail
                  go_at_call 11
                  refine HS6.out.mono ?_
                  clear HS6
                  rintro e w7 ⟨⟨bl, rfl, hbl⟩, h7w⟩
                  rw [h7.out.1] at hbl
                  cases bl with
                  | false =>
                    have hno : ¬ Shw n (onD d3) now := fun hs => by have := hbl.2 hs; cases this
                    obtain ⟨hsw, hx17⟩ : Shw n (onD d3) was ∧ xx = 17 := HSHN.out.2.resolve_left hno
                    subst hx17
                    have y3 : w7.cell? ⟨g, 3, none⟩ = some (.pointer (some ⟨b2, 0, none⟩)) := h7w.wcell (i := 3) rfl
                    have HS7 := hid (same_wg2 HE1.out (by decide) HP.out.ok2 (HP.out.n2.trans h7.out.1.symm) h7w)
                    have HSW := hid hsw
                    clear h7w hbl hno hsw
                    go_wp2_with fail
                    go_at_call 11
                    refine HS7.out.mono ?_
                    clear HS7
                    rintro e w8 ⟨⟨bl2, rfl, hb2⟩, h8⟩
                    obtain rfl : true = bl2 := (hb2.2 (by rw [h7.out.1]; exact HSW.out)).symm
                    have y0 : w8.cell? ⟨g, 0, none⟩ = some (.pointer (some ⟨k, 0, none⟩)) := h8.wcell (i := 0) rfl
                    have H8 := hid h8
                    clear h8 hb2 y2 y3
                    have hfl : laid d3.bs.length (onD d3 0) = true := by rw [h7.out.1]; exact HSHN.out.1
                    have HO9 := hid (again_wg 9 (by decide) HE1.out (by have := h7.out.2.1; have := HGB.out; unfold Fit; omega) h7.out.2.2.1.1 hfl H8.out)
                    clear H8
                    go_wp2_with fail
                    go_at_call 12
                    refine HO9.out.mono ?_
                    clear HO9
                    rintro e w9 ⟨q9, s9, rfl, h9⟩
                    have z3 : w9.cell? ⟨g, 3, none⟩ = some (.pointer (some ⟨b2, 0, none⟩)) := h9.wcell (i := 3) rfl
                    have HS9 := hid (same_w2 HE1.out HP.out.ok2 (HP.out.n2.trans h7.out.1.symm) h9)
                    clear h9
                    go_wp2_with fail
                    go_at_call 11
                    refine HS9.out.mono ?_
                    clear HS9
                    rintro e w10 ⟨⟨bl9, rfl, hb9⟩, h10⟩
                    obtain rfl : true = bl9 := (hb9.2 (by rw [h7.out.1]; exact HSW.out)).symm
                    have z1 : w10.cell? ⟨g, 1, none⟩ = some (.pointer (some ⟨s, 0, none⟩)) := h10.wcell (i := 1) rfl
                    have zf := h10.free 1
                    have H11 := hid h10.setS
                    have z4 : (w10.setCell ⟨g, 1, none⟩ (.pointer (some ⟨s2, 0, none⟩))).cell? ⟨g, 3, none⟩ = some (.pointer (some ⟨b2, 0, none⟩)) := H11.out.wcell (i := 3) rfl
                    have HCW := hid (Wg.copyWas HP.out.ok2 H11.out)
                    clear h10 H11 hb9
                    go_wp2_with fail
                    go_at_call 17
                    refine HCW.out.mono ?_
                    clear HCW z1 zf z3 z4
                    rintro e w12 ⟨b9, rfl, z5, z6, h12⟩
                    have HWS := hid (crash_ws (G := G0 + 60000) HP.out.ok2 HP.out.n2 h7.out.1 (by have := h7.out.2.1; omega) h7.out.2.2.2 h7.out.2.2.1.1 HSW.out HSHN.out.1 (M := 10000 + 5 * (j + 1)) (by omega) h12)
                    clear h12
                    go_wp2_with fail
                    go_roundw
                    case rel => exact ⟨j + 1, q2, s2, by omega, by go_num, HWS.out.mono (by have := HG0.out; omega)⟩
                    case measure => simp [intOf]; omega
                  | true =>
                    have HSW := hid (hbl.1 rfl)
                    have y3 : w7.cell? ⟨g, 2, none⟩ = some (.pointer (some ⟨b1, 0, none⟩)) := h7w.wcell (i := 2) rfl
                    have HS7 := hid (Wg.copyNow HP.out.ok1 h7w)
                    clear h7w hbl y2
                    go_wp2_with fail
                    go_at_call 17
                    refine HS7.out.mono ?_
                    clear HS7 y3
                    rintro e w8 ⟨b3, rfl, y4, y5, h8⟩
                    have y0 : (w8.setCell ⟨g, 3, none⟩ (.pointer (some ⟨b3, 0, none⟩))).cell? ⟨g, 0, none⟩ = some (.pointer (some ⟨k, 0, none⟩)) := h8.wcell (i := 0) rfl
                    have H8 := hid h8
                    clear h8
                    have hfl : laid d3.bs.length (onD d3 0) = true := by rw [h7.out.1]; exact HSHN.out.1
                    have HO9 := hid (again_wg 9 (by decide) HE1.out (by have := h7.out.2.1; have := HGB.out; unfold Fit; omega) h7.out.2.2.1.1 hfl H8.out)
                    clear H8
                    go_wp2_with fail
                    go_at_call 12
                    refine HO9.out.mono ?_
                    clear HO9
                    rintro e w9 ⟨q9, s9, rfl, h9⟩
                    have z3 : w9.cell? ⟨g, 3, none⟩ = some (.pointer (some ⟨b3, 0, none⟩)) := h9.wcell (i := 3) rfl
                    have HS9 := hid (same_w2 HE1.out HP.out.ok1 (HP.out.n1.trans h7.out.1.symm) h9)
                    clear h9
                    go_wp2_with fail
                    go_at_call 11
                    refine HS9.out.mono ?_
                    clear HS9
                    rintro e w10 ⟨⟨bl9, rfl, hb9⟩, h10⟩
                    obtain rfl : true = bl9 := (hb9.2 (by rw [h7.out.1]; exact HSW.out)).symm
                    have z1 : w10.cell? ⟨g, 1, none⟩ = some (.pointer (some ⟨s, 0, none⟩)) := h10.wcell (i := 1) rfl
                    have zf := h10.free 1
                    have H11 := hid h10.setS
                    have z4 : (w10.setCell ⟨g, 1, none⟩ (.pointer (some ⟨s2, 0, none⟩))).cell? ⟨g, 3, none⟩ = some (.pointer (some ⟨b3, 0, none⟩)) := H11.out.wcell (i := 3) rfl
                    have HCW := hid (Wg.copyWas HP.out.ok1 H11.out)
                    clear h10 H11 hb9
                    go_wp2_with fail
                    go_at_call 17
                    refine HCW.out.mono ?_
                    clear HCW z1 zf z3 z4
                    rintro e w12 ⟨b9, rfl, z5, z6, h12⟩
                    have HWS := hid (crash_ws (G := G0 + 60000) HP.out.ok1 HP.out.n1 h7.out.1 (by have := h7.out.2.1; omega) h7.out.2.2.2 h7.out.2.2.1.1 HSW.out HSHN.out.1 (M := 10000 + 5 * (j + 1)) (by omega) h12)
                    clear h12
                    go_wp2_with fail
                    go_roundw
                    case rel => exact ⟨j + 1, q2, s2, by omega, by go_num, HWS.out.mono (by have := HG0.out; omega)⟩
                    case measure => simp [intOf]; omega
          · have hlci : ¬ (0 : Int) < (lc : Int) := by omega
            obtain rfl : lc = 0 := by omega
            go_wp2_with (go_at_call 13; refine HKX.out.mono ?_; clear HKX; rintro e w2 ⟨rfl, rfl⟩)
            clear c0
            have HOKD := hid H1.out.good.1
            go_at_call 14
            refine (cut_wg 300 (by omega) H1.out).mono ?_
            clear H1 g0
            rintro e w3 ⟨rfl, h3⟩
            have g1 : w3.cell? ⟨g, 1, none⟩ = some (.pointer (some ⟨s, 0, none⟩)) := h3.wcell (i := 1) rfl
            have HCM := hid (commit_wg (d := { d with lf := 300 }) (f' := onD d) HE1.out (by show (d.lg.length + 5000) * 24 ≤ 140737488355328; have := HG.out; have := HGB.out; omega) (HP.out.cz HOKD.out) h3)
            clear h3
            go_wp2_with fail
            go_at_call 15
            refine HCM.out.mono ?_
            clear HCM g1
            rintro e w4 ⟨xx, d2, hh, rfl, h4, h5, h6, h7, h8⟩
            have HCR := hid (HP.out.cr (x := xx) h7)
            have g0 : w4.cell? ⟨g, 0, none⟩ = some (.pointer (some ⟨k, 0, none⟩)) := h4.wcell (i := 0) rfl
            have HL4 : Hid (Lk n hh (G0 + 5000) { d2 with lf := -1, dn := false }) := ⟨h6.len.trans HP.out.len, (by have e := h6.lg; have := HG.out; show d2.lg.length ≤ _; have e2 : d2.lg.length ≤ d.lg.length + 4000 := e; omega), rfl, (by show (-1 : Int) < 0; decide), h5⟩
            have HR4 := hid (restore_wk h4)
            clear h4 h5 h6 h7 h8
            go_wp2_with fail
            go_at_call 16
            refine HR4.out.mono ?_
            clear HR4 g0
            rintro e w5 ⟨rfl, h5⟩
            have H5 := hid h5
            clear h5
            go_wp2_with fail
            go_loopw [11] (fun i wr => ∃ (m : Nat) (d : Ds), m ≤ 0 ∧ m ≤ 3 ∧ i = .int .i64 (m : Nat) ∧ Hid (Wk w1 wr g k s b1 b2 d now was) ∧ Hid (Lk n hh (G0 + 5000 + 8000 * m) d)) (fun i _ => 0 - (intOf i).toNat)
            case atStart => exact ⟨0, _, Nat.zero_le _, Nat.zero_le _, rfl, H5, HL4⟩
            case round =>
              obtain ⟨m2, dx, hm1, hm3, rfl, HW, HL⟩ := hrel
              clear H5 HL4
              have g0 : wr.cell? ⟨g, 0, none⟩ = some (.pointer (some ⟨k, 0, none⟩)) := HW.out.wcell (i := 0) rfl
              obtain rfl : m2 = 0 := by omega
              have HO := hid (open_end (G := G0 + 30000) 2 (by decide) HE1.out (by have := HGB.out; unfold Fit; omega) ⟨HL.out.len, (by have := HL.out.lg; omega), HL.out.dn, HL.out.lf, HL.out.rz⟩ HCR.out.la HW.out)
              clear HL HW
              go_wp2_with fail
              go_at_call 12
              refine HO.out.mono ?_
              clear HO
              rintro e w6 ⟨q2, s2, d3, rfl, h6, h71, h72, h73, h74⟩
              have h7 : Hid (d3.bs.length = n ∧ d3.lg.length ≤ G0 + 38000 ∧ Cz hh d3.bs ∧ d3.lf < 0) := ⟨h71, (by omega), h73, h74⟩
              have HSHN := hid (HCR.out.shown HP.out.ok1 HP.out.ok2 HP.out.n1 HP.out.n2 h71 h73)
              have y2 : w6.cell? ⟨g, 2, none⟩ = some (.pointer (some ⟨b1, 0, none⟩)) := h6.wcell (i := 2) rfl
              have HS6 := hid (same_wg1 HE1.out (by decide) HP.out.ok1 (HP.out.n1.trans h71.symm) h6)
              clear h6 h71 h72 h73 h74
              go_wp2_with fail
              go_at_call 11
              refine HS6.out.mono ?_
              clear HS6
              rintro e w7 ⟨⟨bl, rfl, hbl⟩, h7w⟩
              rw [h7.out.1] at hbl
              cases bl with
              | false =>
                have hno : ¬ Shw n (onD d3) now := fun hs => by have := hbl.2 hs; cases this
                obtain ⟨hsw, hx17⟩ : Shw n (onD d3) was ∧ xx = 17 := HSHN.out.2.resolve_left hno
                subst hx17
                have y3 : w7.cell? ⟨g, 3, none⟩ = some (.pointer (some ⟨b2, 0, none⟩)) := h7w.wcell (i := 3) rfl
                have HS7 := hid (same_wg2 HE1.out (by decide) HP.out.ok2 (HP.out.n2.trans h7.out.1.symm) h7w)
                have HSW := hid hsw
                clear h7w hbl hno hsw
                go_wp2_with fail
                go_at_call 11
                refine HS7.out.mono ?_
                clear HS7
                rintro e w8 ⟨⟨bl2, rfl, hb2⟩, h8⟩
                obtain rfl : true = bl2 := (hb2.2 (by rw [h7.out.1]; exact HSW.out)).symm
                have y0 : w8.cell? ⟨g, 0, none⟩ = some (.pointer (some ⟨k, 0, none⟩)) := h8.wcell (i := 0) rfl
                have H8 := hid h8
                clear h8 hb2 y2 y3
                have hfl : laid d3.bs.length (onD d3 0) = true := by rw [h7.out.1]; exact HSHN.out.1
                have HO9 := hid (again_wg 9 (by decide) HE1.out (by have := h7.out.2.1; have := HGB.out; unfold Fit; omega) h7.out.2.2.1.1 hfl H8.out)
                clear H8
                go_wp2_with fail
                go_at_call 12
                refine HO9.out.mono ?_
                clear HO9
                rintro e w9 ⟨q9, s9, rfl, h9⟩
                have z3 : w9.cell? ⟨g, 3, none⟩ = some (.pointer (some ⟨b2, 0, none⟩)) := h9.wcell (i := 3) rfl
                have HS9 := hid (same_w2 HE1.out HP.out.ok2 (HP.out.n2.trans h7.out.1.symm) h9)
                clear h9
                go_wp2_with fail
                go_at_call 11
                refine HS9.out.mono ?_
                clear HS9
                rintro e w10 ⟨⟨bl9, rfl, hb9⟩, h10⟩
                obtain rfl : true = bl9 := (hb9.2 (by rw [h7.out.1]; exact HSW.out)).symm
                have z1 : w10.cell? ⟨g, 1, none⟩ = some (.pointer (some ⟨s, 0, none⟩)) := h10.wcell (i := 1) rfl
                have zf := h10.free 1
                have H11 := hid h10.setS
                have z4 : (w10.setCell ⟨g, 1, none⟩ (.pointer (some ⟨s2, 0, none⟩))).cell? ⟨g, 3, none⟩ = some (.pointer (some ⟨b2, 0, none⟩)) := H11.out.wcell (i := 3) rfl
                have HCW := hid (Wg.copyWas HP.out.ok2 H11.out)
                clear h10 H11 hb9
                go_wp2_with fail
                go_at_call 17
                refine HCW.out.mono ?_
                clear HCW z1 zf z3 z4
                rintro e w12 ⟨b9, rfl, z5, z6, h12⟩
                have HWS := hid (crash_ws (G := G0 + 60000) HP.out.ok2 HP.out.n2 h7.out.1 (by have := h7.out.2.1; omega) h7.out.2.2.2 h7.out.2.2.1.1 HSW.out HSHN.out.1 (M := 10000 + 5 * (j + 1)) (by omega) h12)
                clear h12
                go_wp2_with fail
                go_roundw
                case rel => exact ⟨j + 1, q2, s2, by omega, by go_num, HWS.out.mono (by have := HG0.out; omega)⟩
                case measure => simp [intOf]; omega
              | true =>
                have HSW := hid (hbl.1 rfl)
                have y3 : w7.cell? ⟨g, 2, none⟩ = some (.pointer (some ⟨b1, 0, none⟩)) := h7w.wcell (i := 2) rfl
                have HS7 := hid (Wg.copyNow HP.out.ok1 h7w)
                clear h7w hbl y2
                go_wp2_with fail
                go_at_call 17
                refine HS7.out.mono ?_
                clear HS7 y3
                rintro e w8 ⟨b3, rfl, y4, y5, h8⟩
                have y0 : (w8.setCell ⟨g, 3, none⟩ (.pointer (some ⟨b3, 0, none⟩))).cell? ⟨g, 0, none⟩ = some (.pointer (some ⟨k, 0, none⟩)) := h8.wcell (i := 0) rfl
                have H8 := hid h8
                clear h8
                have hfl : laid d3.bs.length (onD d3 0) = true := by rw [h7.out.1]; exact HSHN.out.1
                have HO9 := hid (again_wg 9 (by decide) HE1.out (by have := h7.out.2.1; have := HGB.out; unfold Fit; omega) h7.out.2.2.1.1 hfl H8.out)
                clear H8
                go_wp2_with fail
                go_at_call 12
                refine HO9.out.mono ?_
                clear HO9
                rintro e w9 ⟨q9, s9, rfl, h9⟩
                have z3 : w9.cell? ⟨g, 3, none⟩ = some (.pointer (some ⟨b3, 0, none⟩)) := h9.wcell (i := 3) rfl
                have HS9 := hid (same_w2 HE1.out HP.out.ok1 (HP.out.n1.trans h7.out.1.symm) h9)
                clear h9
                go_wp2_with fail
                go_at_call 11
                refine HS9.out.mono ?_
                clear HS9
                rintro e w10 ⟨⟨bl9, rfl, hb9⟩, h10⟩
                obtain rfl : true = bl9 := (hb9.2 (by rw [h7.out.1]; exact HSW.out)).symm
                have z1 : w10.cell? ⟨g, 1, none⟩ = some (.pointer (some ⟨s, 0, none⟩)) := h10.wcell (i := 1) rfl
                have zf := h10.free 1
                have H11 := hid h10.setS
                have z4 : (w10.setCell ⟨g, 1, none⟩ (.pointer (some ⟨s2, 0, none⟩))).cell? ⟨g, 3, none⟩ = some (.pointer (some ⟨b3, 0, none⟩)) := H11.out.wcell (i := 3) rfl
                have HCW := hid (Wg.copyWas HP.out.ok1 H11.out)
                clear h10 H11 hb9
                go_wp2_with fail
                go_at_call 17
                refine HCW.out.mono ?_
                clear HCW z1 zf z3 z4
                rintro e w12 ⟨b9, rfl, z5, z6, h12⟩
                have HWS := hid (crash_ws (G := G0 + 60000) HP.out.ok1 HP.out.n1 h7.out.1 (by have := h7.out.2.1; omega) h7.out.2.2.2 h7.out.2.2.1.1 HSW.out HSHN.out.1 (M := 10000 + 5 * (j + 1)) (by omega) h12)
                clear h12
                go_wp2_with fail
                go_roundw
                case rel => exact ⟨j + 1, q2, s2, by omega, by go_num, HWS.out.mono (by have := HG0.out; omega)⟩
                case measure => simp [intOf]; omega
        · have hk6i : ¬ (kd x.kd 10) = 6 := hk6
          have hk6b : ((kd x.kd 10) == 6) = false := beq_eq_false_iff_ne.2 hk6
          have HD := hid (HDO.out w1 wr g k q s _ _ x HE1.out (by omega) (by unfold Fit; omega) hpl HS.out)
          clear hx d0 d1 d2 hpl hul hbw HS hk6
          generalize kd x.kd 10 = kx at *
          generalize x.kd = xk at *
          generalize x.pl = xp at *
          generalize x.tx = xt at *
          go_wp2_with (first
            | (go_at_call 13; refine HKX.out.mono ?_; clear HKX; rintro e w2 ⟨rfl, rfl⟩)
            | (go_at_call 10; refine HD.out.mono ?_; clear HD; rintro e w4 ⟨rfl, h4⟩; have HS4 := hid h4; clear h4))
          go_roundw
          case rel => exact ⟨j + 1, q, s, by omega, by go_num, (HS4.out.monoN (by omega)).mono (by omega)⟩
          case measure => simp [intOf]; omega
      · obtain rfl : j = ln := by omega
        have hji : ¬ (j : Int) < (j : Int) := by omega
        have HBW := hid (HB1.out.trans (HS.out.below.mono HB1.out.size))
        go_wp2_with fail
        go_ret
        exact ⟨rfl, HBW.out⟩

theorem spaceCrash_own : ownKnob Tryz.prog.godebug = none := by kernel_rfl
theorem spaceCrash_laidOut : laidOutB Tryz.prog = true := by kernel_rfl
theorem spaceCrash_met (os : Os) : laidMetH Tryz.prog Rows.spaceCrashRow.laid ((laidW os).forCall (fun _ _ => 0) ⟨#[], #[.int .i64 0, .slice none 0 0, .slice none 0 0], []⟩).memory := by
  exact laidMetH_of_parts (laidMet_nil _ _) (by kernel_rfl)
theorem spaceCrash_reads (os : Os) {H : Type} (enc : TypeId × Value → H) : DataW.whole enc Tryz.prog ((laidW os).forCall (fun _ _ => 0) ⟨#[], #[.int .i64 0, .slice none 0 0, .slice none 0 0], []⟩).memory Tryz.f4.params.toList Rows.spaceCrashSpec.vars false #[(.int .i64 0 : Value), (.slice none 0 0 : Value), (.slice none 0 0 : Value)].toList 8 = some ([.lit (.int .i64 0), .nil, .nil], [], []) := by kernel_rfl
theorem spaceCrash_okIn (os : Os) : Input.okWideB Tryz.prog ((laidW os).forCall (fun _ _ => 0) ⟨#[], #[.int .i64 0, .slice none 0 0, .slice none 0 0], []⟩) 4 ⟨#[], #[.int .i64 0, .slice none 0 0, .slice none 0 0], []⟩ = true := by kernel_rfl

set_option maxRecDepth 100000 in
theorem spaceCrash_lifted (os : Os) (started : os.Started) (H : Type) (enc : TypeId × Value → H) (F : Stop.Interp) :
    ReturnsInHanded {} Tryz.checked os 4 .any ((OpenSpec.ofChange Rows.spaceCrashSpec).preRow enc Tryz.prog Tryz.f4 Rows.spaceCrashRow.domain false Rows.spaceCrashRow.laid) (((OpenSpec.ofChange Rows.spaceCrashSpec).at F).post enc Tryz.prog Tryz.f4 false true false false) := by
  refine returnsInHanded_of_row (C := Tryz.checked) (s := (OpenSpec.ofChange Rows.spaceCrashSpec)) spaceCrash_own started (by kernel_rfl) Tryz.func4
    ⟨laidW os, fun _ _ => 0, ⟨#[], #[.int .i64 0, .slice none 0 0, .slice none 0 0], []⟩, rfl, World.shaped_of_ZipB (by kernel_rfl) (by kernel_rfl), (Input.okWide_of_okWideB (base := 0) (spaceCrash_okIn os)).1, (Input.okWide_of_okWideB (spaceCrash_okIn os)).2,
      OpenSpec.preRow_of_cond 8 (spaceCrash_reads os enc) (by kernel_rfl) (fun k hk => by cases hk) (by kernel_rfl) (spaceCrash_met os), by simp only [Assume.holds]; exact ⟨by simp, by simp, fun _ => Modest.zero, by simp, by simp⟩⟩ ?_
  intro W base args ds gs before hval0 hW hcnd hcond hsz0 hL hsh _
  have env : Env W := env_of hL
  have hsz : (DataW.weightsEach Tryz.prog (Tryz.f4.params.toList ++ Rows.spaceCrashSpec.plain.varTypes Tryz.prog) (ds ++ gs)).all (· ≤ reachBytes) = true := hsz0
  have hval : ∀ (j : Nat) t v, Tryz.f4.params[j]? = some t → args[j]? = some v → Value.okWide Tryz.prog W .any base t v := hval0
  have hW' := hW
  obtain ⟨p, q, hA0, hV, rfl, hfz, hnd⟩ := hW
  have hA : DataW.TrodAll enc Tryz.prog W 0 (fun _ => true) true Tryz.f4.params.toList args.toList ds p := hA0
  rw [Tryz.params4] at hA hval hsz
  obtain ⟨v0, vs0, d0, ds0, p0, q0, hargs, rfl, rfl, h0, r0⟩ := trodAll_cons hA
  obtain ⟨v1, vs1, d1, ds1, p1, q1, rfl, rfl, rfl, h1, r1⟩ := trodAll_cons r0
  obtain ⟨v2, vs2, d2, ds2, p2, q2, rfl, rfl, rfl, h2, r2⟩ := trodAll_cons r1
  obtain ⟨rfl, rfl, rfl⟩ := trodAll_nil r2
  obtain rfl : args = #[v0, v1, v2] := by cases args; simp_all
  obtain ⟨rfl, rfl⟩ := trodVars_none hV
  have k0 := h0
  have lt0 : ∀ x ∈ p0, x.block < W.heap.size := by obtain ⟨m, hm⟩ := k0; exact DataW.trod_lt m _ _ _ hm
  have k1 := h1
  have lt1 : ∀ x ∈ p1, x.block < W.heap.size := by obtain ⟨m, hm⟩ := k1; exact DataW.trod_lt m _ _ _ hm
  have k2 := h2
  have lt2 : ∀ x ∈ p2, x.block < W.heap.size := by obtain ⟨m, hm⟩ := k2; exact DataW.trod_lt m _ _ _ hm
  obtain ⟨a0, rfl, rfl, rfl, w0⟩ := open_int Tryz.underlying3 (hval 0 3 v0 rfl rfl) h0
  obtain ⟨L1, l1, z1⟩ := open_acts (hval 1 22 v1 rfl rfl) h1 (fun n hn => by simpa using List.all_eq_true.1 hsz n (DataW.weights_mem_each (j := 1) (t := 22) rfl rfl n hn))
  obtain ⟨L2, l2, z2⟩ := open_bytes (hval 2 39 v2 rfl rfl) h2 (fun n hn => by simpa using List.all_eq_true.1 hsz n (DataW.weights_mem_each (j := 2) (t := 39) rfl rfl n hn))
  clear hA0 hval0
  refine (spaceCrash_walk a0 v1 L1 v2 L2 w0 W env l1 z1 l2 z2).mono fun e W' ⟨he, bel⟩ => ?_
  subst he
  exact ⟨_, rfl, _, _, _, [], _, [], hW', trodAll_mk1 (shut_bool Tryz.underlying4 _), (trodAll_cons_mk (Below.trod spaceCrash_laidOut (by kernel_rfl) (of_decide_eq_true (by kernel_rfl)) k0 bel lt0) (trodAll_cons_mk (Below.trod spaceCrash_laidOut (by kernel_rfl) (of_decide_eq_true (by kernel_rfl)) k1 bel lt1) (trodAll_cons_mk (Below.trod spaceCrash_laidOut (by kernel_rfl) (of_decide_eq_true (by kernel_rfl)) k2 bel lt2) trodAll_mk0))), rfl, bel.frame _, fun h => by cases h⟩

theorem spaceCrash_said : Rows.SpaceCrashSaid :=
  OpenClaim.holds_of_cond 4 Tryz.f4 rfl rfl rfl rfl rfl rfl rfl ⟨rfl, rfl, rfl, rfl, rfl⟩ rfl rfl rfl rfl rfl (by kernel_rfl) Tryz.func4 (by kernel_rfl)
    (of_decide_eq_true (by kernel_rfl)) (by unfold Func.isWrapper; first | (rw [if_pos (by decide +kernel)]; kernel_rfl) | (rw [if_neg (by decide +kernel)]; exact ⟨rfl, rfl⟩))
    (fun os started H enc _ F => by rw [OpenClaim.pre_eq_preRow]; exact spaceCrash_lifted os started H enc F)

theorem spaceCrash_plain (f : FuncId) (fn : Func) (hf : Tryz.pinned.checked.prog.funcNamed Rows.spaceCrashRow.func = some f) (hfn : Tryz.pinned.checked.prog.funcs[f]? = some fn) :
    true = Tryz.pinned.checked.prog.looks [] ∧ ∀ (j : Nat) t, fn.params[j]? = some t → Tryz.pinned.checked.prog.wantsStandIn t = false := by
  obtain rfl : f = 4 := Option.some.inj ((show Tryz.prog.funcNamed Rows.spaceCrashRow.func = some 4 by kernel_rfl).symm.trans hf) |>.symm
  obtain rfl : fn = Tryz.f4 := (Option.some.inj (Tryz.func4.symm.trans hfn)).symm
  refine ⟨by kernel_rfl, fun j t ht => ?_⟩
  rw [Tryz.params4] at ht
  have hm : t ∈ [3, 22, 39] := by simpa using Array.mem_of_getElem? ht
  have hall : ([3, 22, 39].all fun u => !Tryz.prog.wantsStandIn u) = true := by kernel_rfl
  have := List.all_eq_true.1 hall t hm
  exact (show Tryz.prog.wantsStandIn t = false by simpa using this)

theorem spaceCrash_holds : Rows.SpaceCrashCardSaid :=
  Claim7.holds_tied_plain_at .later [] _ _ _ _ spaceCrash_said (fun _ h => by cases h) (by kernel_rfl) (fun _ h => by cases h) spaceCrash_row_tie rfl ⟨rfl, rfl⟩ (by kernel_rfl) rfl spaceCrash_plain (by kernel_rfl)

#print axioms spaceCrash_holds

end Go.Proofs.YtglallhblcjffaaGreatDoor
