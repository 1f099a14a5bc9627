/-
  RewriteOwn holds: what is handed in stays, what is answered is new memory.
-/
import Derived.Test.YtbdlokijednoiaaRows
import Derived.Test.YtbdlokijednoiaaBH
import Derived.Test.YtbdlokijednoiaaBO
import Derived.Test.YtbdlokijednoiaaSr
import Derived.Test.YtbdlokijednoiaaRo
import Derived.Test.YtbdlokijednoiaaOpenR
import Derived.ProofKit
import Derived.OpenShut
import Derived.ShutString
import Derived.ChangeOld
import Derived.Below
import Derived.SizedLaws
import Derived.Lib.SmallJoins
namespace Go.Proofs.Ytbdlokijednoiaa
open Go.ChangeShapes Go.WideShapes Go.ChangeAt Go.RowKit Go.Joins
open Go.ChangeMaps (open_string shut_string)
set_option linter.unusedVariables false
set_option linter.unusedSimpArgs false
set_option maxRecDepth 100000


set_option maxHeartbeats 16000000 in
theorem rewriteOwn_walk (v0 : Value) (rs : List Rl) (ov vv hv : Value) (s : Stt) (fu : Int) (hwf0 : (Lit.int .i64 fu).wf = true) (w : World) (hr : LiesR w v0 rs) (hz : rs.length * 56 ≤ 140737488351232 ∧ ∀ r ∈ rs, r.l.length * 24 ≤ 140737488355328 ∧ r.r.length * 24 ≤ 140737488355328) (hA : StA w ov vv hv s) :
    Calls Try.prog 4 #[v0, .agg #[ov, vv, .int .i64 s.steps, hv], .int .i64 fu] w fun e w' => e = .returned (.bool true) ∧ Below w.heap.size w w' := by
  have hfu : -9223372036854775808 ≤ fu ∧ fu ≤ 9223372036854775807 := by have := bounds_i64 hwf0; omega
  clear hwf0
  obtain ⟨oa, oc, va, vc, ha, hc, rfl, rfl, rfl⟩ := trio_form hA
  have HB0 : Hid (Below w.heap.size w (w.alloc (.cells #[.slice oa s.ops.length oc, .slice va s.vals.length vc, .int .i64 s.steps, .slice ha s.heads.length hc] 39))) := (Below.refl _ w).alloc (Nat.le_refl _) _
  have HX0 : Hid (Blk (w.alloc (.cells #[.slice oa s.ops.length oc, .slice va s.vals.length vc, .int .i64 s.steps, .slice ha s.heads.length hc] 39)) w.heap.size #[.slice oa s.ops.length oc, .slice va s.vals.length vc, .int .i64 s.steps, .slice ha s.heads.length hc] 39) := Blk.made _ _ _
  have HA := hid hA
  have HR := hid hr
  have hwk := wakes_any (w.alloc (.cells #[.slice oa s.ops.length oc, .slice va s.vals.length vc, .int .i64 s.steps, .slice ha s.heads.length hc] 39))
  have hfw : ∀ w1, Below w.heap.size w w1 → _ := fun w1 hb => few_any w1 v0 rs (HR.out.on hb) fu
  obtain ⟨ra, rc, hrv, _⟩ := id hr
  subst hrv
  by_cases hfew : rs.length ≤ 64 ∧ fu ≤ 300
  · rw [decide_eq_true hfew.1, decide_eq_true hfew.2] at hfw
    have hno := hA.no
    have hnv := hA.nv
    have hlim : s.ops.length + 8 * fu.toNat ≤ 2513169500000 := by omega
    have hlv : s.vals.length ≤ 7539508500002 := by omega
    have hlnum : s.vals.length + s.ops.length ≤ 9223372036854775000 := by omega
    have hru : ∀ w1, Below w.heap.size w w1 → _ := fun w1 hb => rules_any w1 _ rs (HR.out.on hb) (by omega) hz.2
    have hco : ∀ w1, Below w.heap.size w w1 → _ := fun w1 hb => rcopy_in w1 _ _ _ s (HA.out.on hb)
    have HRF := hid hr.fine
    have HWF : Hid (StWf s) := ⟨fun o ho => (hA.lo.facts o ho).2, hA.st, hA.names⟩
    obtain ⟨⟨x, f⟩, hx⟩ : ∃ r, runP rs noTb s fu = r := ⟨_, rfl⟩
    have HOKR : Hid (SttOk x) := by have := runP_ok (rs := rs) noTb_ok (s := s) (fu := fu) hlim; rw [hx] at this; exact this
    have HRP := hid hx
    clear hr hA hx hno hnv hz
    go_enter Try.func4, Try.ntmps4
    go_wp2_with (first
      | (go_at_call 5; refine hwk.mono ?_; clear hwk; rintro e w1 ⟨rfl, hb1⟩; have HB1 := hid (HB0.out.trans (hb1.mono HB0.out.size)); have HX1 := hid (HX0.out.on hb1 HX0.out.lt); obtain ⟨i0, i1, i2, i3⟩ := four HX1.out; clear HB0 HX0 hb1)
      | (go_at_call 6; refine (hfw _ HB1.out).mono ?_; clear hfw; rintro e w2 ⟨rfl, rfl⟩)
      | (go_at_call 13; refine (hco _ HB1.out).mono ?_; clear hco; rintro e w2 ⟨sv2, rfl, ho2, hb2⟩; obtain ⟨b1, b2, b3, b4, b5, b6, hsv2, hin2, hwf2, hls2⟩ := ho2.copy HA.out; subst hsv2; have HB2 := hid (HB1.out.trans (hb2.mono HB1.out.size)); have HX2 := hid (HX1.out.on hb2 HX1.out.lt); have HI2 := hid hin2; have HL2 := hid hls2; clear ho2 hb2 hin2 hwf2 hls2 i0 i1 i2 i3 HB1 HX1)
      | (go_at_call 8; refine (hru _ HB2.out).mono ?_; clear hru; rintro e w3 ⟨rv3, rfl, ho3, hb3⟩; have hl3 := ho3.lies HRF.out; obtain ⟨r1, r2, hrv3⟩ := ho3.form; subst hrv3; have A4 := hb3.trans ((bel_al w3 (.cells #[.slice b1 s.ops.length b2, .slice b3 s.vals.length b4, .int .i64 s.steps, .slice b5 s.heads.length b6] 39)).mono hb3.size); have HB4 := hid (HB2.out.trans (A4.mono HB2.out.size)); have HX4 := hid (HX2.out.on A4 HX2.out.lt); have HI4 := hid (HI2.out.on A4); have HL4 := hid (HL2.out.on A4); have HR4 := hid (hl3.on (bel_al w3 (.cells #[.slice b1 s.ops.length b2, .slice b3 s.vals.length b4, .int .i64 s.steps, .slice b5 s.heads.length b6] 39))); have HC4 := hid (Blk.made w3 #[.slice b1 s.ops.length b2, .slice b3 s.vals.length b4, .int .i64 s.steps, .slice b5 s.heads.length b6] 39); clear ho3 hb3 hl3 A4 HB2 HX2 HI2 HL2)
      | (go_at_call 11; refine (run_wide _ _ rs HR4.out s _ _ _ HI4.out HWF.out fu hfu .nilIface (.inl rfl) noTb noTb_ok (ask_nil _) hlim hlv hlnum).mono ?_; rw [HRP.out]; dsimp only; rintro e w5 ⟨sv5, rfl, hO5, hb5⟩; obtain ⟨p1, p2, p3, p4, p5, p6, hsv5, _⟩ := hO5.trio HOKR.out; subst hsv5; have HB6 := hid (hb5.trans ((bel_al w5 (.cells #[.slice p1 x.ops.length p2, .slice p3 x.vals.length p4, .int .i64 x.steps, .slice p5 x.heads.length p6] 39)).mono hb5.size)); have HX6 := hid (Blk.made w5 #[.slice p1 x.ops.length p2, .slice p3 x.vals.length p4, .int .i64 x.steps, .slice p5 x.heads.length p6] 39); have HO6 := hid (hO5.on (bel_al w5 (.cells #[.slice p1 x.ops.length p2, .slice p3 x.vals.length p4, .int .i64 x.steps, .slice p5 x.heads.length p6] 39))); clear hO5 hb5 HI4))
    generalize hw4 : w3.alloc (.cells #[.slice b1 s.ops.length b2, .slice b3 s.vals.length b4, .int .i64 s.steps, .slice b5 s.heads.length b6] 39) = w4 at *
    generalize hw6 : w5.alloc (.cells #[.slice p1 x.ops.length p2, .slice p3 x.vals.length p4, .int .i64 x.steps, .slice p5 x.heads.length p6] 39) = w6 at *
    clear hw4 hw6 HRP HOKR hlim hlv hlnum HWF HRF hfu
    have HXO := hid (xok_of HO6.out).2.2.2
    clear HO6
    have hlo := HXO.out.lo
    have hlv := HXO.out.lv
    have hlh := HXO.out.lh
    have HX6' : Hid (∀ wr, Shp w4.heap.size w6 wr → Blk wr w5.heap.size #[.slice p1 x.ops.length p2, .slice p3 x.vals.length p4, .int .i64 x.steps, .slice p5 x.heads.length p6] 39) := fun wr h => h.blk HX6.out (fun j hj => hj.elim (by decide) (fun h => h.elim (by decide) (fun h => absurd h.1 (by decide))))
    clear HX6
    go_loopw [36] (fun i wr => ∃ j : Nat, j ≤ x.vals.length ∧ i = .int .i64 (j : Nat) ∧ Hid (Shp w4.heap.size w6 wr)) (fun i _ => x.vals.length - (intOf i).toNat)
    case atStart => exact ⟨0, Nat.zero_le _, rfl, Shp.refl _ _⟩
    case round =>
      obtain ⟨j, hj, rfl, HS⟩ := hrel
      obtain ⟨i0, i1, i2, i3⟩ := four (HX6'.out wr HS.out)
      by_cases hlt : j < x.vals.length
      · obtain ⟨g, cur, a, m, c, hva, hb, hc, htw⟩ := HXO.out.vals j hlt
        subst hva
        have hji : (j : Int) < (x.vals.length : Int) := by omega
        have HVC : Hid (∀ wr, Shp w4.heap.size w6 wr → wr.cell? ⟨g, j, none⟩ = some (.slice a m c)) := fun wr h => h.cell hb (fun hj => hj.elim (by decide) (fun h => h.elim (by decide) (fun h => absurd h.1 (by decide)))) hc
        have hvc := HVC.out wr HS.out
        have HTW := hid htw
        have hm63 := htw.1
        clear htw hb hc
        go_wp2_with fail
        clear i0 i1 i2 i3 hvc
        go_loopw [45] (fun i wr => ∃ k : Nat, k ≤ m ∧ i = .int .i64 (k : Nat) ∧ Hid (Shp w4.heap.size w6 wr)) (fun i _ => m - (intOf i).toNat)
        case atStart => exact ⟨0, Nat.zero_le _, rfl, HS⟩
        case round =>
          clear HS
          obtain ⟨k, hk, rfl, HS⟩ := hrel
          obtain ⟨i0, i1, i2, i3⟩ := four (HX6'.out wr HS.out)
          have hvc := HVC.out wr HS.out
          by_cases hlt2 : k < m
          · obtain ⟨g2, cur2, ha2, hB2, hb2, hs2⟩ := HTW.out.2 k hlt2
            subst ha2
            have hki : (k : Int) < (m : Int) := by omega
            obtain ⟨⟨u, hu⟩, hfz⟩ := HS.out.at hb2 hs2
            have HN := hid (HS.out.store hb2 (j := k * 2) (.inl rfl) hB2 (.string ⟨#[120]⟩))
            clear hb2 hs2 HTW HVC HS
            go_wp2_with fail
            go_roundw
            case rel => exact ⟨k + 1, by omega, by go_num, HN⟩
            case measure => (simp [intOf]; try omega)
          · have hki : ¬ (k : Int) < (m : Int) := by omega
            go_wp2_with fail
            go_roundw
            case rel => exact ⟨j + 1, by omega, by go_num, HS⟩
            case measure => (simp [intOf]; try omega)
      · have hji : ¬ (j : Int) < (x.vals.length : Int) := by omega
        clear hlt hj
        go_wp2_with fail
        clear i0 i1 i2 i3 hji
        go_loopw [61] (fun i wr => ∃ j : Nat, j ≤ x.ops.length ∧ i = .int .i64 (j : Nat) ∧ Hid (Shp w4.heap.size w6 wr)) (fun i _ => x.ops.length - (intOf i).toNat)
        case atStart => exact ⟨0, Nat.zero_le _, rfl, HS⟩
        case round =>
          clear HS
          obtain ⟨j, hj, rfl, HS⟩ := hrel
          obtain ⟨i0, i1, i2, i3⟩ := four (HX6'.out wr HS.out)
          by_cases hlt : j < x.ops.length
          · obtain ⟨g, cur, a, m, c, hva, hBg, hb, hsz, hc, htw⟩ := HXO.out.ops j hlt
            subst hva
            have hji : (j : Int) < (x.ops.length : Int) := by omega
            have HVC : Hid (∀ wr, Shp w4.heap.size w6 wr → wr.cell? ⟨g, j * 4 + 3, none⟩ = some (.slice a m c)) := fun wr h => h.cell hb (fun hj => hj.elim (by decide) (fun h => h.elim (by decide) (fun h => by have := h.2; omega))) hc
            have HKC : Hid (∀ wr, Shp w4.heap.size w6 wr → ((∃ u, wr.cell? ⟨g, j * 4, none⟩ = some u) ∧ wr.frozen? ⟨g, j * 4, none⟩ = false) ∧ Shp w4.heap.size w6 (wr.setCell ⟨g, j * 4, none⟩ (.int .i64 0))) := fun wr h => ⟨h.at hb hsz, h.store hb (.inr (.inr ⟨rfl, by omega⟩)) hBg _⟩
            have hvc := HVC.out wr HS.out
            have HTW := hid htw
            have hm63 := htw.1
            clear htw hb hc hsz hBg
            go_wp2_with fail
            clear i0 i1 i2 i3 hvc
            go_loopw [71] (fun i wr => ∃ k : Nat, k ≤ m ∧ i = .int .i64 (k : Nat) ∧ Hid (Shp w4.heap.size w6 wr)) (fun i _ => m - (intOf i).toNat)
            case atStart => exact ⟨0, Nat.zero_le _, rfl, HS⟩
            case round =>
              clear HS
              obtain ⟨k, hk, rfl, HS⟩ := hrel
              obtain ⟨i0, i1, i2, i3⟩ := four (HX6'.out wr HS.out)
              have hvc := HVC.out wr HS.out
              by_cases hlt2 : k < m
              · obtain ⟨g2, cur2, ha2, hB2, hb2, hs2⟩ := HTW.out.2 k hlt2
                subst ha2
                have hki : (k : Int) < (m : Int) := by omega
                obtain ⟨⟨u, hu⟩, hfz⟩ := HS.out.at hb2 hs2
                have HN := hid (HS.out.store hb2 (j := k * 2) (.inl rfl) hB2 (.string ⟨#[120]⟩))
                clear hb2 hs2 HTW HVC HS HKC
                go_wp2_with fail
                go_roundw
                case rel => exact ⟨k + 1, by omega, by go_num, HN⟩
                case measure => (simp [intOf]; try omega)
              · have hki : ¬ (k : Int) < (m : Int) := by omega
                obtain ⟨⟨⟨u, hu⟩, hfz⟩, hn⟩ := HKC.out wr HS.out
                have HN := hid hn
                clear hn HKC HVC HTW
                go_wp2_with fail
                go_roundw
                case rel => exact ⟨j + 1, by omega, by go_num, HN⟩
                case measure => (simp [intOf]; try omega)
          · have hji : ¬ (j : Int) < (x.ops.length : Int) := by omega
            clear hlt hj
            go_wp2_with fail
            clear i0 i1 i2 i3 hji
            go_loopw [93] (fun i wr => ∃ j : Nat, j ≤ x.heads.length ∧ i = .int .i64 (j : Nat) ∧ Hid (Shp w4.heap.size w6 wr)) (fun i _ => x.heads.length - (intOf i).toNat)
            case atStart => exact ⟨0, Nat.zero_le _, rfl, HS⟩
            case round =>
              clear HS
              obtain ⟨j, hj, rfl, HS⟩ := hrel
              obtain ⟨i0, i1, i2, i3⟩ := four (HX6'.out wr HS.out)
              by_cases hlt : j < x.heads.length
              · obtain ⟨g, cur, hva, hBg, hb, hsz⟩ := HXO.out.heads j hlt
                subst hva
                have hji : (j : Int) < (x.heads.length : Int) := by omega
                obtain ⟨⟨u, hu⟩, hfz⟩ := HS.out.at hb hsz
                have HN := hid (HS.out.store hb (j := j) (.inr (.inl rfl)) hBg (.string ⟨#[120]⟩))
                clear hb hsz HS
                go_wp2_with fail
                go_roundw
                case rel => exact ⟨j + 1, by omega, by go_num, HN⟩
                case measure => (simp [intOf]; try omega)
              · have hji : ¬ (j : Int) < (x.heads.length : Int) := by omega
                clear hlt hj i0 i1 i2 i3
                have HLW := hid (HB6.out.trans HS.out.low)
                have HWW := hid (HB4.out.trans (HLW.out.mono HB4.out.size))
                obtain ⟨j0, j1, j2, j3⟩ := four (HX4.out.on HLW.out HX4.out.lt)
                obtain ⟨k0, k1, k2, k3⟩ := four (HC4.out.on HLW.out HC4.out.lt)
                have hin := HL4.out.on HLW.out
                have hst := (HA.out.on HWW.out).lies
                have hsm := rsame_any wr _ _ _ _ _ _ _ _ s.steps _ hin.lo hin.lv hin.lh hst.lo hst.lv hst.lh
                clear hin hst
                go_wp2_with (first
                  | (go_at_call 14; refine hsm.mono ?_; clear hsm; rintro e w7 ⟨rfl, hb7⟩; have hsr := sameRules_self w7 _ _ rs ((HR4.out.on HLW.out).on hb7) ((HR.out.on HWW.out).on hb7); have HB7 := hid (HWW.out.trans (hb7.mono HWW.out.size)); clear hb7)
                  | (go_at_call 15; refine hsr.mono ?_; clear hsr; rintro e w8 ⟨rfl, hb8⟩; have HB8 := hid (HB7.out.trans (hb8.mono HB7.out.size)); clear hb8))
                go_ret
                exact ⟨rfl, HB8.out⟩
  · have hd : (decide (rs.length ≤ 64) && decide (fu ≤ 300)) = false := by
      cases h1 : decide (rs.length ≤ 64) with
      | false => rfl
      | true =>
        cases h2 : decide (fu ≤ 300) with
        | false => rfl
        | true => exact absurd ⟨of_decide_eq_true h1, of_decide_eq_true h2⟩ hfew
    rw [hd] at hfw
    clear hd hfew
    go_enter Try.func4, Try.ntmps4
    go_wp2_with (first
      | (go_at_call 5; refine hwk.mono ?_; clear hwk; rintro e w1 ⟨rfl, hb1⟩; have HB1 := hid (HB0.out.trans (hb1.mono HB0.out.size)); have HX1 := hid (HX0.out.on hb1 HX0.out.lt); obtain ⟨i0, i1, i2, i3⟩ := four HX1.out; clear HB0 HX0 hb1)
      | (go_at_call 6; refine (hfw _ HB1.out).mono ?_; clear hfw; rintro e w2 ⟨rfl, rfl⟩))
    go_ret
    exact ⟨rfl, HB1.out⟩

theorem rewriteOwn_own : ownKnob Try.prog.godebug = none := by kernel_rfl
theorem rewriteOwn_laidOut : laidOutB Try.prog = true := by kernel_rfl

set_option maxRecDepth 100000 in
theorem rewriteOwn_lifted (os : Os) (started : os.Started) (H : Type) (enc : TypeId × Value → H) :
    ReturnsInHanded {} Try.checked os 4 .any (Rows.rewriteOwnSpec.pre6 enc Try.prog Try.f4 Rows.rewriteOwnRow.domain false) (Rows.rewriteOwnSpec.post enc Try.prog Try.f4 false true false false) := by
  refine returnsInHanded_of_change_sized (C := Try.checked) rewriteOwn_own started (by kernel_rfl) Try.func4
    (ChangeSpec.witness6 (enc := enc) (C := Try.checked) false ⟨#[], #[.slice none 0 0, .agg #[.slice none 0 0, .slice none 0 0, .int .i64 0, .slice none 0 0], .int .i64 0], []⟩ 8 (by kernel_rfl) (by kernel_rfl) (by kernel_rfl) (by kernel_rfl)) ?_
  intro W base args ds gs before hval0 hW hcnd hsz0 _
  have hsz : (DataW.weightsEach Try.prog (Try.f4.params.toList ++ Rows.rewriteOwnSpec.plain.varTypes Try.prog) (ds ++ gs)).all (· ≤ reachBytes) = true := hsz0
  have hval : ∀ (j : Nat) t v, Try.f4.params[j]? = some t → args[j]? = some v → Value.okWide Try.prog W .any base t v := hval0
  have hW' := hW
  obtain ⟨p, q, hA0, hV, rfl, hfz, hnd⟩ := hW
  have hA : DataW.TrodAll enc Try.prog W 0 (fun _ => true) true Try.f4.params.toList args.toList ds p := hA0
  rw [Try.params4] at hA hval hsz
  obtain ⟨v0, vs0, d0, ds0, p0, q0, hargs, rfl, rfl, h0, r0⟩ := trodAll_cons hA
  obtain ⟨v1, vs1, d1, ds1, p1, q1, rfl, rfl, rfl, h1, r1⟩ := trodAll_cons r0
  obtain ⟨v2, vs2, d2, ds2, p2, q2, rfl, rfl, rfl, h2, r2⟩ := trodAll_cons r1
  obtain ⟨rfl, rfl, rfl⟩ := trodAll_nil r2
  obtain rfl : args = #[v0, v1, v2] := by cases args; simp_all
  obtain ⟨rfl, rfl⟩ := trodVars_none hV
  have k0 := h0
  have lt0 : ∀ x ∈ p0, x.block < W.heap.size := by obtain ⟨m, hm⟩ := k0; exact DataW.trod_lt m _ _ _ hm
  have k1 := h1
  have lt1 : ∀ x ∈ p1, x.block < W.heap.size := by obtain ⟨m, hm⟩ := k1; exact DataW.trod_lt m _ _ _ hm
  have k2 := h2
  have lt2 : ∀ x ∈ p2, x.block < W.heap.size := by obtain ⟨m, hm⟩ := k2; exact DataW.trod_lt m _ _ _ hm
  obtain ⟨L0, l0, z0⟩ := open_rules (hval 0 22 v0 rfl rfl) h0 (fun n hn => by simpa using List.all_eq_true.1 hsz n (DataW.weights_mem_each (j := 0) (t := 22) rfl rfl n hn))
  obtain ⟨x1a, x1b, x1c, S1, rfl, l1⟩ := open_state (hval 1 39 v1 rfl rfl) h1 (fun n hn => by simpa using List.all_eq_true.1 hsz n (DataW.weights_mem_each (j := 1) (t := 39) rfl rfl n hn))
  obtain ⟨a2, rfl, rfl, rfl, w2⟩ := open_int Try.underlying3 (hval 2 3 v2 rfl rfl) h2
  clear hA0 hval0
  refine (rewriteOwn_walk v0 L0 x1a x1b x1c S1 a2 w2 W l0 z0 l1).mono fun e W' ⟨he, bel⟩ => ?_
  subst he
  exact ⟨_, rfl, _, _, _, [], _, [], hW', trodAll_mk1 (shut_bool Try.underlying4 _), (trodAll_cons_mk (Below.trod rewriteOwn_laidOut (by kernel_rfl) (of_decide_eq_true (by kernel_rfl)) k0 bel lt0) (trodAll_cons_mk (Below.trod rewriteOwn_laidOut (by kernel_rfl) (of_decide_eq_true (by kernel_rfl)) k1 bel lt1) (trodAll_cons_mk (Below.trod rewriteOwn_laidOut (by kernel_rfl) (of_decide_eq_true (by kernel_rfl)) k2 bel lt2) trodAll_mk0))), rfl, bel.frame _, fun h => by cases h⟩

theorem rewriteOwn_holds : Rows.RewriteOwnSaid :=
  OpenClaim.holds_of_wide 4 Try.f4 rfl rfl rfl rfl rfl rfl rfl ⟨rfl, rfl, rfl, rfl, rfl⟩ rfl rfl rfl rfl rfl (by kernel_rfl) Try.func4 (by kernel_rfl)
    (of_decide_eq_true (by kernel_rfl)) (by unfold Func.isWrapper; first | (rw [if_pos (by decide +kernel)]; kernel_rfl) | (rw [if_neg (by decide +kernel)]; exact ⟨rfl, rfl⟩))
    (fun os started H enc _ => rewriteOwn_lifted os started H enc)

#print axioms rewriteOwn_holds

end Go.Proofs.Ytbdlokijednoiaa
