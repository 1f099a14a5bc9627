/-
  wherever the power fails while a new disk is laid out, the next opening ends with an empty space.
-/
import Derived.Test.YtglallhblcjffaaGreatDoorCards
import Derived.Test.YtglallhblcjffaaGreatDoorTie
import Derived.Test.YtglallhblcjffaaGreatDoorTr
import Derived.Test.YtglallhblcjffaaGreatDoorOa
import Derived.Test.YtglallhblcjffaaGreatDoorEv
import Derived.ProofKit
import Derived.OpenShut
import Derived.ShutString
import Derived.ChangeOld
import Derived.Below
import Derived.SizedLaws
import Derived.Lib.SmallJoins
import Derived.SevenTiedAt
import Derived.Deep.DeepHandedRow
import Derived.LaidMore
import Derived.Lay
import Derived.LaidHandle
namespace Go.Proofs.YtglallhblcjffaaGreatDoor
open Go.ChangeShapes Go.WideShapes Go.ChangeAt Go.RowKit Go.Joins
open Go.ChangeMaps (open_string shut_string)
set_option linter.unusedVariables false
set_option linter.unusedSimpArgs false
set_option maxRecDepth 100000

set_option maxHeartbeats 4000000 in
theorem spaceLays_walk (a0 : Int) (v1 : Value) (L1 : List Nat) (w0' : (Lit.int IntKind.i64 a0).wf = true) (w : World) (hE : Env w) (l1 : LiesU w v1 L1) (z1 : L1.length ≤ 140737488351232) :
    Calls Tryz.prog 5 #[.int .i64 a0, v1] w fun e w' => e = .returned (.bool true) ∧ Below w.heap.size w w' := by
  obtain ⟨ua, uc, e1⟩ := l1.form
  subst e1
  have HWK := hid (wakes_any w hE)
  obtain ⟨y1, y2⟩ := sz_in a0
  have HSZ : Hid (∀ w1, _) := fun w1 => size_any a0 w1
  generalize sz a0 = n at *
  have HNW : Hid (∀ w1, Below w.heap.size w w1 → _) := fun w1 hb => new_dq (w0 := w) (w := w1) n y1 (by omega) hb
  have HOP : Hid (∀ (w1 : World) (k j : Nat) (d : Ds) (lf : Int), j ≤ 20 → Lay n j d → Dq w w1 k { d with lf := lf } → Calls Tryz.prog 12 #[.pointer (some ⟨k, 0, none⟩), .int .i64 3] w1 fun e w' => (∃ q s d', e = .returned (.tuple #[.pointer (some ⟨s, 0, none⟩), .int .i64 0]) ∧ Sq w w' k q s d' (onD d') 1 ∧ Dq w w' k d' ∧ d'.bs.length = n ∧ Shw d'.bs.length (onD d') (rNewP n) ∧ Lay n (j + 1) { d' with lf := -1, dn := false }) ∨ (0 ≤ lf ∧ e = .returned (.tuple #[.pointer none, .int .i64 17]) ∧ ∃ d', Dq w w' k d' ∧ Lay n (j + 1) { d' with lf := -1, dn := false })) := fun w1 k j d lf hj hL h => open_lay y1 (by omega) hj lf hE hL h
  have HCU : Hid (∀ (w1 : World) (k : Nat) (d : Ds) (y : Nat), y ≤ 255 → Dq w w1 k d → Calls Tryz.prog 14 #[.pointer (some ⟨k, 0, none⟩), .int .i64 (y : Int)] w1 fun e w' => e = .returned (.tuple #[]) ∧ Dq w w' k { d with lf := (y : Int) }) := fun w1 k d y hy h => cut_dq (y : Int) (by omega) h
  have HRE : Hid (∀ (w1 : World) (k : Nat) (d : Ds), Dq w w1 k d → Calls Tryz.prog 16 #[.pointer (some ⟨k, 0, none⟩)] w1 fun e w' => e = .returned (.tuple #[]) ∧ Dq w w' k { d with lf := -1, dn := false }) := fun w1 k d h => restore_dq h
  have HRN : Hid (∀ w1, _) := fun w1 => rNew_any n y1 (by omega) w1
  have HSA : Hid (∀ (w1 w2 : World) (k q s b : Nat) (d : Ds), d.bs.length = n → Shw d.bs.length (onD d) (rNewP n) → Sq w w1 k q s d (onD d) 1 → Nr w1 w2 b (rNewP n) → Calls Tryz.prog 11 #[.pointer (some ⟨s, 0, none⟩), .pointer (some ⟨b, 0, none⟩)] w2 fun e V => e = .returned (.bool true) ∧ Below w.heap.size w V) := fun w1 w2 k q s b d hl hs h1 h2 => (same_new (n := n) hE (by decide) (rNewP_ok y1 (by omega)) hl.symm h1 h2).mono fun e V hh => by
    obtain ⟨⟨bl, e1, e2⟩, e3⟩ := hh
    rw [e2.2 hs] at e1
    exact ⟨e1, e3.below⟩
  have HST := hid (Lay.start (n := n) y1)
  have HU := hid l1
  obtain ⟨ln, hln⟩ : ∃ ln, L1.length = ln := ⟨_, rfl⟩
  have HLN := hid hln
  rw [hln] at HU z1 ⊢
  clear l1 hln
  go_enter Tryz.func5, Tryz.ntmps5
  go_wp2_with (first
    | (go_at_call 8; refine HWK.out.mono ?_; clear HWK; rintro e w1 ⟨rfl, hb1⟩; have HB1 := hid hb1; clear hb1)
    | (go_at_call 19; refine (HSZ.out _).mono ?_; rintro e w2 ⟨rfl, rfl⟩)
    | (go_at_call 18; refine (HNW.out _ HB1.out).mono ?_; clear HNW; rintro e w3 ⟨k, rfl, h3⟩; have HD3 := hid h3; clear h3 HB1))
  go_loopw [7] (fun i wr => ∃ (j : Nat) (d : Ds), j ≤ ln ∧ j ≤ 20 ∧ i = .int .i64 (j : Nat) ∧ Hid (Dq w wr k d) ∧ Hid (Lay n j d)) (fun i _ => ln - (intOf i).toNat)
  case atStart => exact ⟨0, _, Nat.zero_le _, Nat.zero_le _, rfl, HD3, HST⟩
  case round =>
    obtain ⟨j, d, hj, hj20, rfl, HD, HL⟩ := hrel
    clear HD3 HST
    by_cases hjm : j < ln ∧ j < 20
    · obtain ⟨hj1, hj2⟩ := hjm
      have hji : (j : Int) < (ln : Int) := by omega
      have hji2 : (j : Int) < 20 := by omega
      obtain ⟨x, hx⟩ : ∃ x, L1[j]? = some x := ⟨_, List.getElem?_eq_getElem (by rw [HLN.out]; exact hj1)⟩
      obtain ⟨ub, uo, e9, hul, d0, hx255⟩ := HU.out.at hx
      subst e9
      have d1 : wr.cell? ⟨ub, uo + j, none⟩ = some (.int .u8 (x : Nat)) := (HD.out.below.cell (p := ⟨ub, uo + j, none⟩) hul).trans d0
      obtain ⟨y, hy⟩ : ∃ y, x % 9 = y := ⟨_, rfl⟩
      have hy9 : y < 9 := by omega
      have hmod : (x : Int).tmod 9 = (y : Int) := by rw [← hy, Int.tmod_eq_emod_of_nonneg (by omega)]; omega
      have hwu : IntKind.u8.wrap (y : Int) = (y : Int) := by rw [IntKind.wrap_u8]; omega
      have hwi : IntKind.i64.wrap (y : Int) = (y : Int) := by rw [IntKind.wrap_i64]; omega
      have HC := hid (HCU.out wr k d y (by omega) HD.out)
      clear hx d0 hul hy HD
      go_wp2_with (go_at_call 14; refine HC.out.mono ?_; clear HC; rintro e w4 ⟨rfl, h4⟩; have HD4 := hid h4; clear h4)
      go_at_call 12
      refine (HOP.out _ _ _ _ _ hj20 HL.out HD4.out).mono ?_
      clear HD4
      rintro e w5 (⟨q, s, d', rfl, h5, h6, h7, h8, h9⟩ | ⟨_, rfl, d', h6, h9⟩)
      · have HD5 := hid (HRE.out _ _ _ h6)
        have HL5 := hid h9
        clear h5 h6 h7 h8 h9
        go_wp2_with (go_at_call 16; refine HD5.out.mono ?_; clear HD5; rintro e w6 ⟨rfl, h6⟩; have HD6 := hid h6; clear h6)
        go_roundw
        case rel => exact ⟨j + 1, _, by omega, by omega, by go_num, HD6, HL5⟩
        case measure => simp [intOf]; omega
      · have HD5 := hid (HRE.out _ _ _ h6)
        have HL5 := hid h9
        clear h6 h9
        go_wp2_with (go_at_call 16; refine HD5.out.mono ?_; clear HD5; rintro e w6 ⟨rfl, h6⟩; have HD6 := hid h6; clear h6)
        go_roundw
        case rel => exact ⟨j + 1, _, by omega, by omega, by go_num, HD6, HL5⟩
        case measure => simp [intOf]; omega
    · have hlf := HL.out.lf
      have HO := hid (HOP.out wr k j d d.lf hj20 HL.out HD.out)
      by_cases hj1 : j < ln
      · have hji : (j : Int) < (ln : Int) := by omega
        have hji2 : ¬ (j : Int) < 20 := by omega
        go_wp2_with fail
        go_at_call 12
        refine HO.out.mono ?_
        rintro e w5 (⟨q, s, d', rfl, h5, h6, h7, h8, h9⟩ | ⟨h0, _⟩)
        · have HS5 := hid h5
          have HS7 := hid (And.intro h7 h8)
          clear h5 h6 h7 h8 h9
          go_wp2_with (first
            | (go_at_call 19; refine (HSZ.out _).mono ?_; rintro e w2 ⟨rfl, rfl⟩)
            | (go_at_call 20; refine (HRN.out _).mono ?_; clear HRN; rintro e w6 ⟨b, rfl, h6⟩; have HN6 := hid h6; clear h6)
            | (go_at_call 11; refine (HSA.out _ _ _ _ _ _ _ HS7.out.1 HS7.out.2 HS5.out HN6.out).mono ?_; clear HSA; rintro e w7 ⟨rfl, hb7⟩; have HB7 := hid hb7; clear hb7))
          go_ret
          exact ⟨rfl, HB7.out⟩
        · omega
      · have hji : ¬ (j : Int) < (ln : Int) := by omega
        go_wp2_with fail
        go_at_call 12
        refine HO.out.mono ?_
        rintro e w5 (⟨q, s, d', rfl, h5, h6, h7, h8, h9⟩ | ⟨h0, _⟩)
        · have HS5 := hid h5
          have HS7 := hid (And.intro h7 h8)
          clear h5 h6 h7 h8 h9
          go_wp2_with (first
            | (go_at_call 19; refine (HSZ.out _).mono ?_; rintro e w2 ⟨rfl, rfl⟩)
            | (go_at_call 20; refine (HRN.out _).mono ?_; clear HRN; rintro e w6 ⟨b, rfl, h6⟩; have HN6 := hid h6; clear h6)
            | (go_at_call 11; refine (HSA.out _ _ _ _ _ _ _ HS7.out.1 HS7.out.2 HS5.out HN6.out).mono ?_; clear HSA; rintro e w7 ⟨rfl, hb7⟩; have HB7 := hid hb7; clear hb7))
          go_ret
          exact ⟨rfl, HB7.out⟩
        · omega

theorem spaceLays_own : ownKnob Tryz.prog.godebug = none := by kernel_rfl
theorem spaceLays_laidOut : laidOutB Tryz.prog = true := by kernel_rfl
theorem spaceLays_met (os : Os) : laidMetH Tryz.prog Rows.spaceLaysRow.laid ((laidW os).forCall (fun _ _ => 0) ⟨#[], #[.int .i64 0, .slice none 0 0], []⟩).memory := by
  exact laidMetH_of_parts (laidMet_nil _ _) (by kernel_rfl)
theorem spaceLays_reads (os : Os) {H : Type} (enc : TypeId × Value → H) : DataW.whole enc Tryz.prog ((laidW os).forCall (fun _ _ => 0) ⟨#[], #[.int .i64 0, .slice none 0 0], []⟩).memory Tryz.f5.params.toList Rows.spaceLaysSpec.vars false #[(.int .i64 0 : Value), (.slice none 0 0 : Value)].toList 8 = some ([.lit (.int .i64 0), .nil], [], []) := by kernel_rfl
theorem spaceLays_okIn (os : Os) : Input.okWideB Tryz.prog ((laidW os).forCall (fun _ _ => 0) ⟨#[], #[.int .i64 0, .slice none 0 0], []⟩) 5 ⟨#[], #[.int .i64 0, .slice none 0 0], []⟩ = true := by kernel_rfl

set_option maxRecDepth 100000 in
theorem spaceLays_lifted (os : Os) (started : os.Started) (H : Type) (enc : TypeId × Value → H) (F : Stop.Interp) :
    ReturnsInHanded {} Tryz.checked os 5 .any ((OpenSpec.ofChange Rows.spaceLaysSpec).preRow enc Tryz.prog Tryz.f5 Rows.spaceLaysRow.domain false Rows.spaceLaysRow.laid) (((OpenSpec.ofChange Rows.spaceLaysSpec).at F).post enc Tryz.prog Tryz.f5 false true false false) := by
  refine returnsInHanded_of_row (C := Tryz.checked) (s := (OpenSpec.ofChange Rows.spaceLaysSpec)) spaceLays_own started (by kernel_rfl) Tryz.func5
    ⟨laidW os, fun _ _ => 0, ⟨#[], #[.int .i64 0, .slice none 0 0], []⟩, rfl, World.shaped_of_ZipB (by kernel_rfl) (by kernel_rfl), (Input.okWide_of_okWideB (base := 0) (spaceLays_okIn os)).1, (Input.okWide_of_okWideB (spaceLays_okIn os)).2,
      OpenSpec.preRow_of_cond 8 (spaceLays_reads os enc) (by kernel_rfl) (fun k hk => by cases hk) (by kernel_rfl) (spaceLays_met os), by simp only [Assume.holds]; exact ⟨by simp, by simp, fun _ => Modest.zero, by simp, by simp⟩⟩ ?_
  intro W base args ds gs before hval0 hW hcnd hcond hsz0 hL hsh _
  have env : Env W := env_of hL
  have hsz : (DataW.weightsEach Tryz.prog (Tryz.f5.params.toList ++ Rows.spaceLaysSpec.plain.varTypes Tryz.prog) (ds ++ gs)).all (· ≤ reachBytes) = true := hsz0
  have hval : ∀ (j : Nat) t v, Tryz.f5.params[j]? = some t → args[j]? = some v → Value.okWide Tryz.prog W .any base t v := hval0
  have hW' := hW
  obtain ⟨p, q, hA0, hV, rfl, hfz, hnd⟩ := hW
  have hA : DataW.TrodAll enc Tryz.prog W 0 (fun _ => true) true Tryz.f5.params.toList args.toList ds p := hA0
  rw [Tryz.params5] at hA hval hsz
  obtain ⟨v0, vs0, d0, ds0, p0, q0, hargs, rfl, rfl, h0, r0⟩ := trodAll_cons hA
  obtain ⟨v1, vs1, d1, ds1, p1, q1, rfl, rfl, rfl, h1, r1⟩ := trodAll_cons r0
  obtain ⟨rfl, rfl, rfl⟩ := trodAll_nil r1
  obtain rfl : args = #[v0, v1] := by cases args; simp_all
  obtain ⟨rfl, rfl⟩ := trodVars_none hV
  have k0 := h0
  have lt0 : ∀ x ∈ p0, x.block < W.heap.size := by obtain ⟨m, hm⟩ := k0; exact DataW.trod_lt m _ _ _ hm
  have k1 := h1
  have lt1 : ∀ x ∈ p1, x.block < W.heap.size := by obtain ⟨m, hm⟩ := k1; exact DataW.trod_lt m _ _ _ hm
  obtain ⟨a0, rfl, rfl, rfl, w0⟩ := open_int Tryz.underlying3 (hval 0 3 v0 rfl rfl) h0
  obtain ⟨L1, l1, z1⟩ := open_bytes (hval 1 39 v1 rfl rfl) h1 (fun n hn => by simpa using List.all_eq_true.1 hsz n (DataW.weights_mem_each (j := 1) (t := 39) rfl rfl n hn))
  clear hA0 hval0
  refine (spaceLays_walk a0 v1 L1 w0 W env l1 z1).mono fun e W' ⟨he, bel⟩ => ?_
  subst he
  exact ⟨_, rfl, _, _, _, [], _, [], hW', trodAll_mk1 (shut_bool Tryz.underlying4 _), (trodAll_cons_mk (Below.trod spaceLays_laidOut (by kernel_rfl) (of_decide_eq_true (by kernel_rfl)) k0 bel lt0) (trodAll_cons_mk (Below.trod spaceLays_laidOut (by kernel_rfl) (of_decide_eq_true (by kernel_rfl)) k1 bel lt1) trodAll_mk0)), rfl, bel.frame _, fun h => by cases h⟩

theorem spaceLays_said : Rows.SpaceLaysSaid :=
  OpenClaim.holds_of_cond 5 Tryz.f5 rfl rfl rfl rfl rfl rfl rfl ⟨rfl, rfl, rfl, rfl, rfl⟩ rfl rfl rfl rfl rfl (by kernel_rfl) Tryz.func5 (by kernel_rfl)
    (of_decide_eq_true (by kernel_rfl)) (by unfold Func.isWrapper; first | (rw [if_pos (by decide +kernel)]; kernel_rfl) | (rw [if_neg (by decide +kernel)]; exact ⟨rfl, rfl⟩))
    (fun os started H enc _ F => by rw [OpenClaim.pre_eq_preRow]; exact spaceLays_lifted os started H enc F)

theorem spaceLays_plain (f : FuncId) (fn : Func) (hf : Tryz.pinned.checked.prog.funcNamed Rows.spaceLaysRow.func = some f) (hfn : Tryz.pinned.checked.prog.funcs[f]? = some fn) :
    true = Tryz.pinned.checked.prog.looks [] ∧ ∀ (j : Nat) t, fn.params[j]? = some t → Tryz.pinned.checked.prog.wantsStandIn t = false := by
  obtain rfl : f = 5 := Option.some.inj ((show Tryz.prog.funcNamed Rows.spaceLaysRow.func = some 5 by kernel_rfl).symm.trans hf) |>.symm
  obtain rfl : fn = Tryz.f5 := (Option.some.inj (Tryz.func5.symm.trans hfn)).symm
  refine ⟨by kernel_rfl, fun j t ht => ?_⟩
  rw [Tryz.params5] at ht
  have hm : t ∈ [3, 39] := by simpa using Array.mem_of_getElem? ht
  have hall : ([3, 39].all fun u => !Tryz.prog.wantsStandIn u) = true := by kernel_rfl
  have := List.all_eq_true.1 hall t hm
  exact (show Tryz.prog.wantsStandIn t = false by simpa using this)

theorem spaceLays_holds : Rows.SpaceLaysCardSaid :=
  Claim7.holds_tied_plain_at .later [] _ _ _ _ spaceLays_said (fun _ h => by cases h) (by kernel_rfl) (fun _ h => by cases h) spaceLays_row_tie rfl ⟨rfl, rfl⟩ (by kernel_rfl) rfl spaceLays_plain (by kernel_rfl)

#print axioms spaceLays_holds

end Go.Proofs.YtglallhblcjffaaGreatDoor
