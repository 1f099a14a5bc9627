/-
  any calls, one behind the other, on disks of any size, are answered as the document says, and all stands so in the end, also where the space is opened anew.
-/
import Derived.Test.YtglallhblcjffaaGreatDoorCards
import Derived.Test.YtglallhblcjffaaGreatDoorTie
import Derived.Test.YtglallhblcjffaaGreatDoorVa
import Derived.Test.YtglallhblcjffaaGreatDoorOa
import Derived.Test.YtglallhblcjffaaGreatDoorEv
import Derived.ProofKit
import Derived.OpenShut
import Derived.ShutString
import Derived.ChangeOld
import Derived.Below
import Derived.SizedLaws
import Derived.Lib.SmallJoins
import Derived.SevenTiedAt
import Derived.Deep.DeepHandedRow
import Derived.LaidMore
import Derived.Lay
import Derived.LaidHandle
namespace Go.Proofs.YtglallhblcjffaaGreatDoor
open Go.ChangeShapes Go.WideShapes Go.ChangeAt Go.RowKit Go.Joins
open Go.ChangeMaps (open_string shut_string)
set_option linter.unusedVariables false
set_option linter.unusedSimpArgs false
set_option maxRecDepth 100000

set_option maxHeartbeats 4000000 in
theorem spacePlays_walk (a0 a1 : Int) (v2 : Value) (L2 : List Ac) (w0' : (Lit.int IntKind.i64 a0).wf = true) (w1' : (Lit.int IntKind.i64 a1).wf = true) (w : World) (hE : Env w) (l2 : LiesA w v2 L2) (z2 : L2.length * 32 ≤ 140737488351232) :
    Calls Tryz.prog 3 #[.int .i64 a0, .int .i64 a1, v2] w fun e w' => e = .returned (.bool true) ∧ Below w.heap.size w w' := by
  obtain ⟨ua, uc, e1⟩ := l2.form
  subst e1
  have HWK := hid (wakes_any w hE)
  have HBG : Hid (∀ w1 : World, _) := fun w1 => begin_ws a0 a1 w1
  have HEN : Hid (∀ w1 : World, Below w.heap.size w w1 → Env w1) := fun w1 hb => hE.on hE.pos hb
  generalize sz a0 = n at *
  have HU := hid l2
  obtain ⟨ln, hln⟩ : ∃ ln, L2.length = ln := ⟨_, rfl⟩
  have HLN := hid hln
  have hz : ln ≤ 4398046510976 := by omega
  rw [hln] at HU ⊢
  clear l2 hln z2
  have HDO : Hid (∀ (w1 w2 : World) (g k q s N G : Nat) (x : Ac), Env w1 → N < 4611686018427380000 → Fit (G + 5000) → I64 x.pl → Ws w1 w2 g k q s n N G → Calls Tryz.prog 10 #[.pointer (some ⟨g, 0, none⟩), .agg #[.int .i64 x.kd, .int .i64 x.pl, .string x.tx]] w2 fun e V => e = .returned (.bool true) ∧ Ws w1 V g k q s n (N + 5) (G + 4000)) := fun w1 w2 g k q s N G x h1 h2 h3 h4 h5 => does_any x.kd x.pl x.tx h4 h1 h2 h3 h5
  go_enter Tryz.func3, Tryz.ntmps3
  by_cases h2k : 2000 < ln
  · have hgi : (2000 : Int) < (ln : Int) := by omega
    go_wp2_with (first
      | (go_at_call 8; refine HWK.out.mono ?_; clear HWK; rintro e w1 ⟨rfl, hb1⟩; have HB1 := hid hb1; clear hb1)
      | (go_at_call 9; refine (HBG.out _).mono ?_; clear HBG; rintro e w2 ⟨g, k, q, s, rfl, h2⟩; have HB2 := hid (HB1.out.trans (h2.below.mono HB1.out.size)); clear h2))
    go_ret
    exact ⟨rfl, HB2.out⟩
  · have hgi : ¬ (2000 : Int) < (ln : Int) := by omega
    go_wp2_with (first
      | (go_at_call 8; refine HWK.out.mono ?_; clear HWK; rintro e w1 ⟨rfl, hb1⟩; have HB1 := hid hb1; clear hb1)
      | (go_at_call 9; refine (HBG.out _).mono ?_; clear HBG; rintro e w2 ⟨g, k, q, s, rfl, h2⟩; have HS2 := hid h2; clear h2))
    have HE1 := hid (HEN.out w1 HB1.out)
    go_loopw [27] (fun i wr => ∃ j : Nat, j ≤ ln ∧ i = .int .i64 (j : Nat) ∧ Hid (Ws w1 wr g k q s n (1 + 5 * j) (5000 + 4000 * j))) (fun i _ => ln - (intOf i).toNat)
    case atStart => exact ⟨0, Nat.zero_le _, rfl, HS2⟩
    case round =>
      obtain ⟨j, hj, rfl, HS⟩ := hrel
      clear HS2
      by_cases hjm : j < ln
      · have hji : (j : Int) < (ln : Int) := by omega
        obtain ⟨x, hx⟩ : ∃ x, L2[j]? = some x := ⟨_, List.getElem?_eq_getElem (by rw [HLN.out]; exact hjm)⟩
        obtain ⟨ub, uo, e9, hul, d0, d1, d2, hpl, _⟩ := HU.out.at hx
        subst e9
        have hbw := HB1.out.trans (HS.out.below.mono HB1.out.size)
        have c0 := (hbw.cell (p := ⟨ub, uo + j * 3, none⟩) hul).trans d0
        have c1 := (hbw.cell (p := ⟨ub, uo + j * 3 + 1, none⟩) hul).trans d1
        have c2 := (hbw.cell (p := ⟨ub, uo + j * 3 + 2, none⟩) hul).trans d2
        have HC := hid (HDO.out w1 wr g k q s _ _ x HE1.out (by omega) (by unfold Fit; omega) hpl HS.out)
        clear hx d0 d1 d2 hpl hul hbw HS
        generalize x.kd = xk at *
        generalize x.pl = xp at *
        generalize x.tx = xt at *
        go_wp2_with (go_at_call 10; refine HC.out.mono ?_; clear HC; rintro e w4 ⟨rfl, h4⟩; have HS4 := hid h4; clear h4)
        go_roundw
        case rel => exact ⟨j + 1, by omega, by go_num, (by show Ws _ _ _ _ _ _ _ _ _; rw [show 1 + 5 * (j + 1) = 1 + 5 * j + 5 by omega, show 5000 + 4000 * (j + 1) = 5000 + 4000 * j + 4000 by omega]; exact HS4.out)⟩
        case measure => simp [intOf]; omega
      · obtain rfl : j = ln := by omega
        have hji : ¬ (j : Int) < (j : Int) := by omega
        obtain ⟨b1, b2, d, f, now, was, h1, h2, h3⟩ := HS.out
        have H1 := hid h1
        have HP := hid h2
        have HG := hid h3
        clear h1 h2 h3 HS
        go_wp2_with fail
        refine wp_region_d (fun w' => w'.cell? ⟨g, 1, none⟩ = some (.pointer (some ⟨s, 0, none⟩)) ∧ w'.cell? ⟨g, 2, none⟩ = some (.pointer (some ⟨b1, 0, none⟩))) (fun _ => true) (by kernel_rfl) ?_
        have HD := hid (H1.out.on ((Below.refl _ wr).drew))
        clear H1
        generalize wr.drew = wd at *
        have hS : wd.cell? ⟨g, 1, none⟩ = some (.pointer (some ⟨s, 0, none⟩)) ∧ wd.cell? ⟨g, 2, none⟩ = some (.pointer (some ⟨b1, 0, none⟩)) := ⟨HD.out.wcell (i := 1) rfl, HD.out.wcell (i := 2) rfl⟩
        refine wpAnyM_pick (i := 0) (some 38) (v := ?vz1) rfl rfl (by kernel_rfl) (by kernel_rfl) (by kernel_rfl) (by kernel_rfl) (fun _ _ _ h => h) (Or.inl ⟨by rfl, ?hz1⟩) hS ?rz1
        case hz1 => intro w hSw; (try have hs1 := hSw.1); (try have hs2 := hSw.2); (try (obtain ⟨ha1, ha2, ha3, ha4⟩ := hSw)); go_simp; try with_reducible rfl
        try simp only [Act.put, List.setIfInBounds_toArray, List.set_cons_zero, List.set_cons_succ]
        refine wpAnyM_pick (i := 1) (some 39) (v := ?vz2) rfl rfl (by kernel_rfl) (by kernel_rfl) (by kernel_rfl) (by kernel_rfl) (fun _ _ _ h => h) (Or.inl ⟨by rfl, ?hz2⟩) hS ?rz2
        case hz2 => intro w hSw; (try have hs1 := hSw.1); (try have hs2 := hSw.2); (try (obtain ⟨ha1, ha2, ha3, ha4⟩ := hSw)); go_simp; try with_reducible rfl
        try simp only [Act.put, List.setIfInBounds_toArray, List.set_cons_zero, List.set_cons_succ]
        refine wpAnyM_pick (i := 2) (some 40) (v := ?vz3) rfl rfl (by kernel_rfl) (by kernel_rfl) (by kernel_rfl) (by kernel_rfl) (fun _ _ _ h => h) (Or.inl ⟨by rfl, ?hz3⟩) hS ?rz3
        case hz3 => intro w hSw; (try have hs1 := hSw.1); (try have hs2 := hSw.2); (try (obtain ⟨ha1, ha2, ha3, ha4⟩ := hSw)); go_simp; try with_reducible rfl
        try simp only [Act.put, List.setIfInBounds_toArray, List.set_cons_zero, List.set_cons_succ]
        refine wpAnyM_pick (i := 3) (some 41) (v := ?vz4) rfl rfl (by kernel_rfl) (by kernel_rfl) (by kernel_rfl) (by kernel_rfl) (fun _ _ _ h => h) (Or.inl ⟨by rfl, ?hz4⟩) hS ?rz4
        case hz4 => intro w hSw; (try have hs1 := hSw.1); (try have hs2 := hSw.2); (try (obtain ⟨ha1, ha2, ha3, ha4⟩ := hSw)); go_simp; try with_reducible rfl
        try simp only [Act.put, List.setIfInBounds_toArray, List.set_cons_zero, List.set_cons_succ]
        refine wpAnyM_pick (i := 4) (some 42) (v := ?vz5) rfl rfl (by kernel_rfl) (by kernel_rfl) (by kernel_rfl) (by kernel_rfl) (fun _ _ _ h => h) (Or.inl ⟨by rfl, ?hz5⟩) hS ?rz5
        case hz5 => intro w hSw; (try have hs1 := hSw.1); (try have hs2 := hSw.2); (try (obtain ⟨ha1, ha2, ha3, ha4⟩ := hSw)); go_simp; try with_reducible rfl
        try simp only [Act.put, List.setIfInBounds_toArray, List.set_cons_zero, List.set_cons_succ]
        refine wpAnyM_pick (i := 5) (some 43) (v := ?vz6) rfl rfl (by kernel_rfl) (by kernel_rfl) (by kernel_rfl) (by kernel_rfl) (fun _ _ _ h => h) (Or.inl ⟨by rfl, ?hz6⟩) hS ?rz6
        case hz6 => intro w hSw; (try have hs1 := hSw.1); (try have hs2 := hSw.2); (try (obtain ⟨ha1, ha2, ha3, ha4⟩ := hSw)); go_simp; try with_reducible rfl
        try simp only [Act.put, List.setIfInBounds_toArray, List.set_cons_zero, List.set_cons_succ]
        refine wpAnyM_pick (i := 6) (some 44) (v := ?vz7) rfl rfl (by kernel_rfl) (by kernel_rfl) (by kernel_rfl) (by kernel_rfl) (fun _ _ _ h => h) (Or.inl ⟨by rfl, ?hz7⟩) hS ?rz7
        case hz7 => intro w hSw; (try have hs1 := hSw.1); (try have hs2 := hSw.2); (try (obtain ⟨ha1, ha2, ha3, ha4⟩ := hSw)); go_simp; try with_reducible rfl
        try simp only [Act.put, List.setIfInBounds_toArray, List.set_cons_zero, List.set_cons_succ]
        refine wpAnyM_pick (i := 7) (some 45) (v := ?vz8) rfl rfl (by kernel_rfl) (by kernel_rfl) (by kernel_rfl) (by kernel_rfl) (fun _ _ _ h => h) (Or.inl ⟨by rfl, ?hz8⟩) hS ?rz8
        case hz8 => intro w hSw; (try have hs1 := hSw.1); (try have hs2 := hSw.2); (try (obtain ⟨ha1, ha2, ha3, ha4⟩ := hSw)); go_simp; try with_reducible rfl
        try simp only [Act.put, List.setIfInBounds_toArray, List.set_cons_zero, List.set_cons_succ]
        refine wpAnyM_one (i := 8) (by kernel_rfl) rfl (fun K hK => ?_)
        go_simp
        go_at_call 11
        refine (same_wo HE1.out (by omega) HP.out HD.out).mono ?_
        clear HD
        rintro e w5 ⟨rfl, h5⟩
        have H5 := hid h5
        clear h5 hS
        have hS : w5.cell? ⟨g, 1, none⟩ = some (.pointer (some ⟨s, 0, none⟩)) ∧ w5.cell? ⟨g, 2, none⟩ = some (.pointer (some ⟨b1, 0, none⟩)) := ⟨H5.out.wcell (i := 1) rfl, H5.out.wcell (i := 2) rfl⟩
        go_wp2_with fail
        refine hK.out _ _ (fun _ => hS) ?_
        clear hK K
        try simp only [Act.put, List.setIfInBounds_toArray, List.set_cons_zero, List.set_cons_succ]
        refine wpAnyM_pick (i := 9) (some 47) (v := ?vz9) rfl rfl (by kernel_rfl) (by kernel_rfl) (by kernel_rfl) (by kernel_rfl) (fun _ _ _ h => h) (Or.inl ⟨by rfl, ?hz9⟩) hS ?rz9
        case hz9 => intro w hSw; (try have hs1 := hSw.1); (try have hs2 := hSw.2); (try (obtain ⟨ha1, ha2, ha3, ha4⟩ := hSw)); go_simp; try with_reducible rfl
        try simp only [Act.put, List.setIfInBounds_toArray, List.set_cons_zero, List.set_cons_succ]
        refine wpAnyM_done (by kernel_rfl) ?_ _
        try simp only [Act.put, List.setIfInBounds_toArray, List.set_cons_zero, List.set_cons_succ]
        clear hS
        have c0 : w5.cell? ⟨g, 0, none⟩ = some (.pointer (some ⟨k, 0, none⟩)) := H5.out.wcell (i := 0) rfl
        have HO := hid (open_wo 1 (by decide) HE1.out (by have := HG.out; unfold Fit; omega) HP.out H5.out)
        clear H5
        go_wp2_with fail
        go_at_call 12
        refine HO.out.mono ?_
        clear HO
        rintro e w6 ⟨q', s', d', rfl, h6, h7, h8⟩
        have c6 := h8.cell
        have HC := hid (same_wp HE1.out (by decide) HP.out.ok2 HP.out.n2 h6 h7 h8)
        clear h6 h7 h8
        go_wp2_with (go_at_call 11; refine HC.out.mono ?_; clear HC; rintro e w7 ⟨rfl, hb7⟩; have HB7 := hid (HB1.out.trans (hb7.mono HB1.out.size)); clear hb7)
        go_ret
        exact ⟨rfl, HB7.out⟩

theorem spacePlays_own : ownKnob Tryz.prog.godebug = none := by kernel_rfl
theorem spacePlays_laidOut : laidOutB Tryz.prog = true := by kernel_rfl
theorem spacePlays_met (os : Os) : laidMetH Tryz.prog Rows.spacePlaysRow.laid ((laidW os).forCall (fun _ _ => 0) ⟨#[], #[.int .i64 0, .int .i64 0, .slice none 0 0], []⟩).memory := by
  exact laidMetH_of_parts (laidMet_nil _ _) (by kernel_rfl)
theorem spacePlays_reads (os : Os) {H : Type} (enc : TypeId × Value → H) : DataW.whole enc Tryz.prog ((laidW os).forCall (fun _ _ => 0) ⟨#[], #[.int .i64 0, .int .i64 0, .slice none 0 0], []⟩).memory Tryz.f3.params.toList Rows.spacePlaysSpec.vars false #[(.int .i64 0 : Value), (.int .i64 0 : Value), (.slice none 0 0 : Value)].toList 8 = some ([.lit (.int .i64 0), .lit (.int .i64 0), .nil], [], []) := by kernel_rfl
theorem spacePlays_okIn (os : Os) : Input.okWideB Tryz.prog ((laidW os).forCall (fun _ _ => 0) ⟨#[], #[.int .i64 0, .int .i64 0, .slice none 0 0], []⟩) 3 ⟨#[], #[.int .i64 0, .int .i64 0, .slice none 0 0], []⟩ = true := by kernel_rfl

set_option maxRecDepth 100000 in
theorem spacePlays_lifted (os : Os) (started : os.Started) (H : Type) (enc : TypeId × Value → H) (F : Stop.Interp) :
    ReturnsInHanded {} Tryz.checked os 3 .any ((OpenSpec.ofChange Rows.spacePlaysSpec).preRow enc Tryz.prog Tryz.f3 Rows.spacePlaysRow.domain false Rows.spacePlaysRow.laid) (((OpenSpec.ofChange Rows.spacePlaysSpec).at F).post enc Tryz.prog Tryz.f3 false true false false) := by
  refine returnsInHanded_of_row (C := Tryz.checked) (s := (OpenSpec.ofChange Rows.spacePlaysSpec)) spacePlays_own started (by kernel_rfl) Tryz.func3
    ⟨laidW os, fun _ _ => 0, ⟨#[], #[.int .i64 0, .int .i64 0, .slice none 0 0], []⟩, rfl, World.shaped_of_ZipB (by kernel_rfl) (by kernel_rfl), (Input.okWide_of_okWideB (base := 0) (spacePlays_okIn os)).1, (Input.okWide_of_okWideB (spacePlays_okIn os)).2,
      OpenSpec.preRow_of_cond 8 (spacePlays_reads os enc) (by kernel_rfl) (fun k hk => by cases hk) (by kernel_rfl) (spacePlays_met os), by simp only [Assume.holds]; exact ⟨by simp, by simp, fun _ => Modest.zero, by simp, by simp⟩⟩ ?_
  intro W base args ds gs before hval0 hW hcnd hcond hsz0 hL hsh _
  have env : Env W := env_of hL
  have hsz : (DataW.weightsEach Tryz.prog (Tryz.f3.params.toList ++ Rows.spacePlaysSpec.plain.varTypes Tryz.prog) (ds ++ gs)).all (· ≤ reachBytes) = true := hsz0
  have hval : ∀ (j : Nat) t v, Tryz.f3.params[j]? = some t → args[j]? = some v → Value.okWide Tryz.prog W .any base t v := hval0
  have hW' := hW
  obtain ⟨p, q, hA0, hV, rfl, hfz, hnd⟩ := hW
  have hA : DataW.TrodAll enc Tryz.prog W 0 (fun _ => true) true Tryz.f3.params.toList args.toList ds p := hA0
  rw [Tryz.params3] at hA hval hsz
  obtain ⟨v0, vs0, d0, ds0, p0, q0, hargs, rfl, rfl, h0, r0⟩ := trodAll_cons hA
  obtain ⟨v1, vs1, d1, ds1, p1, q1, rfl, rfl, rfl, h1, r1⟩ := trodAll_cons r0
  obtain ⟨v2, vs2, d2, ds2, p2, q2, rfl, rfl, rfl, h2, r2⟩ := trodAll_cons r1
  obtain ⟨rfl, rfl, rfl⟩ := trodAll_nil r2
  obtain rfl : args = #[v0, v1, v2] := by cases args; simp_all
  obtain ⟨rfl, rfl⟩ := trodVars_none hV
  have k0 := h0
  have lt0 : ∀ x ∈ p0, x.block < W.heap.size := by obtain ⟨m, hm⟩ := k0; exact DataW.trod_lt m _ _ _ hm
  have k1 := h1
  have lt1 : ∀ x ∈ p1, x.block < W.heap.size := by obtain ⟨m, hm⟩ := k1; exact DataW.trod_lt m _ _ _ hm
  have k2 := h2
  have lt2 : ∀ x ∈ p2, x.block < W.heap.size := by obtain ⟨m, hm⟩ := k2; exact DataW.trod_lt m _ _ _ hm
  obtain ⟨a0, rfl, rfl, rfl, w0⟩ := open_int Tryz.underlying3 (hval 0 3 v0 rfl rfl) h0
  obtain ⟨a1, rfl, rfl, rfl, w1⟩ := open_int Tryz.underlying3 (hval 1 3 v1 rfl rfl) h1
  obtain ⟨L2, l2, z2⟩ := open_acts (hval 2 22 v2 rfl rfl) h2 (fun n hn => by simpa using List.all_eq_true.1 hsz n (DataW.weights_mem_each (j := 2) (t := 22) rfl rfl n hn))
  clear hA0 hval0
  refine (spacePlays_walk a0 a1 v2 L2 w0 w1 W env l2 z2).mono fun e W' ⟨he, bel⟩ => ?_
  subst he
  exact ⟨_, rfl, _, _, _, [], _, [], hW', trodAll_mk1 (shut_bool Tryz.underlying4 _), (trodAll_cons_mk (Below.trod spacePlays_laidOut (by kernel_rfl) (of_decide_eq_true (by kernel_rfl)) k0 bel lt0) (trodAll_cons_mk (Below.trod spacePlays_laidOut (by kernel_rfl) (of_decide_eq_true (by kernel_rfl)) k1 bel lt1) (trodAll_cons_mk (Below.trod spacePlays_laidOut (by kernel_rfl) (of_decide_eq_true (by kernel_rfl)) k2 bel lt2) trodAll_mk0))), rfl, bel.frame _, fun h => by cases h⟩

theorem spacePlays_said : Rows.SpacePlaysSaid :=
  OpenClaim.holds_of_cond 3 Tryz.f3 rfl rfl rfl rfl rfl rfl rfl ⟨rfl, rfl, rfl, rfl, rfl⟩ rfl rfl rfl rfl rfl (by kernel_rfl) Tryz.func3 (by kernel_rfl)
    (of_decide_eq_true (by kernel_rfl)) (by unfold Func.isWrapper; first | (rw [if_pos (by decide +kernel)]; kernel_rfl) | (rw [if_neg (by decide +kernel)]; exact ⟨rfl, rfl⟩))
    (fun os started H enc _ F => by rw [OpenClaim.pre_eq_preRow]; exact spacePlays_lifted os started H enc F)

theorem spacePlays_plain (f : FuncId) (fn : Func) (hf : Tryz.pinned.checked.prog.funcNamed Rows.spacePlaysRow.func = some f) (hfn : Tryz.pinned.checked.prog.funcs[f]? = some fn) :
    true = Tryz.pinned.checked.prog.looks [] ∧ ∀ (j : Nat) t, fn.params[j]? = some t → Tryz.pinned.checked.prog.wantsStandIn t = false := by
  obtain rfl : f = 3 := Option.some.inj ((show Tryz.prog.funcNamed Rows.spacePlaysRow.func = some 3 by kernel_rfl).symm.trans hf) |>.symm
  obtain rfl : fn = Tryz.f3 := (Option.some.inj (Tryz.func3.symm.trans hfn)).symm
  refine ⟨by kernel_rfl, fun j t ht => ?_⟩
  rw [Tryz.params3] at ht
  have hm : t ∈ [3, 3, 22] := by simpa using Array.mem_of_getElem? ht
  have hall : ([3, 3, 22].all fun u => !Tryz.prog.wantsStandIn u) = true := by kernel_rfl
  have := List.all_eq_true.1 hall t hm
  exact (show Tryz.prog.wantsStandIn t = false by simpa using this)

theorem spacePlays_holds : Rows.SpacePlaysCardSaid :=
  Claim7.holds_tied_plain_at .later [] _ _ _ _ spacePlays_said (fun _ h => by cases h) (by kernel_rfl) (fun _ h => by cases h) spacePlays_row_tie rfl ⟨rfl, rfl⟩ (by kernel_rfl) rfl spacePlays_plain (by kernel_rfl)

#print axioms spacePlays_holds

end Go.Proofs.YtglallhblcjffaaGreatDoor
