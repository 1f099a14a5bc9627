/-
  Pages are handed out, the least free one first, until there are none; given back they are handed out again.
-/
import Derived.Test.YtglallhblcjffaaGreatDoorCards
import Derived.Test.YtglallhblcjffaaGreatDoorTie
import Derived.Test.YtglallhblcjffaaGreatDoorRc2
import Derived.Test.YtglallhblcjffaaGreatDoorOa
import Derived.Test.YtglallhblcjffaaGreatDoorEv
import Derived.ProofKit
import Derived.OpenShut
import Derived.ShutString
import Derived.ChangeOld
import Derived.Below
import Derived.SizedLaws
import Derived.Lib.SmallJoins
import Derived.SevenTiedAt
import Derived.Deep.DeepHandedRow
import Derived.LaidMore
import Derived.Lay
import Derived.LaidHandle
namespace Go.Proofs.YtglallhblcjffaaGreatDoor
open Go.ChangeShapes Go.WideShapes Go.ChangeAt Go.RowKit Go.Joins
open Go.ChangeMaps (open_string shut_string)
set_option linter.unusedVariables false
set_option linter.unusedSimpArgs false
set_option maxRecDepth 100000

set_option maxHeartbeats 4000000 in
theorem spaceFills_walk (a0 : Int) (v1 : Value) (L1 : List Nat) (w0' : (Lit.int IntKind.i64 a0).wf = true) (w : World) (hE : Env w) (l1 : LiesU w v1 L1) (z1 : L1.length ≤ 140737488351232) :
    Calls Tryz.prog 6 #[.int .i64 a0, v1] w fun e w' => e = .returned (.bool true) ∧ Below w.heap.size w w' := by
  obtain ⟨ua, uc, e1⟩ := l1.form
  subst e1
  have hwk := wakes_any w hE
  obtain ⟨y1, y2⟩ := sz_in a0
  have kr : 1 ≤ 1 + (kd 3 20).toNat ∧ 1 + (kd 3 20).toNat ≤ 1024 := by
    have k1 := kd_lo 3 (n := 20) (by decide)
    have k2 := kd_hi 3 (n := 20) (by decide)
    omega
  obtain ⟨d, hd, hdl, hdo, hdn, hdf, hdg, _, hsh⟩ := Shw.nw y1 (by omega : sz a0 ≤ 2048) kr
  have HBG : Hid (∀ w1, Below w.heap.size w w1 → Calls Tryz.prog 9 #[.int .i64 a0, .int .i64 3] w1 fun e w' => ∃ g k q s b1 b2, e = .returned (.pointer (some ⟨g, 0, none⟩)) ∧ Ph w w' g #[.pointer (some ⟨k, 0, none⟩), .pointer (some ⟨s, 0, none⟩), .pointer (some ⟨b1, 0, none⟩), .pointer (some ⟨b2, 0, none⟩)] (.slice none 0 0) [] k q s d 1 (fun _ => false)) := fun w1 hb => by
    obtain ⟨d9, hd9, hc⟩ := lbegin_any a0 3 w1
    rw [hd] at hd9
    subst hd9
    refine hc.mono fun e w' hh => ?_
    obtain ⟨g, k, q, s, b1, b2, e1, S, R1, R2, s1, _, _, s4, s5, _, _, s8, s9⟩ := hh
    have hbs := hb.size
    refine ⟨g, k, q, s, b1, b2, e1, onD d, rNewP (sz a0), ⟨S, s1, fun j hj => ⟨Nat.le_trans hbs (s5 j hj).2.2.2, (s5 j hj).2.2.1, fun e => by cases e⟩, s4, Nat.le_trans hbs s8, World.ownsRow_nil _ _ _ _, hb.trans (s9.mono hbs)⟩, hsh, rNewP_ok y1 (by omega), hdl.symm, fun i x hx => ?_⟩
    have hx' : (List.replicate (pgs (sz a0) - 2) false)[i]? = some x := hx
    exact List.eq_of_mem_replicate (List.mem_of_getElem? hx')
  have HSZ : Hid (∀ w1, _) := fun w1 => size_any a0 w1
  have HFI : Hid (∀ w1 : World, Calls Tryz.prog 21 #[.int .i64 (sz a0 : Nat)] w1 fun e w' => e = .returned (.int .i64 (frs (sz a0) : Nat)) ∧ w1 = w') := fun w1 => rFirst_any (sz a0) y1 (by omega) w1
  have HPG : Hid (∀ w1 : World, Calls Tryz.prog 22 #[.int .i64 (sz a0 : Nat)] w1 fun e w' => e = .returned (.int .i64 (pgs (sz a0) : Nat)) ∧ w1 = w') := fun w1 => rPages_any (sz a0) y1 (by omega) w1
  obtain ⟨b1, b2, b3, b4, b5⟩ := frs_small y1 (by omega : sz a0 ≤ 2048)
  have HDF : Hid (Fit (d.lg.length + 5000)) := by show (_ + 5000) * 24 ≤ _; omega
  have hlf : d.lf < 0 := by rw [hdf]; decide
  have HAL : Hid (∀ (w1 : World) (d1 : Ds) (g k q s : Nat) (cs : Array Value) (v : Value) (T : List Bool) (N : Nat) (P : Nat → Bool) (j : Nat), d1.bs.length = sz a0 → Ph w w1 g cs v T k q s d1 N P → N < 4611686018427387000 → j < pgs (sz a0) - 2 → (∀ i, i < j → P i = true) → P j = false → Calls Tryz.prog 23 #[.pointer (some ⟨s, 0, none⟩)] w1 fun e V => e = .returned (.tuple #[.int .i64 ((frs (sz a0) : Int) + 1 + (j : Int)), .int .i64 0]) ∧ Ph w V g cs v T k q s d1 (N + 1) (fun i => P i || decide (i = j))) := fun w1 d1 g k q s cs v T N P j hd h hN hj h1 h2 => by
    rw [← hd] at hj ⊢
    exact ph_alloc hE h hN hj h1 h2
  have HFU : Hid (∀ (w1 : World) (g k q s : Nat) (cs : Array Value) (v : Value) (T : List Bool) (N : Nat) (P : Nat → Bool), Ph w w1 g cs v T k q s d N P → N < 4611686018427387000 → (∀ i, i < pgs (sz a0) - 2 → P i = true) → Calls Tryz.prog 23 #[.pointer (some ⟨s, 0, none⟩)] w1 fun e V => e = .returned (.tuple #[.int .i64 0, .int .i64 16]) ∧ Ph w V g cs v T k q s d (N + 1) P) := fun w1 g k q s cs v T N P h hN h1 => ph_full hE h hN (by rw [hdl]; exact h1)
  have HFR : Hid (∀ (w1 : World) (d1 : Ds) (g k q s : Nat) (cs : Array Value) (v : Value) (T : List Bool) (N : Nat) (P : Nat → Bool), d1.bs.length = sz a0 → Ph w w1 g cs v T k q s d1 N P → N < 4611686018427387000 → (∀ i, i < pgs (sz a0) - 2 → P i = true) → Calls Tryz.prog 24 #[.pointer (some ⟨s, 0, none⟩)] w1 fun e V => e = .returned (.int .i64 0) ∧ Ph w V g cs v T k q s d1 (N + 1) P) := fun w1 d1 g k q s cs v T N P hd h hN h1 => ph_free hE h hN (by rw [hd]; exact h1)
  have HCM : Hid (∀ (w1 : World) (g k q s : Nat) (cs : Array Value) (v : Value) (T : List Bool) (N : Nat) (P : Nat → Bool), Ph w w1 g cs v T k q s d N P → ∃ d', d'.bs.length = sz a0 ∧ Calls Tryz.prog 15 #[.pointer (some ⟨s, 0, none⟩)] w1 fun e V => e = .returned (.int .i64 0) ∧ Ph w V g cs v T k q s d' N P) := fun w1 g k q s cs v T N P h => by
    have := ph_commit hE h HDF.out hlf
    rw [hdl] at this
    exact this
  have HRL : Hid (∀ (w1 : World) (d1 : Ds) (g k q s : Nat) (cs : Array Value) (v : Value) (T : List Bool) (N : Nat) (P : Nat → Bool) (j : Nat), d1.bs.length = sz a0 → Ph w w1 g cs v T k q s d1 N P → N < 4611686018427387000 → j < pgs (sz a0) - 2 → Calls Tryz.prog 25 #[.pointer (some ⟨s, 0, none⟩), .int .i64 ((frs (sz a0) : Int) + 1 + (j : Int))] w1 fun e V => e = .returned (.int .i64 (if P j then 0 else 8)) ∧ Ph w V g cs v T k q s d1 (N + 2) (fun i => P i && !decide (i = j))) := fun w1 d1 g k q s cs v T N P j hd h hN hj => by
    rw [← hd] at hj ⊢
    exact ph_release hE h hN hj
  have HCG : Hid (∀ (w1 : World) (d1 : Ds) (g k q s : Nat) (cs : Array Value) (v : Value) (T : List Bool) (N : Nat) (P P' : Nat → Bool), d1.bs.length = sz a0 → Ph w w1 g cs v T k q s d1 N P → (∀ i, i < pgs (sz a0) - 2 → P' i = P i) → Ph w w1 g cs v T k q s d1 N P') := fun w1 d1 g k q s cs v T N P P' hd h hp => h.congr (by rw [hd]; exact hp)
  have HMK : Hid (∀ n : Nat, (madeCells (Value.bool false).cells (n * 1)).toList = (List.replicate n false).map Value.bool) := fun n => by simp [Value.cells, toList_madeCells_one]
  have hdl' := hid hdl
  have HU := hid l1
  generalize sz a0 = n at *
  generalize frs n = F at *
  obtain ⟨c, hc⟩ : ∃ c, pgs n - 2 = c := ⟨_, rfl⟩
  rw [hc] at HAL HFU HFR HRL HCG
  have hwc : IntKind.i64.wrap ((pgs n : Int) - 2) = (c : Int) := by rw [IntKind.wrap_i64]; omega
  have hwF : IntKind.i64.wrap ((F : Int) + 1) = (F : Int) + 1 := by rw [IntKind.wrap_i64]; omega
  have hc1 : 28 ≤ c ∧ c ≤ 1017 := by omega
  obtain ⟨ln, hln⟩ : ∃ ln, L1.length = ln := ⟨_, rfl⟩
  have HLN := hid hln
  rw [hln] at z1 HU ⊢
  generalize pgs n = M at *
  obtain ⟨i0, hi, hz0, hz1, hz2⟩ := info_parts info4
  clear hsh y1 y2 kr b4 b5 hd hdl hdo hdn hdf hdg hlf HDF hE w0' hln l1 b2 b3 hc
  go_enter Tryz.func6, Tryz.ntmps6
  go_wp2_with (first
    | (go_at_call 8; refine hwk.mono ?_; clear hwk; rintro e w1 ⟨rfl, hb1⟩; have H1 := hid hb1; clear hb1)
    | (go_at_call 9; refine (HBG.out _ H1.out).mono ?_; clear HBG; rintro e w2 ⟨g, k, q, s, b1, b2, rfl, h2⟩; have H2 := hid h2; clear h2)
    | (go_at_call 19; refine (HSZ.out _).mono ?_; rintro e w3 ⟨rfl, rfl⟩)
    | (go_at_call 21; refine (HFI.out _).mono ?_; rintro e w3 ⟨rfl, rfl⟩)
    | (go_at_call 22; refine (HPG.out _).mono ?_; rintro e w3 ⟨rfl, rfl⟩))
  obtain ⟨cs, hcs⟩ : ∃ cs : Array Value, #[Value.pointer (some ⟨k, 0, none⟩), .pointer (some ⟨s, 0, none⟩), .pointer (some ⟨b1, 0, none⟩), .pointer (some ⟨b2, 0, none⟩)] = cs := ⟨_, rfl⟩
  have HCS : Hid (cs[1]? = some (.pointer (some ⟨s, 0, none⟩))) := by show _ = _; rw [← hcs]; rfl
  rw [hcs] at H2
  clear hcs
  go_loopw [8] (fun i wr => ∃ j : Nat, j ≤ c ∧ i = .int .i64 (j : Nat) ∧ Hid (Ph w wr g cs (.slice none 0 0) [] k q s d (1 + j) (fun i => decide (i < j)))) (fun i _ => c - (intOf i).toNat)
  case atStart => exact ⟨0, Nat.zero_le _, rfl, HCG.out _ _ _ _ _ _ _ _ _ _ _ _ hdl'.out H2.out (fun i hi => rfl)⟩
  case round =>
    obtain ⟨j, hj, rfl, HN⟩ := hrel
    clear H2
    have c1 := HN.out.cell HCS.out
    by_cases hjc : j < c
    · have hji : (j : Int) < (c : Int) := by omega
      have hwj : IntKind.i64.wrap ((F : Int) + 1 + (j : Int)) = (F : Int) + 1 + (j : Int) := by rw [IntKind.wrap_i64]; omega
      have hne : ((F : Int) + 1 + (j : Int) != (F : Int) + 1 + (j : Int)) = false := by simp
      have HC1 := hid (HAL.out _ _ _ _ _ _ _ _ _ _ _ j hdl'.out HN.out (by omega) hjc (fun i hi => decide_eq_true hi) (decide_eq_false (Nat.lt_irrefl _)))
      go_wp2_with (go_at_call 23; refine HC1.out.mono ?_; clear HC1; rintro e w5 ⟨rfl, h5⟩; have H5 := hid (HCG.out _ _ _ _ _ _ _ _ _ _ _ (fun i => decide (i < j + 1)) hdl'.out h5 (fun i hi => by by_cases h1 : i < j <;> by_cases h2 : i = j <;> simp [h1, h2] <;> omega)); clear h5)
      go_roundw
      case rel => exact ⟨j + 1, by omega, by go_num, H5⟩
      case measure => simp [intOf]; omega
    · obtain rfl : j = c := by omega
      have hji : ¬ (j : Int) < (j : Int) := by omega
      have HC1 := hid (HFU.out _ _ _ _ _ _ _ _ _ _ HN.out (by omega) (fun i hi => decide_eq_true hi))
      go_wp2_with (first
        | (go_at_call 23; refine HC1.out.mono ?_; clear HC1; rintro e w5 ⟨rfl, h5⟩; have H5 := hid h5; have c5 := h5.cell HCS.out; clear h5)
        | (go_at_call 24; refine (HFR.out _ _ _ _ _ _ _ _ _ _ _ hdl'.out H5.out (by omega) (fun i hi => decide_eq_true hi)).mono ?_; rintro e w6 ⟨rfl, h6⟩; have H6 := hid h6; have c6 := h6.cell HCS.out; clear h6)
        | (go_at_call 15; obtain ⟨d', hd', hc'⟩ := HCM.out _ _ _ _ _ _ _ _ _ _ H6.out; refine hc'.mono ?_; clear hc'; rintro e w7 ⟨rfl, h7⟩; have H7 := hid h7; have HD := hid hd'; clear h7 hd')
        | (at_make; refine wpList_make_full _ rfl (.tmp 86) (.tmp 86) 53 rfl w7.heap.size 4 i0 (.bool false) 1 Tryz.underlying53 hi hz0 hz1 .i64 .i64 _ _ j rfl rfl rfl rfl (by rw [hz2]; omega) (by unfold maxLen; omega) (Nat.le_refl _) ?_; intro w8 hown hgrow; rw [HMK.out] at hown; have H8 := hid (H7.out.make (v' := .slice (some ⟨w7.heap.size, 0, none⟩) j j) (T' := List.replicate j false) (by unfold RowB; rw [List.length_replicate]; exact hown) ((Below.refl _ _).grown hgrow (Nat.le_refl _) (fun k hk => by cases hk))); clear hown hgrow))
      generalize w7.heap.size = b at *
      clear HN H5 H6 H7 c1 c5 c6 HFU HCM hdl'
      have hT0 : Hid (∀ i, i < j → (fun i => !(List.replicate j false).getD i false) i = (fun i => decide (i < j)) i) := fun i hi => by
        show (!(List.replicate j false).getD i false) = decide (i < j)
        rw [List.getD_eq_getElem?_getD, List.getElem?_replicate, if_pos hi, decide_eq_true hi]
        rfl
      have H9 := hid (HCG.out _ _ _ _ _ _ _ _ _ _ _ (fun i => !(List.replicate j false).getD i false) HD.out H8.out hT0.out)
      clear H8 hT0
      go_loopw [90] (fun i wr => ∃ (m N : Nat) (T : List Bool), m ≤ ln ∧ i = .int .i64 (m : Nat) ∧ N ≤ 2000 + 2 * m ∧ Hid (T.length = j) ∧ Hid (Ph w wr g cs (.slice (some ⟨b, 0, none⟩) j j) T k q s d' N (fun i => !T.getD i false))) (fun i _ => ln - (intOf i).toNat)
      case atStart => exact ⟨0, _, _, Nat.zero_le _, rfl, by omega, by show _ = _; simp, H9⟩
      case round =>
        obtain ⟨m, N, T, hm, rfl, hN, HTL, HP⟩ := hrel
        clear H9
        have c1 := HP.out.cell HCS.out
        by_cases hml : m < ln
        · have hmi : (m : Int) < (ln : Int) := by omega
          obtain ⟨x, hx⟩ : ∃ x, L1[m]? = some x := ⟨_, List.getElem?_eq_getElem (by rw [HLN.out]; exact hml)⟩
          obtain ⟨ub, uo, e9, hul, d0, hx255⟩ := HU.out.at hx
          subst e9
          have d1 : wr.cell? ⟨ub, uo + m, none⟩ = some (.int .u8 (x : Nat)) := (HP.out.below.cell (p := ⟨ub, uo + m, none⟩) hul).trans d0
          have hwx : IntKind.i64.wrap (x : Int) = (x : Int) := by rw [IntKind.wrap_i64]; omega
          obtain ⟨y, hy⟩ : ∃ y, x % j = y := ⟨_, rfl⟩
          have hyj : y < j := by rw [← hy]; exact Nat.mod_lt _ (by omega)
          have hmod : (x : Int).tmod (j : Int) = (y : Int) := by rw [← hy, Int.tmod_eq_emod_of_nonneg (by omega)]; rfl
          have hwy : IntKind.i64.wrap (y : Int) = (y : Int) := by rw [IntKind.wrap_i64]; omega
          have hj0 : ¬ (j : Int) = 0 := by omega
          have hwa : IntKind.i64.wrap ((F : Int) + 1 + (y : Int)) = (F : Int) + 1 + (y : Int) := by rw [IntKind.wrap_i64]; omega
          have hyi : (y : Int) < (j : Int) := by omega
          have HC1 := hid (HRL.out _ _ _ _ _ _ _ _ _ _ _ y HD.out HP.out (by omega) hyj)
          obtain ⟨t, ht⟩ : ∃ t, T[y]? = some t := ⟨_, List.getElem?_eq_getElem (by rw [HTL.out]; exact hyj)⟩
          have htd : T.getD y false = t := by rw [List.getD_eq_getElem?_getD, ht]; rfl
          have HTC : Hid (∀ w9 N' P', Ph w w9 g cs (.slice (some ⟨b, 0, none⟩) j j) T k q s d' N' P' → w9.cell? ⟨b, y, none⟩ = some (.bool t) ∧ w9.frozen? ⟨b, y, none⟩ = false) := fun w9 N' P' h9 => by
            obtain ⟨_, e0, _, _, z1, z2⟩ := h9.row.at ht
            cases e0
            exact ⟨z1, z2⟩
          have HST : Hid (∀ w9 N', Ph w w9 g cs (.slice (some ⟨b, 0, none⟩) j j) T k q s d' N' (fun i => !T.getD i false && !decide (i = y)) → Ph w (w9.setCell ⟨b, y, none⟩ (.bool true)) g cs (.slice (some ⟨b, 0, none⟩) j j) (T.set y true) k q s d' N' (fun i => !(T.set y true).getD i false)) := fun w9 N' h9 => HCG.out _ _ _ _ _ _ _ _ _ _ _ _ HD.out (h9.set y true) (fun i hi => by
            show (!(T.set y true).getD i false) = (!T.getD i false && !decide (i = y))
            rw [List.getD_eq_getElem?_getD, List.getD_eq_getElem?_getD, List.getElem?_set]
            by_cases hiy : y = i
            · subst hiy
              rw [if_pos rfl, if_pos (by rw [HTL.out]; exact hyj)]
              simp
            · rw [if_neg hiy]
              simp [Ne.symm hiy])
          have HTL2 : Hid ((T.set y true).length = j) := by show _ = _; rw [List.length_set]; exact HTL.out
          generalize T.set y true = T2 at *
          clear hx d0 hul hy HP HU
          cases t with
          | true =>
            have hq : (if (!T.getD y false) = true then (0 : Int) else 8) = 8 := by rw [htd]; rfl
            rw [hq] at HC1
            clear hq htd ht
            go_wp2_with (go_at_call 25; refine HC1.out.mono ?_; clear HC1; rintro e w9 ⟨rfl, h9⟩; obtain ⟨z1, z2⟩ := HTC.out _ _ _ h9; have H9 := hid (HST.out _ _ h9); clear h9)
            go_roundw
            case rel => exact ⟨m + 1, N + 2, T2, by omega, by go_num, by omega, HTL2, H9⟩
            case measure => simp [intOf]; omega
          | false =>
            have hq : (if (!T.getD y false) = true then (0 : Int) else 8) = 0 := by rw [htd]; rfl
            rw [hq] at HC1
            clear hq htd ht
            go_wp2_with (go_at_call 25; refine HC1.out.mono ?_; clear HC1; rintro e w9 ⟨rfl, h9⟩; obtain ⟨z1, z2⟩ := HTC.out _ _ _ h9; have H9 := hid (HST.out _ _ h9); clear h9)
            go_roundw
            case rel => exact ⟨m + 1, N + 2, T2, by omega, by go_num, by omega, HTL2, H9⟩
            case measure => simp [intOf]; omega
        · obtain rfl : m = ln := by omega
          have hmi : ¬ (m : Int) < (m : Int) := by omega
          have H8 := hid (HCG.out _ _ _ _ _ _ _ _ _ _ _ (fun i => decide (i < 0) || !T.getD i false) HD.out HP.out (fun i hi => by simp))
          clear HP c1 HU
          go_wp2_with fail
          go_loopw [132] (fun i wr => ∃ (y N : Nat), y ≤ j ∧ i = .int .i64 (y : Nat) ∧ N ≤ 2000 + 2 * m + y ∧ Hid (Ph w wr g cs (.slice (some ⟨b, 0, none⟩) j j) T k q s d' N (fun i => decide (i < y) || !T.getD i false))) (fun i _ => j - (intOf i).toNat)
          case atStart => exact ⟨0, _, Nat.zero_le _, rfl, by omega, H8⟩
          case round =>
            obtain ⟨y, N2, hy, rfl, hN2, HP⟩ := hrel
            clear H8
            have c1 := HP.out.cell HCS.out
            by_cases hyj : y < j
            · have hyi : (y : Int) < (j : Int) := by omega
              have hwa : IntKind.i64.wrap ((F : Int) + 1 + (y : Int)) = (F : Int) + 1 + (y : Int) := by rw [IntKind.wrap_i64]; omega
              have hne : ((F : Int) + 1 + (y : Int) != (F : Int) + 1 + (y : Int)) = false := by simp
              obtain ⟨t, ht⟩ : ∃ t, T[y]? = some t := ⟨_, List.getElem?_eq_getElem (by rw [HTL.out]; exact hyj)⟩
              have htd : T.getD y false = t := by rw [List.getD_eq_getElem?_getD, ht]; rfl
              obtain ⟨_, e0, _, _, z1, z2⟩ := HP.out.row.at ht
              cases e0
              cases t with
              | true =>
                have HC1 := hid (HAL.out _ _ _ _ _ _ _ _ _ _ _ y HD.out HP.out (by omega) hyj (fun i hi => by show (decide (i < y) || _) = true; rw [decide_eq_true hi]; rfl) (by show (decide (y < y) || !T.getD y false) = false; rw [htd]; simp))
                have HG2 : Hid (∀ w9 N', Ph w w9 g cs (.slice (some ⟨b, 0, none⟩) j j) T k q s d' N' (fun i => (decide (i < y) || !T.getD i false) || decide (i = y)) → Ph w w9 g cs (.slice (some ⟨b, 0, none⟩) j j) T k q s d' N' (fun i => decide (i < y + 1) || !T.getD i false)) := fun w9 N' h9 => HCG.out _ _ _ _ _ _ _ _ _ _ _ _ HD.out h9 (fun i hi => by
                  show (decide (i < y + 1) || !T.getD i false) = (decide (i < y) || !T.getD i false || decide (i = y))
                  generalize T.getD i false = tt
                  by_cases h1 : i < y <;> by_cases h2 : i = y <;> cases tt <;> simp [h1, h2] <;> omega)
                clear HP ht htd
                go_wp2_with (go_at_call 23; refine HC1.out.mono ?_; clear HC1; rintro e w9 ⟨rfl, h9⟩; have H9 := hid (HG2.out _ _ h9); clear h9)
                go_roundw
                case rel => exact ⟨y + 1, N2 + 1, by omega, by go_num, by omega, H9⟩
                case measure => simp [intOf]; omega
              | false =>
                have H9 := hid (HCG.out _ _ _ _ _ _ _ _ _ _ _ (fun i => decide (i < y + 1) || !T.getD i false) HD.out HP.out (fun i hi => by
                  show (decide (i < y + 1) || !T.getD i false) = (decide (i < y) || !T.getD i false)
                  by_cases h2 : i = y
                  · subst h2
                    rw [htd]
                    simp
                  · generalize T.getD i false = tt
                    by_cases h1 : i < y <;> cases tt <;> simp [h1] <;> omega))
                clear HP ht htd
                go_wp2_with fail
                go_roundw
                case rel => exact ⟨y + 1, N2, by omega, by go_num, by omega, H9⟩
                case measure => simp [intOf]; omega
            · obtain rfl : y = j := by omega
              have hyi : ¬ (y : Int) < (y : Int) := by omega
              have HC1 := hid (HFR.out _ _ _ _ _ _ _ _ _ _ _ HD.out HP.out (by omega) (fun i hi => by show (decide (i < y) || _) = true; rw [decide_eq_true hi]; rfl))
              go_wp2_with (go_at_call 24; refine HC1.out.mono ?_; clear HC1; rintro e w9 ⟨rfl, h9⟩; have H9 := hid h9.below; clear h9)
              go_ret
              exact ⟨rfl, H9.out⟩

theorem spaceFills_own : ownKnob Tryz.prog.godebug = none := by kernel_rfl
theorem spaceFills_laidOut : laidOutB Tryz.prog = true := by kernel_rfl
theorem spaceFills_met (os : Os) : laidMetH Tryz.prog Rows.spaceFillsRow.laid ((laidW os).forCall (fun _ _ => 0) ⟨#[], #[.int .i64 0, .slice none 0 0], []⟩).memory := by
  exact laidMetH_of_parts (laidMet_nil _ _) (by kernel_rfl)
theorem spaceFills_reads (os : Os) {H : Type} (enc : TypeId × Value → H) : DataW.whole enc Tryz.prog ((laidW os).forCall (fun _ _ => 0) ⟨#[], #[.int .i64 0, .slice none 0 0], []⟩).memory Tryz.f6.params.toList Rows.spaceFillsSpec.vars false #[(.int .i64 0 : Value), (.slice none 0 0 : Value)].toList 8 = some ([.lit (.int .i64 0), .nil], [], []) := by kernel_rfl
theorem spaceFills_okIn (os : Os) : Input.okWideB Tryz.prog ((laidW os).forCall (fun _ _ => 0) ⟨#[], #[.int .i64 0, .slice none 0 0], []⟩) 6 ⟨#[], #[.int .i64 0, .slice none 0 0], []⟩ = true := by kernel_rfl

set_option maxRecDepth 100000 in
theorem spaceFills_lifted (os : Os) (started : os.Started) (H : Type) (enc : TypeId × Value → H) (F : Stop.Interp) :
    ReturnsInHanded {} Tryz.checked os 6 .any ((OpenSpec.ofChange Rows.spaceFillsSpec).preRow enc Tryz.prog Tryz.f6 Rows.spaceFillsRow.domain false Rows.spaceFillsRow.laid) (((OpenSpec.ofChange Rows.spaceFillsSpec).at F).post enc Tryz.prog Tryz.f6 false true false false) := by
  refine returnsInHanded_of_row (C := Tryz.checked) (s := (OpenSpec.ofChange Rows.spaceFillsSpec)) spaceFills_own started (by kernel_rfl) Tryz.func6
    ⟨laidW os, fun _ _ => 0, ⟨#[], #[.int .i64 0, .slice none 0 0], []⟩, rfl, World.shaped_of_ZipB (by kernel_rfl) (by kernel_rfl), (Input.okWide_of_okWideB (base := 0) (spaceFills_okIn os)).1, (Input.okWide_of_okWideB (spaceFills_okIn os)).2,
      OpenSpec.preRow_of_cond 8 (spaceFills_reads os enc) (by kernel_rfl) (fun k hk => by cases hk) (by kernel_rfl) (spaceFills_met os), by simp only [Assume.holds]; exact ⟨by simp, by simp, fun _ => Modest.zero, by simp, by simp⟩⟩ ?_
  intro W base args ds gs before hval0 hW hcnd hcond hsz0 hL hsh _
  have env : Env W := env_of hL
  have hsz : (DataW.weightsEach Tryz.prog (Tryz.f6.params.toList ++ Rows.spaceFillsSpec.plain.varTypes Tryz.prog) (ds ++ gs)).all (· ≤ reachBytes) = true := hsz0
  have hval : ∀ (j : Nat) t v, Tryz.f6.params[j]? = some t → args[j]? = some v → Value.okWide Tryz.prog W .any base t v := hval0
  have hW' := hW
  obtain ⟨p, q, hA0, hV, rfl, hfz, hnd⟩ := hW
  have hA : DataW.TrodAll enc Tryz.prog W 0 (fun _ => true) true Tryz.f6.params.toList args.toList ds p := hA0
  rw [Tryz.params6] at hA hval hsz
  obtain ⟨v0, vs0, d0, ds0, p0, q0, hargs, rfl, rfl, h0, r0⟩ := trodAll_cons hA
  obtain ⟨v1, vs1, d1, ds1, p1, q1, rfl, rfl, rfl, h1, r1⟩ := trodAll_cons r0
  obtain ⟨rfl, rfl, rfl⟩ := trodAll_nil r1
  obtain rfl : args = #[v0, v1] := by cases args; simp_all
  obtain ⟨rfl, rfl⟩ := trodVars_none hV
  have k0 := h0
  have lt0 : ∀ x ∈ p0, x.block < W.heap.size := by obtain ⟨m, hm⟩ := k0; exact DataW.trod_lt m _ _ _ hm
  have k1 := h1
  have lt1 : ∀ x ∈ p1, x.block < W.heap.size := by obtain ⟨m, hm⟩ := k1; exact DataW.trod_lt m _ _ _ hm
  obtain ⟨a0, rfl, rfl, rfl, w0⟩ := open_int Tryz.underlying3 (hval 0 3 v0 rfl rfl) h0
  obtain ⟨L1, l1, z1⟩ := open_bytes (hval 1 39 v1 rfl rfl) h1 (fun n hn => by simpa using List.all_eq_true.1 hsz n (DataW.weights_mem_each (j := 1) (t := 39) rfl rfl n hn))
  clear hA0 hval0
  refine (spaceFills_walk a0 v1 L1 w0 W env l1 z1).mono fun e W' ⟨he, bel⟩ => ?_
  subst he
  exact ⟨_, rfl, _, _, _, [], _, [], hW', trodAll_mk1 (shut_bool Tryz.underlying4 _), (trodAll_cons_mk (Below.trod spaceFills_laidOut (by kernel_rfl) (of_decide_eq_true (by kernel_rfl)) k0 bel lt0) (trodAll_cons_mk (Below.trod spaceFills_laidOut (by kernel_rfl) (of_decide_eq_true (by kernel_rfl)) k1 bel lt1) trodAll_mk0)), rfl, bel.frame _, fun h => by cases h⟩

theorem spaceFills_said : Rows.SpaceFillsSaid :=
  OpenClaim.holds_of_cond 6 Tryz.f6 rfl rfl rfl rfl rfl rfl rfl ⟨rfl, rfl, rfl, rfl, rfl⟩ rfl rfl rfl rfl rfl (by kernel_rfl) Tryz.func6 (by kernel_rfl)
    (of_decide_eq_true (by kernel_rfl)) (by unfold Func.isWrapper; first | (rw [if_pos (by decide +kernel)]; kernel_rfl) | (rw [if_neg (by decide +kernel)]; exact ⟨rfl, rfl⟩))
    (fun os started H enc _ F => by rw [OpenClaim.pre_eq_preRow]; exact spaceFills_lifted os started H enc F)

theorem spaceFills_plain (f : FuncId) (fn : Func) (hf : Tryz.pinned.checked.prog.funcNamed Rows.spaceFillsRow.func = some f) (hfn : Tryz.pinned.checked.prog.funcs[f]? = some fn) :
    true = Tryz.pinned.checked.prog.looks [] ∧ ∀ (j : Nat) t, fn.params[j]? = some t → Tryz.pinned.checked.prog.wantsStandIn t = false := by
  obtain rfl : f = 6 := Option.some.inj ((show Tryz.prog.funcNamed Rows.spaceFillsRow.func = some 6 by kernel_rfl).symm.trans hf) |>.symm
  obtain rfl : fn = Tryz.f6 := (Option.some.inj (Tryz.func6.symm.trans hfn)).symm
  refine ⟨by kernel_rfl, fun j t ht => ?_⟩
  rw [Tryz.params6] at ht
  have hm : t ∈ [3, 39] := by simpa using Array.mem_of_getElem? ht
  have hall : ([3, 39].all fun u => !Tryz.prog.wantsStandIn u) = true := by kernel_rfl
  have := List.all_eq_true.1 hall t hm
  exact (show Tryz.prog.wantsStandIn t = false by simpa using this)

theorem spaceFills_holds : Rows.SpaceFillsCardSaid :=
  Claim7.holds_tied_plain_at .later [] _ _ _ _ spaceFills_said (fun _ h => by cases h) (by kernel_rfl) (fun _ h => by cases h) spaceFills_row_tie rfl ⟨rfl, rfl⟩ (by kernel_rfl) rfl spaceFills_plain (by kernel_rfl)

#print axioms spaceFills_holds

end Go.Proofs.YtglallhblcjffaaGreatDoor
