/-
  Proved: NameJoins returns true for every text and every list of bytes, and its arguments read behind the call as before.
-/
import Derived.Test.YtgbhlbcdaankoaaDoorCards
import Derived.Test.YtgbhlbcdaankoaaDoorTie
import Derived.Test.YtgbhlbcdaankoaaDoorLine
import Derived.ProofKit
import Derived.OpenShut
import Derived.ShutString
import Derived.ChangeOld
import Derived.Below
import Derived.SizedLaws
import Derived.Lib.SmallJoins
import Derived.SevenTiedAt
namespace Go.Proofs.YtgbhlbcdaankoaaDoor
open Go.ChangeShapes Go.WideShapes Go.ChangeAt Go.RowKit Go.Joins
open Go.ChangeMaps (open_string shut_string)
set_option linter.unusedVariables false

set_option maxHeartbeats 1000000 in
theorem joins_loop (s : ByteArray) (va : Value) (w : World) (env : Env w) (hs : s.size ≤ 2000) (hu : U8s w va) :
    Calls Tryd.prog 7 #[.string s, va] w fun e w' => e = .returned (.bool true) ∧ Below w.heap.size w w' := by
  have hsi : (s.size : Int) ≤ 2000 := by omega
  have hnl := wordsB_len s
  obtain ⟨a, nb, cb, rfl, hnb, hub⟩ := id hu
  unfold maxLen at hnb
  go_enter Tryd.func7, Tryd.ntmps7
  go_wp2_with (first
    | (go_at_call 9; refine (wakes_any _ env).mono ?_; rintro e w1 ⟨rfl, hb⟩; replace env := env.on hb)
    | (go_at_call 14; refine (rWords_any s _ (by omega)).mono ?_; rintro e w2 ⟨vl, rfl, ho, hb2⟩; replace env := env.on hb2; replace hb := hb.trans (hb2.mono hb.size); clear hb2; obtain ⟨al, cl, rfl⟩ := own_len ho)
    | fail)
  have HA : Hid (∀ k, k < (wordsB s).length → ∃ g, al = some ⟨g, 0, none⟩ ∧ w2.cell? ⟨g, k, none⟩ = some (.string ((wordsB s).getD k ⟨#[]⟩))) := by
    intro k hk
    rcases ho.2 with ⟨_, h0⟩ | ⟨g, cap, cur, hv, _⟩
    · omega
    · cases hv
      exact ⟨g, rfl, (own_text ho rfl).2 k hk⟩
  have HU : Hid (U8s w2 (.slice a nb cb)) := hu.on hb
  have HSZ : Hid (∀ k, k < (wordsB s).length → ((wordsB s).getD k ⟨#[]⟩).size ≤ 2000) := fun k hk => Nat.le_trans (wordsB_size hk) hs
  have HAT : Hid (∀ k, k < (wordsB s).length → (words s.data.toList)[k]? = some ((wordsB s).getD k ⟨#[]⟩).data.toList) := fun k hk => wordsB_at hk
  have HLEN : Hid ((wordsB s).length = (words s.data.toList).length) := by show _ = _; unfold wordsB; rw [List.length_map]
  clear hu hub
  obtain ⟨n, hn⟩ : ∃ n, (wordsB s).length = n := ⟨_, rfl⟩
  rw [hn] at hnl HA HSZ HAT HLEN ⊢
  have hn2 : n ≤ 2001 := by omega
  have HO : Hid (w2.ownsRow w1.heap.size 9 1 (.slice al n cl) (wordsB s).length (cellsS (wordsB s))) := by show World.ownsRow _ _ _ _ _ _ _; rw [← hn]; exact ho
  have HN : Hid ((wordsB s).length = n) := hn
  clear hn hnl ho
  go_loop [6, 18] (fun x i => ∃ (k : Nat) (line : ByteArray), k ≤ n ∧ Hid (Made s.data.toList k line.data.toList) ∧ line.size ≤ 2004 * k ∧ x = .string line ∧ i = .int .i64 k) (fun _ i => n - (intOf i).toNat)
  case atStart => exact ⟨0, ⟨#[]⟩, Nat.zero_le _, made_none _, by decide, rfl, rfl⟩
  case round =>
    obtain ⟨k, line, hk, HM, hls, rfl, rfl⟩ := hrel
    by_cases hlt : k < n
    · obtain ⟨g, rfl, hcell⟩ := HA.out k hlt
      have htz := HSZ.out k hlt
      have HT := HAT.out k hlt
      obtain ⟨t, ht⟩ : ∃ t, (wordsB s).getD k ⟨#[]⟩ = t := ⟨_, rfl⟩
      rw [ht] at hcell htz HT
      clear ht
      have HT2 : Hid ((words s.data.toList)[k]? = some t.data.toList) := HT
      clear HT
      by_cases hkb : k < nb
      · obtain ⟨a', nb', cb', hv, _, hub⟩ := HU.out
        cases hv
        obtain ⟨b, off, z, rfl, _, hz, hcb⟩ := hub k hkb
        obtain ⟨N, hN⟩ : ∃ N : Nat, 1 + z % 4 = N := ⟨_, rfl⟩
        have hN1 : 0 < N := by omega
        have hN4 : N ≤ 4 := by omega
        have HNi : (1 : Int) + (z : Int) % 4 = (N : Int) := by omega
        clear hub hN
        have HMade : Hid (Made s.data.toList (k + 1) ((line ++ blanksB N) ++ t).data.toList) := by
          show Made _ _ _
          rw [line_list]; exact made_next HM.out HT2.out hN1
        have HSize : Hid (((line ++ blanksB N) ++ t).size ≤ 2004 * (k + 1)) := by
          show _ ≤ _
          rw [ByteArray.size_append, blank_size]; omega
        go_wp2
        try simp only [HNi]
        clear HNi

        go_loop [6, 34] (fun x i => ∃ j : Nat, j ≤ N ∧ x = .string (line ++ blanksB j) ∧ i = .int .i64 j) (fun _ i => N - (intOf i).toNat)
        case atStart => exact ⟨0, Nat.zero_le _, by rw [blank_none], rfl⟩
        case round =>
          obtain ⟨j, hj, rfl, rfl⟩ := hrel
          have hbs := blank_size line j
          by_cases hjn : j < N
          · have HBL := blank_list line j
            go_wp2
            go_round
            case rel => exact ⟨j + 1, by omega, by first | rw [HBL] | rfl, by go_num⟩
            case measure => simp [intOf]; omega
          · obtain rfl : j = N := by omega
            go_wp2
            go_round
            case rel => exact ⟨k + 1, _, by omega, HMade, HSize.out, rfl, by go_num⟩
            case measure => simp [intOf]; omega

      · have hkb' : decide ((k : Int) < (nb : Int)) = false := decide_eq_false (by omega)
        obtain ⟨N, hN⟩ : ∃ N : Nat, 1 = N := ⟨_, rfl⟩
        have hN1 : 0 < N := by omega
        have hN4 : N ≤ 4 := by omega
        have HMade : Hid (Made s.data.toList (k + 1) ((line ++ blanksB N) ++ t).data.toList) := by
          show Made _ _ _
          rw [line_list]; exact made_next HM.out HT2.out hN1
        have HSize : Hid (((line ++ blanksB N) ++ t).size ≤ 2004 * (k + 1)) := by
          show _ ≤ _
          rw [ByteArray.size_append, blank_size]; omega
        subst hN
        go_wp2

        go_loop [6, 34] (fun x i => ∃ j : Nat, j ≤ 1 ∧ x = .string (line ++ blanksB j) ∧ i = .int .i64 j) (fun _ i => 1 - (intOf i).toNat)
        case atStart => exact ⟨0, Nat.zero_le _, by rw [blank_none], rfl⟩
        case round =>
          obtain ⟨j, hj, rfl, rfl⟩ := hrel
          have hbs := blank_size line j
          by_cases hjn : j < 1
          · have HBL := blank_list line j
            go_wp2
            go_round
            case rel => exact ⟨j + 1, by omega, by first | rw [HBL] | rfl, by go_num⟩
            case measure => simp [intOf]; omega
          · obtain rfl : j = 1 := by omega
            go_wp2
            go_round
            case rel => exact ⟨k + 1, _, by omega, HMade, HSize.out, rfl, by go_num⟩
            case measure => simp [intOf]; omega

    · obtain rfl : k = n := by omega
      have HW1 : wordsB (line ++ (⟨#[32]⟩ : ByteArray)) = wordsB s := wordsB_eq (by
        rw [show (line ++ (⟨#[32]⟩ : ByteArray)).data.toList = line.data.toList ++ [32] by simp]
        exact made_words HM.out HLEN.out (.inr rfl))
      have HW2 : wordsB line = wordsB s := wordsB_eq (by
        have := made_words (e := []) HM.out HLEN.out (.inl rfl)
        rwa [List.append_nil] at this)
      have hz1 : (line ++ (⟨#[32]⟩ : ByteArray)).size ≤ 4294967280 := by rw [ByteArray.size_append, show (⟨#[32]⟩ : ByteArray).size = 1 from rfl]; omega
      have hz2 : line.size ≤ 4294967280 := by omega
      have ho := HO.out
      have hlen : (wordsB s).length ≤ 4294967295 := by rw [HN.out]; omega
      clear HO HN HLEN HA HAT HSZ HU
      go_wp2_with (first
        | (go_at_call 13; refine (words_any _ _ env (by assumption)).mono ?_; rintro e w3 ⟨v3, rfl, ho3, hb3⟩; (first | rw [HW1] at ho3 | rw [HW2] at ho3); replace env := env.on hb3; replace ho := own_below ho hb3; replace hb := hb.trans (hb3.mono hb.size); clear hb3)
        | (go_at_call 12; refine (same_any _ _ (wordsB s) _ _ _ hlen ho3 ho).mono ?_; rintro e w4 ⟨rfl, hb4⟩; clear ho3; replace env := env.on hb4; replace ho := own_below ho hb4; replace hb := hb.trans (hb4.mono hb.size); clear hb4))
      go_ret
      exact ⟨rfl, hb⟩

theorem nameJoins_walk (s : ByteArray) (va : Value) (z : s.size ≤ reachBytes) (w : World) (env : Env w) (hu : U8s w va) :
    Calls Tryd.prog 7 #[.string s, va] w fun e w' => e = .returned (.bool true) ∧ Below w.heap.size w w' := by
  by_cases hs : s.size ≤ 2000
  · exact joins_loop s va w env hs hu
  · have hsi : (2000 : Int) < s.size := by omega
    unfold reachBytes at z
    go_enter Tryd.func7, Tryd.ntmps7
    go_wp2_with (go_at_call 9; refine (wakes_any _ env).mono ?_; rintro e w1 ⟨rfl, hb⟩)
    go_ret
    exact ⟨rfl, hb⟩

theorem nameJoins_own : ownKnob Tryd.prog.godebug = none := by kernel_rfl
theorem nameJoins_laidOut : laidOutB Tryd.prog = true := by kernel_rfl
theorem nameJoins_met (os : Os) : laidMetH Tryd.prog Rows.nameJoinsRow.laid ((World.laidAll Tryd.prog os Rows.nameJoinsRow.laid).forCall (fun _ _ => 0) ⟨#[], #[.string ByteArray.empty, .slice none 0 0], []⟩).memory := by
  rw [MakeChecks.laidMetH_plain _ _ _ (by kernel_rfl)]; exact laidMet_laidAll _ (by kernel_rfl) (by kernel_rfl)
theorem nameJoins_reads (os : Os) {H : Type} (enc : TypeId × Value → H) : DataW.whole enc Tryd.prog ((World.laidAll Tryd.prog os Rows.nameJoinsRow.laid).forCall (fun _ _ => 0) ⟨#[], #[.string ByteArray.empty, .slice none 0 0], []⟩).memory Tryd.f7.params.toList Rows.nameJoinsSpec.vars false #[(.string ByteArray.empty : Value), (.slice none 0 0 : Value)].toList 8 = some ([.lit (.string []), .nil], [], []) := by kernel_rfl
theorem nameJoins_ok (os : Os) : Input.okWideB Tryd.prog ((World.laidAll Tryd.prog os Rows.nameJoinsRow.laid).forCall (fun _ _ => 0) ⟨#[], #[.string ByteArray.empty, .slice none 0 0], []⟩) 7 ⟨#[], #[.string ByteArray.empty, .slice none 0 0], []⟩ = true := by kernel_rfl

set_option maxRecDepth 100000 in
theorem nameJoins_lifted (os : Os) (started : os.Started) (H : Type) (enc : TypeId × Value → H) (F : Stop.Interp) :
    ReturnsInHanded {} Tryd.checked os 7 .any ((OpenSpec.ofChange Rows.nameJoinsSpec).preRow enc Tryd.prog Tryd.f7 Rows.nameJoinsRow.domain false Rows.nameJoinsRow.laid) (((OpenSpec.ofChange Rows.nameJoinsSpec).at F).post enc Tryd.prog Tryd.f7 false true false false) := by
  refine returnsInHanded_of_row (C := Tryd.checked) (s := (OpenSpec.ofChange Rows.nameJoinsSpec)) nameJoins_own started (by kernel_rfl) Tryd.func7
    ⟨World.laidAll Tryd.prog os Rows.nameJoinsRow.laid, fun _ _ => 0, ⟨#[], #[.string ByteArray.empty, .slice none 0 0], []⟩, World.laidAll_os _ _ _, World.shaped_of_ZipB (by kernel_rfl) (by kernel_rfl), (Input.okWide_of_okWideB (base := 0) (nameJoins_ok os)).1, (Input.okWide_of_okWideB (nameJoins_ok os)).2,
      OpenSpec.preRow_of_cond 8 (nameJoins_reads os enc) (by kernel_rfl) (fun k hk => by cases hk) (by kernel_rfl) (nameJoins_met os), by simp only [Assume.holds]; exact ⟨by simp, by simp, fun _ => Modest.zero, by simp, by simp⟩⟩ ?_
  intro W base args ds gs before hval0 hW hcnd hcond hsz0 hL hsh _
  have env : Env W := env_of hL hsh
  have hsz : (DataW.weightsEach Tryd.prog (Tryd.f7.params.toList ++ Rows.nameJoinsSpec.plain.varTypes Tryd.prog) (ds ++ gs)).all (· ≤ reachBytes) = true := hsz0
  have hval : ∀ (j : Nat) t v, Tryd.f7.params[j]? = some t → args[j]? = some v → Value.okWide Tryd.prog W .any base t v := hval0
  have hW' := hW
  obtain ⟨p, q, hA0, hV, rfl, hfz, hnd⟩ := hW
  have hA : DataW.TrodAll enc Tryd.prog W 0 (fun _ => true) true Tryd.f7.params.toList args.toList ds p := hA0
  rw [Tryd.params7] at hA hval hsz
  obtain ⟨v0, vs0, d0, ds0, p0, q0, hargs, rfl, rfl, h0, r0⟩ := trodAll_cons hA
  obtain ⟨v1, vs1, d1, ds1, p1, q1, rfl, rfl, rfl, h1, r1⟩ := trodAll_cons r0
  obtain ⟨rfl, rfl, rfl⟩ := trodAll_nil r1
  obtain rfl : args = #[v0, v1] := by cases args; simp_all
  obtain ⟨rfl, rfl⟩ := trodVars_none hV
  have k0 := h0
  have lt0 : ∀ x ∈ p0, x.block < W.heap.size := by obtain ⟨m, hm⟩ := k0; exact DataW.trod_lt m _ _ _ hm
  have k1 := h1
  have lt1 : ∀ x ∈ p1, x.block < W.heap.size := by obtain ⟨m, hm⟩ := k1; exact DataW.trod_lt m _ _ _ hm
  obtain ⟨a0, rfl, rfl, rfl, w0⟩ := open_string Tryd.underlying9 (hval 0 9 v0 rfl rfl) h0
  have z0 : a0.size ≤ reachBytes := by have := sized_string hsz (j := 0) (t := 9) rfl rfl; simpa using this
  have u1 := open_u8s (hval 1 35 v1 rfl rfl) h1 lt1
  clear hA0 hval0
  refine (nameJoins_walk a0 v1 z0 W env u1).mono fun e W' ⟨he, bel⟩ => ?_
  subst he
  exact ⟨_, rfl, _, _, _, [], _, [], hW', trodAll_mk1 (shut_bool Tryd.underlying4 _), (trodAll_cons_mk (Below.trod nameJoins_laidOut (by kernel_rfl) (of_decide_eq_true (by kernel_rfl)) k0 bel lt0) (trodAll_cons_mk (Below.trod nameJoins_laidOut (by kernel_rfl) (of_decide_eq_true (by kernel_rfl)) k1 bel lt1) trodAll_mk0)), rfl, bel.frame _, fun h => by cases h⟩

theorem nameJoins_said : Rows.NameJoinsSaid :=
  OpenClaim.holds_of_cond 7 Tryd.f7 rfl rfl rfl rfl rfl rfl rfl ⟨rfl, rfl, rfl, rfl, rfl⟩ rfl rfl rfl rfl rfl (by kernel_rfl) Tryd.func7 (by kernel_rfl)
    (of_decide_eq_true (by kernel_rfl)) (by unfold Func.isWrapper; first | (rw [if_pos (by decide +kernel)]; kernel_rfl) | (rw [if_neg (by decide +kernel)]; exact ⟨rfl, rfl⟩))
    (fun os started H enc _ F => by rw [OpenClaim.pre_eq_preRow]; exact nameJoins_lifted os started H enc F)

theorem nameJoins_plain (f : FuncId) (fn : Func) (hf : Tryd.pinned.checked.prog.funcNamed Rows.nameJoinsRow.func = some f) (hfn : Tryd.pinned.checked.prog.funcs[f]? = some fn) :
    true = Tryd.pinned.checked.prog.looks [] ∧ ∀ (j : Nat) t, fn.params[j]? = some t → Tryd.pinned.checked.prog.wantsStandIn t = false := by
  obtain rfl : f = 7 := Option.some.inj ((show Tryd.prog.funcNamed Rows.nameJoinsRow.func = some 7 by kernel_rfl).symm.trans hf) |>.symm
  obtain rfl : fn = Tryd.f7 := (Option.some.inj (Tryd.func7.symm.trans hfn)).symm
  refine ⟨by kernel_rfl, fun j t ht => ?_⟩
  rw [Tryd.params7] at ht
  have hm : t ∈ [9, 35] := by simpa using Array.mem_of_getElem? ht
  have hall : ([9, 35].all fun u => !Tryd.prog.wantsStandIn u) = true := by kernel_rfl
  have := List.all_eq_true.1 hall t hm
  exact (show Tryd.prog.wantsStandIn t = false by simpa using this)

theorem nameJoins_holds : Rows.NameJoinsCardSaid :=
  Claim7.holds_tied_plain_at .later [] _ _ _ _ nameJoins_said (fun _ h => by cases h) (by kernel_rfl) (fun _ h => by cases h) nameJoins_row_tie rfl ⟨rfl, rfl⟩ (by kernel_rfl) rfl nameJoins_plain (by kernel_rfl)

#print axioms nameJoins_holds

end Go.Proofs.YtgbhlbcdaankoaaDoor
