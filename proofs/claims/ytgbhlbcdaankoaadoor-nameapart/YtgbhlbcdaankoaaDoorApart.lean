/-
  Proved: NameApart returns true for every text and every byte, and its arguments read behind the call as before.
-/
import Derived.Test.YtgbhlbcdaankoaaDoorCards
import Derived.Test.YtgbhlbcdaankoaaDoorTie
import Derived.Test.YtgbhlbcdaankoaaDoorSame
import Derived.Test.YtgbhlbcdaankoaaDoorWrites
import Derived.ProofKit
import Derived.OpenShut
import Derived.ShutString
import Derived.ChangeOld
import Derived.Below
import Derived.SizedLaws
import Derived.Lib.SmallJoins
import Derived.SevenTiedAt
namespace Go.Proofs.YtgbhlbcdaankoaaDoor
open Go.ChangeShapes Go.WideShapes Go.ChangeAt Go.RowKit Go.Joins
open Go.ChangeMaps (open_string shut_string)
set_option linter.unusedVariables false

theorem kind_num {l : List UInt8} {v : Int} (h : num l = some v) : kind l = 0 := by
  obtain ⟨h1, _, _⟩ := itoa_num h
  have hs : ∃ c r, l = c :: r ∧ (sg c = 0 ∨ sg c = 3) := by
    rw [← h1]
    unfold Lib.itoa
    split
    · exact ⟨45, _, rfl, .inl (by decide)⟩
    · obtain ⟨c, r, e, c1, c2, _⟩ := digits_head v.toNat
      refine ⟨c, r, e, .inr ?_⟩
      unfold sg
      rw [if_neg (by omega), if_neg (by omega), if_pos ⟨c1, c2⟩]
  obtain ⟨c, r, rfl, hc⟩ := hs
  have no : ∀ q, q ≠ 0 → q ≠ 3 → fits q (c :: r) (c :: r).length = false := by
    intro q h0 h3
    cases hf : fits q (c :: r) (c :: r).length with
    | false => rfl
    | true =>
      have a0 := fits_at hf 0 (by simp)
      simp only [okAt, Bool.or_eq_true, beq_iff_eq, Bool.and_eq_true, decide_eq_true_eq, List.getD_cons_zero] at a0
      omega
  unfold kind
  rw [no 1 (by decide) (by decide), no 2 (by decide) (by decide)]
  simp
theorem kind_le (l : List UInt8) : kind l ≤ 2 ∧ (kind l ≠ 0 → l.length ≤ 8) := by
  unfold kind
  (repeat' split) <;> omega
theorem snoc_size (s : ByteArray) (c : UInt8) : (s ++ (⟨#[c]⟩ : ByteArray)).size = s.size + 1 := by
  rw [ByteArray.size_append]; rfl
theorem kind_nine (s : ByteArray) (c : UInt8) (h : 8 ≤ s.size) : kind (s ++ (⟨#[c]⟩ : ByteArray)).data.toList = 0 :=
  kind_out (by rw [size_list, snoc_size]; omega)

theorem nameApart_walk (s : ByteArray) (x : Int) (z : s.size ≤ reachBytes) (wx : (Lit.int .u8 x).wf = true) (w : World) (env : Env w) :
    Calls Tryd.prog 8 #[.string s, .int .u8 x] w fun e w' => e = .returned (.bool true) ∧ Below w.heap.size w w' := by
  obtain ⟨b0, b1⟩ := bounds_u8 wx
  have hs : s.size ≤ maxLen := by unfold reachBytes at z; unfold maxLen; omega
  have HS := fun w env => number_any s w env z
  have HK := fun w => kind_any s w hs
  obtain ⟨k1, k2⟩ := kind_le s.data.toList
  rw [size_list] at k2
  by_cases hk : kind s.data.toList = 0
  · rw [hk] at HK
    generalize numV s.data.toList = v at HS
    generalize numE s.data.toList = x at HS
    clear hk k1 k2
    go_enter Tryd.func8, Tryd.ntmps8
    go_wp2_with (first
      | (go_at_call 9; refine (wakes_any _ env).mono ?_; rintro e w1 ⟨rfl, hb⟩; have env1 := env.on hb)
      | (go_at_call 15; refine (HS _ env1).mono ?_; rintro e w2 ⟨rfl, hb2⟩; replace env1 := env1.on hb2; replace hb := hb.trans (hb2.mono hb.size); clear hb2)
      | (go_at_call 10; refine (HK _).mono ?_; rintro e w3 ⟨rfl, rfl⟩))
    go_ret
    exact ⟨rfl, hb⟩
  · have hn : num s.data.toList = none := by
      cases hn : num s.data.toList with
      | none => rfl
      | some v => exact absurd (kind_num hn) hk
    have e1 : numV s.data.toList = 0 := by unfold numV; rw [hn]; rfl
    have e2 : numE s.data.toList = 13 := by unfold numE; rw [hn]; rfl
    rw [e1, e2] at HS
    have h8 := k2 hk
    obtain ⟨q, hq⟩ : ∃ q, kind s.data.toList = q := ⟨_, rfl⟩
    rw [hq] at HK hk
    have hq0 : ((q : Int) == 0) = false := beq_eq_false_iff_ne.2 (by omega)
    clear hn e1 e2 k1 k2
    by_cases hlt : s.size < 8
    · have hlti : (s.size : Int) < 8 := by omega
      go_enter Tryd.func8, Tryd.ntmps8
      go_wp2_with (first
        | (go_at_call 9; refine (wakes_any _ env).mono ?_; rintro e w1 ⟨rfl, hb⟩; have env1 := env.on hb)
        | (go_at_call 15; refine (HS _ env1).mono ?_; rintro e w2 ⟨rfl, hb2⟩; replace env1 := env1.on hb2; replace hb := hb.trans (hb2.mono hb.size); clear hb2)
        | (go_at_call 10; refine (HK _).mono ?_; rintro e w3 ⟨rfl, rfl⟩))
      go_ret
      exact ⟨rfl, hb⟩
    · have hlti : decide ((s.size : Int) < 8) = false := decide_eq_false (by omega)
      have hxc : x = ((UInt8.ofNat x.toNat).toNat : Int) := by rw [UInt8.toNat_ofNat', Nat.mod_eq_of_lt (by omega)]; omega
      have hcv := fun W => conv_one W (UInt8.ofNat x.toNat) x hxc
      have z9 : (s ++ (⟨#[UInt8.ofNat x.toNat]⟩ : ByteArray)).size ≤ maxLen := by rw [snoc_size]; unfold maxLen; omega
      have h9 := kind_nine s (UInt8.ofNat x.toNat) (by omega)
      generalize UInt8.ofNat x.toNat = c at hcv h9 z9
      clear hxc
      go_enter Tryd.func8, Tryd.ntmps8
      go_wp2_with (first
        | (go_at_call 9; refine (wakes_any _ env).mono ?_; rintro e w1 ⟨rfl, hb⟩; have env1 := env.on hb)
        | (go_at_call 15; refine (HS _ env1).mono ?_; rintro e w2 ⟨rfl, hb2⟩; replace env1 := env1.on hb2; replace hb := hb.trans (hb2.mono hb.size); clear hb2; replace hb := hb.alloc hb.size (.cells #[.int .u8 x] 5))
        | (go_at_call 10; refine (kind_any _ _ (by assumption)).mono ?_; rintro e w3 ⟨rfl, rfl⟩; first | rw [hq] | rw [h9]))
      go_ret
      exact ⟨rfl, hb⟩

theorem nameApart_own : ownKnob Tryd.prog.godebug = none := by kernel_rfl
theorem nameApart_laidOut : laidOutB Tryd.prog = true := by kernel_rfl
theorem nameApart_met (os : Os) : laidMetH Tryd.prog Rows.nameApartRow.laid ((World.laidAll Tryd.prog os Rows.nameApartRow.laid).forCall (fun _ _ => 0) ⟨#[], #[.string ByteArray.empty, .int .u8 0], []⟩).memory := by
  rw [MakeChecks.laidMetH_plain _ _ _ (by kernel_rfl)]; exact laidMet_laidAll _ (by kernel_rfl) (by kernel_rfl)
theorem nameApart_reads (os : Os) {H : Type} (enc : TypeId × Value → H) : DataW.whole enc Tryd.prog ((World.laidAll Tryd.prog os Rows.nameApartRow.laid).forCall (fun _ _ => 0) ⟨#[], #[.string ByteArray.empty, .int .u8 0], []⟩).memory Tryd.f8.params.toList Rows.nameApartSpec.vars false #[(.string ByteArray.empty : Value), (.int .u8 0 : Value)].toList 8 = some ([.lit (.string []), .lit (.int .u8 0)], [], []) := by kernel_rfl
theorem nameApart_ok (os : Os) : Input.okWideB Tryd.prog ((World.laidAll Tryd.prog os Rows.nameApartRow.laid).forCall (fun _ _ => 0) ⟨#[], #[.string ByteArray.empty, .int .u8 0], []⟩) 8 ⟨#[], #[.string ByteArray.empty, .int .u8 0], []⟩ = true := by kernel_rfl

set_option maxRecDepth 100000 in
theorem nameApart_lifted (os : Os) (started : os.Started) (H : Type) (enc : TypeId × Value → H) (F : Stop.Interp) :
    ReturnsInHanded {} Tryd.checked os 8 .any ((OpenSpec.ofChange Rows.nameApartSpec).preRow enc Tryd.prog Tryd.f8 Rows.nameApartRow.domain false Rows.nameApartRow.laid) (((OpenSpec.ofChange Rows.nameApartSpec).at F).post enc Tryd.prog Tryd.f8 false true false false) := by
  refine returnsInHanded_of_row (C := Tryd.checked) (s := (OpenSpec.ofChange Rows.nameApartSpec)) nameApart_own started (by kernel_rfl) Tryd.func8
    ⟨World.laidAll Tryd.prog os Rows.nameApartRow.laid, fun _ _ => 0, ⟨#[], #[.string ByteArray.empty, .int .u8 0], []⟩, World.laidAll_os _ _ _, World.shaped_of_ZipB (by kernel_rfl) (by kernel_rfl), (Input.okWide_of_okWideB (base := 0) (nameApart_ok os)).1, (Input.okWide_of_okWideB (nameApart_ok os)).2,
      OpenSpec.preRow_of_cond 8 (nameApart_reads os enc) (by kernel_rfl) (fun k hk => by cases hk) (by kernel_rfl) (nameApart_met os), by simp only [Assume.holds]; exact ⟨by simp, by simp, fun _ => Modest.zero, by simp, by simp⟩⟩ ?_
  intro W base args ds gs before hval0 hW hcnd hcond hsz0 hL hsh _
  have env : Env W := env_of hL hsh
  have hsz : (DataW.weightsEach Tryd.prog (Tryd.f8.params.toList ++ Rows.nameApartSpec.plain.varTypes Tryd.prog) (ds ++ gs)).all (· ≤ reachBytes) = true := hsz0
  have hval : ∀ (j : Nat) t v, Tryd.f8.params[j]? = some t → args[j]? = some v → Value.okWide Tryd.prog W .any base t v := hval0
  have hW' := hW
  obtain ⟨p, q, hA0, hV, rfl, hfz, hnd⟩ := hW
  have hA : DataW.TrodAll enc Tryd.prog W 0 (fun _ => true) true Tryd.f8.params.toList args.toList ds p := hA0
  rw [Tryd.params8] at hA hval hsz
  obtain ⟨v0, vs0, d0, ds0, p0, q0, hargs, rfl, rfl, h0, r0⟩ := trodAll_cons hA
  obtain ⟨v1, vs1, d1, ds1, p1, q1, rfl, rfl, rfl, h1, r1⟩ := trodAll_cons r0
  obtain ⟨rfl, rfl, rfl⟩ := trodAll_nil r1
  obtain rfl : args = #[v0, v1] := by cases args; simp_all
  obtain ⟨rfl, rfl⟩ := trodVars_none hV
  have k0 := h0
  have lt0 : ∀ x ∈ p0, x.block < W.heap.size := by obtain ⟨m, hm⟩ := k0; exact DataW.trod_lt m _ _ _ hm
  have k1 := h1
  have lt1 : ∀ x ∈ p1, x.block < W.heap.size := by obtain ⟨m, hm⟩ := k1; exact DataW.trod_lt m _ _ _ hm
  obtain ⟨a0, rfl, rfl, rfl, w0⟩ := open_string Tryd.underlying9 (hval 0 9 v0 rfl rfl) h0
  have z0 : a0.size ≤ reachBytes := by have := sized_string hsz (j := 0) (t := 9) rfl rfl; simpa using this
  obtain ⟨a1, rfl, rfl, rfl, w1⟩ := open_int Tryd.underlying5 (hval 1 5 v1 rfl rfl) h1
  clear hA0 hval0
  refine (nameApart_walk a0 a1 z0 w1 W env).mono fun e W' ⟨he, bel⟩ => ?_
  subst he
  exact ⟨_, rfl, _, _, _, [], _, [], hW', trodAll_mk1 (shut_bool Tryd.underlying4 _), (trodAll_cons_mk (Below.trod nameApart_laidOut (by kernel_rfl) (of_decide_eq_true (by kernel_rfl)) k0 bel lt0) (trodAll_cons_mk (Below.trod nameApart_laidOut (by kernel_rfl) (of_decide_eq_true (by kernel_rfl)) k1 bel lt1) trodAll_mk0)), rfl, bel.frame _, fun h => by cases h⟩

theorem nameApart_said : Rows.NameApartSaid :=
  OpenClaim.holds_of_cond 8 Tryd.f8 rfl rfl rfl rfl rfl rfl rfl ⟨rfl, rfl, rfl, rfl, rfl⟩ rfl rfl rfl rfl rfl (by kernel_rfl) Tryd.func8 (by kernel_rfl)
    (of_decide_eq_true (by kernel_rfl)) (by unfold Func.isWrapper; first | (rw [if_pos (by decide +kernel)]; kernel_rfl) | (rw [if_neg (by decide +kernel)]; exact ⟨rfl, rfl⟩))
    (fun os started H enc _ F => by rw [OpenClaim.pre_eq_preRow]; exact nameApart_lifted os started H enc F)

theorem nameApart_plain (f : FuncId) (fn : Func) (hf : Tryd.pinned.checked.prog.funcNamed Rows.nameApartRow.func = some f) (hfn : Tryd.pinned.checked.prog.funcs[f]? = some fn) :
    true = Tryd.pinned.checked.prog.looks [] ∧ ∀ (j : Nat) t, fn.params[j]? = some t → Tryd.pinned.checked.prog.wantsStandIn t = false := by
  obtain rfl : f = 8 := Option.some.inj ((show Tryd.prog.funcNamed Rows.nameApartRow.func = some 8 by kernel_rfl).symm.trans hf) |>.symm
  obtain rfl : fn = Tryd.f8 := (Option.some.inj (Tryd.func8.symm.trans hfn)).symm
  refine ⟨by kernel_rfl, fun j t ht => ?_⟩
  rw [Tryd.params8] at ht
  have hm : t ∈ [9, 5] := by simpa using Array.mem_of_getElem? ht
  have hall : ([9, 5].all fun u => !Tryd.prog.wantsStandIn u) = true := by kernel_rfl
  have := List.all_eq_true.1 hall t hm
  exact (show Tryd.prog.wantsStandIn t = false by simpa using this)

theorem nameApart_holds : Rows.NameApartCardSaid :=
  Claim7.holds_tied_plain_at .later [] _ _ _ _ nameApart_said (fun _ h => by cases h) (by kernel_rfl) (fun _ h => by cases h) nameApart_row_tie rfl ⟨rfl, rfl⟩ (by kernel_rfl) rfl nameApart_plain (by kernel_rfl)

#print axioms nameApart_holds

end Go.Proofs.YtgbhlbcdaankoaaDoor
