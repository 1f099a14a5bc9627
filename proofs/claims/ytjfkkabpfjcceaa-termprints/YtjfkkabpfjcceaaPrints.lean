/-
  Proved: TermPrints returns true for every list of cells, and its argument reads behind the call as before.
-/
import Derived.Test.YtjfkkabpfjcceaaRows
import Derived.Test.YtjfkkabpfjcceaaWake
import Derived.Test.YtjfkkabpfjcceaaOpen
import Derived.Test.YtjfkkabpfjcceaaRText
import Derived.ProofKit
import Derived.OpenShut
import Derived.ShutString
import Derived.ChangeOld
import Derived.Below
import Derived.SizedLaws
import Derived.Lib.SmallJoins
namespace Go.Proofs.Ytjfkkabpfjcceaa
open Go.ChangeShapes Go.WideShapes Go.ChangeAt Go.RowKit Go.Joins
open Go.ChangeMaps (open_string shut_string)
set_option linter.unusedVariables false
set_option maxRecDepth 100000
set_option linter.unusedSimpArgs false

set_option maxHeartbeats 4000000 in
theorem termPrints_walk (v : Value) (L : List Cl) (w : World) (hl : Lies w v L) (hz : L.length * 24 ≤ 140737488355328) :
    Calls Try.prog 5 #[v] w fun e w' => e = .returned (.bool true) ∧ Below w.heap.size w w' := by
  have hwk := wakes_any w
  have HL : Hid (Lies w v L) := hl
  have hcp : ∀ w1, Below w.heap.size w w1 → _ := fun w1 hb => copy_any w1 v L (HL.out.on hb) hz
  have HF : Hid (Fine L) := by obtain ⟨_, _, _, _, _, hf, _⟩ := hl; exact hf
  obtain ⟨a, cap, rfl, hc1, hc2, _, HC⟩ := hl
  clear HC
  by_cases hE : check L = 0
  · obtain ⟨nm, kd, hflat⟩ := check_term hE
    have h16 : ∀ w1 v1, Lies w1 v1 L → _ := fun w1 v1 h1 => print_ok w1 v1 L h1 hE nm kd hflat
    have h17 : ∀ w1 v1, Lies w1 v1 L → _ := fun w1 v1 h1 => vars_ok w1 v1 L h1 hE
    have h18 : ∀ w1 v1, Lies w1 v1 L → _ := fun w1 v1 h1 => depth_ok w1 v1 L h1 hE nm kd hflat
    have h19 : ∀ w1 v1, Lies w1 v1 L → _ := fun w1 v1 h1 => kids_ok w1 v1 L h1 hE nm kd hflat
    have h20 : ∀ w1, Below w.heap.size w w1 → _ := fun w1 hb => rPrint_ok w1 _ L (HL.out.on hb) hE nm kd hflat
    have h22 : ∀ w1, Below w.heap.size w w1 → _ := fun w1 hb => rVars_ok w1 _ L (HL.out.on hb) hE
    have h23 : ∀ w1, Below w.heap.size w w1 → _ := fun w1 hb => rDepth_any (kd.size + 1) w1 (.slice a L.length cap) nm kd (by omega) (by rw [← hflat]; exact HL.out.on hb) (by rw [← hflat]; exact hE)
    have h25 : ∀ w1, Below w.heap.size w w1 → _ := fun w1 hb => rKids_ok w1 _ L (HL.out.on hb) hE nm kd hflat
    have HTF : Hid (∀ l ∈ kd.trees, Fine l) := trees_fine (fun c hc => HF.out c (by rw [hflat]; simp [Fo.flat, hc]))
    have hkl : kd.trees.length ≤ 1000000 := by rw [Fo.trees_length]; have := Fo.len_le kd; have h6 := (check_zero hE).1; rw [hflat, Fo.flat_length] at h6; simp [Fo.size] at h6; omega
    generalize kd.trees = K at h19 h25 HTF hkl
    generalize hT : (⟨(Fo.cons nm kd .nil).text.toArray⟩ : ByteArray) = T at h16 h20
    generalize kd.dep = D at h18 h23
    generalize varsOf L = S at h17 h22
    have hst : (T.toList == T.toList) = true := by simp
    have h21 : ∀ w1 u1 u2, LiesS w1 u1 S → LiesS w1 u2 S → _ := fun w1 u1 u2 p q => rSame_any w1 u1 u2 S p q
    have h24 : ∀ w1 u1 u2, LiesT w1 u1 K → LiesT w1 u2 K → _ := fun w1 u1 u2 p q => sameAll_any w1 u1 u2 K K p q hkl
    have hdk : decide (K = K) = true := decide_eq_true rfl
    simp only [hdk] at h24
    clear hflat hE hT hkl hdk
    go_enter Try.func5, Try.ntmps5
    go_wp2_with (first
      | (go_at_call 9; refine hwk.mono ?_; rintro e w1 ⟨rfl, hb1⟩)
      | (go_at_call 16; refine (h16 _ _ hl2).mono ?_; rintro e w3 ⟨rfl, hb3⟩; replace hb3 := hb2.trans (hb3.mono hb2.size); clear hb2 hl2)
      | (go_at_call 17; refine (h17 _ _ hl4).mono ?_; rintro e w5 ⟨v5, rfl, ho5, hb5⟩; have S5 := ho5.lies; replace hb5 := hb4.trans (hb5.mono hb4.size); clear hb4 hl4 ho5)
      | (go_at_call 18; refine (h18 _ _ hl6).mono ?_; rintro e w7 ⟨rfl, hb7⟩; have S7 := S6.on hb7; replace hb7 := hb6.trans (hb7.mono hb6.size); clear hb6 hl6 S6)
      | (go_at_call 19; refine (h19 _ _ hl8).mono ?_; rintro e w9 ⟨v9, rfl, ho9, hb9⟩; have T9 := ho9.lies HTF.out; have S9 := S8.on hb9; replace hb9 := hb8.trans (hb9.mono hb8.size); clear hb8 hl8 ho9 S8)
      | (go_at_call 20; refine (h20 _ hb9).mono ?_; rintro e w10 ⟨rfl, hb10⟩; have S10 := S9.on hb10; have T10 := T9.on hb10; replace hb10 := hb9.trans (hb10.mono hb9.size); clear hb9 S9 T9)
      | (go_at_call 22; refine (h22 _ hb10).mono ?_; rintro e w11 ⟨v11, rfl, ho11, hb11⟩; have U11 := ho11.lies; have S11 := S10.on hb11; have T11 := T10.on hb11; replace hb11 := hb10.trans (hb11.mono hb10.size); clear hb10 S10 T10 ho11)
      | (go_at_call 21; refine (h21 _ _ _ S11 U11).mono ?_; rintro e w12 ⟨rfl, hb12⟩; have T12 := T11.on hb12; replace hb12 := hb11.trans (hb12.mono hb11.size); clear hb11 S11 T11 U11)
      | (go_at_call 23; refine (h23 _ hb12).mono ?_; rintro e w13 ⟨rfl, hb13⟩; have T13 := T12.on hb13; replace hb13 := hb12.trans (hb13.mono hb12.size); clear hb12 T12)
      | (go_at_call 25; refine (h25 _ hb13).mono ?_; rintro e w14 ⟨v14, rfl, ho14, hb14⟩; have R14 := ho14.lies HTF.out; have T14 := T13.on hb14; replace hb14 := hb13.trans (hb14.mono hb13.size); clear hb13 T13 ho14)
      | (go_at_call 24; refine (h24 _ _ _ T14 R14).mono ?_; rintro e w15 ⟨rfl, hb15⟩; replace hb15 := hb14.trans (hb15.mono hb14.size))
      | (go_at_call 11; refine (hcp _ hb1).mono ?_; rintro e w2 ⟨v2, rfl, ho2, hb2⟩; have hl2 := ho2.lies HF.out; replace hb2 := hb1.trans (hb2.mono hb1.size); clear hb1 ho2)
      | (go_at_call 11; refine (hcp _ hb3).mono ?_; rintro e w4 ⟨v4, rfl, ho4, hb4⟩; have hl4 := ho4.lies HF.out; replace hb4 := hb3.trans (hb4.mono hb3.size); clear hb3 ho4)
      | (go_at_call 11; refine (hcp _ hb5).mono ?_; rintro e w6 ⟨v6, rfl, ho6, hb6⟩; have hl6 := ho6.lies HF.out; have S6 := S5.on hb6; replace hb6 := hb5.trans (hb6.mono hb5.size); clear hb5 ho6 S5)
      | (go_at_call 11; refine (hcp _ hb7).mono ?_; rintro e w8 ⟨v8, rfl, ho8, hb8⟩; have hl8 := ho8.lies HF.out; have S8 := S7.on hb8; replace hb8 := hb7.trans (hb8.mono hb7.size); clear hb7 ho8 S7))
    go_ret
    exact ⟨rfl, hb15⟩
  · have h16 : ∀ w1 v1, Lies w1 v1 L → _ := fun w1 v1 h1 => print_bad w1 v1 L h1 hE
    have h17 : ∀ w1 v1, Lies w1 v1 L → _ := fun w1 v1 h1 => vars_bad w1 v1 L h1 hE
    have h18 : ∀ w1 v1, Lies w1 v1 L → _ := fun w1 v1 h1 => depth_bad w1 v1 L h1 hE
    have h19 : ∀ w1 v1, Lies w1 v1 L → _ := fun w1 v1 h1 => kids_bad w1 v1 L h1 hE
    have h20 : ∀ w1, Below w.heap.size w w1 → _ := fun w1 hb => rPrint_bad w1 _ L (HL.out.on hb) hE
    generalize check L = e0 at h16 h17 h18 h19 h20 hE
    have e1 : ((e0 : Int) == 0) = false := by simp only [beq_eq_false_iff_ne]; omega
    have e2 : ¬ (e0 : Int) = 0 := by omega
    go_enter Try.func5, Try.ntmps5
    go_wp2_with (first
      | (go_at_call 9; refine hwk.mono ?_; rintro e w1 ⟨rfl, hb1⟩)
      | (go_at_call 16; refine (h16 _ _ hl2).mono ?_; rintro e w3 ⟨rfl, hb3⟩; replace hb3 := hb2.trans (hb3.mono hb2.size); clear hb2 hl2)
      | (go_at_call 17; refine (h17 _ _ hl4).mono ?_; rintro e w5 ⟨rfl, hb5⟩; replace hb5 := hb4.trans (hb5.mono hb4.size); clear hb4 hl4)
      | (go_at_call 18; refine (h18 _ _ hl6).mono ?_; rintro e w7 ⟨rfl, hb7⟩; replace hb7 := hb6.trans (hb7.mono hb6.size); clear hb6 hl6)
      | (go_at_call 19; refine (h19 _ _ hl8).mono ?_; rintro e w9 ⟨rfl, hb9⟩; replace hb9 := hb8.trans (hb9.mono hb8.size); clear hb8 hl8)
      | (go_at_call 20; refine (h20 _ hb9).mono ?_; rintro e w10 ⟨rfl, hb10⟩; replace hb10 := hb9.trans (hb10.mono hb9.size); clear hb9)
      | (go_at_call 11; refine (hcp _ hb1).mono ?_; rintro e w2 ⟨v2, rfl, ho2, hb2⟩; have hl2 := ho2.lies HF.out; replace hb2 := hb1.trans (hb2.mono hb1.size); clear hb1 ho2)
      | (go_at_call 11; refine (hcp _ hb3).mono ?_; rintro e w4 ⟨v4, rfl, ho4, hb4⟩; have hl4 := ho4.lies HF.out; replace hb4 := hb3.trans (hb4.mono hb3.size); clear hb3 ho4)
      | (go_at_call 11; refine (hcp _ hb5).mono ?_; rintro e w6 ⟨v6, rfl, ho6, hb6⟩; have hl6 := ho6.lies HF.out; replace hb6 := hb5.trans (hb6.mono hb5.size); clear hb5 ho6)
      | (go_at_call 11; refine (hcp _ hb7).mono ?_; rintro e w8 ⟨v8, rfl, ho8, hb8⟩; have hl8 := ho8.lies HF.out; replace hb8 := hb7.trans (hb8.mono hb7.size); clear hb7 ho8))
    go_ret
    exact ⟨rfl, hb10⟩

theorem termPrints_own : ownKnob Try.prog.godebug = none := by kernel_rfl
theorem termPrints_laidOut : laidOutB Try.prog = true := by kernel_rfl

set_option maxRecDepth 100000 in
theorem termPrints_lifted (os : Os) (started : os.Started) (H : Type) (enc : TypeId × Value → H) :
    ReturnsInHanded {} Try.checked os 5 .any (Rows.termPrintsSpec.pre6 enc Try.prog Try.f5 Rows.termPrintsRow.domain false) (Rows.termPrintsSpec.post enc Try.prog Try.f5 false true false false) := by
  refine returnsInHanded_of_change_sized (C := Try.checked) termPrints_own started (by kernel_rfl) Try.func5
    (ChangeSpec.witness6 (enc := enc) (C := Try.checked) false ⟨#[], #[.slice none 0 0], []⟩ 8 (by kernel_rfl) (by kernel_rfl) (by kernel_rfl) (by kernel_rfl)) ?_
  intro W base args ds gs before hval0 hW hcnd hsz0 _
  have hsz : (DataW.weightsEach Try.prog (Try.f5.params.toList ++ Rows.termPrintsSpec.plain.varTypes Try.prog) (ds ++ gs)).all (· ≤ reachBytes) = true := hsz0
  have hval : ∀ (j : Nat) t v, Try.f5.params[j]? = some t → args[j]? = some v → Value.okWide Try.prog W .any base t v := hval0
  have hW' := hW
  obtain ⟨p, q, hA0, hV, rfl, hfz, hnd⟩ := hW
  have hA : DataW.TrodAll enc Try.prog W 0 (fun _ => true) true Try.f5.params.toList args.toList ds p := hA0
  rw [Try.params5] at hA hval hsz
  obtain ⟨v0, vs0, d0, ds0, p0, q0, hargs, rfl, rfl, h0, r0⟩ := trodAll_cons hA
  obtain ⟨rfl, rfl, rfl⟩ := trodAll_nil r0
  obtain rfl : args = #[v0] := by cases args; simp_all
  obtain ⟨rfl, rfl⟩ := trodVars_none hV
  have k0 := h0
  have lt0 : ∀ x ∈ p0, x.block < W.heap.size := by obtain ⟨m, hm⟩ := k0; exact DataW.trod_lt m _ _ _ hm
  obtain ⟨L0, l0, z0⟩ := open_cells (hval 0 23 v0 rfl rfl) h0 (fun n hn => by simpa using List.all_eq_true.1 hsz n (DataW.weights_mem_each (j := 0) (t := 23) rfl rfl n hn))
  clear hA0 hval0
  refine (termPrints_walk v0 L0 W l0 z0).mono fun e W' ⟨he, bel⟩ => ?_
  subst he
  exact ⟨_, rfl, _, _, _, [], _, [], hW', trodAll_mk1 (shut_bool Try.underlying4 _), (trodAll_cons_mk (Below.trod termPrints_laidOut (by kernel_rfl) (of_decide_eq_true (by kernel_rfl)) k0 bel lt0) trodAll_mk0), rfl, bel.frame _, fun h => by cases h⟩

theorem termPrints_holds : Rows.TermPrintsSaid :=
  OpenClaim.holds_of_wide 5 Try.f5 rfl rfl rfl rfl rfl rfl rfl ⟨rfl, rfl, rfl, rfl, rfl⟩ rfl rfl rfl rfl rfl (by kernel_rfl) Try.func5 (by kernel_rfl)
    (of_decide_eq_true (by kernel_rfl)) (by unfold Func.isWrapper; first | (rw [if_pos (by decide +kernel)]; kernel_rfl) | (rw [if_neg (by decide +kernel)]; exact ⟨rfl, rfl⟩))
    (fun os started H enc _ => termPrints_lifted os started H enc)

#print axioms termPrints_holds

end Go.Proofs.Ytjfkkabpfjcceaa
