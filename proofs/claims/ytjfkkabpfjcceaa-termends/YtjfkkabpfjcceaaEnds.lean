/-
  Proved: TermEnds returns true for every list of cells and every place, and its arguments read behind the call as before.
-/
import Derived.Test.YtjfkkabpfjcceaaRows
import Derived.Test.YtjfkkabpfjcceaaWake
import Derived.Test.YtjfkkabpfjcceaaOpen
import Derived.Test.YtjfkkabpfjcceaaKids
import Derived.ProofKit
import Derived.OpenShut
import Derived.ShutString
import Derived.ChangeOld
import Derived.Below
import Derived.SizedLaws
import Derived.Lib.SmallJoins
namespace Go.Proofs.Ytjfkkabpfjcceaa
open Go.ChangeShapes Go.WideShapes Go.ChangeAt Go.RowKit Go.Joins
open Go.ChangeMaps (open_string shut_string)
set_option linter.unusedVariables false
set_option maxRecDepth 100000
set_option linter.unusedSimpArgs false

theorem posN_end {L : List Cl} {k : Nat} (h : L.length ≤ k) : posN L k = 0 := posN_none (by rw [List.drop_eq_nil_of_le h]; rfl)
/-- the part of a right term from a place on to where the term there ends -/
theorem part_of {L : List Cl} (hE : check L = 0) {k : Nat} (hk : k < L.length) : ∃ M R e, L.drop k = M ++ R ∧ M.length = e - k ∧ k < e ∧ e ≤ L.length ∧ posN L k = e ∧ posZ L k = (e : Int) ∧ check M = 0 := by
  obtain ⟨h1, h2, h3⟩ := check_zero hE
  obtain ⟨r, hr⟩ := fo_each (L.take k) (L.drop k) 1 (by rw [List.take_append_drop]; exact h3) (by intro h; have := congrArg List.length h; simp at this; omega)
  obtain ⟨M, hM, hf, hl⟩ := fo_suffix _ _ _ hr
  have hlen := congrArg List.length hM
  simp only [List.length_drop, List.length_append] at hlen
  refine ⟨M, r, L.length - r.length, hM, by omega, by omega, by omega, posN_some hr, posZ_some hr, check_ok (by omega) (cellsErr_zero.2 fun c hc => cellsErr_zero.1 h2 c (List.mem_of_mem_drop (i := k) (by rw [hM]; simp [hc]))) hf⟩
theorem take_more {K : List (List Cl)} {j : Nat} {l : List Cl} (h : K[j]? = some l) : (K.take (j + 1)).flatten.length = (K.take j).flatten.length + l.length := by
  rw [List.take_add_one, h]; simp
theorem take_less {K : List (List Cl)} (j : Nat) : (K.take j).flatten.length ≤ K.flatten.length := by
  conv => rhs; rw [← List.take_append_drop j K]
  rw [List.flatten_append, List.length_append]; omega

set_option maxHeartbeats 4000000 in
theorem termEnds_walk (v : Value) (L : List Cl) (i : Int) (hiw : (Lit.int .i64 i).wf = true) (w : World) (hl : Lies w v L) (hz : L.length * 24 ≤ 140737488355328) :
    Calls Try.prog 8 #[v, .int .i64 i] w fun e w' => e = .returned (.bool true) ∧ Below w.heap.size w w' := by
  have hwk := wakes_any w
  have HL : Hid (Lies w v L) := hl
  have hcp : ∀ w1, Below w.heap.size w w1 → _ := fun w1 hb => copy_any w1 v L (HL.out.on hb) hz
  have hrc : ∀ w1, Below w.heap.size w w1 → _ := fun w1 hb => rCheck_any w1 v L (HL.out.on hb)
  obtain ⟨ia, ib⟩ := bounds_i64 hiw
  have HF : Hid (Fine L) := by obtain ⟨_, _, _, _, _, hf, _⟩ := hl; exact hf
  obtain ⟨a, cap, rfl, hc1, hc2, _, HC⟩ := hl
  have HCC : Hid (CellsAt w a L) := HC
  clear HC hiw
  by_cases hE : check L = 0
  · by_cases hi0 : i < 0
    · have hen : ∀ w1 v1, Lies w1 v1 L → _ := fun w1 v1 h1 => end_bad w1 v1 L h1 i (.inl hi0)
      rw [hE] at hrc
      clear hE
      go_enter Try.func8, Try.ntmps8
      go_wp2_with (first
        | (go_at_call 9; refine hwk.mono ?_; rintro e w1 ⟨rfl, hb1⟩)
        | (go_at_call 11; refine (hcp _ hb1).mono ?_; rintro e w2 ⟨v2, rfl, hown2, hb2⟩; have hl2 := hown2.lies HF.out; replace hb2 := hb1.trans (hb2.mono hb1.size))
        | (go_at_call 29; refine (hen _ _ hl2).mono ?_; rintro e w3 ⟨rfl, hb3⟩; replace hb3 := hb2.trans (hb3.mono hb2.size))
        | (go_at_call 12; refine (hrc _ hb3).mono ?_; rintro e w4 ⟨rfl, rfl⟩))
      go_ret
      exact ⟨rfl, hb3⟩
    · obtain ⟨k, rfl⟩ : ∃ k : Nat, i = (k : Int) := ⟨i.toNat, by omega⟩
      have hen : ∀ w1 v1, Lies w1 v1 L → _ := fun w1 v1 h1 => end_ok w1 v1 L h1 k hE
      have hd0 : decide ((k : Int) < 0) = false := decide_eq_false hi0
      rw [hE] at hrc
      by_cases hk : k < L.length
      · obtain ⟨M, R, e, hM, hMl, hke, hel, hpn, hpz, hMc⟩ := part_of hE hk
        rw [hpn] at hen
        have hb30 : ∀ w1, Below w.heap.size w w1 → _ := fun w1 hb => rBehind_any w1 _ L (HL.out.on hb) (check_zero hE).1 (check_zero hE).2.1 L.length k (by omega) (by omega)
        rw [hpz] at hb30
        obtain ⟨nm, kd, hflat⟩ := check_term hE
        have hkids : ∀ w1 v1, Lies w1 v1 L → _ := fun w1 v1 h1 => kids_ok w1 v1 L h1 hE nm kd hflat
        have HSUM : Hid (L.length = 1 + kd.trees.flatten.length) := by show _ = _; rw [Fo.trees_flatten, hflat]; simp [Fo.flat]; omega
        have HTF : Hid (∀ l ∈ kd.trees, Fine l) := trees_fine (fun c hc => HF.out c (by rw [hflat]; simp [Fo.flat, hc]))
        have hkl : kd.trees.length ≤ 64 := by rw [Fo.trees_length]; have := Fo.len_le kd; have h6 := (check_zero hE).1; rw [hflat, Fo.flat_length] at h6; simp [Fo.size] at h6; omega
        generalize kd.trees = K at hkids HSUM HTF hkl
        obtain ⟨c, hc⟩ : ∃ c, L[k]? = some c := ⟨L[k], List.getElem?_eq_getElem hk⟩
        obtain ⟨b, off, rfl, hbl, _, _⟩ := HCC.out k c hc
        have hpart : ∀ w1, Below w.heap.size w w1 → Lies w1 (.slice (some ⟨b, off + k * 2, none⟩) (e - k) (cap - k)) M := fun w1 hb => by
          have := Lies.part (HL.out.on hb) hM (by omega)
          rwa [hMl] at this
        have hcp2 : ∀ w1, Below w.heap.size w w1 → _ := fun w1 hb => copy_any w1 _ M (hpart w1 hb) (by omega)
        have hck2 : ∀ w1 v1, Lies w1 v1 M → _ := fun w1 v1 h1 => check_any w1 v1 M h1
        rw [hMc] at hck2
        have HFM : Hid (Fine M) := by obtain ⟨_, _, _, _, _, hf, _⟩ := hpart w (Below.refl _ _); exact hf
        have hsm := (check_zero hE).1
        have hki : (k : Int) < (L.length : Int) := by omega
        have hnd : decide (L.length ≤ k) = false := decide_eq_false (by omega)
        clear hE hM hMl hpn hpz hMc hflat hc hi0 hpart
        go_enter Try.func8, Try.ntmps8
        go_wp2_with (first
          | (go_at_call 9; refine hwk.mono ?_; rintro e w1 ⟨rfl, hb1⟩)
          | (go_at_call 29; refine (hen _ _ hl2).mono ?_; rintro e w3 ⟨rfl, hb3⟩; replace hb3 := hb2.trans (hb3.mono hb2.size); clear hl2 hb2)
          | (go_at_call 12; refine (hrc _ hb3).mono ?_; rintro e w4 ⟨rfl, rfl⟩)
          | (go_at_call 30; refine (hb30 _ hb3).mono ?_; rintro e w5 ⟨rfl, rfl⟩)
          | (go_at_call 10; refine (hck2 _ _ hl6).mono ?_; rintro e w7 ⟨rfl, hb7⟩; replace hb7 := hb6.trans (hb7.mono hb6.size); clear hl6 hb6)
          | (go_at_call 19; refine (hkids _ _ hl8).mono ?_; rintro e w9 ⟨v9, rfl, hO9, hb9⟩; have hl9 := hO9.base (B' := w.heap.size) hb8.size |>.lies HTF.out; replace hb9 := hb8.trans (hb9.mono hb8.size); obtain ⟨ka, kc, hkv, kc1, kc2, HKC⟩ := hl9; subst hkv)
          | (go_at_call 11; refine (hcp _ hb1).mono ?_; rintro e w2 ⟨v2, rfl, hown2, hb2⟩; have hl2 := hown2.lies HF.out; replace hb2 := hb1.trans (hb2.mono hb1.size); clear hb1)
          | (go_at_call 11; refine (hcp2 _ hb3).mono ?_; rintro e w6 ⟨v6, rfl, hown6, hb6⟩; have hl6 := hown6.lies HFM.out; replace hb6 := hb3.trans (hb6.mono hb3.size); clear hb3)
          | (go_at_call 11; refine (hcp _ hb7).mono ?_; rintro e w8 ⟨v8, rfl, hown8, hb8⟩; have hl8 := hown8.lies HF.out; replace hb8 := hb7.trans (hb8.mono hb7.size)))
        have HKH : Hid (∀ (j : Nat) l, K[j]? = some l → ∃ b off x, ka = some ⟨b, off, none⟩ ∧ b < w9.heap.size ∧ w9.cell? ⟨b, off + j, none⟩ = some x ∧ Lies w9 x l) := HKC
        clear HKC hO9 hl8 hown8 hcp hcp2 hen hb30 hkids hck2 hrc hwk
        go_loop [8, 53] (fun n i => ∃ j : Nat, j ≤ K.length ∧ i = .int .i64 j ∧ n = .int .i64 ((1 + (K.take j).flatten.length : Nat) : Int)) (fun _ i => K.length - (intOf i).toNat)
        case atStart => exact ⟨0, Nat.zero_le _, rfl, rfl⟩
        case round =>
          obtain ⟨j, hj, rfl, rfl⟩ := hrel
          by_cases hjl : j < K.length
          · obtain ⟨l, hl⟩ : ∃ l, K[j]? = some l := ⟨K[j], List.getElem?_eq_getElem hjl⟩
            obtain ⟨kb, ko, x, rfl, _, hx, hlx⟩ := HKH.out j l hl
            obtain ⟨xa, xc, rfl, _⟩ := hlx
            have HTM : Hid ((K.take (j + 1)).flatten.length = (K.take j).flatten.length + l.length) := take_more hl
            have hle1 : (K.take j).flatten.length + l.length ≤ 64 := by have := take_less (K := K) (j + 1); have h1 := HTM.out; have h2 := HSUM.out; omega
            have hji : (j : Int) < (K.length : Int) := by omega
            generalize (K.take j).flatten.length = sm at HTM hle1 ⊢
            go_wp2_with fail
            go_round
            case rel => exact ⟨j + 1, by omega, by go_num, by rw [HTM.out]; go_num⟩
            case measure => simp [intOf]; omega
          · have hjn : ¬ (j : Int) < (K.length : Int) := by omega
            have HN : Hid ((K.take j).flatten.length + 1 = L.length) := by show _ = _; rw [show j = K.length by omega, List.take_length]; have := HSUM.out; omega
            have hle1 : 1 + (K.take j).flatten.length ≤ 64 := by have := HN.out; omega
            have hq : ((1 + (K.take j).flatten.length : Nat) : Int) = (L.length : Int) := by have := HN.out; omega
            rw [hq]
            clear hq hle1
            go_wp2_with fail
            go_ret
            exact ⟨rfl, hb9⟩
      · rw [posN_end (by omega)] at hen
        have hki : ¬ (k : Int) < (L.length : Int) := by omega
        have hkl : L.length ≤ k := by omega
        clear hE
        go_enter Try.func8, Try.ntmps8
        go_wp2_with (first
          | (go_at_call 9; refine hwk.mono ?_; rintro e w1 ⟨rfl, hb1⟩)
          | (go_at_call 11; refine (hcp _ hb1).mono ?_; rintro e w2 ⟨v2, rfl, hown2, hb2⟩; have hl2 := hown2.lies HF.out; replace hb2 := hb1.trans (hb2.mono hb1.size))
          | (go_at_call 29; refine (hen _ _ hl2).mono ?_; rintro e w3 ⟨rfl, hb3⟩; replace hb3 := hb2.trans (hb3.mono hb2.size))
          | (go_at_call 12; refine (hrc _ hb3).mono ?_; rintro e w4 ⟨rfl, rfl⟩))
        go_ret
        exact ⟨rfl, hb3⟩
  · have hen : ∀ w1 v1, Lies w1 v1 L → _ := fun w1 v1 h1 => end_bad w1 v1 L h1 i (.inr hE)
    generalize check L = e0 at hrc hE
    have e1 : ((e0 : Int) == 0) = false := by simp only [beq_eq_false_iff_ne]; omega
    have e2 : ¬ (e0 : Int) = 0 := by omega
    go_enter Try.func8, Try.ntmps8
    go_wp2_with (first
      | (go_at_call 9; refine hwk.mono ?_; rintro e w1 ⟨rfl, hb1⟩)
      | (go_at_call 11; refine (hcp _ hb1).mono ?_; rintro e w2 ⟨v2, rfl, hown2, hb2⟩; have hl2 := hown2.lies HF.out; replace hb2 := hb1.trans (hb2.mono hb1.size))
      | (go_at_call 29; refine (hen _ _ hl2).mono ?_; rintro e w3 ⟨rfl, hb3⟩; replace hb3 := hb2.trans (hb3.mono hb2.size))
      | (go_at_call 12; refine (hrc _ hb3).mono ?_; rintro e w4 ⟨rfl, rfl⟩))
    go_ret
    exact ⟨rfl, hb3⟩

theorem termEnds_own : ownKnob Try.prog.godebug = none := by kernel_rfl
theorem termEnds_laidOut : laidOutB Try.prog = true := by kernel_rfl

set_option maxRecDepth 100000 in
theorem termEnds_lifted (os : Os) (started : os.Started) (H : Type) (enc : TypeId × Value → H) :
    ReturnsInHanded {} Try.checked os 8 .any (Rows.termEndsSpec.pre6 enc Try.prog Try.f8 Rows.termEndsRow.domain false) (Rows.termEndsSpec.post enc Try.prog Try.f8 false true false false) := by
  refine returnsInHanded_of_change_sized (C := Try.checked) termEnds_own started (by kernel_rfl) Try.func8
    (ChangeSpec.witness6 (enc := enc) (C := Try.checked) false ⟨#[], #[.slice none 0 0, .int .i64 0], []⟩ 8 (by kernel_rfl) (by kernel_rfl) (by kernel_rfl) (by kernel_rfl)) ?_
  intro W base args ds gs before hval0 hW hcnd hsz0 _
  have hsz : (DataW.weightsEach Try.prog (Try.f8.params.toList ++ Rows.termEndsSpec.plain.varTypes Try.prog) (ds ++ gs)).all (· ≤ reachBytes) = true := hsz0
  have hval : ∀ (j : Nat) t v, Try.f8.params[j]? = some t → args[j]? = some v → Value.okWide Try.prog W .any base t v := hval0
  have hW' := hW
  obtain ⟨p, q, hA0, hV, rfl, hfz, hnd⟩ := hW
  have hA : DataW.TrodAll enc Try.prog W 0 (fun _ => true) true Try.f8.params.toList args.toList ds p := hA0
  rw [Try.params8] at hA hval hsz
  obtain ⟨v0, vs0, d0, ds0, p0, q0, hargs, rfl, rfl, h0, r0⟩ := trodAll_cons hA
  obtain ⟨v1, vs1, d1, ds1, p1, q1, rfl, rfl, rfl, h1, r1⟩ := trodAll_cons r0
  obtain ⟨rfl, rfl, rfl⟩ := trodAll_nil r1
  obtain rfl : args = #[v0, v1] := by cases args; simp_all
  obtain ⟨rfl, rfl⟩ := trodVars_none hV
  have k0 := h0
  have lt0 : ∀ x ∈ p0, x.block < W.heap.size := by obtain ⟨m, hm⟩ := k0; exact DataW.trod_lt m _ _ _ hm
  have k1 := h1
  have lt1 : ∀ x ∈ p1, x.block < W.heap.size := by obtain ⟨m, hm⟩ := k1; exact DataW.trod_lt m _ _ _ hm
  obtain ⟨L0, l0, z0⟩ := open_cells (hval 0 23 v0 rfl rfl) h0 (fun n hn => by simpa using List.all_eq_true.1 hsz n (DataW.weights_mem_each (j := 0) (t := 23) rfl rfl n hn))
  obtain ⟨a1, rfl, rfl, rfl, w1⟩ := open_int Try.underlying3 (hval 1 3 v1 rfl rfl) h1
  clear hA0 hval0
  refine (termEnds_walk v0 L0 a1 w1 W l0 z0).mono fun e W' ⟨he, bel⟩ => ?_
  subst he
  exact ⟨_, rfl, _, _, _, [], _, [], hW', trodAll_mk1 (shut_bool Try.underlying4 _), (trodAll_cons_mk (Below.trod termEnds_laidOut (by kernel_rfl) (of_decide_eq_true (by kernel_rfl)) k0 bel lt0) (trodAll_cons_mk (Below.trod termEnds_laidOut (by kernel_rfl) (of_decide_eq_true (by kernel_rfl)) k1 bel lt1) trodAll_mk0)), rfl, bel.frame _, fun h => by cases h⟩

theorem termEnds_holds : Rows.TermEndsSaid :=
  OpenClaim.holds_of_wide 8 Try.f8 rfl rfl rfl rfl rfl rfl rfl ⟨rfl, rfl, rfl, rfl, rfl⟩ rfl rfl rfl rfl rfl (by kernel_rfl) Try.func8 (by kernel_rfl)
    (of_decide_eq_true (by kernel_rfl)) (by unfold Func.isWrapper; first | (rw [if_pos (by decide +kernel)]; kernel_rfl) | (rw [if_neg (by decide +kernel)]; exact ⟨rfl, rfl⟩))
    (fun os started H enc _ => termEnds_lifted os started H enc)

#print axioms termEnds_holds

end Go.Proofs.Ytjfkkabpfjcceaa
