/-
  Proved: TermMakes returns true for every name, every list of terms and every list of cells, and its arguments read behind the call as before.
-/
import Derived.Test.YtjfkkabpfjcceaaRows
import Derived.Test.YtjfkkabpfjcceaaWake
import Derived.Test.YtjfkkabpfjcceaaOpenT
import Derived.Test.YtjfkkabpfjcceaaRText
import Derived.Test.YtjfkkabpfjcceaaRMake
import Derived.ProofKit
import Derived.OpenShut
import Derived.ShutString
import Derived.ChangeOld
import Derived.Below
import Derived.SizedLaws
import Derived.Lib.SmallJoins
namespace Go.Proofs.Ytjfkkabpfjcceaa
open Go.ChangeShapes Go.WideShapes Go.ChangeAt Go.RowKit Go.Joins
open Go.ChangeMaps (open_string shut_string)
set_option linter.unusedVariables false
set_option maxRecDepth 100000
set_option linter.unusedSimpArgs false

theorem fine_check {M : List Cl} (h : check M = 0) : Fine M := by
  intro c hc
  have h1 := cellsErr_zero.1 (check_zero h).2.1 c hc
  have h2 := (name_len h1).2
  have h3 := cellErr_ar h1
  exact ⟨by omega, by omega, by omega⟩
def makeL (nm : ByteArray) (K : List (List Cl)) : List Cl := if makeE nm K = 0 then mkT nm K K.length else []
theorem nil_lies (w : World) : Lies w (.slice none 0 0) [] := ⟨none, 0, rfl, Nat.le_refl _, Nat.zero_le _, (fun c hc => by cases hc), (fun k c hc => by simp at hc)⟩
theorem made_check {nm : ByteArray} {K : List (List Cl)} (h : makeE nm K = 0) : check (mkT nm K K.length) = 0 := by
  unfold makeE at h
  split at h
  · exact h
  · rename_i h1; exact absurd h h1
theorem make_lies (w : World) (nm : ByteArray) (kv : Value) (K : List (List Cl)) (hnm : nm.size ≤ 9223372036854775807) (hK : LiesT w kv K) :
    Calls Try.prog 26 #[.string nm, kv] w fun e w' => ∃ v', e = .returned (.tuple #[v', .int .i64 (makeE nm K : Nat)]) ∧ Lies w' v' (makeL nm K) ∧ Below w.heap.size w w' := by
  refine (make_any w nm kv K hnm hK).mono fun e w' h => ?_
  obtain ⟨⟨h0, v', rfl, ho⟩ | ⟨h0, rfl⟩, hb⟩ := h
  · refine ⟨v', by rw [h0]; rfl, ?_, hb⟩
    unfold makeL
    rw [if_pos h0]
    exact Owns.lies ho (fine_check (made_check h0))
  · refine ⟨_, rfl, ?_, hb⟩
    unfold makeL
    rw [if_neg h0]
    exact nil_lies w'
theorem rMake_lies (w : World) (nm : ByteArray) (kv : Value) (K : List (List Cl)) (hnm : nm.size ≤ 9223372036854775807) (hK : LiesT w kv K) :
    Calls Try.prog 28 #[.string nm, kv] w fun e w' => ∃ v', e = .returned (.tuple #[v', .int .i64 (makeE nm K : Nat)]) ∧ Lies w' v' (makeL nm K) ∧ Below w.heap.size w w' := by
  refine (rMake_any w nm kv K hnm hK).mono fun e w' h => ?_
  obtain ⟨⟨h0, v', rfl, ho⟩ | ⟨h0, rfl⟩, hb⟩ := h
  · refine ⟨v', by rw [h0]; rfl, ?_, hb⟩
    unfold makeL
    rw [if_pos h0]
    exact Owns.lies ho (fine_check (made_check h0))
  · refine ⟨_, rfl, ?_, hb⟩
    unfold makeL
    rw [if_neg h0]
    exact nil_lies w'
theorem same_self (w : World) (u v : Value) (L : List Cl) (hu : Lies w u L) (hv : Lies w v L) :
    Calls Try.prog 15 #[u, v] w fun e w' => e = .returned (.bool true) ∧ Below w.heap.size w w' := by
  have := same_any w u v L L hu hv
  rwa [decide_eq_true rfl] at this

set_option maxHeartbeats 4000000 in
theorem termMakes_walk (nm : ByteArray) (kv : Value) (K : List (List Cl)) (v : Value) (L : List Cl) (zn : nm.size ≤ reachBytes) (w : World) (hK : LiesT w kv K) (hzk : K.length * 24 ≤ 140737488355328 ∧ ∀ l ∈ K, l.length * 24 ≤ 140737488355328) (hl : Lies w v L) (hz : L.length * 24 ≤ 140737488355328) :
    Calls Try.prog 7 #[.string nm, kv, v] w fun e w' => e = .returned (.bool true) ∧ Below w.heap.size w w' := by
  have hwk := wakes_any w
  have HL : Hid (Lies w v L) := hl
  have HK : Hid (LiesT w kv K) := hK
  have hnm : nm.size ≤ 9223372036854775807 := by have := reachBytes_lt; omega
  have hcp : ∀ w1, Below w.heap.size w w1 → _ := fun w1 hb => copy_any w1 v L (HL.out.on hb) hz
  have HF : Hid (Fine L) := by obtain ⟨_, _, _, _, _, hf, _⟩ := hl; exact hf
  have HFK : Hid (∀ l ∈ K, Fine l) := fun l hm => by
    obtain ⟨j, hj⟩ := List.getElem?_of_mem hm
    obtain ⟨_, _, _, _, _, HC⟩ := hK
    obtain ⟨_, _, _, _, _, _, hlx⟩ := HC j l hj
    obtain ⟨_, _, _, _, _, hf, _⟩ := hlx
    exact hf
  have h27 : ∀ w1, Below w.heap.size w w1 → _ := fun w1 hb => copyAll_any w1 kv K (HK.out.on hb) hzk.1 hzk.2
  have h26 : ∀ w1 v1, LiesT w1 v1 K → _ := fun w1 v1 h1 => make_lies w1 nm v1 K hnm h1
  have h28 : ∀ w1, Below w.heap.size w w1 → _ := fun w1 hb => rMake_lies w1 nm kv K hnm (HK.out.on hb)
  generalize makeE nm K = E at h26 h28
  generalize makeL nm K = A at h26 h28
  have h15 : ∀ w1 u1 u2, Lies w1 u1 A → Lies w1 u2 A → _ := fun w1 u1 u2 p q => same_self w1 u1 u2 A p q
  have hkl := hzk.1
  obtain ⟨a, cap, rfl, hc1, hc2, _, HC⟩ := hl
  have HCC : Hid (CellsAt w a L) := HC
  obtain ⟨ka, kc, rfl, hk1, hk2, _⟩ := hK
  clear HC hzk zn
  by_cases hbig : 1000 < K.length
  · have hbi : (1000 : Int) < (K.length : Int) := by omega
    go_enter Try.func7, Try.ntmps7
    go_wp2_with (first | (go_at_call 9; refine hwk.mono ?_; rintro e w1 ⟨rfl, hb1⟩))
    go_ret
    exact ⟨rfl, hb1⟩
  · have hbi : ¬ (1000 : Int) < (K.length : Int) := by omega
    have hbd : decide ((1000 : Int) < (K.length : Int)) = false := decide_eq_false hbi
    go_enter Try.func7, Try.ntmps7
    go_wp2_with (first | (go_at_call 9; refine hwk.mono ?_; rintro e w1 ⟨rfl, hb1⟩))
    go_loop [23] (fun i => ∃ j : Nat, j ≤ K.length ∧ i = .int .i64 (j : Nat)) (fun i => K.length - (intOf i).toNat)
    case atStart => exact ⟨0, Nat.zero_le _, rfl⟩
    case round =>
      obtain ⟨j, hj, rfl⟩ := hrel
      by_cases hlt : j < K.length
      · obtain ⟨l, hlj⟩ : ∃ l, K[j]? = some l := ⟨K[j], List.getElem?_eq_getElem hlt⟩
        obtain ⟨b, off, x, ha, hbl, hcx, hlx⟩ : ∃ b off x, ka = some ⟨b, off, none⟩ ∧ b < w1.heap.size ∧ w1.cell? ⟨b, off + j, none⟩ = some x ∧ Lies w1 x l := by
          obtain ⟨a', cap', hv', _, _, HC'⟩ := HK.out.on hb1
          cases hv'
          exact HC' j _ hlj
        subst ha
        have hji : (j : Int) < (K.length : Int) := by omega
        obtain ⟨xa, xc, rfl, x1, x2, _⟩ := hlx
        by_cases hlb : 1000 < l.length
        · have hli : (1000 : Int) < (l.length : Int) := by omega
          go_wp2_with fail
          go_ret
          exact ⟨rfl, hb1⟩
        · have hli : ¬ (1000 : Int) < (l.length : Int) := by omega
          have hld : decide ((1000 : Int) < (l.length : Int)) = false := decide_eq_false hli
          go_wp2_with fail
          go_round
          case rel => exact ⟨j + 1, by omega, by go_num⟩
          case measure => simp [intOf]; omega
      · have hji : ¬ (j : Int) < (K.length : Int) := by omega
        by_cases hE : check L = 0
        · obtain ⟨n0, kd, hflat⟩ := check_term hE
          have hkids : ∀ w1 v1, Lies w1 v1 L → _ := fun w1 v1 h1 => kids_ok w1 v1 L h1 hE n0 kd hflat
          have hct : ∀ l ∈ kd.trees, check l = 0 := fun l hl => tree_check (nm := n0) (by rw [← hflat]; exact hE) hl
          obtain ⟨m1, m2⟩ := make_back (nm := n0) (kd := kd) (by rw [← hflat]; exact hE) hct
          have hn8 : n0.size ≤ 8 := (name_len (cellsErr_zero.1 (check_zero hE).2.1 ⟨n0, (kd.len : Nat)⟩ (by rw [hflat]; simp [Fo.flat]))).2
          have hm26 : ∀ w1 v1, LiesT w1 v1 kd.trees → Calls Try.prog 26 #[.string n0, v1] w1 fun e w' => ∃ v', e = .returned (.tuple #[v', .int .i64 0]) ∧ Lies w' v' L ∧ Below w1.heap.size w1 w' := fun w1 v1 h1 => by
            have := make_lies w1 n0 v1 kd.trees (by omega) h1
            unfold makeL at this
            rw [m1, if_pos rfl, m2, ← hflat] at this
            exact this
          have HTF : Hid (∀ l ∈ kd.trees, Fine l) := trees_fine (fun c hc => HF.out c (by rw [hflat]; simp [Fo.flat, hc]))
          have h15b : ∀ w1 u1 u2, Lies w1 u1 L → Lies w1 u2 L → _ := fun w1 u1 u2 p q => same_self w1 u1 u2 L p q
          obtain ⟨b, off, rfl, hbl, d1, _⟩ := HCC.out 0 ⟨n0, (kd.len : Nat)⟩ (by rw [hflat]; simp [Fo.flat])
          have hl0 : 0 < L.length := by rw [hflat]; simp [Fo.flat]
          have hl0i : (0 : Int) < (L.length : Int) := by omega
          simp only [Nat.zero_mul, Nat.add_zero] at d1
          have D1 : Hid (w.cell? ⟨b, off, none⟩ = some (.string n0)) := d1
          generalize kd.trees = T at hkids hm26 HTF
          clear hflat m1 m2 hct hE d1
          go_wp2_with (first
            | (go_at_call 27; refine (h27 _ hb1).mono ?_; rintro e w2 ⟨v2, rfl, ho2, hb2⟩; have T2 := ho2.lies HFK.out; replace hb2 := hb1.trans (hb2.mono hb1.size); clear hb1 ho2)
            | (go_at_call 28; refine (h28 _ hb3).mono ?_; rintro e w4 ⟨v4, rfl, A4, hb4⟩; have B4 := A3.on hb4; replace hb4 := hb3.trans (hb4.mono hb3.size); clear hb3 A3)
            | (go_at_call 11; refine (hcp _ hb5).mono ?_; rintro e w6 ⟨v6, rfl, ho6, hb6⟩; have hl6 := ho6.lies HF.out; replace hb6 := hb5.trans (hb6.mono hb5.size); clear hb5 ho6)
            | (go_at_call 19; refine (hkids _ _ hl6).mono ?_; rintro e w7 ⟨v7, rfl, ho7, hb7⟩; have T7 := ho7.lies HTF.out; replace hb7 := hb6.trans (hb7.mono hb6.size); have c0 := (hb7.cell (p := ⟨b, off, none⟩) hbl).trans D1.out; clear hb6 ho7 hl6)
            | (go_at_call 26; refine (h26 _ _ T2).mono ?_; rintro e w3 ⟨v3, rfl, A3, hb3⟩; replace hb3 := hb2.trans (hb3.mono hb2.size); clear hb2 T2)
            | (go_at_call 26; refine (hm26 _ _ T7).mono ?_; rintro e w8 ⟨v8, rfl, A8, hb8⟩; replace hb8 := hb7.trans (hb8.mono hb7.size); have B8 := HL.out.on hb8; clear hb7 T7)
            | (go_at_call 15; refine (h15 _ _ _ B4 A4).mono ?_; rintro e w5 ⟨rfl, hb5⟩; replace hb5 := hb4.trans (hb5.mono hb4.size); clear hb4 B4 A4)
            | (go_at_call 15; refine (h15b _ _ _ A8 B8).mono ?_; rintro e w9 ⟨rfl, hb9⟩; replace hb9 := hb8.trans (hb9.mono hb8.size)))
          go_ret
          exact ⟨rfl, hb9⟩
        · have hkids : ∀ w1 v1, Lies w1 v1 L → _ := fun w1 v1 h1 => kids_bad w1 v1 L h1 hE
          generalize check L = e0 at hkids hE
          have e1 : ((e0 : Int) == 0) = false := by simp only [beq_eq_false_iff_ne]; omega
          have e2 : ¬ (e0 : Int) = 0 := by omega
          go_wp2_with (first
            | (go_at_call 27; refine (h27 _ hb1).mono ?_; rintro e w2 ⟨v2, rfl, ho2, hb2⟩; have T2 := ho2.lies HFK.out; replace hb2 := hb1.trans (hb2.mono hb1.size); clear hb1 ho2)
            | (go_at_call 28; refine (h28 _ hb3).mono ?_; rintro e w4 ⟨v4, rfl, A4, hb4⟩; have B4 := A3.on hb4; replace hb4 := hb3.trans (hb4.mono hb3.size); clear hb3 A3)
            | (go_at_call 11; refine (hcp _ hb5).mono ?_; rintro e w6 ⟨v6, rfl, ho6, hb6⟩; have hl6 := ho6.lies HF.out; replace hb6 := hb5.trans (hb6.mono hb5.size); clear hb5 ho6)
            | (go_at_call 19; refine (hkids _ _ hl6).mono ?_; rintro e w7 ⟨rfl, hb7⟩; replace hb7 := hb6.trans (hb7.mono hb6.size); clear hb6 hl6)
            | (go_at_call 26; refine (h26 _ _ T2).mono ?_; rintro e w3 ⟨v3, rfl, A3, hb3⟩; replace hb3 := hb2.trans (hb3.mono hb2.size); clear hb2 T2)
            | (go_at_call 15; refine (h15 _ _ _ B4 A4).mono ?_; rintro e w5 ⟨rfl, hb5⟩; replace hb5 := hb4.trans (hb5.mono hb4.size); clear hb4 B4 A4))
          go_ret
          exact ⟨rfl, hb7⟩

theorem termMakes_own : ownKnob Try.prog.godebug = none := by kernel_rfl
theorem termMakes_laidOut : laidOutB Try.prog = true := by kernel_rfl

set_option maxRecDepth 100000 in
theorem termMakes_lifted (os : Os) (started : os.Started) (H : Type) (enc : TypeId × Value → H) :
    ReturnsInHanded {} Try.checked os 7 .any (Rows.termMakesSpec.pre6 enc Try.prog Try.f7 Rows.termMakesRow.domain false) (Rows.termMakesSpec.post enc Try.prog Try.f7 false true false false) := by
  refine returnsInHanded_of_change_sized (C := Try.checked) termMakes_own started (by kernel_rfl) Try.func7
    (ChangeSpec.witness6 (enc := enc) (C := Try.checked) false ⟨#[], #[.string ByteArray.empty, .slice none 0 0, .slice none 0 0], []⟩ 8 (by kernel_rfl) (by kernel_rfl) (by kernel_rfl) (by kernel_rfl)) ?_
  intro W base args ds gs before hval0 hW hcnd hsz0 _
  have hsz : (DataW.weightsEach Try.prog (Try.f7.params.toList ++ Rows.termMakesSpec.plain.varTypes Try.prog) (ds ++ gs)).all (· ≤ reachBytes) = true := hsz0
  have hval : ∀ (j : Nat) t v, Try.f7.params[j]? = some t → args[j]? = some v → Value.okWide Try.prog W .any base t v := hval0
  have hW' := hW
  obtain ⟨p, q, hA0, hV, rfl, hfz, hnd⟩ := hW
  have hA : DataW.TrodAll enc Try.prog W 0 (fun _ => true) true Try.f7.params.toList args.toList ds p := hA0
  rw [Try.params7] at hA hval hsz
  obtain ⟨v0, vs0, d0, ds0, p0, q0, hargs, rfl, rfl, h0, r0⟩ := trodAll_cons hA
  obtain ⟨v1, vs1, d1, ds1, p1, q1, rfl, rfl, rfl, h1, r1⟩ := trodAll_cons r0
  obtain ⟨v2, vs2, d2, ds2, p2, q2, rfl, rfl, rfl, h2, r2⟩ := trodAll_cons r1
  obtain ⟨rfl, rfl, rfl⟩ := trodAll_nil r2
  obtain rfl : args = #[v0, v1, v2] := by cases args; simp_all
  obtain ⟨rfl, rfl⟩ := trodVars_none hV
  have k0 := h0
  have lt0 : ∀ x ∈ p0, x.block < W.heap.size := by obtain ⟨m, hm⟩ := k0; exact DataW.trod_lt m _ _ _ hm
  have k1 := h1
  have lt1 : ∀ x ∈ p1, x.block < W.heap.size := by obtain ⟨m, hm⟩ := k1; exact DataW.trod_lt m _ _ _ hm
  have k2 := h2
  have lt2 : ∀ x ∈ p2, x.block < W.heap.size := by obtain ⟨m, hm⟩ := k2; exact DataW.trod_lt m _ _ _ hm
  obtain ⟨a0, rfl, rfl, rfl, w0⟩ := open_string Try.underlying9 (hval 0 9 v0 rfl rfl) h0
  have z0 : a0.size ≤ reachBytes := by have := sized_string hsz (j := 0) (t := 9) rfl rfl; simpa using this
  obtain ⟨L1, l1, z1⟩ := open_terms (hval 1 43 v1 rfl rfl) h1 (fun n hn => by simpa using List.all_eq_true.1 hsz n (DataW.weights_mem_each (j := 1) (t := 43) rfl rfl n hn))
  obtain ⟨L2, l2, z2⟩ := open_cells (hval 2 23 v2 rfl rfl) h2 (fun n hn => by simpa using List.all_eq_true.1 hsz n (DataW.weights_mem_each (j := 2) (t := 23) rfl rfl n hn))
  clear hA0 hval0
  refine (termMakes_walk a0 v1 L1 v2 L2 z0 W l1 z1 l2 z2).mono fun e W' ⟨he, bel⟩ => ?_
  subst he
  exact ⟨_, rfl, _, _, _, [], _, [], hW', trodAll_mk1 (shut_bool Try.underlying4 _), (trodAll_cons_mk (Below.trod termMakes_laidOut (by kernel_rfl) (of_decide_eq_true (by kernel_rfl)) k0 bel lt0) (trodAll_cons_mk (Below.trod termMakes_laidOut (by kernel_rfl) (of_decide_eq_true (by kernel_rfl)) k1 bel lt1) (trodAll_cons_mk (Below.trod termMakes_laidOut (by kernel_rfl) (of_decide_eq_true (by kernel_rfl)) k2 bel lt2) trodAll_mk0))), rfl, bel.frame _, fun h => by cases h⟩

theorem termMakes_holds : Rows.TermMakesSaid :=
  OpenClaim.holds_of_wide 7 Try.f7 rfl rfl rfl rfl rfl rfl rfl ⟨rfl, rfl, rfl, rfl, rfl⟩ rfl rfl rfl rfl rfl (by kernel_rfl) Try.func7 (by kernel_rfl)
    (of_decide_eq_true (by kernel_rfl)) (by unfold Func.isWrapper; first | (rw [if_pos (by decide +kernel)]; kernel_rfl) | (rw [if_neg (by decide +kernel)]; exact ⟨rfl, rfl⟩))
    (fun os started H enc _ => termMakes_lifted os started H enc)

#print axioms termMakes_holds

end Go.Proofs.Ytjfkkabpfjcceaa
