/-
  Proved: MatchOwn returns true for every two lists of cells and every list of binds, and its arguments read behind the call as before.
-/
import Derived.Test.YtgnllemihbemfaaRows
import Derived.Test.YtgnllemihbemfaaRoom
import Derived.Test.YtgnllemihbemfaaSameB
import Derived.Test.YtgnllemihbemfaaOpenS
import Derived.Test.YtgnllemihbemfaaOpenB
import Derived.ProofKit
import Derived.OpenShut
import Derived.ShutString
import Derived.ChangeOld
import Derived.Below
import Derived.SizedLaws
import Derived.Lib.SmallJoins
namespace Go.Proofs.Ytgnllemihbemfaa
open Go.ChangeShapes Go.WideShapes Go.ChangeAt Go.RowKit Go.Joins
open Go.ChangeMaps (open_string shut_string)
set_option linter.unusedVariables false
set_option maxRecDepth 100000
set_option linter.unusedSimpArgs false

theorem fine_app {L M : List Cl} (h : Fine L) (k : Fine M) : Fine (L ++ M) := by
  intro c hc
  rcases List.mem_append.1 hc with hc | hc
  · exact h c hc
  · exact k c hc
/-- a copy with one cell more: the copy, and the cell behind it -/
theorem kept_of {w : World} {B : Nat} {v : Value} {L : List Cl} (h : Owns w B v (L ++ [⟨⟨#[107, 101, 101, 112]⟩, 0⟩])) (hf : Fine L) :
    ∃ g c, v = .slice (some ⟨g, 0, none⟩) (L.length + 1) c ∧ B ≤ g ∧ g < w.heap.size ∧ L.length + 1 ≤ c ∧ c ≤ maxLen ∧ Lies w (.slice (some ⟨g, 0, none⟩) L.length c) L ∧ w.cell? ⟨g, L.length * 2, none⟩ = some (.string ⟨#[107, 101, 101, 112]⟩) := by
  obtain ⟨g, c, hv, hB, hg, h1, h2, _⟩ := own_block h (by simp)
  rw [show (L ++ [(⟨⟨#[107, 101, 101, 112]⟩, 0⟩ : Cl)]).length = L.length + 1 by simp] at hv h1
  subst hv
  have hin0 : Lies w (.slice (some ⟨g, 0, none⟩) (L.length + 1) c) (L ++ [⟨⟨#[107, 101, 101, 112]⟩, 0⟩]) := Owns.lies h (fine_app hf (fun c hc => by simp at hc; subst hc; exact ⟨by decide, by decide, by decide⟩))
  refine ⟨g, c, rfl, hB, hg, h1, h2, ?_, ?_⟩
  · have := Lies.part (i := 0) (M := L) (R := [⟨⟨#[107, 101, 101, 112]⟩, 0⟩]) hin0 (by simp) (by simp)
    simpa using this
  · obtain ⟨a', cap', hv', _, _, _, HC'⟩ := hin0
    injection hv' with e1 _ _
    subst e1
    obtain ⟨b, off, e, _, d, _⟩ := HC' L.length ⟨⟨#[107, 101, 101, 112]⟩, 0⟩ (by simp)
    cases e
    rw [Nat.zero_add] at d
    exact d
theorem more_keep {W' : World} {B : Nat} {v' : Value} {L : List Cl} (h : W'.ownsRow B 47 2 v' (L.length + 1) (flatC L ++ [.string ⟨#[107, 101, 101, 112]⟩, .int .i64 0])) : Owns W' B v' (L ++ [⟨⟨#[107, 101, 101, 112]⟩, 0⟩]) := by
  show World.ownsRow _ _ _ _ _ _ _
  rw [flatC_append, List.length_append]
  exact h

set_option maxHeartbeats 8000000 in
theorem matchOwn_walk (vp : Value) (P : List Cl) (vt : Value) (T : List Cl) (vl : Value) (l : List Bd) (w : World) (hp : Lies w vp P) (zp : P.length * 24 ≤ 140737488351232) (ht : Lies w vt T) (zt : T.length * 24 ≤ 140737488351232) (hl : LiesB w vl l) (zl : l.length * 40 ≤ 140737488351232 ∧ ∀ b ∈ l, b.val.length * 24 ≤ 140737488355328) :
    Calls Try.prog 8 #[vp, vt, vl] w fun e w' => e = .returned (.bool true) ∧ Below w.heap.size w w' := by
  obtain ⟨i0, hi, hz0, hz1, hz2⟩ := info_parts info59
  have hwk := wakes_any w
  have hop : ∀ w1, Below w.heap.size w w1 → _ := fun w1 hb => own_any w1 vp P (hp.on hb) (by omega)
  have hot : ∀ w1, Below w.heap.size w w1 → _ := fun w1 hb => own_any w1 vt T (ht.on hb) (by omega)
  have hcb : ∀ w1, Below w.heap.size w w1 → _ := fun w1 hb => copyB_any w1 vl l (hl.on hb) zl.1 zl.2
  have hm1 : ∀ w1 a b, Lies w1 a P → Lies w1 b T → _ := fun w1 a b x y => match_any w1 a b P T x y
  have hf1 : ∀ w1 a b, Lies w1 a P → LiesB w1 b l → _ := fun w1 a b x y => fill_any w1 a b P l x y
  have HP : Hid (Lies w vp P) := hp
  have HT : Hid (Lies w vt T) := ht
  have HLB : Hid (LiesB w vl l) := hl
  have HFP : Hid (Fine P) := by obtain ⟨_, _, _, _, _, hf, _⟩ := hp; exact hf
  have HFT : Hid (Fine T) := by obtain ⟨_, _, _, _, _, hf, _⟩ := ht; exact hf
  have HNE : Hid (∀ b ∈ (mt P T).getD [], b.val ≠ []) := by
    intro b hb e
    cases h : mt P T with
    | none => rw [h] at hb; cases hb
    | some acc =>
      rw [h] at hb
      have := ((mt_facts h).2.1 b hb).1
      rw [e] at this
      exact absurd this (by decide)
  have HML : Hid (((mt P T).getD []).length ≤ 64) := by
    cases h : mt P T with
    | none => exact Nat.zero_le _
    | some acc =>
      show acc.length ≤ 64
      have h1 := (mt_facts h).1
      have h2 := varsOf_len P P.length
      rw [List.take_length, ← h1, List.length_map] at h2
      have := (check_zero (mt_some h).1).1
      omega
  have h17p : ∀ w1 a b, Lies w1 a P → Lies w1 b P → _ := fun w1 a b x y => same_self w1 a b P x y
  have h17t : ∀ w1 a b, Lies w1 a T → Lies w1 b T → _ := fun w1 a b x y => same_self w1 a b T x y
  have h13 : ∀ w1 a b, LiesB w1 a l → LiesB w1 b l → _ := fun w1 a b x y => sameB_self w1 a b l x y
  obtain ⟨pa, pc, rfl, hp1, hp2, _⟩ := id hp
  obtain ⟨ta, tc, rfl, ht1, ht2, _⟩ := id ht
  obtain ⟨la, lc, rfl, hl1, hl2, _⟩ := id hl
  clear hp ht hl zl
  generalize (mt P T).getD [] = A at hm1 HNE HML
  generalize ce P T = E at hm1
  generalize (mt P T).isSome = bb at hm1
  generalize fillM P l = MR at hf1
  generalize fillE P l = FE at hf1
  go_enter Try.func8, Try.ntmps8
  go_wp2_with (first
    | (go_at_call 9; refine hwk.mono ?_; rintro e w1 ⟨rfl, hb1⟩)
    | (go_at_call 11; refine (hop _ hb1).mono ?_; rintro e w2 ⟨u2, rfl, o2, _, hc⟩; obtain ⟨a2, c2, hv2, _⟩ := own_cells o2; subst hv2; have hrow2 : w2.ownsRow w1.heap.size 47 2 (.slice a2 P.length c2) P.length (flatC P) := o2; have hs12 := hc.size; have hb2 := hb1.trans (hc.mono hb1.size); have hs1 := hb1.size; clear hc hb1 o2)
    | (at_builtin; refine wpList_append_own _ rfl _ _ 23 rfl w1.heap.size 47 i0 (.agg #[.string ⟨#[]⟩, .int .i64 0]) 2 24 Try.underlying23 hi hz0 hz1 hz2 rfl (by decide) _ P.length (flatC P) rfl (hrow2.alloc _) ⟨w2.heap.size, 0, none⟩ 1 1 [.string ⟨#[107, 101, 101, 112]⟩, .int .i64 0] rfl rfl ?c1 ?c2 ?c3 ?c4 ?c5 ?_))
  case c1 => exact two_cells _ _ _ _
  case c2 => intro u hu; simp at hu; rcases hu with rfl | rfl <;> rfl
  case c3 => unfold maxLen; omega
  case c4 => omega
  case c5 => simp; omega
  intro v3 w3 hown' hgrow _
  obtain ⟨gx, cx, hvx, _, hgx, hcx1, hcx2, lx3, kx3⟩ := kept_of (more_keep hown') HFP.out
  subst hvx
  have hb3 : Below w.heap.size w w3 := (hb2.alloc hb2.size _).grown hgrow (by have := hb2.size; simp; omega) (fun k hk => by have := (hrow2.lt k hk).1; omega)
  clear hown' hgrow hrow2 hb2
  go_wp2_with (first
    | (go_at_call 11; refine (hot _ hb3).mono ?_; rintro e w4 ⟨u4, rfl, o4, _, hc⟩; obtain ⟨a4, c4, hv4, _⟩ := own_cells o4; subst hv4; have hrow4 : w4.ownsRow w3.heap.size 47 2 (.slice a4 T.length c4) T.length (flatC T) := o4; have hs34 := hc.size; have lx4 := lx3.on hc; have kx4 := (hc.cell (p := ⟨gx, P.length * 2, none⟩) hgx).trans kx3; have hb4 := hb3.trans (hc.mono hb3.size); have hs3 := hb3.size; have hc4 := hc; clear hb3 o4 hc)
    | (at_builtin; refine wpList_append_own _ rfl _ _ 23 rfl w3.heap.size 47 i0 (.agg #[.string ⟨#[]⟩, .int .i64 0]) 2 24 Try.underlying23 hi hz0 hz1 hz2 rfl (by decide) _ T.length (flatC T) rfl (hrow4.alloc _) ⟨w4.heap.size, 0, none⟩ 1 1 [.string ⟨#[107, 101, 101, 112]⟩, .int .i64 0] rfl rfl ?c1 ?c2 ?c3 ?c4 ?c5 ?_))
  case c1 => exact two_cells _ _ _ _
  case c2 => intro u hu; simp at hu; rcases hu with rfl | rfl <;> rfl
  case c3 => unfold maxLen; omega
  case c4 => omega
  case c5 => simp; omega
  intro v5 w5 hown' hgrow _
  obtain ⟨gy, cy, hvy, _, hgy, hcy1, hcy2, ly5, ky5⟩ := kept_of (more_keep hown') HFT.out
  subst hvy
  have hb35 : Below w3.heap.size w3 w5 := (hc4.alloc hs34 _).grown hgrow (by simp; omega) (fun k hk => (hrow4.lt k hk).1)
  have hb5 : Below w.heap.size w w5 := (hb4.alloc hb4.size _).grown hgrow (by have := hb4.size; simp; omega) (fun k hk => by have := (hrow4.lt k hk).1; omega)
  have lx5 := lx3.on hb35
  have kx5 := (hb35.cell (p := ⟨gx, P.length * 2, none⟩) hgx).trans kx3
  have hgx5 : gx < w5.heap.size := Nat.lt_of_lt_of_le hgx hb35.size
  clear hown' hgrow hrow4 hb4 lx4 kx4 hc4 lx3 kx3
  go_wp2_with (first
    | (go_at_call 15; refine (hcb _ hb5).mono ?_; rintro e w6 ⟨mv, rfl, _, m6, hc⟩; have lx6 := lx5.on hc; have ly6 := ly5.on hc; have kx6 := (hc.cell (p := ⟨gx, P.length * 2, none⟩) hgx5).trans kx5; have ky6 := (hc.cell (p := ⟨gy, T.length * 2, none⟩) hgy).trans ky5; have hgx6 : gx < w6.heap.size := Nat.lt_of_lt_of_le hgx5 hc.size; have hgy6 : gy < w6.heap.size := Nat.lt_of_lt_of_le hgy hc.size; have hb6 := hb5.trans (hc.mono hb5.size); clear hc hb5 lx5 ly5 kx5 ky5))
  have HLX : Hid (Lies w6 (.slice (some ⟨gx, 0, none⟩) P.length cx) P) := lx6
  have HLY : Hid (Lies w6 (.slice (some ⟨gy, 0, none⟩) T.length cy) T) := ly6
  have HM6 : Hid (LiesB w6 mv l) := m6
  have HB6 : Hid (Below w.heap.size w w6) := hb6
  have bx1 : (P.length : Int) ≤ (cx : Int) := by omega
  have bx2 : P.length ≤ cx := by omega
  have bx3 : ¬ cx < P.length := by omega
  have bx4 : (0 : Int) ≤ (P.length : Int) := by omega
  have by1 : (T.length : Int) ≤ (cy : Int) := by omega
  have by2 : T.length ≤ cy := by omega
  have by3 : ¬ cy < T.length := by omega
  have by4 : (0 : Int) ≤ (T.length : Int) := by omega
  have HS0 : Below w6.heap.size w6 w6.drew := (Below.refl _ w6).drew
  have hs6 := hb6.size
  clear lx6 ly6 m6 hb6 hop hot hcb hwk
  go_region_held3 (fun w' => Below w6.heap.size w6 w') (first | exact HS0 | exact HS9 | go_keep)
    (first | (go_at_call 10; refine (hm1 _ _ _ (HLX.out.on (by assumption)) (HLY.out.on (by assumption))).mono ?_; rintro e w7 ⟨a7, rfl, o7, hc⟩; have HS9 : Below w6.heap.size w6 w7 := HS0.trans hc; have HO7 : Hid (OwnsB w7 w6.heap.size a7 A) := o7; clear o7 hc))
  obtain ⟨aa, ac, hav, ha1, ha2⟩ := HO7.out.form
  subst hav
  go_wp2_with (first
    | (go_at_call 14; refine (hf1 _ _ _ (HLX.out.on HS9) (HM6.out.on HS9)).mono ?_; rintro e w8 ⟨uv, rfl, o8, hc⟩; obtain ⟨ua, uc, huv, u1, u2, _⟩ := own_cells o8; subst huv))
  have hmid : Mid w8 w8 w6.heap.size w7.heap.size aa A := mid_of HO7.out HNE.out rfl hc
  have HU8 : Hid (Owns w8 w7.heap.size (.slice ua MR.length uc) MR) := o8
  have HB68 : Hid (Below w6.heap.size w6 w8) := HS9.trans (hc.mono HS9.size)
  have s67 := HS9.size
  have hml : A.length ≤ 64 := HML.out
  have hul : MR.length ≤ 9223372036854775807 := by unfold maxLen at u2; omega
  clear o8 hc HS9 hf1 hm1 HO7 HNE HML HS0
  go_loopw [56] (fun i wr => ∃ j : Nat, j ≤ A.length ∧ i = .int .i64 (j : Nat) ∧ Mid w8 wr w6.heap.size w7.heap.size aa A) (fun i _ => A.length - (intOf i).toNat)
  case atStart => exact ⟨0, Nat.zero_le _, rfl, hmid⟩
  case round =>
    obtain ⟨j, hj, rfl, hm⟩ := hrel
    clear hmid
    by_cases hlt : j < A.length
    · obtain ⟨bd, hbd⟩ : ∃ b, A[j]? = some b := ⟨A[j], List.getElem?_eq_getElem hlt⟩
      have HBD : Hid (A[j]? = some bd) := hbd
      obtain ⟨gr, g2, cp2, cr, rfl, _, hcx, _, _, hc3, hc4, _⟩ := hm.room j bd hbd
      have hji : (j : Int) < (A.length : Int) := by omega
      have hlb : bd.val.length ≤ 9223372036854775807 := by unfold maxLen at hc4; omega
      clear hbd
      go_wp2_with fail
      go_loopw [65] (fun i wr => ∃ q : Nat, q ≤ bd.val.length ∧ i = .int .i64 (q : Nat) ∧ Mid w8 wr w6.heap.size w7.heap.size (some ⟨gr, 0, none⟩) A) (fun i _ => bd.val.length - (intOf i).toNat)
      case atStart => exact ⟨0, Nat.zero_le _, rfl, hm⟩
      case round =>
        obtain ⟨q, hq, rfl, hm2⟩ := hrel
        clear hm hcx
        by_cases hql : q < bd.val.length
        · obtain ⟨gr', g3, cp3, cr3, e3, _, hcx3, hlo, hhi, hc5, hc6, hbk⟩ := hm2.room j bd HBD.out
          cases e3
          obtain ⟨⟨u, hu⟩, hfz⟩ := hbk.at hql
          have hqi : (q : Int) < (bd.val.length : Int) := by omega
          have HM3 : Hid (Mid w8 (wr.setCell ⟨g3, q * 2, none⟩ (.string ⟨#[120]⟩)) w6.heap.size w7.heap.size (some ⟨gr, 0, none⟩) A) := hm2.store hlo hhi hbk _
          clear hm2 hbk
          go_wp2_with fail
          go_roundw
          case rel => exact ⟨q + 1, by omega, by go_num, HM3.out⟩
          case measure => simp [intOf]; omega
        · have hqi : ¬ (q : Int) < (bd.val.length : Int) := by omega
          go_wp2_with fail
          go_roundw
          case rel => exact ⟨j + 1, by omega, by go_num, hm2⟩
          case measure => simp [intOf]; omega
    · have hji : ¬ (j : Int) < (A.length : Int) := by omega
      have hoM : Owns wr w7.heap.size (.slice ua MR.length uc) MR := row_kept HU8.out (fun k hk _ => hm.high k hk)
      have HMR : Hid (∀ q, q < MR.length → ∃ gm, ua = some ⟨gm, 0, none⟩ ∧ w7.heap.size ≤ gm ∧ BlockOk wr gm MR.length) := fun q hq => by
        obtain ⟨gm, cm, e, h1, _, _, _, h2⟩ := own_block hoM (by intro e; rw [e] at hq; simp at hq)
        injection e with e1 _ _
        exact ⟨gm, e1, h1, h2⟩
      have HMID : Hid (Mid w8 wr w6.heap.size w7.heap.size aa A) := hm
      clear hm hoM
      obtain ⟨wA, hwA⟩ : ∃ wA, wA = wr := ⟨_, rfl⟩
      have HA : Hid (wA = wr) := hwA
      clear hwA
      go_wp2_with fail
      go_loopw [80] (fun i wr => ∃ q : Nat, q ≤ MR.length ∧ i = .int .i64 (q : Nat) ∧ Below w7.heap.size wA wr ∧ Hid (∀ q, q < MR.length → ∃ gm, ua = some ⟨gm, 0, none⟩ ∧ w7.heap.size ≤ gm ∧ BlockOk wr gm MR.length)) (fun i _ => MR.length - (intOf i).toNat)
      case atStart => exact ⟨0, Nat.zero_le _, rfl, by rw [HA.out]; exact Below.refl _ _, HMR⟩
      case round =>
        obtain ⟨q, hq, rfl, hbA, HR3⟩ := hrel
        by_cases hql : q < MR.length
        · obtain ⟨gm, rfl, hgm, hbk⟩ := HR3.out q hql
          obtain ⟨⟨u, hu⟩, hfz⟩ := hbk.at hql
          have hqi : (q : Int) < (MR.length : Int) := by omega
          have hbA2 : Below w7.heap.size wA (wr.setCell ⟨gm, q * 2, none⟩ (.string ⟨#[120]⟩)) := hbA.setCell hgm _
          have HN4 : Hid (∀ q', q' < MR.length → ∃ gm', some (⟨gm, 0, none⟩ : Addr) = some ⟨gm', 0, none⟩ ∧ w7.heap.size ≤ gm' ∧ BlockOk (wr.setCell ⟨gm, q * 2, none⟩ (.string ⟨#[120]⟩)) gm' MR.length) := fun q' hq' => ⟨gm, rfl, hgm, hbk.set _ _ _⟩
          clear HR3 hbk hbA
          go_wp2_with fail
          go_roundw
          case rel => exact ⟨q + 1, by omega, by go_num, hbA2, HN4⟩
          case measure => simp [intOf]; omega
        · have hqi : ¬ (q : Int) < (MR.length : Int) := by omega
          have hmA : Mid w8 wA w6.heap.size w7.heap.size aa A := by rw [HA.out]; exact HMID.out
          have hb6F : Below w6.heap.size w6 wr := (HB68.out.trans hmA.low).trans (hbA.mono s67)
          have lxF := HLX.out.on hb6F
          have lyF := HLY.out.on hb6F
          have mF := HM6.out.on hb6F
          have kxF := (hb6F.cell (p := ⟨gx, P.length * 2, none⟩) hgx6).trans kx6
          have kyF := (hb6F.cell (p := ⟨gy, T.length * 2, none⟩) hgy6).trans ky6
          have hbF : Below w.heap.size w wr := HB6.out.trans (hb6F.mono hs6)
          have ipx : (P.length : Int) < ((P.length + 1 : Nat) : Int) := by omega
          have ipy : (T.length : Int) < ((T.length + 1 : Nat) : Int) := by omega
          clear HR3 HMR hbA hmA hb6F kx6 ky6
          go_wp2_with (first
            | (go_at_call 17; refine (h17p _ _ _ lxF (HP.out.on hbF)).mono ?_; rintro e w9 ⟨rfl, hc⟩; have ly9 := lyF.on hc; have m9 := mF.on hc; have hb9 := hbF.trans (hc.mono hbF.size); clear hc lxF lyF mF hbF kxF kyF)
            | (go_at_call 17; refine (h17t _ _ _ ly9 (HT.out.on hb9)).mono ?_; rintro e w10 ⟨rfl, hc⟩; have m10 := m9.on hc; have hb10 := hb9.trans (hc.mono hb9.size); clear hc ly9 m9 hb9)
            | (go_at_call 13; refine (h13 _ _ _ m10 (HLB.out.on hb10)).mono ?_; rintro e w11 ⟨rfl, hc⟩; have hb11 := hb10.trans (hc.mono hb10.size)))
          go_ret
          exact ⟨rfl, hb11⟩

theorem matchOwn_own : ownKnob Try.prog.godebug = none := by kernel_rfl
theorem matchOwn_laidOut : laidOutB Try.prog = true := by kernel_rfl

set_option maxRecDepth 100000 in
theorem matchOwn_lifted (os : Os) (started : os.Started) (H : Type) (enc : TypeId × Value → H) :
    ReturnsInHanded {} Try.checked os 8 .any (Rows.matchOwnSpec.pre6 enc Try.prog Try.f8 Rows.matchOwnRow.domain false) (Rows.matchOwnSpec.post enc Try.prog Try.f8 false true false false) := by
  refine returnsInHanded_of_change_sized (C := Try.checked) matchOwn_own started (by kernel_rfl) Try.func8
    (ChangeSpec.witness6 (enc := enc) (C := Try.checked) false ⟨#[], #[.slice none 0 0, .slice none 0 0, .slice none 0 0], []⟩ 8 (by kernel_rfl) (by kernel_rfl) (by kernel_rfl) (by kernel_rfl)) ?_
  intro W base args ds gs before hval0 hW hcnd hsz0 _
  have hsz : (DataW.weightsEach Try.prog (Try.f8.params.toList ++ Rows.matchOwnSpec.plain.varTypes Try.prog) (ds ++ gs)).all (· ≤ reachBytes) = true := hsz0
  have hval : ∀ (j : Nat) t v, Try.f8.params[j]? = some t → args[j]? = some v → Value.okWide Try.prog W .any base t v := hval0
  have hW' := hW
  obtain ⟨p, q, hA0, hV, rfl, hfz, hnd⟩ := hW
  have hA : DataW.TrodAll enc Try.prog W 0 (fun _ => true) true Try.f8.params.toList args.toList ds p := hA0
  rw [Try.params8] at hA hval hsz
  obtain ⟨v0, vs0, d0, ds0, p0, q0, hargs, rfl, rfl, h0, r0⟩ := trodAll_cons hA
  obtain ⟨v1, vs1, d1, ds1, p1, q1, rfl, rfl, rfl, h1, r1⟩ := trodAll_cons r0
  obtain ⟨v2, vs2, d2, ds2, p2, q2, rfl, rfl, rfl, h2, r2⟩ := trodAll_cons r1
  obtain ⟨rfl, rfl, rfl⟩ := trodAll_nil r2
  obtain rfl : args = #[v0, v1, v2] := by cases args; simp_all
  obtain ⟨rfl, rfl⟩ := trodVars_none hV
  have k0 := h0
  have lt0 : ∀ x ∈ p0, x.block < W.heap.size := by obtain ⟨m, hm⟩ := k0; exact DataW.trod_lt m _ _ _ hm
  have k1 := h1
  have lt1 : ∀ x ∈ p1, x.block < W.heap.size := by obtain ⟨m, hm⟩ := k1; exact DataW.trod_lt m _ _ _ hm
  have k2 := h2
  have lt2 : ∀ x ∈ p2, x.block < W.heap.size := by obtain ⟨m, hm⟩ := k2; exact DataW.trod_lt m _ _ _ hm
  obtain ⟨L0, l0, z0⟩ := open_cellsS (hval 0 23 v0 rfl rfl) h0 (fun n hn => by simpa using List.all_eq_true.1 hsz n (DataW.weights_mem_each (j := 0) (t := 23) rfl rfl n hn))
  obtain ⟨L1, l1, z1⟩ := open_cellsS (hval 1 23 v1 rfl rfl) h1 (fun n hn => by simpa using List.all_eq_true.1 hsz n (DataW.weights_mem_each (j := 1) (t := 23) rfl rfl n hn))
  obtain ⟨L2, l2, z2⟩ := open_binds (hval 2 25 v2 rfl rfl) h2 (fun n hn => by simpa using List.all_eq_true.1 hsz n (DataW.weights_mem_each (j := 2) (t := 25) rfl rfl n hn))
  clear hA0 hval0
  refine (matchOwn_walk v0 L0 v1 L1 v2 L2 W l0 z0 l1 z1 l2 z2).mono fun e W' ⟨he, bel⟩ => ?_
  subst he
  exact ⟨_, rfl, _, _, _, [], _, [], hW', trodAll_mk1 (shut_bool Try.underlying4 _), (trodAll_cons_mk (Below.trod matchOwn_laidOut (by kernel_rfl) (of_decide_eq_true (by kernel_rfl)) k0 bel lt0) (trodAll_cons_mk (Below.trod matchOwn_laidOut (by kernel_rfl) (of_decide_eq_true (by kernel_rfl)) k1 bel lt1) (trodAll_cons_mk (Below.trod matchOwn_laidOut (by kernel_rfl) (of_decide_eq_true (by kernel_rfl)) k2 bel lt2) trodAll_mk0))), rfl, bel.frame _, fun h => by cases h⟩

theorem matchOwn_holds : Rows.MatchOwnSaid :=
  OpenClaim.holds_of_wide 8 Try.f8 rfl rfl rfl rfl rfl rfl rfl ⟨rfl, rfl, rfl, rfl, rfl⟩ rfl rfl rfl rfl rfl (by kernel_rfl) Try.func8 (by kernel_rfl)
    (of_decide_eq_true (by kernel_rfl)) (by unfold Func.isWrapper; first | (rw [if_pos (by decide +kernel)]; kernel_rfl) | (rw [if_neg (by decide +kernel)]; exact ⟨rfl, rfl⟩))
    (fun os started H enc _ => matchOwn_lifted os started H enc)

#print axioms matchOwn_holds

end Go.Proofs.Ytgnllemihbemfaa
