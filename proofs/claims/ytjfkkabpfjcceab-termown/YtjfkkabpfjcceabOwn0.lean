/-
  Proved: TermOwn returns true for every list of cells and every list of terms, and its arguments read behind the call as before.
-/
import Derived.Test.YtjfkkabpfjcceabRows
import Derived.Test.YtjfkkabpfjcceabWake
import Derived.Test.YtjfkkabpfjcceabOpenT
import Derived.Test.YtjfkkabpfjcceabRoom
import Derived.ProofKit
import Derived.OpenShut
import Derived.ShutString
import Derived.ChangeOld
import Derived.Below
import Derived.SizedLaws
import Derived.Lib.SmallJoins
namespace Go.Proofs.Ytjfkkabpfjcceab
open Go.ChangeShapes Go.WideShapes Go.ChangeAt Go.RowKit Go.Joins
open Go.ChangeMaps (open_string shut_string)
set_option linter.unusedVariables false
set_option maxRecDepth 100000
set_option linter.unusedSimpArgs false

theorem OwnsT.form {w : World} {B : Nat} {v : Value} {K : List (List Cl)} (h : OwnsT w B v K) : ∃ a c, v = .slice a K.length c ∧ K.length ≤ c ∧ c ≤ maxLen := by
  obtain ⟨vs, h1, _⟩ := h
  obtain ⟨a, c, hv, h2, h3, _⟩ := own_cells h1
  exact ⟨a, c, hv, h2, h3⟩
theorem sameAll_self (w : World) (u v : Value) (K : List (List Cl)) (hu : LiesT w u K) (hv : LiesT w v K) :
    Calls Try.prog 10 #[u, v] w fun e w' => e = .returned (.bool true) ∧ Below w.heap.size w w' := by
  have hm : K.length ≤ 9223372036854775807 := by obtain ⟨_, _, _, h1, h2, _⟩ := hu; unfold maxLen at h2; omega
  have := sameAll_any w u v K K hu hv hm
  rwa [decide_eq_true rfl] at this
theorem same_self (w : World) (u v : Value) (L : List Cl) (hu : Lies w u L) (hv : Lies w v L) :
    Calls Try.prog 12 #[u, v] w fun e w' => e = .returned (.bool true) ∧ Below w.heap.size w w' := by
  have := same_any w u v L L hu hv
  rwa [decide_eq_true rfl] at this

set_option maxHeartbeats 4000000 in
theorem termOwn_walk (v : Value) (L : List Cl) (kv : Value) (K : List (List Cl)) (w : World) (hl : Lies w v L) (hz : L.length * 24 ≤ 140737488351232) (hK : LiesT w kv K) (hzk : K.length * 24 ≤ 140737488351232 ∧ ∀ l ∈ K, l.length * 24 ≤ 140737488351232) :
    Calls Try.prog 3 #[v, kv] w fun e w' => e = .returned (.bool true) ∧ Below w.heap.size w w' := by
  obtain ⟨i0, hi, hz0, hz1, hz2⟩ := info_parts info59
  have hwk := wakes_any w
  have HL : Hid (Lies w v L) := hl
  have HK : Hid (LiesT w kv K) := hK
  have hcp : ∀ w1, Below w.heap.size w w1 → _ := fun w1 hb => copy_any w1 v L (HL.out.on hb) (by omega)
  have HF : Hid (Fine L) := by obtain ⟨_, _, _, _, _, hf, _⟩ := hl; exact hf
  have HFK : Hid (∀ l ∈ K, Fine l) := fun l hm => by
    obtain ⟨j, hj⟩ := List.getElem?_of_mem hm
    obtain ⟨_, _, _, _, _, HC⟩ := hK
    obtain ⟨_, _, _, _, _, _, hlx⟩ := HC j l hj
    obtain ⟨_, _, _, _, _, hf, _⟩ := hlx
    exact hf
  have h6 : ∀ w1, Below w.heap.size w w1 → _ := fun w1 hb => copyAll_any w1 kv K (HK.out.on hb) (by have := hzk.1; omega) (fun l hl => by have := hzk.2 l hl; omega)
  obtain ⟨KS, ks1, ks2, ks3, h7, h11⟩ := kids_owns L
  obtain ⟨TX, h9⟩ := print_text L
  obtain ⟨CE, hCE⟩ : ∃ CE, check L = CE := ⟨_, rfl⟩
  rw [hCE] at h7 h9 h11
  have HNE : Hid (∀ l ∈ KS, l ≠ []) := ks1
  have HFS : Hid (∀ l ∈ KS, Fine l) := ks3
  have HKC : Hid (KS.length ≤ 64) := ks2
  have hst : (TX.toList == TX.toList) = true := by simp
  have H11 : Hid (CE = 0 → ∀ w v, Lies w v L → Calls Try.prog 11 #[v] w fun e w' => ∃ v', e = .returned v' ∧ OwnsT w' w.heap.size v' KS ∧ Below w.heap.size w w') := h11
  have h10b : ∀ w1 u1 u2, LiesT w1 u1 KS → LiesT w1 u2 KS → _ := fun w1 u1 u2 p q => sameAll_self w1 u1 u2 KS p q
  have h10l : ∀ w1 u1 u2, LiesT w1 u1 K → LiesT w1 u2 K → _ := fun w1 u1 u2 p q => sameAll_self w1 u1 u2 K p q
  have h12 : ∀ w1 u1 u2, Lies w1 u1 L → Lies w1 u2 L → _ := fun w1 u1 u2 p q => same_self w1 u1 u2 L p q
  obtain ⟨a, cap, rfl, hc1, hc2, _, _⟩ := hl
  obtain ⟨ka0, kc0, rfl, hk1, hk2, _⟩ := hK
  clear hzk hCE ks1 ks3 h11
  go_enter Try.func3, Try.ntmps3
  go_wp2_with (first
    | (go_at_call 4; refine hwk.mono ?_; rintro e w1 ⟨rfl, hb1⟩)
    | (go_at_call 5; refine (hcp _ hb1).mono ?_; rintro e w2 ⟨v2, rfl, ho2, hb2⟩; obtain ⟨a2, c2, hv2, _⟩ := own_cells ho2; subst hv2; have hb12 := hb2.size; replace hb2 := hb1.trans (hb2.mono hb1.size); have hrow2 : w2.ownsRow w1.heap.size 28 2 (.slice a2 L.length c2) L.length (flatC L) := ho2)
    | (at_builtin; refine wpList_append_own _ rfl _ _ 23 rfl w1.heap.size 28 i0 (.agg #[.string ⟨#[]⟩, .int .i64 0]) 2 24 Try.underlying23 hi hz0 hz1 hz2 rfl (by decide) _ L.length (flatC L) rfl (hrow2.alloc _) ⟨w2.heap.size, 0, none⟩ 1 1 [.string ⟨#[107, 101, 101, 112]⟩, .int .i64 0] rfl rfl ?c1 ?c2 ?c3 ?c4 ?c5 ?_))
  case c1 => exact two_cells _ _ _ _
  case c2 => intro u hu; simp at hu; rcases hu with rfl | rfl <;> rfl
  case c3 => unfold maxLen; omega
  case c4 => omega
  case c5 => have := hb12; simp; omega
  intro v3 w3 hown' hgrow _
  have hO3 : Owns w3 w1.heap.size v3 (L ++ [⟨⟨#[107, 101, 101, 112]⟩, 0⟩]) := by
    show World.ownsRow _ _ _ _ _ _ _
    rw [flatC_append, List.length_append]
    exact hown'
  have hb3 : Below w.heap.size w w3 := (hb2.alloc hb2.size _).grown hgrow (by have := hb2.size; simp; omega) (fun k hk => by have := (hrow2.lt k hk).1; have := hb1.size; omega)
  obtain ⟨gi, ci, hv3, _, hgi, hci, hcm, _⟩ := own_block hO3 (by simp)
  rw [show (L ++ [(⟨⟨#[107, 101, 101, 112]⟩, 0⟩ : Cl)]).length = L.length + 1 by simp] at hv3 hci
  subst hv3
  have hin0 : Lies w3 (.slice (some ⟨gi, 0, none⟩) (L.length + 1) ci) (L ++ [⟨⟨#[107, 101, 101, 112]⟩, 0⟩]) := Owns.lies hO3 (fine_append HF.out (fun c hc => by simp at hc; subst hc; exact ⟨by decide, by decide, by decide⟩))
  have hin3 : Lies w3 (.slice (some ⟨gi, 0, none⟩) L.length ci) L := by
    have := Lies.part (i := 0) (M := L) (R := [⟨⟨#[107, 101, 101, 112]⟩, 0⟩]) hin0 (by simp) (by simp)
    simpa using this
  have ck3 : w3.cell? ⟨gi, L.length * 2, none⟩ = some (.string ⟨#[107, 101, 101, 112]⟩) := by
    obtain ⟨a', cap', hv', _, _, _, HC'⟩ := hin0
    injection hv' with e1 _ _
    subst e1
    obtain ⟨b, off, e, _, d, _⟩ := HC' L.length ⟨⟨#[107, 101, 101, 112]⟩, 0⟩ (by simp)
    cases e
    rw [Nat.zero_add] at d
    exact d
  clear hown' hgrow hO3 hin0 hrow2 ho2 hb2 hb1 hb12
  go_wp2_with (first
    | (go_at_call 6; refine (h6 _ hb3).mono ?_; rintro e w4 ⟨lv, rfl, hoL, hb4⟩; have T4 := hoL.lies HFK.out; have hin4 := hin3.on hb4; have ck4 := (hb4.cell (p := ⟨gi, L.length * 2, none⟩) hgi).trans ck3; have hgi4 : gi < w4.heap.size := Nat.lt_of_lt_of_le hgi hb4.size; replace hb4 := hb3.trans (hb4.mono hb3.size); clear hb3 hin3 ck3 hoL)
    | (go_at_call 7; refine (h7 _ _ hin4).mono ?_; rintro e w5 ⟨av, rfl, hoA, hb45⟩; obtain ⟨aa, ac, hav, hac1, hac2⟩ := hoA.form; subst hav; have hin5 := hin4.on hb45; have T5 := T4.on hb45; have HIN4 : Hid (Lies w4 (.slice (some ⟨gi, 0, none⟩) L.length ci) L) := hin4; clear hin4)
    | (go_at_call 7; refine (h7 _ _ hin5).mono ?_; rintro e w6 ⟨bv, rfl, hoB, hb56⟩; have T6 := T5.on hb56; clear hin5 T5)
    | (go_at_call 8; obtain ⟨E, M, hmk⟩ := make_owns _ ⟨#[102]⟩ _ K (by decide) T6; refine hmk.mono ?_; rintro e w7 ⟨mv, rfl, hoM, hb67⟩; obtain ⟨ma, mc, hmv, _⟩ := own_cells hoM; subst hmv))
  have hmid : Mid w7 w7 w4.heap.size w5.heap.size aa KS := mid_of hoA HNE.out rfl (hb56.trans (hb67.mono hb56.size))
  have HB : Hid (OwnsT w6 w5.heap.size bv KS) := hoB
  have HM : Hid (Owns w7 w6.heap.size (.slice ma M.length mc) M) := hoM
  have s45 := hb45.size
  have s56 := hb56.size
  have s67 := hb67.size
  have HB47 : Hid (Below w4.heap.size w4 w7) := (hb45.trans (hb56.mono s45)).trans (hb67.mono (Nat.le_trans s45 s56))
  have HB67 : Hid (Below w6.heap.size w6 w7) := hb67
  have HB4 : Hid (Below w.heap.size w w4) := hb4
  have HT4 : Hid (LiesT w4 lv K) := T4
  have s4 := hb4.size
  clear hoA hoB hoM hb45 hb56 hb67 hb4 T6 hmk h6 h7 hcp hwk T4
  obtain ⟨bA, bC, hbv, hbc1, hbc2⟩ := HB.out.form
  subst hbv
  go_loopw [52] (fun i wr => ∃ j : Nat, j ≤ KS.length ∧ i = .int .i64 (j : Nat) ∧ Mid w7 wr w4.heap.size w5.heap.size aa KS) (fun i _ => KS.length - (intOf i).toNat)
  case atStart => exact ⟨0, Nat.zero_le _, rfl, hmid⟩
  case round =>
    obtain ⟨j, hj, rfl, hm⟩ := hrel
    clear hmid
    by_cases hlt : j < KS.length
    · obtain ⟨l, hlj⟩ : ∃ l, KS[j]? = some l := ⟨KS[j], List.getElem?_eq_getElem hlt⟩
      have HLJ : Hid (KS[j]? = some l) := hlj
      obtain ⟨gr, g2, cp2, cr, rfl, _, hcx, _, _, hc3, hc4, _⟩ := hm.room j l hlj
      have hji : (j : Int) < (KS.length : Int) := by omega
      clear hlj
      go_wp2_with fail
      go_loopw [60] (fun i wr => ∃ q : Nat, q ≤ l.length ∧ i = .int .i64 (q : Nat) ∧ Mid w7 wr w4.heap.size w5.heap.size (some ⟨gr, 0, none⟩) KS) (fun i _ => l.length - (intOf i).toNat)
      case atStart => exact ⟨0, Nat.zero_le _, rfl, hm⟩
      case round =>
        obtain ⟨q, hq, rfl, hm2⟩ := hrel
        clear hm hcx
        by_cases hql : q < l.length
        · obtain ⟨gr', g3, cp3, cr3, e3, _, hcx3, hlo, hhi, hc5, hc6, hbk⟩ := hm2.room j l HLJ.out
          cases e3
          obtain ⟨⟨u, hu⟩, hfz⟩ := hbk.at hql
          have hqi : (q : Int) < (l.length : Int) := by omega
          have hlb : l.length ≤ 9223372036854775807 := by unfold maxLen at hc6; omega
          have HM3 : Hid (Mid w7 (wr.setCell ⟨g3, q * 2, none⟩ (.string ⟨#[120]⟩)) w4.heap.size w5.heap.size (some ⟨gr, 0, none⟩) KS) := hm2.store hlo hhi hbk _
          clear hm2 hbk
          go_wp2_with fail
          go_roundw
          case rel => exact ⟨q + 1, by omega, by go_num, HM3.out⟩
          case measure => simp [intOf]; omega
        · have hqi : ¬ (q : Int) < (l.length : Int) := by omega
          go_wp2_with fail
          go_roundw
          case rel => exact ⟨j + 1, by omega, by go_num, hm2⟩
          case measure => simp [intOf]; omega
    · have hji : ¬ (j : Int) < (KS.length : Int) := by omega
      have hoM : Owns wr w6.heap.size (.slice ma M.length mc) M := row_kept HM.out (fun k hk _ => hm.high k (by omega))
      have HMR : Hid (∀ q, q < M.length → ∃ gm, ma = some ⟨gm, 0, none⟩ ∧ w6.heap.size ≤ gm ∧ BlockOk wr gm M.length) := fun q hq => by
        obtain ⟨gm, cm, e, h1, _, _, _, h2⟩ := own_block hoM (by intro e; rw [e] at hq; simp at hq)
        injection e with e1 _ _
        exact ⟨gm, e1, h1, h2⟩
      obtain ⟨hml, hmm⟩ : M.length ≤ mc ∧ mc ≤ maxLen := by
        obtain ⟨a', c', e, h1, h2, _⟩ := own_cells hoM
        injection e with _ _ e3
        subst e3
        exact ⟨h1, h2⟩
      have hmb : M.length ≤ 9223372036854775807 := by unfold maxLen at hmm; omega
      have HMID : Hid (Mid w7 wr w4.heap.size w5.heap.size aa KS) := hm
      clear hm hoM
      obtain ⟨wA, hwA⟩ : ∃ wA, wA = wr := ⟨_, rfl⟩
      have HA : Hid (wA = wr) := hwA
      go_wp2_with fail
      go_loopw [74] (fun i wr => ∃ q : Nat, q ≤ M.length ∧ i = .int .i64 (q : Nat) ∧ Below w6.heap.size wA wr ∧ Hid (∀ q, q < M.length → ∃ gm, ma = some ⟨gm, 0, none⟩ ∧ w6.heap.size ≤ gm ∧ BlockOk wr gm M.length)) (fun i _ => M.length - (intOf i).toNat)
      case atStart => exact ⟨0, Nat.zero_le _, rfl, by rw [HA.out]; exact Below.refl _ _, HMR⟩
      case round =>
        obtain ⟨q, hq, rfl, hbA, HR3⟩ := hrel
        by_cases hql : q < M.length
        · obtain ⟨gm, rfl, hgm, hbk⟩ := HR3.out q hql
          obtain ⟨⟨u, hu⟩, hfz⟩ := hbk.at hql
          have hqi : (q : Int) < (M.length : Int) := by omega
          have HN3 : Hid (∀ q, q < M.length → ∃ gm', some (⟨gm, 0, none⟩ : Addr) = some ⟨gm', 0, none⟩ ∧ w6.heap.size ≤ gm' ∧ BlockOk (wr.setCell ⟨gm, q * 2, none⟩ (.string ⟨#[120]⟩)) gm' M.length) := fun q' hq' => ⟨gm, rfl, hgm, hbk.set _ _ _⟩
          have hbA2 : Below w6.heap.size wA (wr.setCell ⟨gm, q * 2, none⟩ (.string ⟨#[120]⟩)) := hbA.setCell hgm _
          have HN4 : Hid (∀ q', q' < M.length → ∃ gm', some (⟨gm, 0, none⟩ : Addr) = some ⟨gm', 0, none⟩ ∧ w6.heap.size ≤ gm' ∧ BlockOk (wr.setCell ⟨gm, q * 2, none⟩ (.string ⟨#[120]⟩)) gm' M.length) := fun q' hq' => ⟨gm, rfl, hgm, hbk.set _ _ _⟩
          clear HR3 hbk hbA HN3
          go_wp2_with fail
          go_roundw
          case rel => exact ⟨q + 1, by omega, by go_num, hbA2, HN4⟩
          case measure => simp [intOf]; omega
        · have hqi : ¬ (q : Int) < (M.length : Int) := by omega
          have hmA : Mid w7 wA w4.heap.size w5.heap.size aa KS := by rw [HA.out]; exact HMID.out
          have hb4F : Below w4.heap.size w4 wr := (HB47.out.trans hmA.low).trans (hbA.mono (by omega))
          have hinF := HIN4.out.on hb4F
          have TF := HT4.out.on hb4F
          have ckF := (hb4F.cell (p := ⟨gi, L.length * 2, none⟩) hgi4).trans ck4
          have hgiF : gi < wr.heap.size := Nat.lt_of_lt_of_le hgi4 hb4F.size
          have hbF : Below w.heap.size w wr := HB4.out.trans (hb4F.mono s4)
          have SB : LiesT wr (.slice bA KS.length bC) KS := by
            have := HB.out.kept (w' := wr) (fun k hk1 hk2 => by
              rw [hbA.block k hk2, hmA.high k hk1, HB67.out.block k hk2])
            exact this.lies HFS.out
          clear HR3 HMR hbA hmA hb4F ck4
          by_cases hce : CE = 0
          · have h11 := H11.out hce
            subst hce
            go_wp2_with (first
              | (go_at_call 9; refine (h9 _ _ (HL.out.on hbF)).mono ?_; rintro e w8 ⟨rfl, hb8⟩; have in8 := hinF.on hb8; have T8 := TF.on hb8; have S8 := SB.on hb8; have ck8 := (hb8.cell (p := ⟨gi, L.length * 2, none⟩) hgiF).trans ckF; have gi8 : gi < w8.heap.size := Nat.lt_of_lt_of_le hgiF hb8.size; replace hb8 := hbF.trans (hb8.mono hbF.size); clear hinF TF SB ckF hbF)
              | (go_at_call 11; refine (h11 _ _ (HL.out.on hb8)).mono ?_; rintro e w9 ⟨v9, rfl, ho9, hb9⟩; have R9 := ho9.lies HFS.out; have in9 := in8.on hb9; have T9 := T8.on hb9; have S9 := S8.on hb9; have ck9 := (hb9.cell (p := ⟨gi, L.length * 2, none⟩) gi8).trans ck8; have gi9 : gi < w9.heap.size := Nat.lt_of_lt_of_le gi8 hb9.size; replace hb9 := hb8.trans (hb9.mono hb8.size); clear in8 T8 S8 ck8 hb8 ho9)
              | (go_at_call 10; refine (h10b _ _ _ S9 R9).mono ?_; rintro e w10 ⟨rfl, hb10⟩; have in10 := in9.on hb10; have T10 := T9.on hb10; have ck10 := (hb10.cell (p := ⟨gi, L.length * 2, none⟩) gi9).trans ck9; have gi10 : gi < w10.heap.size := Nat.lt_of_lt_of_le gi9 hb10.size; replace hb10 := hb9.trans (hb10.mono hb9.size); clear in9 T9 S9 ck9 hb9 R9)
              | (go_at_call 9; refine (h9 _ _ in10).mono ?_; rintro e w11 ⟨rfl, hb11⟩; have in11 := in10.on hb11; have T11 := T10.on hb11; have ck11 := (hb11.cell (p := ⟨gi, L.length * 2, none⟩) gi10).trans ck10; replace hb11 := hb10.trans (hb11.mono hb10.size); have L11 := HL.out.on hb11; clear in10 T10 ck10 hb10)
              | (go_at_call 12; refine (h12 _ _ _ in11 L11).mono ?_; rintro e w12 ⟨rfl, hb12⟩; have T12 := T11.on hb12; replace hb12 := hb11.trans (hb12.mono hb11.size); have K12 := HK.out.on hb12; clear in11 T11 ck11 hb11)
              | (go_at_call 10; refine (h10l _ _ _ T12 K12).mono ?_; rintro e w13 ⟨rfl, hb13⟩; replace hb13 := hb12.trans (hb13.mono hb12.size)))
            go_ret
            exact ⟨rfl, hb13⟩
          · have e1 : ((CE : Int) == 0) = false := by simp only [beq_eq_false_iff_ne]; omega
            have e2 : ¬ (CE : Int) = 0 := by omega
            clear H11
            go_wp2_with (first
              | (go_at_call 9; refine (h9 _ _ (HL.out.on hbF)).mono ?_; rintro e w8 ⟨rfl, hb8⟩; have in8 := hinF.on hb8; have T8 := TF.on hb8; have ck8 := (hb8.cell (p := ⟨gi, L.length * 2, none⟩) hgiF).trans ckF; have gi8 : gi < w8.heap.size := Nat.lt_of_lt_of_le hgiF hb8.size; replace hb8 := hbF.trans (hb8.mono hbF.size); clear hinF TF SB ckF hbF)
              | (go_at_call 9; refine (h9 _ _ in8).mono ?_; rintro e w11 ⟨rfl, hb11⟩; have in11 := in8.on hb11; have T11 := T8.on hb11; have ck11 := (hb11.cell (p := ⟨gi, L.length * 2, none⟩) gi8).trans ck8; replace hb11 := hb8.trans (hb11.mono hb8.size); have L11 := HL.out.on hb11; clear in8 T8 ck8 hb8)
              | (go_at_call 12; refine (h12 _ _ _ in11 L11).mono ?_; rintro e w12 ⟨rfl, hb12⟩; have T12 := T11.on hb12; replace hb12 := hb11.trans (hb12.mono hb11.size); have K12 := HK.out.on hb12; clear in11 T11 ck11 hb11)
              | (go_at_call 10; refine (h10l _ _ _ T12 K12).mono ?_; rintro e w13 ⟨rfl, hb13⟩; replace hb13 := hb12.trans (hb13.mono hb12.size)))
            go_ret
            exact ⟨rfl, hb13⟩

theorem termOwn_own : ownKnob Try.prog.godebug = none := by kernel_rfl
theorem termOwn_laidOut : laidOutB Try.prog = true := by kernel_rfl

set_option maxRecDepth 100000 in
theorem termOwn_lifted (os : Os) (started : os.Started) (H : Type) (enc : TypeId × Value → H) :
    ReturnsInHanded {} Try.checked os 3 .any (Rows.termOwnSpec.pre6 enc Try.prog Try.f3 Rows.termOwnRow.domain false) (Rows.termOwnSpec.post enc Try.prog Try.f3 false true false false) := by
  refine returnsInHanded_of_change_sized (C := Try.checked) termOwn_own started (by kernel_rfl) Try.func3
    (ChangeSpec.witness6 (enc := enc) (C := Try.checked) false ⟨#[], #[.slice none 0 0, .slice none 0 0], []⟩ 8 (by kernel_rfl) (by kernel_rfl) (by kernel_rfl) (by kernel_rfl)) ?_
  intro W base args ds gs before hval0 hW hcnd hsz0 _
  have hsz : (DataW.weightsEach Try.prog (Try.f3.params.toList ++ Rows.termOwnSpec.plain.varTypes Try.prog) (ds ++ gs)).all (· ≤ reachBytes) = true := hsz0
  have hval : ∀ (j : Nat) t v, Try.f3.params[j]? = some t → args[j]? = some v → Value.okWide Try.prog W .any base t v := hval0
  have hW' := hW
  obtain ⟨p, q, hA0, hV, rfl, hfz, hnd⟩ := hW
  have hA : DataW.TrodAll enc Try.prog W 0 (fun _ => true) true Try.f3.params.toList args.toList ds p := hA0
  rw [Try.params3] at hA hval hsz
  obtain ⟨v0, vs0, d0, ds0, p0, q0, hargs, rfl, rfl, h0, r0⟩ := trodAll_cons hA
  obtain ⟨v1, vs1, d1, ds1, p1, q1, rfl, rfl, rfl, h1, r1⟩ := trodAll_cons r0
  obtain ⟨rfl, rfl, rfl⟩ := trodAll_nil r1
  obtain rfl : args = #[v0, v1] := by cases args; simp_all
  obtain ⟨rfl, rfl⟩ := trodVars_none hV
  have k0 := h0
  have lt0 : ∀ x ∈ p0, x.block < W.heap.size := by obtain ⟨m, hm⟩ := k0; exact DataW.trod_lt m _ _ _ hm
  have k1 := h1
  have lt1 : ∀ x ∈ p1, x.block < W.heap.size := by obtain ⟨m, hm⟩ := k1; exact DataW.trod_lt m _ _ _ hm
  obtain ⟨L0, l0, z0⟩ := open_cells (hval 0 23 v0 rfl rfl) h0 (fun n hn => by simpa using List.all_eq_true.1 hsz n (DataW.weights_mem_each (j := 0) (t := 23) rfl rfl n hn))
  obtain ⟨L1, l1, z1⟩ := open_terms (hval 1 24 v1 rfl rfl) h1 (fun n hn => by simpa using List.all_eq_true.1 hsz n (DataW.weights_mem_each (j := 1) (t := 24) rfl rfl n hn))
  clear hA0 hval0
  refine (termOwn_walk v0 L0 v1 L1 W l0 z0 l1 z1).mono fun e W' ⟨he, bel⟩ => ?_
  subst he
  exact ⟨_, rfl, _, _, _, [], _, [], hW', trodAll_mk1 (shut_bool Try.underlying4 _), (trodAll_cons_mk (Below.trod termOwn_laidOut (by kernel_rfl) (of_decide_eq_true (by kernel_rfl)) k0 bel lt0) (trodAll_cons_mk (Below.trod termOwn_laidOut (by kernel_rfl) (of_decide_eq_true (by kernel_rfl)) k1 bel lt1) trodAll_mk0)), rfl, bel.frame _, fun h => by cases h⟩

theorem termOwn_holds : Rows.TermOwnSaid :=
  OpenClaim.holds_of_wide 3 Try.f3 rfl rfl rfl rfl rfl rfl rfl ⟨rfl, rfl, rfl, rfl, rfl⟩ rfl rfl rfl rfl rfl (by kernel_rfl) Try.func3 (by kernel_rfl)
    (of_decide_eq_true (by kernel_rfl)) (by unfold Func.isWrapper; first | (rw [if_pos (by decide +kernel)]; kernel_rfl) | (rw [if_neg (by decide +kernel)]; exact ⟨rfl, rfl⟩))
    (fun os started H enc _ => termOwn_lifted os started H enc)

#print axioms termOwn_holds

end Go.Proofs.Ytjfkkabpfjcceab
