/-
  middle and Cut.
-/
import Derived.Test.YtjocbkhjbbpkjabPu
namespace Go.Proofs.Ytjocbkhjbbpkjab
open Go.RowKit
set_option linter.unusedVariables false
set_option linter.unusedSimpArgs false
set_option maxRecDepth 100000

/-- where middle stands ahead of place j -/
def MidI (L : List Ent) (j k : Nat) (ll : Int) : Prop :=
  k ≤ L.length ∧ (ckE none L = 0 → (j = 1 ∧ k = L.length ∧ ll = ((2 + sumE L : Nat) : Int)) ∨ (2 ≤ j ∧ Best L j k ∧ ll = ((gre L k : Nat) : Int)))
theorem sum_lt {L : List Ent} (h : ckE none L = 0) (hz : L.length ≤ 4398046511104) : sumE L ≤ 431008558088192 := by
  have := sum_small (ckE_small h)
  omega
def sd (L : List Ent) (j : Nat) : Int := max (wr64 (2 + sumE (L.take j))) (IntKind.i64.wrap (wr64 (2 + sumE L + 2) - wr64 (2 + sumE (L.take j))))
theorem sd_is {L : List Ent} (h : ckE none L = 0) (hz : L.length ≤ 4398046511104) (j : Nat) : sd L j = ((gre L j : Nat) : Int) := by
  have h1 := sum_lt h hz
  have h2 := sum_split L j
  unfold sd gre
  rw [wr64_in (by omega), wr64_in (by omega), IntKind.wrap_i64]
  omega
theorem MidI.start {L : List Ent} (hz : L.length ≤ 4398046511104) : MidI L 1 L.length (szL L) := ⟨Nat.le_refl _, fun h => .inl ⟨rfl, rfl, by
  have := sum_lt h hz
  unfold szL
  rw [wr64_in (by omega)]⟩⟩
theorem sz_two (x : Ent) : 2 ≤ x.sz := by unfold Ent.sz; omega
theorem sum_two {L : List Ent} : 2 * L.length ≤ sumE L := by
  induction L with
  | nil => simp [sumE]
  | cons x r ih =>
    have := sz_two x
    simp only [sumE, List.length_cons]
    omega
theorem gre_one {L : List Ent} {j : Nat} (h1 : 1 ≤ j) (h2 : j < L.length) : gre L j < 2 + sumE L := by
  have h3 := sum_split L j
  have h4 := sum_two (L := L.take j)
  have h5 := sum_two (L := L.drop j)
  rw [List.length_take] at h4
  rw [List.length_drop] at h5
  unfold gre
  omega
theorem MidI.yes {L : List Ent} {j k : Nat} {ll : Int} (hz : L.length ≤ 4398046511104) (h : MidI L j k ll) (h1 : 1 ≤ j) (hj : j < L.length) (hl : sd L j < ll) : MidI L (j + 1) j (sd L j) := by
  refine ⟨by omega, fun hc => .inr ⟨by omega, ?_, sd_is hc hz j⟩⟩
  rw [sd_is hc hz] at hl
  rcases h.2 hc with ⟨rfl, _, _⟩ | ⟨_, hb, e⟩
  · exact Best.one L
  · rw [e] at hl
    exact hb.yes h1 (by omega)
theorem MidI.no {L : List Ent} {j k : Nat} {ll : Int} (hz : L.length ≤ 4398046511104) (h : MidI L j k ll) (h1 : 1 ≤ j) (hj : j < L.length) (hl : ¬ sd L j < ll) : MidI L (j + 1) k ll := by
  refine ⟨h.1, fun hc => .inr ?_⟩
  rw [sd_is hc hz] at hl
  rcases h.2 hc with ⟨rfl, _, e⟩ | ⟨h2, hb, e⟩
  · exfalso
    have := gre_one (L := L) h1 hj
    omega
  · rw [e] at hl
    exact ⟨by omega, hb.no (by omega), e⟩
theorem MidI.fin {L : List Ent} {j k : Nat} {ll : Int} (h : MidI L j k ll) (hj : j ≤ L.length ∨ j = 1) (hn : ¬ j < L.length) : ckE none L = 0 → cutAt L k := fun hc => by
  rcases h.2 hc with ⟨rfl, rfl, _⟩ | ⟨h2, hb, e⟩
  · exact .inl ⟨by omega, rfl⟩
  · obtain rfl : j = L.length := by omega
    exact .inr ⟨h2, hb⟩

set_option maxHeartbeats 1000000 in
theorem middle_any (w : World) (v : Value) (L : List Ent) (hl : LiesE w v L) (hz : L.length ≤ 4398046511000) :
    Calls Try.prog 15 #[v] w fun e w' => ∃ k : Nat, e = .returned (.int .i64 (k : Nat)) ∧ k ≤ L.length ∧ (ckE none L = 0 → cutAt L k) ∧ Below w.heap.size w w' := by
  have HSZ : Hid (∀ w1 : World, Below w.heap.size w w1 → Calls Try.prog 13 #[v] w1 fun e w' => e = .returned (.int .i64 (szL L)) ∧ Below w1.heap.size w1 w') := fun w1 hb => size_any w1 v L (hl.on hb)
  obtain ⟨a, c, hv⟩ := hl.form
  subst hv
  have HZ := hid hz
  have HST := hid (MidI.start (L := L) (by omega))
  have HBO : Hid (IntKind.i64.wrap (szL L + 2) = wr64 (2 + sumE L + 2)) := wr64_add (2 + sumE L) 2
  have HL := hid hl
  obtain ⟨m, hm⟩ : ∃ m, L.length = m := ⟨_, rfl⟩
  have HM := hid hm
  rw [hm] at HL hz HST HSZ ⊢
  clear hm hl
  have hbo := HBO.out
  obtain ⟨bo, hb0⟩ : ∃ bo, wr64 (2 + sumE L + 2) = bo := ⟨_, rfl⟩
  have HB0 := hid hb0
  rw [hb0] at hbo
  clear hb0 HBO
  generalize szL L = sz at *
  go_enter Try.func15, Try.ntmps15
  go_wp2_with (first
    | (go_at_call 13; refine (HSZ.out _ (Below.refl _ _)).mono ?_; rintro e w1 ⟨rfl, hb1⟩; have HB1 := hid hb1; clear hb1)
    | (go_at_call 13; refine (HSZ.out _ HB1.out).mono ?_; clear HSZ; rintro e w2 ⟨rfl, hb2⟩; have HB2 := hid (HB1.out.trans (hb2.mono HB1.out.size)); clear hb2))
  clear hbo
  go_loopw [3, 4, 5, 7] (fun y l f i wr => ∃ (j k : Nat) (ll : Int), 1 ≤ j ∧ (j ≤ m ∨ j = 1) ∧ i = .int .i64 (j : Nat) ∧ y = .int .i64 (k : Nat) ∧ l = .int .i64 ll ∧ f = .int .i64 (wr64 (2 + sumE (L.take (j - 1)))) ∧ Hid (MidI L j k ll) ∧ Hid (Below w.heap.size w wr)) (fun _ _ _ i _ => m - (intOf i).toNat)
  case atStart => exact ⟨1, m, sz, Nat.le_refl _, .inr rfl, rfl, rfl, rfl, rfl, HST, HB2⟩
  case round =>
    obtain ⟨j, k, ll, h1j, hjm, rfl, rfl, rfl, rfl, HI, HB⟩ := hrel
    clear HST HB2
    by_cases hlt : j < m
    · have hji : (j : Int) < (m : Int) := by omega
      have hjl : j < L.length := by rw [HM.out]; exact hlt
      obtain ⟨x, hx⟩ : ∃ x, L[j - 1]? = some x := ⟨_, List.getElem?_eq_getElem (by omega)⟩
      obtain ⟨b, off, e1, _, c1, c2, s1, s2⟩ := (HL.out.on HB.out).at hx
      subst e1
      have hso : ∀ w1 : World, _ := fun w1 => sizeOf_any x s1 s2 w1
      have hj1 : j - 1 + 1 = j := by omega
      have HS := hid (sumE_snoc hx)
      rw [hj1] at HS
      have ha := wr64_add (2 + sumE (L.take (j - 1))) x.sz
      rw [Nat.add_assoc, ← HS.out] at ha
      have hsd : sd L j = max (wr64 (2 + sumE (L.take j))) (IntKind.i64.wrap (bo - wr64 (2 + sumE (L.take j)))) := by unfold sd; rw [HB0.out]
      have HT : Hid (wr64 (2 + sumE (L.take (j + 1 - 1))) = wr64 (2 + sumE (L.take j))) := rfl
      have hy := MidI.yes (by have := HZ.out; omega) HI.out h1j hjl
      have hn := MidI.no (by have := HZ.out; omega) HI.out h1j hjl
      have HY := hid hy
      have HN := hid hn
      obtain ⟨i0, hi0⟩ : ∃ i0, j - 1 = i0 := ⟨_, rfl⟩
      have hwi : IntKind.i64.wrap ((j : Int) - 1) = (i0 : Int) := by rw [IntKind.wrap_i64]; omega
      clear hy hn HS hx hj1 hjl
      rw [hi0] at ha c1 c2 ⊢
      generalize wr64 (2 + sumE (L.take i0)) = f0 at *
      obtain ⟨f1, hf1⟩ : ∃ f1, wr64 (2 + sumE (L.take j)) = f1 := ⟨_, rfl⟩
      have HF1 := hid hf1
      rw [hf1] at ha hsd HT
      clear hf1
      generalize x.sz = z at *
      generalize x.k = xk at *
      generalize x.v = xv at *
      have him : i0 < m := by omega
      by_cases hls : sd L j < ll
      · have HI2 := hid (HY.out hls)
        clear HY HN
        rw [hsd] at hls HI2
        clear hsd hi0
        obtain ⟨dd, hdd⟩ : ∃ dd, IntKind.i64.wrap (bo - f1) = dd := ⟨_, rfl⟩
        rw [hdd] at hls HI2
        go_wp2_with (go_at_call 21; refine (hso _).mono ?_; clear hso; rintro e w1 ⟨rfl, hb1⟩; have HB1 := hid (HB.out.trans (hb1.mono HB.out.size)); clear hb1)
        go_roundw
        case rel => exact ⟨j + 1, j, max f1 dd, by omega, .inl (by omega), by go_num, rfl, rfl, by rw [HT.out], HI2, HB1⟩
        case measure => simp [intOf]; omega
      · have HI2 := hid (HN.out hls)
        clear HY HN
        rw [hsd] at hls
        clear hsd hi0
        obtain ⟨dd, hdd⟩ : ∃ dd, IntKind.i64.wrap (bo - f1) = dd := ⟨_, rfl⟩
        rw [hdd] at hls
        go_wp2_with (go_at_call 21; refine (hso _).mono ?_; clear hso; rintro e w1 ⟨rfl, hb1⟩; have HB1 := hid (HB.out.trans (hb1.mono HB.out.size)); clear hb1)
        go_roundw
        case rel => exact ⟨j + 1, k, ll, by omega, .inl (by omega), by go_num, rfl, rfl, by rw [HT.out], HI2, HB1⟩
        case measure => simp [intOf]; omega
    · have hji : ¬ (j : Int) < (m : Int) := by omega
      have HK := hid (HI.out.1)
      have HF := hid (HI.out.fin (by rw [HM.out]; exact hjm) (by rw [HM.out]; exact hlt))
      rw [HM.out] at HK
      go_wp2_with fail
      go_ret
      exact ⟨k, rfl, HK.out, HF.out, HB.out⟩
end Go.Proofs.Ytjocbkhjbbpkjab

