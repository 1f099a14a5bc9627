/-
  Cut.
-/
import Derived.Test.YtjcbaiohpdihoaaGreatDoorPu
namespace Go.Proofs.YtjcbaiohpdihoaaGreatDoor.Lf
open Go.Proofs.YtjcbaiohpdihoaaGreatDoor.Nu
open Go.RowKit
set_option linter.unusedVariables false
set_option linter.unusedSimpArgs false
set_option maxRecDepth 100000

/-- where middle stands ahead of place j -/
def MidI (L : List Ent) (j k : Nat) (ll : Int) : Prop :=
  k ≤ L.length ∧ (ckE none L = 0 → (j = 1 ∧ k = L.length ∧ ll = ((2 + sumE L : Nat) : Int)) ∨ (2 ≤ j ∧ Best L j k ∧ ll = ((gre L k : Nat) : Int)))
theorem sum_lt {L : List Ent} (h : ckE none L = 0) (hz : L.length ≤ 4398046511104) : sumE L ≤ 431008558088192 := by
  have := sum_small (ckE_small h)
  omega
def sd (L : List Ent) (j : Nat) : Int := max (wr64 (2 + sumE (L.take j))) (IntKind.i64.wrap (wr64 (2 + sumE L + 2) - wr64 (2 + sumE (L.take j))))
theorem sd_is {L : List Ent} (h : ckE none L = 0) (hz : L.length ≤ 4398046511104) (j : Nat) : sd L j = ((gre L j : Nat) : Int) := by
  have h1 := sum_lt h hz
  have h2 := sum_split L j
  unfold sd gre
  rw [wr64_in (by omega), wr64_in (by omega), IntKind.wrap_i64]
  omega
theorem MidI.start {L : List Ent} (hz : L.length ≤ 4398046511104) : MidI L 1 L.length (szL L) := ⟨Nat.le_refl _, fun h => .inl ⟨rfl, rfl, by
  have := sum_lt h hz
  unfold szL
  rw [wr64_in (by omega)]⟩⟩
theorem sz_two (x : Ent) : 2 ≤ x.sz := by unfold Ent.sz; omega
theorem sum_two {L : List Ent} : 2 * L.length ≤ sumE L := by
  induction L with
  | nil => simp [sumE]
  | cons x r ih =>
    have := sz_two x
    simp only [sumE, List.length_cons]
    omega
theorem gre_one {L : List Ent} {j : Nat} (h1 : 1 ≤ j) (h2 : j < L.length) : gre L j < 2 + sumE L := by
  have h3 := sum_split L j
  have h4 := sum_two (L := L.take j)
  have h5 := sum_two (L := L.drop j)
  rw [List.length_take] at h4
  rw [List.length_drop] at h5
  unfold gre
  omega
theorem MidI.yes {L : List Ent} {j k : Nat} {ll : Int} (hz : L.length ≤ 4398046511104) (h : MidI L j k ll) (h1 : 1 ≤ j) (hj : j < L.length) (hl : sd L j < ll) : MidI L (j + 1) j (sd L j) := by
  refine ⟨by omega, fun hc => .inr ⟨by omega, ?_, sd_is hc hz j⟩⟩
  rw [sd_is hc hz] at hl
  rcases h.2 hc with ⟨rfl, _, _⟩ | ⟨_, hb, e⟩
  · exact Best.one L
  · rw [e] at hl
    exact hb.yes h1 (by omega)
theorem MidI.no {L : List Ent} {j k : Nat} {ll : Int} (hz : L.length ≤ 4398046511104) (h : MidI L j k ll) (h1 : 1 ≤ j) (hj : j < L.length) (hl : ¬ sd L j < ll) : MidI L (j + 1) k ll := by
  refine ⟨h.1, fun hc => .inr ?_⟩
  rw [sd_is hc hz] at hl
  rcases h.2 hc with ⟨rfl, _, e⟩ | ⟨h2, hb, e⟩
  · exfalso
    have := gre_one (L := L) h1 hj
    omega
  · rw [e] at hl
    exact ⟨by omega, hb.no (by omega), e⟩
theorem MidI.fin {L : List Ent} {j k : Nat} {ll : Int} (h : MidI L j k ll) (hj : j ≤ L.length ∨ j = 1) (hn : ¬ j < L.length) : ckE none L = 0 → cutAt L k := fun hc => by
  rcases h.2 hc with ⟨rfl, rfl, _⟩ | ⟨h2, hb, e⟩
  · exact .inl ⟨by omega, rfl⟩
  · obtain rfl : j = L.length := by omega
    exact .inr ⟨h2, hb⟩

set_option maxHeartbeats 1000000 in
theorem middle_any (w : World) (v : Value) (L : List Ent) (hl : LiesE w v L) (hz : L.length ≤ 4398046511000) :
    Calls Tryz.prog 244 #[v] w fun e w' => ∃ k : Nat, e = .returned (.int .i64 (k : Nat)) ∧ k ≤ L.length ∧ (ckE none L = 0 → cutAt L k) ∧ Below w.heap.size w w' := by
  have HSZ : Hid (∀ w1 : World, Below w.heap.size w w1 → Calls Tryz.prog 129 #[v] w1 fun e w' => e = .returned (.int .i64 (szL L)) ∧ Below w1.heap.size w1 w') := fun w1 hb => size_any w1 v L (hl.on hb)
  obtain ⟨a, c, hv⟩ := hl.form
  subst hv
  have HZ := hid hz
  have HST := hid (MidI.start (L := L) (by omega))
  have HBO : Hid (IntKind.i64.wrap (szL L + 2) = wr64 (2 + sumE L + 2)) := wr64_add (2 + sumE L) 2
  have HL := hid hl
  obtain ⟨m, hm⟩ : ∃ m, L.length = m := ⟨_, rfl⟩
  have HM := hid hm
  rw [hm] at HL hz HST HSZ ⊢
  clear hm hl
  have hbo := HBO.out
  obtain ⟨bo, hb0⟩ : ∃ bo, wr64 (2 + sumE L + 2) = bo := ⟨_, rfl⟩
  have HB0 := hid hb0
  rw [hb0] at hbo
  clear hb0 HBO
  generalize szL L = sz at *
  go_enter Tryz.func244, Tryz.ntmps244
  go_wp2_with (first
    | (go_at_call 129; refine (HSZ.out _ (Below.refl _ _)).mono ?_; rintro e w1 ⟨rfl, hb1⟩; have HB1 := hid hb1; clear hb1)
    | (go_at_call 129; refine (HSZ.out _ HB1.out).mono ?_; clear HSZ; rintro e w2 ⟨rfl, hb2⟩; have HB2 := hid (HB1.out.trans (hb2.mono HB1.out.size)); clear hb2))
  clear hbo
  go_loopw [3, 4, 5, 7] (fun y l f i wr => ∃ (j k : Nat) (ll : Int), 1 ≤ j ∧ (j ≤ m ∨ j = 1) ∧ i = .int .i64 (j : Nat) ∧ y = .int .i64 (k : Nat) ∧ l = .int .i64 ll ∧ f = .int .i64 (wr64 (2 + sumE (L.take (j - 1)))) ∧ Hid (MidI L j k ll) ∧ Hid (Below w.heap.size w wr)) (fun _ _ _ i _ => m - (intOf i).toNat)
  case atStart => exact ⟨1, m, sz, Nat.le_refl _, .inr rfl, rfl, rfl, rfl, rfl, HST, HB2⟩
  case round =>
    obtain ⟨j, k, ll, h1j, hjm, rfl, rfl, rfl, rfl, HI, HB⟩ := hrel
    clear HST HB2
    by_cases hlt : j < m
    · have hji : (j : Int) < (m : Int) := by omega
      have hjl : j < L.length := by rw [HM.out]; exact hlt
      obtain ⟨x, hx⟩ : ∃ x, L[j - 1]? = some x := ⟨_, List.getElem?_eq_getElem (by omega)⟩
      obtain ⟨b, off, e1, _, c1, c2, s1, s2⟩ := (HL.out.on HB.out).at hx
      subst e1
      have hso : ∀ w1 : World, _ := fun w1 => sizeOf_any x s1 s2 w1
      have hj1 : j - 1 + 1 = j := by omega
      have HS := hid (sumE_snoc hx)
      rw [hj1] at HS
      have ha := wr64_add (2 + sumE (L.take (j - 1))) x.sz
      rw [Nat.add_assoc, ← HS.out] at ha
      have hsd : sd L j = max (wr64 (2 + sumE (L.take j))) (IntKind.i64.wrap (bo - wr64 (2 + sumE (L.take j)))) := by unfold sd; rw [HB0.out]
      have HT : Hid (wr64 (2 + sumE (L.take (j + 1 - 1))) = wr64 (2 + sumE (L.take j))) := rfl
      have hy := MidI.yes (by have := HZ.out; omega) HI.out h1j hjl
      have hn := MidI.no (by have := HZ.out; omega) HI.out h1j hjl
      have HY := hid hy
      have HN := hid hn
      obtain ⟨i0, hi0⟩ : ∃ i0, j - 1 = i0 := ⟨_, rfl⟩
      have hwi : IntKind.i64.wrap ((j : Int) - 1) = (i0 : Int) := by rw [IntKind.wrap_i64]; omega
      clear hy hn HS hx hj1 hjl
      rw [hi0] at ha c1 c2 ⊢
      generalize wr64 (2 + sumE (L.take i0)) = f0 at *
      obtain ⟨f1, hf1⟩ : ∃ f1, wr64 (2 + sumE (L.take j)) = f1 := ⟨_, rfl⟩
      have HF1 := hid hf1
      rw [hf1] at ha hsd HT
      clear hf1
      generalize x.sz = z at *
      generalize x.k = xk at *
      generalize x.v = xv at *
      have him : i0 < m := by omega
      by_cases hls : sd L j < ll
      · have HI2 := hid (HY.out hls)
        clear HY HN
        rw [hsd] at hls HI2
        clear hsd hi0
        obtain ⟨dd, hdd⟩ : ∃ dd, IntKind.i64.wrap (bo - f1) = dd := ⟨_, rfl⟩
        rw [hdd] at hls HI2
        go_wp2_with (go_at_call 190; refine (hso _).mono ?_; clear hso; rintro e w1 ⟨rfl, hb1⟩; have HB1 := hid (HB.out.trans (hb1.mono HB.out.size)); clear hb1)
        go_roundw
        case rel => exact ⟨j + 1, j, max f1 dd, by omega, .inl (by omega), by go_num, rfl, rfl, by rw [HT.out], HI2, HB1⟩
        case measure => simp [intOf]; omega
      · have HI2 := hid (HN.out hls)
        clear HY HN
        rw [hsd] at hls
        clear hsd hi0
        obtain ⟨dd, hdd⟩ : ∃ dd, IntKind.i64.wrap (bo - f1) = dd := ⟨_, rfl⟩
        rw [hdd] at hls
        go_wp2_with (go_at_call 190; refine (hso _).mono ?_; clear hso; rintro e w1 ⟨rfl, hb1⟩; have HB1 := hid (HB.out.trans (hb1.mono HB.out.size)); clear hb1)
        go_roundw
        case rel => exact ⟨j + 1, k, ll, by omega, .inl (by omega), by go_num, rfl, rfl, by rw [HT.out], HI2, HB1⟩
        case measure => simp [intOf]; omega
    · have hji : ¬ (j : Int) < (m : Int) := by omega
      have HK := hid (HI.out.1)
      have HF := hid (HI.out.fin (by rw [HM.out]; exact hjm) (by rw [HM.out]; exact hlt))
      rw [HM.out] at HK
      go_wp2_with fail
      go_ret
      exact ⟨k, rfl, HK.out, HF.out, HB.out⟩
end Go.Proofs.YtjcbaiohpdihoaaGreatDoor.Lf

namespace Go.Proofs.YtjcbaiohpdihoaaGreatDoor.Lf
open Go.Proofs.YtjcbaiohpdihoaaGreatDoor.Nu
open Go.RowKit
set_option linter.unusedVariables false
set_option linter.unusedSimpArgs false
set_option maxRecDepth 100000

/-- two rows, neither of which is the other -/
def Apart (u v : Value) : Prop := ∀ g, u.ownBlock = some g → v.ownBlock ≠ some g
theorem RowE.apart {w w' : World} {B : Nat} {u v : Value} {L M : List Ent} (h : RowE w B u L) (k : RowE w' w.heap.size v M) : Apart u v := fun g hg e => by
  have h1 := ((h : w.ownsRow B 59 2 u L.length (flatE L)).lt g hg).2
  have h2 := ((k : w'.ownsRow w.heap.size 59 2 v M.length (flatE M)).lt g e).1
  omega
theorem RowE.apart_from {w : World} {B B' : Nat} {u v : Value} {L M : List Ent} (h : RowE w B u L) (hB : w.heap.size ≤ B') {w' : World} (k : RowE w' B' v M) : Apart u v := h.apart (k.base hB)

set_option maxHeartbeats 2000000 in
theorem cut_any (w : World) (v : Value) (L : List Ent) (hl : LiesE w v L) (hz : L.length ≤ 4398046511000) :
    Calls Tryz.prog 212 #[v] w fun e w' => ∃ (k : Nat) (a : Option Addr) (c : Nat) (a2 : Option Addr) (c2 : Nat), k ≤ L.length ∧ (ckE none L = 0 → cutAt L k) ∧ e = .returned (.tuple #[.slice a (L.take k).length c, .slice a2 (L.drop k).length c2]) ∧ RowE w' w.heap.size (.slice a (L.take k).length c) (L.take k) ∧ RowE w' w.heap.size (.slice a2 (L.drop k).length c2) (L.drop k) ∧ Apart (.slice a (L.take k).length c) (.slice a2 (L.drop k).length c2) ∧ Below w.heap.size w w' := by
  have HMD := hid (middle_any w v L hl hz)
  obtain ⟨a, c, e1⟩ := hl.form
  subst e1
  have hsm := hl.sml
  obtain ⟨n, hn⟩ : ∃ n, L.length = n := ⟨_, rfl⟩
  rw [hn] at HMD hz hl ⊢
  have HL := hid hl
  have hcap := hl.cap
  have HC := hid (And.intro hcap.2.1 hcap.2.2)
  have HSM := hid hsm
  have HN := hid hn
  clear hl hcap hsm hn
  go_enter Tryz.func212, Tryz.ntmps212
  go_wp2_with fail
  go_at_call 244
  refine HMD.out.mono ?_
  clear HMD
  rintro e w1 ⟨i, rfl, hi, hm, hb1⟩
  have HM := hid hm
  have HL1 := hid (HL.out.on hb1)
  have HB1 := hid hb1
  clear hm hb1 HL
  have HLA := hid (HL1.out.hd (i := i) hi)
  have HLB := hid (HL1.out.tl (i := i) hi)
  have hr1 := run_hd a n c i (Nat.le_trans hi HC.out.1)
  have hr2 := run_tl a n c i hi
  generalize sA a 0 c = a1 at *
  generalize sA a i c = a2 at *
  generalize n - i = m2 at *
  generalize c - i = c2 at *
  obtain ⟨A, hA⟩ : ∃ A, L.take i = A := ⟨_, rfl⟩
  obtain ⟨C, hC⟩ : ∃ C, L.drop i = C := ⟨_, rfl⟩
  have HAL : Hid (A.length ≤ 4398046511000) := by show _ ≤ _; rw [← hA, List.length_take, HN.out]; omega
  have HCL : Hid (C.length ≤ 4398046511000) := by show _ ≤ _; rw [← hC, List.length_drop, HN.out]; omega
  have HAS : Hid (SmlL A) := by show SmlL _; rw [← hA]; exact HSM.out.take i
  have HCS : Hid (SmlL C) := by show SmlL _; rw [← hC]; exact HSM.out.drop i
  rw [hA] at HLA
  rw [hC] at HLB
  have HA := hid hA
  have HC2 := hid hC
  clear hA hC
  have HJ : Hid (∀ (wx : World) (p : Nat) (y : Value) (D : List Ent) (n : Nat), D.length = n → Blk wx p #[y] 31 → LiesE wx y D → n ≤ 4398046511000 → SmlL D → Calls Tryz.prog 213 #[.slice (some ⟨p, 0, none⟩) 1 1] wx fun e w' => ∃ a c, e = .returned (.slice a n c) ∧ RowE w' wx.heap.size (.slice a n c) D ∧ Below wx.heap.size wx w') := fun wx p y D n hn hb hy h1 h2 => by
    subst hn
    have := join_any wx _ _ (LiesL.one hb hy) (by simp; exact h1) (by simp; exact h2)
    rw [show [D].flatten = D by simp] at this
    exact this
  obtain ⟨al, hal⟩ : ∃ al, A.length = al := ⟨_, rfl⟩
  obtain ⟨cl, hcl⟩ : ∃ cl, C.length = cl := ⟨_, rfl⟩
  have HAN := hid hal
  have HCN := hid hcl
  rw [hal] at HAL
  rw [hcl] at HCL
  clear hal hcl
  go_wp2_with fail
  refine wp_region_d (fun _ => True) (fun _ => true) (by kernel_rfl) ?_
  have HLA1 := hid (HLA.out.on ((Below.refl _ w1).drew))
  have HLB1 := hid (HLB.out.on ((Below.refl _ w1).drew))
  have HB2 := hid (HB1.out.drew)
  clear HLA HLB HL1 HB1
  generalize w1.drew = w2 at *
  refine wpAnyM_pick (i := 0) (some 7) (v := ?vz1) rfl rfl (by kernel_rfl) (by kernel_rfl) (by kernel_rfl) (by kernel_rfl) (fun _ _ _ h => h) (Or.inl ⟨by rfl, ?hz1⟩) trivial ?rz1
  case hz1 => intro w hSw; (try have hs1 := hSw.1); (try have hs2 := hSw.2); go_simp; try with_reducible rfl
  try simp only [Act.put, List.setIfInBounds_toArray, List.set_cons_zero, List.set_cons_succ]
  refine wpAnyM_pick (i := 1) (some 8) (v := ?vz2) rfl rfl (by kernel_rfl) (by kernel_rfl) (by kernel_rfl) (by kernel_rfl) (fun _ _ _ h => h) (Or.inl ⟨by rfl, ?hz2⟩) trivial ?rz2
  case hz2 => intro w hSw; (try have hs1 := hSw.1); (try have hs2 := hSw.2); go_simp; try with_reducible rfl
  try simp only [Act.put, List.setIfInBounds_toArray, List.set_cons_zero, List.set_cons_succ]
  refine wpAnyM_pick (i := 2) (some 9) (v := ?vz3) rfl rfl (by kernel_rfl) (by kernel_rfl) (by kernel_rfl) (by kernel_rfl) (fun _ _ _ h => h) (Or.inl ⟨by rfl, ?hz3⟩) trivial ?rz3
  case hz3 => intro w hSw; (try have hs1 := hSw.1); (try have hs2 := hSw.2); go_simp; try with_reducible rfl
  try simp only [Act.put, List.setIfInBounds_toArray, List.set_cons_zero, List.set_cons_succ]
  refine wpAnyM_pick (i := 5) (some 12) (v := ?vz4) rfl rfl (by kernel_rfl) (by kernel_rfl) (by kernel_rfl) (by kernel_rfl) (fun _ _ _ h => h) (Or.inl ⟨by rfl, ?hz4⟩) trivial ?rz4
  case hz4 => intro w hSw; (try have hs1 := hSw.1); (try have hs2 := hSw.2); go_simp; try with_reducible rfl
  try simp only [Act.put, List.setIfInBounds_toArray, List.set_cons_zero, List.set_cons_succ]
  refine wpAnyM_pick (i := 6) (some 13) (v := ?vz5) rfl rfl (by kernel_rfl) (by kernel_rfl) (by kernel_rfl) (by kernel_rfl) (fun _ _ _ h => h) (Or.inl ⟨by rfl, ?hz5⟩) trivial ?rz5
  case hz5 => intro w hSw; (try have hs1 := hSw.1); (try have hs2 := hSw.2); go_simp; try with_reducible rfl
  try simp only [Act.put, List.setIfInBounds_toArray, List.set_cons_zero, List.set_cons_succ]
  refine wpAnyM_pick (i := 7) (some 14) (v := ?vz6) rfl rfl (by kernel_rfl) (by kernel_rfl) (by kernel_rfl) (by kernel_rfl) (fun _ _ _ h => h) (Or.inl ⟨by rfl, ?hz6⟩) trivial ?rz6
  case hz6 => intro w hSw; (try have hs1 := hSw.1); (try have hs2 := hSw.2); go_simp; try with_reducible rfl
  try simp only [Act.put, List.setIfInBounds_toArray, List.set_cons_zero, List.set_cons_succ]
  clear hr1 hr2
  refine wpAnyM_two (i := 3) (j := 8) (by kernel_rfl) rfl rfl (fun K hK => ?_) (fun K hK => ?_)
  · go_simp
    have b1 : Below w2.heap.size w2 (w2.alloc (.cells #[.slice a1 i c] 31)) := (Below.refl _ w2).alloc (Nat.le_refl _) _
    have K31 := hid (Blk.made w2 #[.slice a1 i c] 31)
    have HLA1 := hid (HLA1.out.on b1)
    have HLB1 := hid (HLB1.out.on b1)
    have HB1 := hid (HB2.out.trans (b1.mono HB2.out.size))
    clear b1
    refine hK.out _ _ (fun _ => trivial) ?_
    clear hK K
    try simp only [Act.put, List.setIfInBounds_toArray, List.set_cons_zero, List.set_cons_succ]
    generalize w2.alloc (.cells #[.slice a1 i c] 31) = x1 at *
    generalize w2.heap.size = p1 at *
    refine wpAnyM_two (i := 4) (j := 8) (by kernel_rfl) rfl rfl (fun K hK => ?_) (fun K hK => ?_)
    · go_simp
      go_at_call 213
      refine (HJ.out x1 p1 _ A al HAN.out K31.out HLA1.out HAL.out HAS.out).mono ?_
      rintro e x2 ⟨q2, r2, rfl, hr2, hb2⟩
      have HLA2 := hid (HLA1.out.on hb2)
      have HLB2 := hid (HLB1.out.on hb2)
      have K32 := hid (K31.out.on hb2 K31.out.lt)
      have RA2 := hid (hr2.base HB1.out.size)
      have HB2 := hid (HB1.out.trans (hb2.mono HB1.out.size))
      clear hr2 hb2
      go_wp2_with fail
      refine hK.out _ _ (fun _ => trivial) ?_
      clear hK K
      try simp only [Act.put, List.setIfInBounds_toArray, List.set_cons_zero, List.set_cons_succ]
      refine wpAnyM_one (i := 8) (by kernel_rfl) rfl (fun K hK => ?_)
      go_simp
      have b3 : Below x2.heap.size x2 (x2.alloc (.cells #[.slice a2 m2 c2] 31)) := (Below.refl _ x2).alloc (Nat.le_refl _) _
      have K83 := hid (Blk.made x2 #[.slice a2 m2 c2] 31)
      have HLA3 := hid (HLA2.out.on b3)
      have HLB3 := hid (HLB2.out.on b3)
      have HB3 := hid (HB2.out.trans (b3.mono HB2.out.size))
      have K33 := hid (K32.out.on b3 K32.out.lt)
      have RA3 := hid (RA2.out.on b3)
      clear b3
      refine hK.out _ _ (fun _ => trivial) ?_
      clear hK K
      try simp only [Act.put, List.setIfInBounds_toArray, List.set_cons_zero, List.set_cons_succ]
      generalize x2.alloc (.cells #[.slice a2 m2 c2] 31) = x3 at *
      generalize x2.heap.size = p3 at *
      refine wpAnyM_one (i := 9) (by kernel_rfl) rfl (fun K hK => ?_)
      go_simp
      go_at_call 213
      refine (HJ.out x3 p3 _ C cl HCN.out K83.out HLB3.out HCL.out HCS.out).mono ?_
      rintro e x4 ⟨q4, r4, rfl, hr4, hb4⟩
      have HLA4 := hid (HLA3.out.on hb4)
      have HLB4 := hid (HLB3.out.on hb4)
      have K34 := hid (K33.out.on hb4 K33.out.lt)
      have K84 := hid (K83.out.on hb4 K83.out.lt)
      have HAP := hid (RA3.out.apart hr4)
      have RA4 := hid (RA3.out.on hb4)
      have RC := hid (hr4.base HB3.out.size)
      have HB4 := hid (HB3.out.trans (hb4.mono HB3.out.size))
      clear hr4 hb4
      go_wp2_with fail
      refine hK.out _ _ (fun _ => trivial) ?_
      clear hK K
      try simp only [Act.put, List.setIfInBounds_toArray, List.set_cons_zero, List.set_cons_succ]
      refine wpAnyM_pick (i := 10) (some 2) (v := ?vz7) rfl rfl (by kernel_rfl) (by kernel_rfl) (by kernel_rfl) (by kernel_rfl) (fun _ _ _ h => h) (Or.inl ⟨by rfl, ?hz7⟩) trivial ?rz7
      case hz7 => intro w hSw; (try have hs1 := hSw.1); (try have hs2 := hSw.2); go_simp; try with_reducible rfl
      try simp only [Act.put, List.setIfInBounds_toArray, List.set_cons_zero, List.set_cons_succ]
      refine wpAnyM_pick (i := 11) (some 3) (v := ?vz8) rfl rfl (by kernel_rfl) (by kernel_rfl) (by kernel_rfl) (by kernel_rfl) (fun _ _ _ h => h) (Or.inl ⟨by rfl, ?hz8⟩) trivial ?rz8
      case hz8 => intro w hSw; (try have hs1 := hSw.1); (try have hs2 := hSw.2); go_simp; try with_reducible rfl
      try simp only [Act.put, List.setIfInBounds_toArray, List.set_cons_zero, List.set_cons_succ]
      refine wpAnyM_done (by kernel_rfl) ?_ _
      try simp only [Act.put, List.setIfInBounds_toArray, List.set_cons_zero, List.set_cons_succ]
      go_wp2_with fail
      go_ret2
      refine ⟨i, q2, r2, q4, r4, hi, HM.out, ?_, ?_, ?_, ?_, HB4.out⟩
      · rw [HA.out, HC2.out, HAN.out, HCN.out]; rfl
      · rw [HA.out, HAN.out]; exact RA4.out
      · rw [HC2.out, HCN.out]; exact RC.out
      · rw [HA.out, HC2.out, HAN.out, HCN.out]; exact HAP.out
    · go_simp
      have b5 : Below x1.heap.size x1 (x1.alloc (.cells #[.slice a2 m2 c2] 31)) := (Below.refl _ x1).alloc (Nat.le_refl _) _
      have K85 := hid (Blk.made x1 #[.slice a2 m2 c2] 31)
      have HLA5 := hid (HLA1.out.on b5)
      have HLB5 := hid (HLB1.out.on b5)
      have HB5 := hid (HB1.out.trans (b5.mono HB1.out.size))
      have K35 := hid (K31.out.on b5 K31.out.lt)
      clear b5
      refine hK.out _ _ (fun _ => trivial) ?_
      clear hK K
      try simp only [Act.put, List.setIfInBounds_toArray, List.set_cons_zero, List.set_cons_succ]
      generalize x1.alloc (.cells #[.slice a2 m2 c2] 31) = x5 at *
      generalize x1.heap.size = p5 at *
      refine wpAnyM_one (i := 4) (by kernel_rfl) rfl (fun K hK => ?_)
      go_simp
      go_at_call 213
      refine (HJ.out x5 p1 _ A al HAN.out K35.out HLA5.out HAL.out HAS.out).mono ?_
      rintro e x6 ⟨q6, r6, rfl, hr6, hb6⟩
      have HLA6 := hid (HLA5.out.on hb6)
      have HLB6 := hid (HLB5.out.on hb6)
      have K36 := hid (K35.out.on hb6 K35.out.lt)
      have K86 := hid (K85.out.on hb6 K85.out.lt)
      have RA6 := hid (hr6.base HB5.out.size)
      have HB6 := hid (HB5.out.trans (hb6.mono HB5.out.size))
      clear hr6 hb6
      go_wp2_with fail
      refine hK.out _ _ (fun _ => trivial) ?_
      clear hK K
      try simp only [Act.put, List.setIfInBounds_toArray, List.set_cons_zero, List.set_cons_succ]
      refine wpAnyM_one (i := 9) (by kernel_rfl) rfl (fun K hK => ?_)
      go_simp
      go_at_call 213
      refine (HJ.out x6 p5 _ C cl HCN.out K86.out HLB6.out HCL.out HCS.out).mono ?_
      rintro e x7 ⟨q7, r7, rfl, hr7, hb7⟩
      have HLA7 := hid (HLA6.out.on hb7)
      have HLB7 := hid (HLB6.out.on hb7)
      have K37 := hid (K36.out.on hb7 K36.out.lt)
      have K87 := hid (K86.out.on hb7 K86.out.lt)
      have HAP := hid (RA6.out.apart hr7)
      have RA7 := hid (RA6.out.on hb7)
      have RC := hid (hr7.base HB6.out.size)
      have HB7 := hid (HB6.out.trans (hb7.mono HB6.out.size))
      clear hr7 hb7
      go_wp2_with fail
      refine hK.out _ _ (fun _ => trivial) ?_
      clear hK K
      try simp only [Act.put, List.setIfInBounds_toArray, List.set_cons_zero, List.set_cons_succ]
      refine wpAnyM_pick (i := 10) (some 2) (v := ?vz9) rfl rfl (by kernel_rfl) (by kernel_rfl) (by kernel_rfl) (by kernel_rfl) (fun _ _ _ h => h) (Or.inl ⟨by rfl, ?hz9⟩) trivial ?rz9
      case hz9 => intro w hSw; (try have hs1 := hSw.1); (try have hs2 := hSw.2); go_simp; try with_reducible rfl
      try simp only [Act.put, List.setIfInBounds_toArray, List.set_cons_zero, List.set_cons_succ]
      refine wpAnyM_pick (i := 11) (some 3) (v := ?vz10) rfl rfl (by kernel_rfl) (by kernel_rfl) (by kernel_rfl) (by kernel_rfl) (fun _ _ _ h => h) (Or.inl ⟨by rfl, ?hz10⟩) trivial ?rz10
      case hz10 => intro w hSw; (try have hs1 := hSw.1); (try have hs2 := hSw.2); go_simp; try with_reducible rfl
      try simp only [Act.put, List.setIfInBounds_toArray, List.set_cons_zero, List.set_cons_succ]
      refine wpAnyM_done (by kernel_rfl) ?_ _
      try simp only [Act.put, List.setIfInBounds_toArray, List.set_cons_zero, List.set_cons_succ]
      go_wp2_with fail
      go_ret2
      refine ⟨i, q6, r6, q7, r7, hi, HM.out, ?_, ?_, ?_, ?_, HB7.out⟩
      · rw [HA.out, HC2.out, HAN.out, HCN.out]; rfl
      · rw [HA.out, HAN.out]; exact RA7.out
      · rw [HC2.out, HCN.out]; exact RC.out
      · rw [HA.out, HC2.out, HAN.out, HCN.out]; exact HAP.out
  · go_simp
    have b8 : Below w2.heap.size w2 (w2.alloc (.cells #[.slice a2 m2 c2] 31)) := (Below.refl _ w2).alloc (Nat.le_refl _) _
    have K88 := hid (Blk.made w2 #[.slice a2 m2 c2] 31)
    have HLA8 := hid (HLA1.out.on b8)
    have HLB8 := hid (HLB1.out.on b8)
    have HB8 := hid (HB2.out.trans (b8.mono HB2.out.size))
    clear b8
    refine hK.out _ _ (fun _ => trivial) ?_
    clear hK K
    try simp only [Act.put, List.setIfInBounds_toArray, List.set_cons_zero, List.set_cons_succ]
    generalize w2.alloc (.cells #[.slice a2 m2 c2] 31) = x8 at *
    generalize w2.heap.size = p8 at *
    refine wpAnyM_one (i := 3) (by kernel_rfl) rfl (fun K hK => ?_)
    go_simp
    have b9 : Below x8.heap.size x8 (x8.alloc (.cells #[.slice a1 i c] 31)) := (Below.refl _ x8).alloc (Nat.le_refl _) _
    have K39 := hid (Blk.made x8 #[.slice a1 i c] 31)
    have HLA9 := hid (HLA8.out.on b9)
    have HLB9 := hid (HLB8.out.on b9)
    have HB9 := hid (HB8.out.trans (b9.mono HB8.out.size))
    have K89 := hid (K88.out.on b9 K88.out.lt)
    clear b9
    refine hK.out _ _ (fun _ => trivial) ?_
    clear hK K
    try simp only [Act.put, List.setIfInBounds_toArray, List.set_cons_zero, List.set_cons_succ]
    generalize x8.alloc (.cells #[.slice a1 i c] 31) = x9 at *
    generalize x8.heap.size = p9 at *
    refine wpAnyM_one (i := 4) (by kernel_rfl) rfl (fun K hK => ?_)
    go_simp
    go_at_call 213
    refine (HJ.out x9 p9 _ A al HAN.out K39.out HLA9.out HAL.out HAS.out).mono ?_
    rintro e x10 ⟨q10, r10, rfl, hr10, hb10⟩
    have HLA10 := hid (HLA9.out.on hb10)
    have HLB10 := hid (HLB9.out.on hb10)
    have K310 := hid (K39.out.on hb10 K39.out.lt)
    have K810 := hid (K89.out.on hb10 K89.out.lt)
    have RA10 := hid (hr10.base HB9.out.size)
    have HB10 := hid (HB9.out.trans (hb10.mono HB9.out.size))
    clear hr10 hb10
    go_wp2_with fail
    refine hK.out _ _ (fun _ => trivial) ?_
    clear hK K
    try simp only [Act.put, List.setIfInBounds_toArray, List.set_cons_zero, List.set_cons_succ]
    refine wpAnyM_one (i := 9) (by kernel_rfl) rfl (fun K hK => ?_)
    go_simp
    go_at_call 213
    refine (HJ.out x10 p8 _ C cl HCN.out K810.out HLB10.out HCL.out HCS.out).mono ?_
    rintro e x11 ⟨q11, r11, rfl, hr11, hb11⟩
    have HLA11 := hid (HLA10.out.on hb11)
    have HLB11 := hid (HLB10.out.on hb11)
    have K311 := hid (K310.out.on hb11 K310.out.lt)
    have K811 := hid (K810.out.on hb11 K810.out.lt)
    have HAP := hid (RA10.out.apart hr11)
    have RA11 := hid (RA10.out.on hb11)
    have RC := hid (hr11.base HB10.out.size)
    have HB11 := hid (HB10.out.trans (hb11.mono HB10.out.size))
    clear hr11 hb11
    go_wp2_with fail
    refine hK.out _ _ (fun _ => trivial) ?_
    clear hK K
    try simp only [Act.put, List.setIfInBounds_toArray, List.set_cons_zero, List.set_cons_succ]
    refine wpAnyM_pick (i := 10) (some 2) (v := ?vz11) rfl rfl (by kernel_rfl) (by kernel_rfl) (by kernel_rfl) (by kernel_rfl) (fun _ _ _ h => h) (Or.inl ⟨by rfl, ?hz11⟩) trivial ?rz11
    case hz11 => intro w hSw; (try have hs1 := hSw.1); (try have hs2 := hSw.2); go_simp; try with_reducible rfl
    try simp only [Act.put, List.setIfInBounds_toArray, List.set_cons_zero, List.set_cons_succ]
    refine wpAnyM_pick (i := 11) (some 3) (v := ?vz12) rfl rfl (by kernel_rfl) (by kernel_rfl) (by kernel_rfl) (by kernel_rfl) (fun _ _ _ h => h) (Or.inl ⟨by rfl, ?hz12⟩) trivial ?rz12
    case hz12 => intro w hSw; (try have hs1 := hSw.1); (try have hs2 := hSw.2); go_simp; try with_reducible rfl
    try simp only [Act.put, List.setIfInBounds_toArray, List.set_cons_zero, List.set_cons_succ]
    refine wpAnyM_done (by kernel_rfl) ?_ _
    try simp only [Act.put, List.setIfInBounds_toArray, List.set_cons_zero, List.set_cons_succ]
    go_wp2_with fail
    go_ret2
    refine ⟨i, q10, r10, q11, r11, hi, HM.out, ?_, ?_, ?_, ?_, HB11.out⟩
    · rw [HA.out, HC2.out, HAN.out, HCN.out]; rfl
    · rw [HA.out, HAN.out]; exact RA11.out
    · rw [HC2.out, HCN.out]; exact RC.out
    · rw [HA.out, HC2.out, HAN.out, HCN.out]; exact HAP.out
end Go.Proofs.YtjcbaiohpdihoaaGreatDoor.Lf
