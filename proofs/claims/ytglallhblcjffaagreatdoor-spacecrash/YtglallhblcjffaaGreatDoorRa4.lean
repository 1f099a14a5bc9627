/-
  What the document's space answers: Alloc.
-/
import Derived.Test.YtglallhblcjffaaGreatDoorRa2
namespace Go.Proofs.YtglallhblcjffaaGreatDoor
open Go.RowKit
set_option linter.unusedVariables false
set_option linter.unusedSimpArgs false
set_option maxRecDepth 100000
set_option maxHeartbeats 1000000 in

theorem sameInts_any (w : World) (B B' : Nat) (u v : Value) (L M : List Int) (hu : RowI w B u L) (hv : RowI w B' v M) (hl : L.length ≤ 100000) (hl2 : M.length ≤ 100000) :
    Calls Tryz.prog 39 #[u, v] w fun e w' => e = .returned (.bool (decide (L = M))) ∧ Below w.heap.size w w' := by
  obtain ⟨a, c, e1⟩ := hu.form
  obtain ⟨a', c', e2⟩ := hv.form
  subst e1
  subst e2
  by_cases hne : L.length = M.length
  · have HU := hid hu
    have HV := hid hv
    obtain ⟨n, hn⟩ : ∃ n, L.length = n := ⟨_, rfl⟩
    have hn2 : M.length = n := by omega
    have HN := hid hn
    have HN2 := hid hn2
    have hl3 := hl
    rw [hn] at hl3
    rw [hn, hn2]
    clear hu hv hn hl hn2 hl2 hne
    have hnn : ((n : Int) != (n : Int)) = false := by simp
    go_enter Tryz.func39, Tryz.ntmps39
    go_wp2_with fail
    go_loopw [13] (fun i wr => ∃ k : Nat, k ≤ n ∧ i = .int .i64 (k : Nat) ∧ Below w.heap.size w wr ∧ Hid (∀ j, j < k → L[j]? = M[j]?)) (fun i _ => n - (intOf i).toNat)
    case atStart => exact ⟨0, Nat.zero_le _, rfl, Below.refl _ _, fun j hj => absurd hj (Nat.not_lt_zero _)⟩
    case round =>
      obtain ⟨k, hk, rfl, hb, HA⟩ := hrel
      by_cases hlt : k < n
      · have hki : (k : Int) < (n : Int) := by omega
        obtain ⟨s, hs⟩ : ∃ s, L[k]? = some s := ⟨_, List.getElem?_eq_getElem (by rw [HN.out]; exact hlt)⟩
        obtain ⟨t, ht⟩ : ∃ t, M[k]? = some t := ⟨_, List.getElem?_eq_getElem (by rw [HN2.out]; exact hlt)⟩
        obtain ⟨g, x1, _, e1, c1, _⟩ := HU.out.at hs
        obtain ⟨h, x2, _, e2, c2, _⟩ := HV.out.at ht
        subst x1
        subst x2
        have d1 : wr.cell? ⟨g, k, none⟩ = some (.int .i64 s) := (hb.cell (p := ⟨g, k, none⟩) e1).trans c1
        have d2 : wr.cell? ⟨h, k, none⟩ = some (.int .i64 t) := (hb.cell (p := ⟨h, k, none⟩) e2).trans c2
        by_cases hst : s = t
        · subst hst
          have hss : (s != s) = false := by simp
          have HA2 : Hid (∀ j, j < k + 1 → L[j]? = M[j]?) := fun j hj => by
            rcases Nat.lt_succ_iff_lt_or_eq.1 hj with h | rfl
            · exact HA.out j h
            · rw [hs, ht]
          clear c1 c2 hs e1 e2 ht HA
          go_wp2_with fail
          go_region
          have hbd := hb.drew
          clear d1 d2
          go_wp2_with fail
          go_roundw
          case rel => exact ⟨k + 1, by omega, by go_num, hbd, HA2⟩
          case measure => simp [intOf]; omega
        · have hss : (s != t) = true := by simpa using hst
          have hd : decide (L = M) = false := decide_eq_false (fun e => hst (by rw [e] at hs; exact Option.some.inj (hs.symm.trans ht)))
          have HD := hid hd
          clear c1 c2 hs e1 e2 ht HA hd
          go_wp2_with fail
          go_region
          have hbd := hb.drew
          clear d1 d2
          go_wp2_with fail
          go_ret
          exact ⟨congrArg (fun x => Ending.returned (Value.bool x)) HD.out.symm, hbd⟩
      · have hki : ¬ (k : Int) < (n : Int) := by omega
        have hd : decide (L = M) = true := decide_eq_true (List.ext_getElem? (fun j => by
          by_cases hj : j < k
          · exact HA.out j hj
          · have h1 := HN.out
            have h2 := HN2.out
            rw [List.getElem?_eq_none (by omega), List.getElem?_eq_none (by omega)]))
        have HD := hid hd
        clear HA hd
        go_wp2_with fail
        go_ret
        exact ⟨congrArg (fun x => Ending.returned (Value.bool x)) HD.out.symm, hb⟩
  · have hd : decide (L = M) = false := decide_eq_false (fun e => hne (by rw [e]))
    rw [hd]
    have hnn : ((L.length : Int) != (M.length : Int)) = true := by simp; omega
    generalize L.length = n at *
    generalize M.length = m at *
    clear hu hv
    go_enter Tryz.func39, Tryz.ntmps39
    go_wp2_with fail
    go_ret
    exact ⟨rfl, Below.refl _ _⟩

/-- the taken ones of the first c -/
def tkL (F c : Nat) (T : List Bool) : List Int := ((List.range c).filter fun (j : Nat) => T.getD j false).map fun (j : Nat) => (F : Int) + 1 + (j : Int)
theorem tkL_succ (F c : Nat) (T : List Bool) : tkL F (c + 1) T = tkL F c T ++ if T.getD c false = true then [(F : Int) + 1 + (c : Int)] else [] := by
  unfold tkL
  rw [List.range_succ, List.filter_append, List.map_append]
  congr 1
  by_cases h : T.getD c false = true
  · rw [if_pos h, List.filter_cons_of_pos (p := fun j => T.getD j false) h]
    rfl
  · rw [if_neg h, List.filter_cons_of_neg (p := fun j => T.getD j false) h]
    rfl
section
variable {w W V : World} {S R R' : Nat → Prop} {b : Nat} {r r1 r2 : Rsp}
theorem Rn.trans {r0 : Rsp} (h : Rn w R b r0 W) (k : ∀ R', Rr W R' b r0 → Rn W R' b r1 V) : Rn w R b r1 V := by
  obtain ⟨R', h1, h2⟩ := h.rr
  have hk := k R' h1
  obtain ⟨R2, h3, h4⟩ := hk.rr
  refine ⟨⟨R2, h3, fun j hj => ?_⟩, h.keep.trans hk.keep (fun j hj hr => ?_)⟩
  · rcases h4 j hj with h' | h'
    · exact h2 j h'
    · exact .inr (Nat.le_trans h.keep.size h')
  · rcases h2 j hr with h' | h'
    · exact h'
    · exact absurd hj (by omega)
set_option maxHeartbeats 1000000 in
theorem rList_any (hok : r.Ok) (h : Rr w R b r) : Calls Tryz.prog 38 #[.pointer (some ⟨b, 0, none⟩)] w fun e w' => ∃ v', e = .returned v' ∧ RowI w' w.heap.size v' (tkL (frs r.n) r.taken.length r.taken) ∧ Below w.heap.size w w' := by
  obtain ⟨pa, pc, ta, tc, c0, c1, c2, c3, r2, r3, hf, hlt⟩ := h.read
  have HFI : Hid (∀ w1 : World, Calls Tryz.prog 21 #[.int .i64 (r.n : Nat)] w1 fun e w' => e = .returned (.int .i64 (frs r.n : Nat)) ∧ w1 = w') := fun w1 => rFirst_any r.n hok.lo hok.hi w1
  obtain ⟨b1, b2, b3, b4, b5⟩ := frs_small hok.lo hok.hi
  have htl := hok.tl
  obtain ⟨T, hT⟩ : ∃ T, r.taken = T := ⟨_, rfl⟩
  obtain ⟨m, hm⟩ : ∃ m, T.length = m := ⟨_, rfl⟩
  rw [hT] at c3 r3 htl ⊢
  have HR := hid r3
  have HM := hid hm
  rw [hm] at c3 htl ⊢
  rw [hm] at HR
  have HK : Hid (∀ w5, Below w.heap.size w w5 → w5.cell? ⟨b, 0, none⟩ = some (.int .i64 (r.n : Nat)) ∧ w5.cell? ⟨b, 3, none⟩ = some (.slice ta m tc)) := fun w5 hb => ⟨(hb.cell (p := ⟨b, 0, none⟩) hlt).trans c0, (hb.cell (p := ⟨b, 3, none⟩) hlt).trans c3⟩
  clear h r2 r3 hf hlt c1 c2 hok hT hm
  generalize frs r.n = F at *
  generalize pgs r.n = mm at *
  generalize r.n = n at *
  have hm2 : m ≤ 1017 := by omega
  clear b4 b5 htl b2 b3
  go_enter Tryz.func38, Tryz.ntmps38
  go_wp2_with fail
  clear c0 c3
  go_loopw [3, 10] (fun x i wr => ∃ (j q : Nat) (ba : Option Addr) (bc : Nat), j ≤ m ∧ q ≤ j ∧ i = .int .i64 (j : Nat) ∧ x = .slice ba q bc ∧ Hid ((tkL F j T).length = q) ∧ Hid (RowI wr w.heap.size (.slice ba q bc) (tkL F j T)) ∧ Hid (Below w.heap.size w wr)) (fun _ i _ => m - (intOf i).toNat)
  case atStart => exact ⟨0, 0, none, 0, Nat.zero_le _, Nat.le_refl _, by simp, rfl, (by show _ = _; rfl), (by show RowI _ _ _ _; exact World.ownsRow_nil _ _ _ _), Below.refl _ _⟩
  case round =>
    obtain ⟨j, q, ba, bc, hj, hq, rfl, rfl, HQ, HO, HB⟩ := hrel
    by_cases hjm : j < m
    · have hji : (j : Int) < (m : Int) := by omega
      obtain ⟨x, hx⟩ : ∃ x, T[j]? = some x := ⟨_, List.getElem?_eq_getElem (by rw [HM.out]; exact hjm)⟩
      obtain ⟨g, e1, _, hgl, d0, _⟩ := HR.out.at hx
      subst e1
      have d1 : wr.cell? ⟨g, j, none⟩ = some (.bool x) := (HB.out.cell (p := ⟨g, j, none⟩) hgl).trans d0
      obtain ⟨k0, k3⟩ := HK.out wr HB.out
      have hg : T.getD j false = x := by rw [List.getD_eq_getElem?_getD, hx]; rfl
      have HSU := hid (tkL_succ F j T)
      rw [hg] at HSU
      clear hg hx d0 hgl
      have hw1 : IntKind.i64.wrap ((F : Int) + 1) = (F : Int) + 1 := by rw [IntKind.wrap_i64]; omega
      have hw2 : IntKind.i64.wrap ((F : Int) + 1 + (j : Int)) = (F : Int) + 1 + (j : Int) := by rw [IntKind.wrap_i64]; omega
      cases x with
      | true =>
        have HQ2 : Hid (tkL F (j + 1) T = tkL F j T ++ [(F : Int) + 1 + (j : Int)]) := by show _ = _; rw [HSU.out, if_pos rfl]
        have x0 : (wr.alloc (.cells #[.int .i64 ((F : Int) + 1 + (j : Int))] 3)).cell? ⟨wr.heap.size, 0, none⟩ = some (.int .i64 ((F : Int) + 1 + (j : Int))) := (Blk.made wr _ 3).cell (i := 0) rfl
        have HOW := hid (HO.out.on ((Below.refl _ wr).alloc (Nat.le_refl _) (.cells #[.int .i64 ((F : Int) + 1 + (j : Int))] 3)))
        have HBW := hid (HB.out.alloc HB.out.size (.cells #[.int .i64 ((F : Int) + 1 + (j : Int))] 3))
        clear HSU
        go_wp2_with (first
          | (go_at_call 21; refine (HFI.out _).mono ?_; rintro e w9 ⟨rfl, rfl⟩)
          | (at_builtin; refine wpList_intB _ w.heap.size HBW.out.size rfl (.tmp 20) (.tmp 29) rfl _ _ q HQ.out rfl HOW.out wr.heap.size ((F : Int) + 1 + (j : Int)) rfl x0 (by omega) ?_; intro ua uc w5 hr5 hg5; have HR5 : Hid (RowI w5 w.heap.size (.slice ua (q + 1) uc) (tkL F (j + 1) T)) := (by show RowI _ _ _ _; rw [HQ2.out]; exact hr5); have HB5 := hid (HBW.out.grown hg5 HBW.out.size (fun k hk => (World.ownsRow.lt HOW.out k hk).1)); have HM5 : Hid ((tkL F (j + 1) T).length = q + 1) := (by show _ = _; rw [HQ2.out, List.length_append, HQ.out]; rfl); clear hr5 hg5 x0))
        go_roundw
        case rel => exact ⟨j + 1, q + 1, ua, uc, by omega, by omega, by go_num, rfl, HM5, HR5, HB5⟩
        case measure => simp [intOf]; omega
      | false =>
        have HQ2 : Hid (tkL F (j + 1) T = tkL F j T) := by show _ = _; rw [HSU.out, if_neg (by decide), List.append_nil]
        have HR5 : Hid (RowI wr w.heap.size (.slice ba q bc) (tkL F (j + 1) T)) := by show RowI _ _ _ _; rw [HQ2.out]; exact HO.out
        have HM5 : Hid ((tkL F (j + 1) T).length = q) := by show _ = _; rw [HQ2.out, HQ.out]
        clear HSU HQ2 HO HQ
        go_wp2_with fail
        go_roundw
        case rel => exact ⟨j + 1, q, ba, bc, by omega, by omega, by go_num, rfl, HM5, HR5, HB⟩
        case measure => simp [intOf]; omega
    · obtain rfl : j = m := by omega
      have hji : ¬ (j : Int) < (j : Int) := by omega
      go_wp2_with fail
      go_ret
      exact ⟨_, rfl, HO.out, HB.out⟩
end

/-- the first that is not taken -/
def frI (T : List Bool) : Nat := T.findIdx (fun x => !x)
theorem frI_at : ∀ (T : List Bool) (k : Nat), (∀ j, j < k → T[j]? = some true) → T[k]? = some false → frI T = k
  | [], k, _, h => by simp at h
  | x :: T, 0, _, h => by
    simp at h
    subst h
    rfl
  | x :: T, k + 1, h1, h2 => by
    have h0 : x = true := by simpa using h1 0 (by omega)
    subst h0
    have := frI_at T k (fun j hj => by simpa using h1 (j + 1) (by omega)) (by simpa using h2)
    unfold frI at this ⊢
    rw [List.findIdx_cons, this]
    rfl
theorem frI_full : ∀ (T : List Bool), (∀ j, j < T.length → T[j]? = some true) → frI T = T.length
  | [], _ => rfl
  | x :: T, h1 => by
    have h0 : x = true := by simpa using h1 0 (by simp)
    subst h0
    have := frI_full T (fun j hj => by simpa using h1 (j + 1) (by simp; omega))
    unfold frI at this ⊢
    rw [List.findIdx_cons, this]
    rfl
def Rsp.al (r : Rsp) : Rsp := if frI r.taken < r.taken.length then { r with pages := r.pages.set (frI r.taken) ⟨(zs 256).toArray⟩, taken := r.taken.set (frI r.taken) true } else r
section
variable {w W V : World} {S R R' : Nat → Prop} {b : Nat} {r r1 r2 : Rsp}
set_option maxHeartbeats 1000000 in
theorem rAlloc_any (hok : r.Ok) (h : Rr w R b r) : Calls Tryz.prog 35 #[.pointer (some ⟨b, 0, none⟩)] w fun e w' => e = .returned (.tuple #[.int .i64 (if frI r.taken < r.taken.length then (frs r.n : Int) + 1 + (frI r.taken : Int) else 0), .int .i64 (if frI r.taken < r.taken.length then 0 else 16)]) ∧ Rn w R b r.al w' := by
  obtain ⟨pa, pc, ta, tc, c0, c1, c2, c3, r2, r3, hf, hlt⟩ := h.read
  have HFI : Hid (∀ w1 : World, Calls Tryz.prog 21 #[.int .i64 (r.n : Nat)] w1 fun e w' => e = .returned (.int .i64 (frs r.n : Nat)) ∧ w1 = w') := fun w1 => rFirst_any r.n hok.lo hok.hi w1
  obtain ⟨b1, b2, b3, b4, b5⟩ := frs_small hok.lo hok.hi
  have htl := hok.tl
  have hpl := hok.pl
  have HH := hid h
  have HA1 : Hid (∀ k : Nat, (∀ j : Nat, j < k → r.taken[j]? = some true) → r.taken[k]? = some false → Hid ((if frI r.taken < r.taken.length then (frs r.n : Int) + 1 + (frI r.taken : Int) else 0) = (frs r.n : Int) + 1 + (k : Int) ∧ (if frI r.taken < r.taken.length then (0 : Int) else 16) = 0 ∧ r.al = { r with pages := r.pages.set k ⟨(zs 256).toArray⟩, taken := r.taken.set k true })) := fun k h1 h2 => by
    have hk : k < r.taken.length := by
      rcases Nat.lt_or_ge k r.taken.length with h | h
      · exact h
      · rw [List.getElem?_eq_none h] at h2; cases h2
    have := frI_at r.taken k h1 h2
    unfold Rsp.al
    show _ ∧ _ ∧ _
    rw [this, if_pos hk, if_pos hk, if_pos hk]
    exact ⟨rfl, rfl, rfl⟩
  have HA2 : Hid ((∀ j : Nat, j < r.taken.length → r.taken[j]? = some true) → Hid ((if frI r.taken < r.taken.length then (frs r.n : Int) + 1 + (frI r.taken : Int) else 0) = 0 ∧ (if frI r.taken < r.taken.length then (0 : Int) else 16) = 16 ∧ r.al = r)) := fun h1 => by
    have := frI_full r.taken h1
    unfold Rsp.al
    show _ ∧ _ ∧ _
    rw [this, if_neg (Nat.lt_irrefl _), if_neg (Nat.lt_irrefl _), if_neg (Nat.lt_irrefl _)]
    exact ⟨rfl, rfl, rfl⟩
  generalize (if frI r.taken < r.taken.length then (frs r.n : Int) + 1 + (frI r.taken : Int) else 0) = y1 at *
  generalize (if frI r.taken < r.taken.length then (0 : Int) else 16) = y2 at *
  generalize r.al = ra at *
  have HR2 := hid r2
  have HR3 := hid r3
  have HF := hid hf
  obtain ⟨m, hm⟩ : ∃ m, r.taken.length = m := ⟨_, rfl⟩
  have HM := hid hm
  rw [show r.pages.length = m by omega] at c2
  rw [hm] at c3
  have HPL : Hid (r.pages.length = m) := by show _ = _; omega
  have hm2 : m ≤ 1017 := by omega
  have HC2 := hid c2
  have HC3 := hid c3
  have hF : frs r.n ≤ 1100 := b1
  clear h r2 r3 hf c1 hm htl hpl b4 b5 b2 b3 b1
  go_enter Tryz.func35, Tryz.ntmps35
  go_wp2_with fail
  go_loopw [10] (fun i wr => ∃ k : Nat, k ≤ m ∧ i = .int .i64 (k : Nat) ∧ Hid (∀ j, j < k → r.taken[j]? = some true) ∧ w = wr) (fun i _ => m - (intOf i).toNat)
  case atStart => exact ⟨0, Nat.zero_le _, rfl, fun j hj => absurd hj (Nat.not_lt_zero _), rfl⟩
  case round =>
    obtain ⟨k, hk, rfl, HA, rfl⟩ := hrel
    by_cases hkm : k < m
    · have hki : (k : Int) < (m : Int) := by omega
      obtain ⟨x, hx⟩ : ∃ x, r.taken[k]? = some x := ⟨_, List.getElem?_eq_getElem (by rw [HM.out]; exact hkm)⟩
      have hr3 := HR3.out
      rw [HM.out] at hr3
      obtain ⟨g, e1, _, hgl, d0, f0⟩ := hr3.at hx
      clear hr3
      subst e1
      cases x with
      | true =>
        have HA5 : Hid (∀ j, j < k + 1 → r.taken[j]? = some true) := fun j hj => by
          rcases Nat.lt_succ_iff_lt_or_eq.1 hj with h | rfl
          · exact HA.out j h
          · exact hx
        clear hx HA f0 hgl c0 c2
        go_wp2_with fail
        go_roundw
        case rel => exact ⟨k + 1, by omega, by go_num, HA5, by trivial⟩
        case measure => simp [intOf]; omega
      | false =>
        have HE : Hid _ := HA1.out k HA.out hx
        have HN1 := hid (HH.out.take HC3.out k true)
        clear hx HA HA1 HA2 c0 c2
        go_wp2_with fail
        generalize w.setCell ⟨g, k, none⟩ (.bool true) = w1 at HN1 ⊢
        obtain ⟨R1, hr1, hg1⟩ := HN1.out.rr
        obtain ⟨pa1, pc1, ta1, tc1, e0, _, e2, _, q2, _, _, hl1⟩ := hr1.read
        obtain ⟨gp, x2, _, hpl⟩ := row_some q2 (by show 0 < r.pages.length; rw [HPL.out]; omega)
        subst x2
        obtain ⟨y, hy⟩ : ∃ y, r.pages[k]? = some y := ⟨_, List.getElem?_eq_getElem (by rw [HPL.out]; exact hkm)⟩
        obtain ⟨z0, z1⟩ := q2.at hy
        have e3 : w1.cell? ⟨b, 2, none⟩ = some (.slice (some ⟨gp, 0, none⟩) m pc1) := by rw [← HPL.out]; exact e2
        have HSW : w1.drew.cell? ⟨b, 2, none⟩ = some (.slice (some ⟨gp, 0, none⟩) m pc1) := e3
        have HK5 : Hid (∀ w5, Below w1.heap.size w1 w5 → w5.cell? ⟨b, 2, none⟩ = some (.slice (some ⟨gp, 0, none⟩) m pc1) ∧ w5.cell? ⟨gp, k, none⟩ = some (.string y) ∧ w5.frozen? ⟨gp, k, none⟩ = false ∧ w5.cell? ⟨b, 0, none⟩ = some (.int .i64 (r.n : Nat)) ∧ Rn w R b { r with taken := r.taken.set k true } w5) := fun w5 hb => ⟨(hb.cell (p := ⟨b, 2, none⟩) hl1).trans e3, (hb.cell (p := ⟨gp, k, none⟩) hpl).trans z0, (hb.frozen (p := ⟨gp, k, none⟩) hpl).trans z1, (hb.cell (p := ⟨b, 0, none⟩) hl1).trans e0, HN1.out.on hb⟩
        have hki0 : ¬ (k : Int) < 0 := by omega
        have hz : ∀ w5, _ := fun w5 => zeros_any 256 w5 (by decide)
        clear d0 f0 hgl c3 e0 e2 q2 hr1 hg1 hpl hy z0 z1 hl1 e3
        refine wp_region_m (fun w' => w'.cell? ⟨b, 2, none⟩ = some (.slice (some ⟨gp, 0, none⟩) m pc1)) 6 (by kernel_rfl) ?_
        refine wpAnyM_pick (i := 0) (some 27) (v := ?vz1) rfl rfl (by kernel_rfl) (by kernel_rfl) (by kernel_rfl) (by kernel_rfl) (fun _ _ _ h => h) (Or.inl ⟨by rfl, ?hz1⟩) HSW ?rz1
        case hz1 => intro w hSw; go_simp; try with_reducible rfl
        try simp only [Act.put, List.setIfInBounds_toArray, List.set_cons_zero, List.set_cons_succ]
        refine wpAnyM_pick (i := 4) (some 31) (v := ?vz2) rfl rfl (by kernel_rfl) (by kernel_rfl) (by kernel_rfl) (by kernel_rfl) (fun _ _ _ h => h) (Or.inl ⟨by rfl, ?hz2⟩) HSW ?rz2
        case hz2 => intro w hSw; go_simp; try with_reducible rfl
        try simp only [Act.put, List.setIfInBounds_toArray, List.set_cons_zero, List.set_cons_succ]
        refine wpAnyM_pick (i := 1) (some 28) (v := ?vz3) rfl rfl (by kernel_rfl) (by kernel_rfl) (by kernel_rfl) (by kernel_rfl) (fun _ _ _ h => h) (Or.inl ⟨by rfl, ?hz3⟩) HSW ?rz3
        case hz3 => intro w hSw; go_simp; try with_reducible rfl
        try simp only [Act.put, List.setIfInBounds_toArray, List.set_cons_zero, List.set_cons_succ]
        refine wpAnyM_pick (i := 2) (some 29) (v := ?vz4) rfl rfl (by kernel_rfl) (by kernel_rfl) (by kernel_rfl) (by kernel_rfl) (fun _ _ _ h => h) (Or.inl ⟨by rfl, ?hz4⟩) HSW ?rz4
        case hz4 => intro w hSw; go_simp; try with_reducible rfl
        try simp only [Act.put, List.setIfInBounds_toArray, List.set_cons_zero, List.set_cons_succ]
        refine wpAnyM_pick (i := 3) (some 30) (v := ?vz5) rfl rfl (by kernel_rfl) (by kernel_rfl) (by kernel_rfl) (by kernel_rfl) (fun _ _ _ h => h) (Or.inl ⟨by rfl, ?hz5⟩) HSW ?rz5
        case hz5 => intro w hSw; go_simp; try with_reducible rfl
        try simp only [Act.put, List.setIfInBounds_toArray, List.set_cons_zero, List.set_cons_succ]
        refine wpAnyM_one (i := 5) (by kernel_rfl) rfl (fun K hK => ?_)
        go_simp
        go_at_call 48
        refine (hz _).mono ?_
        clear hz
        rintro e w5 ⟨rfl, hb5⟩
        have hb6 : Below w1.heap.size w1 w5 := (Below.refl _ w1).drew.trans hb5
        obtain ⟨u1, u2, u3, u4, u5⟩ := HK5.out w5 hb6
        clear hb5
        try go_simp
        refine hK.out _ _ (fun _ => u1) ?_
        clear hK K
        try simp only [Act.put, List.setIfInBounds_toArray, List.set_cons_zero, List.set_cons_succ]
        refine wpAnyM_one (i := 6) (by kernel_rfl) rfl (fun K hK => ?_)
        go_simp
        refine hK.out _ _ (fun h => absurd h (by decide)) ?_
        clear hK K
        refine wpAnyM_one (i := 7) (by kernel_rfl) rfl (fun K hK => ?_)
        go_simp
        refine hK.out _ _ (fun h => absurd h (by decide)) ?_
        clear hK K
        refine wpAnyM_done (by kernel_rfl) ?_ _
        try simp only [Act.put, List.setIfInBounds_toArray, List.set_cons_zero, List.set_cons_succ]
        have HN2 := hid (u5.trans (fun R' h' => h'.page u1 k ⟨(zs 256).toArray⟩))
        generalize w5.setCell ⟨gp, k, none⟩ (.string ⟨(zs 256).toArray⟩) = w6 at HN2 ⊢
        obtain ⟨R2, hr2, _⟩ := HN2.out.rr
        obtain ⟨pa2, pc2, ta2, tc2, v0, _, _, _, _, _, _, _⟩ := hr2.read
        have v1 : w6.cell? ⟨b, 0, none⟩ = some (.int .i64 (r.n : Nat)) := v0
        clear hr2 v0 u1 u2 u3 u4 u5 HSW HN1 HK5
        have hw1 : IntKind.i64.wrap ((frs r.n : Int) + 1) = (frs r.n : Int) + 1 := by rw [IntKind.wrap_i64]; omega
        have hw2 : IntKind.i64.wrap ((frs r.n : Int) + 1 + (k : Int)) = (frs r.n : Int) + 1 + (k : Int) := by rw [IntKind.wrap_i64]; omega
        go_wp2_with (go_at_call 21; refine (HFI.out _).mono ?_; rintro e w9 ⟨rfl, rfl⟩)
        go_ret2
        obtain ⟨q1, q2, q3⟩ := HE.out
        rw [q1, q2, q3]
        exact ⟨rfl, HN2.out⟩
    · obtain rfl : k = m := by omega
      have hki : ¬ (k : Int) < (k : Int) := by omega
      have HE : Hid _ := HA2.out (by rw [HM.out]; exact HA.out)
      clear HA HR2 HR3 HF c0 c2 c3
      go_wp2_with fail
      go_ret2
      obtain ⟨q1, q2, q3⟩ := HE.out
      rw [q1, q2, q3]
      exact ⟨rfl, Rn.refl HH.out⟩
end

end Go.Proofs.YtglallhblcjffaaGreatDoor
