/-
  What the document's space answers: two lists of numbers alike, List, Alloc.
-/
import Derived.Test.YtglallhblcjffaaGreatDoorRa2
namespace Go.Proofs.YtglallhblcjffaaGreatDoor
open Go.RowKit
set_option linter.unusedVariables false
set_option linter.unusedSimpArgs false
set_option maxRecDepth 100000

set_option maxHeartbeats 1000000 in
theorem sameInts_any (w : World) (B B' : Nat) (u v : Value) (L M : List Int) (hu : RowI w B u L) (hv : RowI w B' v M) (hl : L.length ≤ 100000) (hl2 : M.length ≤ 100000) :
    Calls Tryz.prog 39 #[u, v] w fun e w' => e = .returned (.bool (decide (L = M))) ∧ Below w.heap.size w w' := by
  obtain ⟨a, c, e1⟩ := hu.form
  obtain ⟨a', c', e2⟩ := hv.form
  subst e1
  subst e2
  by_cases hne : L.length = M.length
  · have HU := hid hu
    have HV := hid hv
    obtain ⟨n, hn⟩ : ∃ n, L.length = n := ⟨_, rfl⟩
    have hn2 : M.length = n := by omega
    have HN := hid hn
    have HN2 := hid hn2
    have hl3 := hl
    rw [hn] at hl3
    rw [hn, hn2]
    clear hu hv hn hl hn2 hl2 hne
    have hnn : ((n : Int) != (n : Int)) = false := by simp
    go_enter Tryz.func39, Tryz.ntmps39
    go_wp2_with fail
    go_loopw [13] (fun i wr => ∃ k : Nat, k ≤ n ∧ i = .int .i64 (k : Nat) ∧ Below w.heap.size w wr ∧ Hid (∀ j, j < k → L[j]? = M[j]?)) (fun i _ => n - (intOf i).toNat)
    case atStart => exact ⟨0, Nat.zero_le _, rfl, Below.refl _ _, fun j hj => absurd hj (Nat.not_lt_zero _)⟩
    case round =>
      obtain ⟨k, hk, rfl, hb, HA⟩ := hrel
      by_cases hlt : k < n
      · have hki : (k : Int) < (n : Int) := by omega
        obtain ⟨s, hs⟩ : ∃ s, L[k]? = some s := ⟨_, List.getElem?_eq_getElem (by rw [HN.out]; exact hlt)⟩
        obtain ⟨t, ht⟩ : ∃ t, M[k]? = some t := ⟨_, List.getElem?_eq_getElem (by rw [HN2.out]; exact hlt)⟩
        obtain ⟨g, x1, _, e1, c1, _⟩ := HU.out.at hs
        obtain ⟨h, x2, _, e2, c2, _⟩ := HV.out.at ht
        subst x1
        subst x2
        have d1 : wr.cell? ⟨g, k, none⟩ = some (.int .i64 s) := (hb.cell (p := ⟨g, k, none⟩) e1).trans c1
        have d2 : wr.cell? ⟨h, k, none⟩ = some (.int .i64 t) := (hb.cell (p := ⟨h, k, none⟩) e2).trans c2
        by_cases hst : s = t
        · subst hst
          have hss : (s != s) = false := by simp
          have HA2 : Hid (∀ j, j < k + 1 → L[j]? = M[j]?) := fun j hj => by
            rcases Nat.lt_succ_iff_lt_or_eq.1 hj with h | rfl
            · exact HA.out j h
            · rw [hs, ht]
          clear c1 c2 hs e1 e2 ht HA
          go_wp2_with fail
          go_region
          have hbd := hb.drew
          clear d1 d2
          go_wp2_with fail
          go_roundw
          case rel => exact ⟨k + 1, by omega, by go_num, hbd, HA2⟩
          case measure => simp [intOf]; omega
        · have hss : (s != t) = true := by simpa using hst
          have hd : decide (L = M) = false := decide_eq_false (fun e => hst (by rw [e] at hs; exact Option.some.inj (hs.symm.trans ht)))
          have HD := hid hd
          clear c1 c2 hs e1 e2 ht HA hd
          go_wp2_with fail
          go_region
          have hbd := hb.drew
          clear d1 d2
          go_wp2_with fail
          go_ret
          exact ⟨congrArg (fun x => Ending.returned (Value.bool x)) HD.out.symm, hbd⟩
      · have hki : ¬ (k : Int) < (n : Int) := by omega
        have hd : decide (L = M) = true := decide_eq_true (List.ext_getElem? (fun j => by
          by_cases hj : j < k
          · exact HA.out j hj
          · have h1 := HN.out
            have h2 := HN2.out
            rw [List.getElem?_eq_none (by omega), List.getElem?_eq_none (by omega)]))
        have HD := hid hd
        clear HA hd
        go_wp2_with fail
        go_ret
        exact ⟨congrArg (fun x => Ending.returned (Value.bool x)) HD.out.symm, hb⟩
  · have hd : decide (L = M) = false := decide_eq_false (fun e => hne (by rw [e]))
    rw [hd]
    have hnn : ((L.length : Int) != (M.length : Int)) = true := by simp; omega
    generalize L.length = n at *
    generalize M.length = m at *
    clear hu hv
    go_enter Tryz.func39, Tryz.ntmps39
    go_wp2_with fail
    go_ret
    exact ⟨rfl, Below.refl _ _⟩

/-- the taken ones of the first c -/
def tkL (F c : Nat) (T : List Bool) : List Int := ((List.range c).filter fun (j : Nat) => T.getD j false).map fun (j : Nat) => (F : Int) + 1 + (j : Int)
theorem tkL_succ (F c : Nat) (T : List Bool) : tkL F (c + 1) T = tkL F c T ++ if T.getD c false = true then [(F : Int) + 1 + (c : Int)] else [] := by
  unfold tkL
  rw [List.range_succ, List.filter_append, List.map_append]
  congr 1
  by_cases h : T.getD c false = true
  · rw [if_pos h, List.filter_cons_of_pos (p := fun j => T.getD j false) h]
    rfl
  · rw [if_neg h, List.filter_cons_of_neg (p := fun j => T.getD j false) h]
    rfl
section
variable {w W V : World} {S R R' : Nat → Prop} {b : Nat} {r r1 r2 : Rsp}
theorem Rn.trans {r0 : Rsp} (h : Rn w R b r0 W) (k : ∀ R', Rr W R' b r0 → Rn W R' b r1 V) : Rn w R b r1 V := by
  obtain ⟨R', h1, h2⟩ := h.rr
  have hk := k R' h1
  obtain ⟨R2, h3, h4⟩ := hk.rr
  refine ⟨⟨R2, h3, fun j hj => ?_⟩, h.keep.trans hk.keep (fun j hj hr => ?_)⟩
  · rcases h4 j hj with h' | h'
    · exact h2 j h'
    · exact .inr (Nat.le_trans h.keep.size h')
  · rcases h2 j hr with h' | h'
    · exact h'
    · exact absurd hj (by omega)
set_option maxHeartbeats 1000000 in
theorem rList_any (hok : r.Ok) (h : Rr w R b r) : Calls Tryz.prog 38 #[.pointer (some ⟨b, 0, none⟩)] w fun e w' => ∃ v', e = .returned v' ∧ RowI w' w.heap.size v' (tkL (frs r.n) r.taken.length r.taken) ∧ Below w.heap.size w w' := by
  obtain ⟨pa, pc, ta, tc, c0, c1, c2, c3, r2, r3, hf, hlt⟩ := h.read
  have HFI : Hid (∀ w1 : World, Calls Tryz.prog 21 #[.int .i64 (r.n : Nat)] w1 fun e w' => e = .returned (.int .i64 (frs r.n : Nat)) ∧ w1 = w') := fun w1 => rFirst_any r.n hok.lo hok.hi w1
  obtain ⟨b1, b2, b3, b4, b5⟩ := frs_small hok.lo hok.hi
  have htl := hok.tl
  obtain ⟨T, hT⟩ : ∃ T, r.taken = T := ⟨_, rfl⟩
  obtain ⟨m, hm⟩ : ∃ m, T.length = m := ⟨_, rfl⟩
  rw [hT] at c3 r3 htl ⊢
  have HR := hid r3
  have HM := hid hm
  rw [hm] at c3 htl ⊢
  rw [hm] at HR
  have HK : Hid (∀ w5, Below w.heap.size w w5 → w5.cell? ⟨b, 0, none⟩ = some (.int .i64 (r.n : Nat)) ∧ w5.cell? ⟨b, 3, none⟩ = some (.slice ta m tc)) := fun w5 hb => ⟨(hb.cell (p := ⟨b, 0, none⟩) hlt).trans c0, (hb.cell (p := ⟨b, 3, none⟩) hlt).trans c3⟩
  clear h r2 r3 hf hlt c1 c2 hok hT hm
  generalize frs r.n = F at *
  generalize pgs r.n = mm at *
  generalize r.n = n at *
  have hm2 : m ≤ 1017 := by omega
  clear b4 b5 htl b2 b3
  go_enter Tryz.func38, Tryz.ntmps38
  go_wp2_with fail
  clear c0 c3
  go_loopw [3, 10] (fun x i wr => ∃ (j q : Nat) (ba : Option Addr) (bc : Nat), j ≤ m ∧ q ≤ j ∧ i = .int .i64 (j : Nat) ∧ x = .slice ba q bc ∧ Hid ((tkL F j T).length = q) ∧ Hid (RowI wr w.heap.size (.slice ba q bc) (tkL F j T)) ∧ Hid (Below w.heap.size w wr)) (fun _ i _ => m - (intOf i).toNat)
  case atStart => exact ⟨0, 0, none, 0, Nat.zero_le _, Nat.le_refl _, by simp, rfl, (by show _ = _; rfl), (by show RowI _ _ _ _; exact World.ownsRow_nil _ _ _ _), Below.refl _ _⟩
  case round =>
    obtain ⟨j, q, ba, bc, hj, hq, rfl, rfl, HQ, HO, HB⟩ := hrel
    by_cases hjm : j < m
    · have hji : (j : Int) < (m : Int) := by omega
      obtain ⟨x, hx⟩ : ∃ x, T[j]? = some x := ⟨_, List.getElem?_eq_getElem (by rw [HM.out]; exact hjm)⟩
      obtain ⟨g, e1, _, hgl, d0, _⟩ := HR.out.at hx
      subst e1
      have d1 : wr.cell? ⟨g, j, none⟩ = some (.bool x) := (HB.out.cell (p := ⟨g, j, none⟩) hgl).trans d0
      obtain ⟨k0, k3⟩ := HK.out wr HB.out
      have hg : T.getD j false = x := by rw [List.getD_eq_getElem?_getD, hx]; rfl
      have HSU := hid (tkL_succ F j T)
      rw [hg] at HSU
      clear hg hx d0 hgl
      have hw1 : IntKind.i64.wrap ((F : Int) + 1) = (F : Int) + 1 := by rw [IntKind.wrap_i64]; omega
      have hw2 : IntKind.i64.wrap ((F : Int) + 1 + (j : Int)) = (F : Int) + 1 + (j : Int) := by rw [IntKind.wrap_i64]; omega
      cases x with
      | true =>
        have HQ2 : Hid (tkL F (j + 1) T = tkL F j T ++ [(F : Int) + 1 + (j : Int)]) := by show _ = _; rw [HSU.out, if_pos rfl]
        have x0 : (wr.alloc (.cells #[.int .i64 ((F : Int) + 1 + (j : Int))] 3)).cell? ⟨wr.heap.size, 0, none⟩ = some (.int .i64 ((F : Int) + 1 + (j : Int))) := (Blk.made wr _ 3).cell (i := 0) rfl
        have HOW := hid (HO.out.on ((Below.refl _ wr).alloc (Nat.le_refl _) (.cells #[.int .i64 ((F : Int) + 1 + (j : Int))] 3)))
        have HBW := hid (HB.out.alloc HB.out.size (.cells #[.int .i64 ((F : Int) + 1 + (j : Int))] 3))
        clear HSU
        go_wp2_with (first
          | (go_at_call 21; refine (HFI.out _).mono ?_; rintro e w9 ⟨rfl, rfl⟩)
          | (at_builtin; refine wpList_intB _ w.heap.size HBW.out.size rfl (.tmp 20) (.tmp 29) rfl _ _ q HQ.out rfl HOW.out wr.heap.size ((F : Int) + 1 + (j : Int)) rfl x0 (by omega) ?_; intro ua uc w5 hr5 hg5; have HR5 : Hid (RowI w5 w.heap.size (.slice ua (q + 1) uc) (tkL F (j + 1) T)) := (by show RowI _ _ _ _; rw [HQ2.out]; exact hr5); have HB5 := hid (HBW.out.grown hg5 HBW.out.size (fun k hk => (World.ownsRow.lt HOW.out k hk).1)); have HM5 : Hid ((tkL F (j + 1) T).length = q + 1) := (by show _ = _; rw [HQ2.out, List.length_append, HQ.out]; rfl); clear hr5 hg5 x0))
        go_roundw
        case rel => exact ⟨j + 1, q + 1, ua, uc, by omega, by omega, by go_num, rfl, HM5, HR5, HB5⟩
        case measure => simp [intOf]; omega
      | false =>
        have HQ2 : Hid (tkL F (j + 1) T = tkL F j T) := by show _ = _; rw [HSU.out, if_neg (by decide), List.append_nil]
        have HR5 : Hid (RowI wr w.heap.size (.slice ba q bc) (tkL F (j + 1) T)) := by show RowI _ _ _ _; rw [HQ2.out]; exact HO.out
        have HM5 : Hid ((tkL F (j + 1) T).length = q) := by show _ = _; rw [HQ2.out, HQ.out]
        clear HSU HQ2 HO HQ
        go_wp2_with fail
        go_roundw
        case rel => exact ⟨j + 1, q, ba, bc, by omega, by omega, by go_num, rfl, HM5, HR5, HB⟩
        case measure => simp [intOf]; omega
    · obtain rfl : j = m := by omega
      have hji : ¬ (j : Int) < (j : Int) := by omega
      go_wp2_with fail
      go_ret
      exact ⟨_, rfl, HO.out, HB.out⟩
end
end Go.Proofs.YtglallhblcjffaaGreatDoor
