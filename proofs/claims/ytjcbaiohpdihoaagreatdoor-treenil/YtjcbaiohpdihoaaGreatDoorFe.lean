/-
  sort.Search with the closure of Find; Find.
-/
import Derived.Test.YtjcbaiohpdihoaaGreatDoorSz
import Derived.RegionTactic
import Derived.BigQuiet
import Derived.Shelf.Abstract
namespace Go.Proofs.YtjcbaiohpdihoaaGreatDoor.Lf
open Go.Proofs.YtjcbaiohpdihoaaGreatDoor.Nu
open Go.RowKit
set_option linter.unusedVariables false
set_option linter.unusedSimpArgs false
set_option maxRecDepth 100000

theorem rSize_any (w : World) (v : Value) (L : List Ent) (hl : LiesE w v L) : Calls Tryz.prog 146 #[v] w fun e w' => e = .returned (.int .i64 (szL L)) ∧ Below w.heap.size w w' := by
  obtain ⟨a, c, hv⟩ := hl.form
  subst hv
  have hlen := hl.len
  unfold maxLen at hlen
  have HL := hid hl
  have HE : Hid (L.take L.length = L) := List.take_length
  obtain ⟨m, hm⟩ : ∃ m, L.length = m := ⟨_, rfl⟩
  have HM := hid hm
  unfold szL
  rw [hm] at HL HE hlen ⊢
  clear hm hl
  go_enter Tryz.func146, Tryz.ntmps146
  go_wp2_with fail
  go_loopw [3, 7] (fun x i wr => ∃ j : Nat, j ≤ m ∧ i = .int .i64 (j : Nat) ∧ x = .int .i64 (wr64 (2 + sumE (L.take j))) ∧ Hid (Below w.heap.size w wr)) (fun _ i _ => m - (intOf i).toNat)
  case atStart => exact ⟨0, Nat.zero_le _, rfl, rfl, Below.refl _ _⟩
  case round =>
    obtain ⟨j, hj, rfl, rfl, HB⟩ := hrel
    by_cases hjm : j < m
    · have hji : (j : Int) < (m : Int) := by omega
      obtain ⟨x, hx⟩ : ∃ x, L[j]? = some x := ⟨_, List.getElem?_eq_getElem (by rw [HM.out]; exact hjm)⟩
      obtain ⟨b, off, e1, _, c1, c2, s1, s2⟩ := (HL.out.on HB.out).at hx
      subst e1
      have HS := hid (sumE_snoc hx)
      have HA := hid (wr64_add (2 + sumE (L.take j)) x.sz)
      have HN : Hid (wr64 (2 + sumE (L.take j) + x.sz) = wr64 (2 + sumE (L.take (j + 1)))) := by show _ = _; rw [HS.out, Nat.add_assoc]
      have hz : ((x.sz : Nat) : Int) = (x.k.size : Int) + (x.v.size : Int) + 2 := by unfold Ent.sz; omega
      rw [HN.out, hz] at HA
      have ha := HA.out
      clear HA HN HS hx hz
      unfold Sml at s1 s2
      generalize wr64 (2 + sumE (L.take j)) = p at *
      obtain ⟨q, hq⟩ : ∃ q, wr64 (2 + sumE (L.take (j + 1))) = q := ⟨_, rfl⟩
      have HQ := hid hq
      rw [hq] at ha
      clear hq
      generalize x.k = xk at *
      generalize x.v = xv at *
      have g1 : IntKind.i64.wrap ((xk.size : Int) + (xv.size : Int)) = (xk.size : Int) + (xv.size : Int) := by rw [IntKind.wrap_i64]; omega
      have g2 : IntKind.i64.wrap ((xk.size : Int) + (xv.size : Int) + 2) = (xk.size : Int) + (xv.size : Int) + 2 := by rw [IntKind.wrap_i64]; omega
      clear s1 s2
      go_wp2_with fail
      go_region
      have HB1 := hid HB.out.drew
      clear HB c1 c2
      go_wp2_with fail
      go_roundw
      case rel => exact ⟨j + 1, by omega, by go_num, by rw [HQ.out], HB1⟩
      case measure => simp [intOf]; omega
    · obtain rfl : j = m := by omega
      have hji : ¬ (j : Int) < (j : Int) := by omega
      rw [HE.out]
      go_wp2_with fail
      go_ret
      exact ⟨rfl, HB.out⟩

/-- why a list isn't right, entry by entry, behind one with that key -/
def ckE : Option ByteArray → List Ent → Nat
  | _, [] => 0
  | none, x :: r => if 32 < x.k.size ∨ 64 < x.v.size then 2 else ckE (some x.k) r
  | some q, x :: r => if 32 < x.k.size ∨ 64 < x.v.size then 2 else if lt q x.k = true then ckE (some x.k) r else 19
/-- the key ahead of a place -/
def prv (L : List Ent) : Nat → Option ByteArray
  | 0 => none
  | j + 1 => (L[j]?).map Ent.k
theorem leq_lt (a b : ByteArray) : (Op.bytesLess a.toList b.toList || a.toList == b.toList) = !lt b a := by
  rw [eq_iff]
  show (lt a b || decide (a = b)) = !lt b a
  rcases lt_total a b with h | h | h
  · rw [h, lt_asymm h]; rfl
  · subst h; rw [lt_self]; simp
  · rw [lt_asymm h, h, decide_eq_false]
    · rfl
    · intro e; subst e; rw [lt_self] at h; cases h
theorem ckE_long {L : List Ent} {j : Nat} {x : Ent} (hx : L[j]? = some x) (h : 32 < x.k.size ∨ 64 < x.v.size) : ckE (prv L j) (L.drop j) = 2 := by
  rw [drop_cons hx]
  cases prv L j <;> simp [ckE, h]
theorem ckE_next {L : List Ent} {j : Nat} {x : Ent} (hx : L[j]? = some x) (h : ¬ (32 < x.k.size ∨ 64 < x.v.size)) (hp : ∀ q, prv L j = some q → lt q x.k = true) : ckE (prv L j) (L.drop j) = ckE (prv L (j + 1)) (L.drop (j + 1)) := by
  rw [drop_cons hx]
  have e : prv L (j + 1) = some x.k := by simp [prv, hx]
  rw [e]
  cases hq : prv L j with
  | none => simp only [ckE]; rw [if_neg h]
  | some q => simp only [ckE]; rw [if_neg h, if_pos (hp q hq)]
theorem ckE_order {L : List Ent} {j : Nat} {x y : Ent} (hx : L[j + 1]? = some x) (hy : L[j]? = some y) (h : ¬ (32 < x.k.size ∨ 64 < x.v.size)) (hp : lt y.k x.k = false) : ckE (prv L (j + 1)) (L.drop (j + 1)) = 19 := by
  rw [drop_cons hx]
  have e : prv L (j + 1) = some y.k := by simp [prv, hy]
  rw [e]
  simp only [ckE]
  rw [if_neg h, if_neg (by rw [hp]; decide)]

set_option maxHeartbeats 1000000 in
theorem check_any (w : World) (v : Value) (L : List Ent) (hl : LiesE w v L) : Calls Tryz.prog 128 #[v] w fun e w' => e = .returned (.int .i64 (ckE none L : Nat)) ∧ Below w.heap.size w w' := by
  obtain ⟨a, c, hv⟩ := hl.form
  subst hv
  have hlen := hl.len
  unfold maxLen at hlen
  have HL := hid hl
  have HE : Hid (ckE (prv L L.length) (L.drop L.length) = 0) := by show _ = _; rw [List.drop_length]; cases prv L L.length <;> rfl
  obtain ⟨m, hm⟩ : ∃ m, L.length = m := ⟨_, rfl⟩
  have HM := hid hm
  obtain ⟨r, hr⟩ : ∃ r, ckE none L = r := ⟨_, rfl⟩
  have HR : Hid (ckE (prv L 0) (L.drop 0) = r) := hr
  rw [hr]
  rw [hm] at HL HE hlen ⊢
  clear hm hl hr
  go_enter Tryz.func128, Tryz.ntmps128
  go_wp2_with fail
  go_loopw [7] (fun i wr => ∃ j : Nat, j ≤ m ∧ i = .int .i64 (j : Nat) ∧ Hid (ckE (prv L j) (L.drop j) = r) ∧ Hid (Below w.heap.size w wr)) (fun i _ => m - (intOf i).toNat)
  case atStart => exact ⟨0, Nat.zero_le _, rfl, HR, Below.refl _ _⟩
  case round =>
    obtain ⟨j, hj, rfl, HC, HB⟩ := hrel
    clear HR
    by_cases hjm : j < m
    · have hji : (j : Int) < (m : Int) := by omega
      obtain ⟨x, hx⟩ : ∃ x, L[j]? = some x := ⟨_, List.getElem?_eq_getElem (by rw [HM.out]; exact hjm)⟩
      obtain ⟨b, off, e1, hbl, c1, c2, s1, s2⟩ := (HL.out.on HB.out).at hx
      subst e1
      have HX := hid hx
      have HB2 := hid (HB.out.alloc HB.out.size (.cells #[.string x.k, .string x.v] 59))
      unfold Sml at s1 s2
      clear hx
      by_cases h1 : 32 < x.k.size
      · obtain rfl : 2 = r := by rw [← HC.out, ckE_long HX.out (.inl h1)]
        have d1 : (32 : Int) < (x.k.size : Int) := by omega
        clear HC HX
        generalize x.k = xk at *
        generalize x.v = xv at *
        go_wp2_with fail
        go_ret
        exact ⟨rfl, HB2.out⟩
      · have d1 : ¬ (32 : Int) < (x.k.size : Int) := by omega
        by_cases h2 : 64 < x.v.size
        · obtain rfl : 2 = r := by rw [← HC.out, ckE_long HX.out (.inr h2)]
          have d2 : (64 : Int) < (x.v.size : Int) := by omega
          clear HC HX
          generalize x.k = xk at *
          generalize x.v = xv at *
          go_wp2_with fail
          go_ret
          exact ⟨rfl, HB2.out⟩
        · have d2 : ¬ (64 : Int) < (x.v.size : Int) := by omega
          have hno : ¬ (32 < x.k.size ∨ 64 < x.v.size) := by omega
          by_cases h0 : j = 0
          · have HC2 : Hid (ckE (prv L (j + 1)) (L.drop (j + 1)) = r) := by show _ = _; rw [← ckE_next HX.out hno (fun q hq => by subst h0; cases hq)]; exact HC.out
            have hgt : ¬ (0 : Int) < (j : Int) := by omega
            have hgn : ¬ 0 < j := by omega
            have hgd : decide (0 < j) = false := decide_eq_false hgn
            have hge : decide ((0 : Int) < (j : Int)) = false := decide_eq_false hgt
            clear HC HX hno h1 h2 h0
            generalize x.k = xk at *
            generalize x.v = xv at *
            go_wp2_with fail
            refine wp_region_d (fun _ => True) (fun _ => true) (by kernel_rfl) ?_
            refine wpAnyM_pick (i := 0) (some 22) (v := ?vz1) rfl rfl (by kernel_rfl) (by kernel_rfl) (by kernel_rfl) (by kernel_rfl) (fun _ _ _ h => h) (Or.inl ⟨by rfl, ?hz1⟩) trivial ?rz1
            case hz1 => intro w hSw; go_simp; try with_reducible rfl
            try simp only [Act.put, List.setIfInBounds_toArray, List.set_cons_zero, List.set_cons_succ]
            refine wpAnyM_pick (i := 1) (some 23) (v := ?vz2) rfl rfl (by kernel_rfl) (by kernel_rfl) (by kernel_rfl) (by kernel_rfl) (fun _ _ _ h => h) (Or.inl ⟨by rfl, ?hz2⟩) trivial ?rz2
            case hz2 => intro w hSw; go_simp; try with_reducible rfl
            try simp only [Act.put, List.setIfInBounds_toArray, List.set_cons_zero, List.set_cons_succ]
            refine wpAnyM_pick (i := 2) (some 24) (v := ?vz3) rfl rfl (by kernel_rfl) (by kernel_rfl) (by kernel_rfl) (by kernel_rfl) (fun _ _ _ h => h) (Or.inl ⟨by rfl, ?hz3⟩) trivial ?rz3
            case hz3 => intro w hSw; go_simp; try with_reducible rfl
            try simp only [Act.put, List.setIfInBounds_toArray, List.set_cons_zero, List.set_cons_succ]
            refine wpAnyM_pick (i := 3) (some 25) (v := undef) rfl rfl (by kernel_rfl) (by kernel_rfl) (by kernel_rfl) (by kernel_rfl) (fun _ _ _ h => h) (Or.inr ⟨by rfl, rfl⟩) trivial ?rz4
            try simp only [Act.put, List.setIfInBounds_toArray, List.set_cons_zero, List.set_cons_succ]
            refine wpAnyM_pick (i := 4) (some 26) (v := undef) rfl rfl (by kernel_rfl) (by kernel_rfl) (by kernel_rfl) (by kernel_rfl) (fun _ _ _ h => h) (Or.inr ⟨by rfl, rfl⟩) trivial ?rz5
            try simp only [Act.put, List.setIfInBounds_toArray, List.set_cons_zero, List.set_cons_succ]
            refine wpAnyM_pick (i := 5) (some 27) (v := undef) rfl rfl (by kernel_rfl) (by kernel_rfl) (by kernel_rfl) (by kernel_rfl) (fun _ _ _ h => h) (Or.inr ⟨by rfl, rfl⟩) trivial ?rz6
            try simp only [Act.put, List.setIfInBounds_toArray, List.set_cons_zero, List.set_cons_succ]
            refine wpAnyM_pick (i := 6) (some 28) (v := undef) rfl rfl (by kernel_rfl) (by kernel_rfl) (by kernel_rfl) (by kernel_rfl) (fun _ _ _ h => h) (Or.inr ⟨by rfl, rfl⟩) trivial ?rz7
            try simp only [Act.put, List.setIfInBounds_toArray, List.set_cons_zero, List.set_cons_succ]
            refine wpAnyM_pick (i := 7) (some 29) (v := undef) rfl rfl (by kernel_rfl) (by kernel_rfl) (by kernel_rfl) (by kernel_rfl) (fun _ _ _ h => h) (Or.inr ⟨by rfl, rfl⟩) trivial ?rz8
            try simp only [Act.put, List.setIfInBounds_toArray, List.set_cons_zero, List.set_cons_succ]
            refine wpAnyM_pick (i := 8) (some 30) (v := undef) rfl rfl (by kernel_rfl) (by kernel_rfl) (by kernel_rfl) (by kernel_rfl) (fun _ _ _ h => h) (Or.inr ⟨by rfl, rfl⟩) trivial ?rz9
            try simp only [Act.put, List.setIfInBounds_toArray, List.set_cons_zero, List.set_cons_succ]
            refine wpAnyM_pick (i := 9) (some 31) (v := undef) rfl rfl (by kernel_rfl) (by kernel_rfl) (by kernel_rfl) (by kernel_rfl) (fun _ _ _ h => h) (Or.inr ⟨by rfl, rfl⟩) trivial ?rz10
            try simp only [Act.put, List.setIfInBounds_toArray, List.set_cons_zero, List.set_cons_succ]
            refine wpAnyM_pick (i := 10) (some 32) (v := undef) rfl rfl (by kernel_rfl) (by kernel_rfl) (by kernel_rfl) (by kernel_rfl) (fun _ _ _ h => h) (Or.inr ⟨by rfl, rfl⟩) trivial ?rz11
            try simp only [Act.put, List.setIfInBounds_toArray, List.set_cons_zero, List.set_cons_succ]
            refine wpAnyM_pick (i := 11) (some 33) (v := undef) rfl rfl (by kernel_rfl) (by kernel_rfl) (by kernel_rfl) (by kernel_rfl) (fun _ _ _ h => h) (Or.inr ⟨by rfl, rfl⟩) trivial ?rz12
            try simp only [Act.put, List.setIfInBounds_toArray, List.set_cons_zero, List.set_cons_succ]
            refine wpAnyM_pick (i := 12) (some 34) (v := ?vz13) rfl rfl (by kernel_rfl) (by kernel_rfl) (by kernel_rfl) (by kernel_rfl) (fun _ _ _ h => h) (Or.inl ⟨by rfl, ?hz13⟩) trivial ?rz13
            case hz13 => intro w hSw; go_simp; try with_reducible rfl
            try simp only [Act.put, List.setIfInBounds_toArray, List.set_cons_zero, List.set_cons_succ]
            refine wpAnyM_done (by kernel_rfl) ?_ _
            try simp only [Act.put, List.setIfInBounds_toArray, List.set_cons_zero, List.set_cons_succ]
            have HB3 := hid HB2.out.drew
            clear HB HB2 c1 c2
            go_wp2_with fail
            go_roundw
            case rel => exact ⟨j + 1, by omega, by go_num, HC2, HB3⟩
            case measure => simp [intOf]; omega
          · obtain ⟨i, rfl⟩ : ∃ i, j = i + 1 := ⟨j - 1, by omega⟩
            clear h0
            obtain ⟨y, hy⟩ : ∃ y, L[i]? = some y := ⟨_, List.getElem?_eq_getElem (by rw [HM.out]; omega)⟩
            obtain ⟨b', off', e1, _, d3, _, _, _⟩ := (HL.out.on HB.out).at hy
            cases e1
            have hw1 : IntKind.i64.wrap (((i + 1 : Nat) : Int) - 1) = (i : Int) := by rw [IntKind.wrap_i64]; omega
            have hgt : (0 : Int) < ((i + 1 : Nat) : Int) := by omega
            have him : (i : Int) < (m : Int) := by omega
            have hle := leq_lt x.k y.k
            have c3 : (wr.alloc (.cells #[.string x.k, .string x.v] 59)).drew.cell? ⟨b, off + i * 2, none⟩ = some (.string y.k) := ((Below.refl _ wr).alloc (Nat.le_refl _) (.cells #[.string x.k, .string x.v] 59)).drew.cell (p := ⟨b, off + i * 2, none⟩) hbl |>.trans d3
            by_cases hlt : lt y.k x.k = true
            · have HC2 : Hid (ckE (prv L (i + 1 + 1)) (L.drop (i + 1 + 1)) = r) := by show _ = _; rw [← ckE_next HX.out hno (fun q hq => by simp [prv, hy] at hq; subst hq; exact hlt)]; exact HC.out
              rw [hlt] at hle
              clear HC HX hno h1 h2 hy hlt
              generalize x.k = xk at *
              generalize x.v = xv at *
              generalize y.k = yk at *
              go_wp2_with fail
              go_region
              have HB3 := hid HB2.out.drew
              clear HB HB2 c1 c2 c3 d3
              go_wp2_with fail
              go_roundw
              case rel => exact ⟨i + 1 + 1, by omega, by go_num, HC2, HB3⟩
              case measure => simp [intOf]; omega
            · have hlt : lt y.k x.k = false := by simpa using hlt
              obtain rfl : 19 = r := by rw [← HC.out, ckE_order HX.out hy hno hlt]
              rw [hlt] at hle
              clear HC HX hno h1 h2 hy hlt
              generalize x.k = xk at *
              generalize x.v = xv at *
              generalize y.k = yk at *
              go_wp2_with fail
              go_region
              have HB3 := hid HB2.out.drew
              clear HB HB2 c1 c2 c3 d3
              go_wp2_with fail
              go_ret
              exact ⟨rfl, HB3.out⟩
    · obtain rfl : j = m := by omega
      have hji : ¬ (j : Int) < (j : Int) := by omega
      obtain rfl : 0 = r := by rw [← HC.out, HE.out]
      clear HC HE
      go_wp2_with fail
      go_ret
      exact ⟨rfl, HB.out⟩
end Go.Proofs.YtjcbaiohpdihoaaGreatDoor.Lf

namespace Go.Proofs.YtjcbaiohpdihoaaGreatDoor.Lf
open Go.Proofs.YtjcbaiohpdihoaaGreatDoor.Nu
open Go.RowKit
set_option linter.unusedVariables false
set_option linter.unusedSimpArgs false
set_option maxRecDepth 100000

theorem find1_any (w : World) (p q : Nat) (va : Option Addr) (n c : Nat) (L : List Ent) (key : ByteArray) (j : Nat) (x : Ent) (hp : w.cell? ⟨p, 0, none⟩ = some (.slice va n c)) (hq : w.cell? ⟨q, 0, none⟩ = some (.string key)) (hl : LiesE w (.slice va n c) L) (hx : L[j]? = some x) :
    Calls Tryz.prog 168 #[.int .i64 (j : Nat), .pointer (some ⟨p, 0, none⟩), .pointer (some ⟨q, 0, none⟩)] w fun e w' => e = .returned (.bool (!lt x.k key)) ∧ Below w.heap.size w w' := by
  obtain ⟨a', cc, hv⟩ := hl.form
  have hn : n = L.length := by injection hv
  have hj : j < L.length := (List.getElem?_eq_some_iff.1 hx).1
  obtain ⟨b, off, e1, _, c1, _, _, _⟩ := hl.at hx
  subst e1
  have hji : (j : Int) < (n : Int) := by omega
  have HB : Hid (Below w.heap.size w w.drew) := (Below.refl _ w).drew
  have he : (!lt x.k key) = !Op.bytesLess x.k.toList key.toList := rfl
  rw [he]
  clear hx hl hv hn hj
  generalize x.k = xk at *
  go_enter Tryz.func168, Tryz.ntmps168
  go_wp2_with fail
  go_region
  go_wp2_with fail
  go_ret
  exact ⟨rfl, HB.out⟩
end Go.Proofs.YtjcbaiohpdihoaaGreatDoor.Lf

namespace Go.Proofs.YtjcbaiohpdihoaaGreatDoor.Lf
open Go.Proofs.YtjcbaiohpdihoaaGreatDoor.Nu
open Go.RowKit
set_option linter.unusedVariables false
set_option linter.unusedSimpArgs false
set_option maxRecDepth 100000

/-- where one key is below, all ahead of it are -/
def Mono (L : List Ent) (key : ByteArray) : Prop := ∀ (a b : Nat) (x y : Ent), a ≤ b → L[a]? = some x → L[b]? = some y → lt y.k key = true → lt x.k key = true
/-- the place of the first key that isn't below -/
def IsAt (L : List Ent) (key : ByteArray) (i : Nat) : Prop := (∀ (j : Nat) (x : Ent), j < i → L[j]? = some x → lt x.k key = true) ∧ (∀ (j : Nat) (x : Ent), i ≤ j → L[j]? = some x → lt x.k key = false)

set_option maxHeartbeats 1000000 in
theorem search_any (w : World) (f : Nat) (p q : Value) (n : Nat) (L : List Ent) (key : ByteArray) (hn : L.length = n) (hz : n ≤ 4398046511104)
    (he : ∀ args w, (callFunc f args).run Tryz.prog w = .ok (.enter f args) w)
    (hS : ∀ (j : Nat) (x : Ent) (w1 : World), Below w.heap.size w w1 → L[j]? = some x → Calls Tryz.prog f #[.int .i64 (j : Nat), p, q] w1 fun e w' => e = .returned (.bool (!lt x.k key)) ∧ Below w1.heap.size w1 w') :
    Calls Tryz.prog 167 #[.int .i64 (n : Nat), .func (.func f) #[] #[p, q]] w fun e w' => ∃ i : Nat, e = .returned (.int .i64 (i : Nat)) ∧ i ≤ n ∧ (Mono L key → IsAt L key i) ∧ Below w.heap.size w w' := by
  have HS := hid hS
  have HN := hid hn
  have H0 : Hid (Mono L key → (∀ (j : Nat) (x : Ent), j < 0 → L[j]? = some x → lt x.k key = true) ∧ (∀ (j : Nat) (x : Ent), n ≤ j → L[j]? = some x → lt x.k key = false)) := fun _ => ⟨fun j x hj => absurd hj (Nat.not_lt_zero _), fun j x hj hx => by
    have := (List.getElem?_eq_some_iff.1 hx).1
    omega⟩
  clear hS hn
  go_enter Tryz.func167, Tryz.ntmps167
  go_wp2_with fail
  go_loopw [5, 6] (fun x y wr => ∃ (lo hi : Nat), lo ≤ hi ∧ hi ≤ n ∧ x = .int .i64 (lo : Nat) ∧ y = .int .i64 (hi : Nat) ∧ Hid (Mono L key → (∀ (j : Nat) (x : Ent), j < lo → L[j]? = some x → lt x.k key = true) ∧ (∀ (j : Nat) (x : Ent), hi ≤ j → L[j]? = some x → lt x.k key = false)) ∧ Hid (Below w.heap.size w wr)) (fun x y _ => (intOf y).toNat - (intOf x).toNat)
  case atStart => exact ⟨0, n, Nat.zero_le _, Nat.le_refl _, rfl, rfl, H0, Below.refl _ _⟩
  case round =>
    obtain ⟨lo, hi, h1, h2, rfl, rfl, HI, HB⟩ := hrel
    clear H0
    by_cases hlt : lo < hi
    · have hli : (lo : Int) < (hi : Int) := by omega
      obtain ⟨h, hh⟩ : ∃ h, (lo + hi) / 2 = h := ⟨_, rfl⟩
      have hb1 : lo ≤ h := by omega
      have hb2 : h < hi := by omega
      have g1 : IntKind.i64.wrap ((lo : Int) + (hi : Int)) = (lo : Int) + (hi : Int) := by rw [IntKind.wrap_i64]; omega
      have g2 : IntKind.u64.wrap ((lo : Int) + (hi : Int)) = (lo : Int) + (hi : Int) := by rw [IntKind.wrap_u64]; omega
      have g3 : ((lo : Int) + (hi : Int)) / 2 = (h : Int) := by omega
      have g4 : IntKind.u64.wrap (h : Int) = (h : Int) := by rw [IntKind.wrap_u64]; omega
      have g5 : IntKind.i64.wrap (h : Int) = (h : Int) := by rw [IntKind.wrap_i64]; omega
      have g6 : IntKind.i64.wrap ((h : Int) + 1) = (h : Int) + 1 := by rw [IntKind.wrap_i64]; omega
      obtain ⟨x, hx⟩ : ∃ x, L[h]? = some x := ⟨_, List.getElem?_eq_getElem (by rw [HN.out]; omega)⟩
      have HC := hid (HS.out h x wr HB.out hx)
      cases hk : lt x.k key with
      | true =>
        have HI2 : Hid (Mono L key → (∀ (j : Nat) (x : Ent), j < h + 1 → L[j]? = some x → lt x.k key = true) ∧ (∀ (j : Nat) (x : Ent), hi ≤ j → L[j]? = some x → lt x.k key = false)) := fun hm => ⟨fun j y hj hy => hm j h y x (by omega) hy hx hk, (HI.out hm).2⟩
        rw [hk] at HC
        clear hh hx hk HI
        go_wp2_with (go_at_fn f; refine HC.out.mono ?_; clear HC; rintro e w2 ⟨rfl, hb⟩; have HB2 := hid (HB.out.trans (hb.mono HB.out.size)); clear hb)
        go_roundw
        case rel => exact ⟨h + 1, hi, by omega, h2, by go_num, rfl, HI2, HB2⟩
        case measure => simp [intOf]; omega
      | false =>
        have HI2 : Hid (Mono L key → (∀ (j : Nat) (x : Ent), j < lo → L[j]? = some x → lt x.k key = true) ∧ (∀ (j : Nat) (x : Ent), h ≤ j → L[j]? = some x → lt x.k key = false)) := fun hm => ⟨(HI.out hm).1, fun j y hj hy => by
          cases hyk : lt y.k key with
          | false => rfl
          | true => rw [hm h j x y hj hx hy hyk] at hk; cases hk⟩
        rw [hk] at HC
        clear hh hx hk HI
        go_wp2_with (go_at_fn f; refine HC.out.mono ?_; clear HC; rintro e w2 ⟨rfl, hb⟩; have HB2 := hid (HB.out.trans (hb.mono HB.out.size)); clear hb)
        go_roundw
        case rel => exact ⟨lo, h, by omega, by omega, rfl, rfl, HI2, HB2⟩
        case measure => simp [intOf]; omega
    · obtain rfl : lo = hi := by omega
      have hli : ¬ (lo : Int) < (lo : Int) := by omega
      go_wp2_with fail
      go_ret
      exact ⟨lo, rfl, h2, HI.out, HB.out⟩

/-- whether the key stands at that place -/
def fnd (L : List Ent) (key : ByteArray) (i : Nat) : Bool := match L[i]? with | some x => decide (x.k = key) | none => false
set_option maxHeartbeats 1000000 in
theorem find_any (w : World) (v : Value) (L : List Ent) (key : ByteArray) (hl : LiesE w v L) (hz : L.length ≤ 4398046511104) :
    Calls Tryz.prog 112 #[v, .string key] w fun e w' => ∃ i : Nat, e = .returned (.tuple #[.int .i64 (i : Nat), .bool (fnd L key i)]) ∧ i ≤ L.length ∧ (Mono L key → IsAt L key i) ∧ Below w.heap.size w w' := by
  obtain ⟨a, c, hv⟩ := hl.form
  subst hv
  obtain ⟨n, hn⟩ : ∃ n, L.length = n := ⟨_, rfl⟩
  have HN := hid hn
  rw [hn] at hl hz ⊢
  have HL := hid hl
  obtain ⟨w1, hw1⟩ : ∃ w1, w.alloc (.cells #[.slice a n c] 31) = w1 := ⟨_, rfl⟩
  obtain ⟨w2, hw2⟩ : ∃ w2, w1.alloc (.cells #[.string key] 9) = w2 := ⟨_, rfl⟩
  have b1 : Below w.heap.size w w1 := by rw [← hw1]; exact (Below.refl _ w).alloc (Nat.le_refl _) _
  have b2 : Below w1.heap.size w1 w2 := by rw [← hw2]; exact (Below.refl _ w1).alloc (Nat.le_refl _) _
  have b3 : Below w.heap.size w w2 := b1.trans (b2.mono b1.size)
  have k1 : Blk w1 w.heap.size #[.slice a n c] 31 := by rw [← hw1]; exact Blk.made w _ 31
  have k2 : Blk w2 w1.heap.size #[.string key] 9 := by rw [← hw2]; exact Blk.made w1 _ 9
  have k3 : Blk w2 w.heap.size #[.slice a n c] 31 := k1.on b2 k1.lt
  have HE : Hid (w1.heap.size = w.heap.size + 1) := by show _ = _; rw [← hw1]; simp
  rw [HE.out] at k2
  have HK1 : Hid (∀ w5, Below w2.heap.size w2 w5 → w5.cell? ⟨w.heap.size, 0, none⟩ = some (.slice a n c) ∧ w5.cell? ⟨w.heap.size + 1, 0, none⟩ = some (.string key)) := fun w5 hb => ⟨(k3.on hb k3.lt).cell (i := 0) rfl, (k2.on hb k2.lt).cell (i := 0) rfl⟩
  have he : ∀ args w, (callFunc 168 args).run Tryz.prog w = .ok (.enter 168 args) w := enters_of Tryz.func168 (by kernel_rfl) rfl
  have HSR := hid (search_any w2 168 (.pointer (some ⟨w.heap.size, 0, none⟩)) (.pointer (some ⟨w.heap.size + 1, 0, none⟩)) n L key HN.out hz he (fun j x w5 hb hx => by
    obtain ⟨c1, c2⟩ := HK1.out w5 hb
    exact find1_any w5 _ _ a n c L key j x c1 c2 ((HL.out.on b3).on hb) hx))
  have hmf : ∀ (fn : Fn) (first cap : Array Value) (w : World), (Instr.makeFunc fn first cap).run Tryz.prog w = .ok (.func fn first cap) w := fun _ _ _ _ => rfl
  have HB3 := hid b3
  obtain ⟨c1, c2⟩ := HK1.out w2 (Below.refl _ _)
  subst hw1
  subst hw2
  clear b1 b2 b3 k1 k2 k3 HE hl hn he
  go_enter Tryz.func112, Tryz.ntmps112
  go_wp2_with (go_at_call 167; refine HSR.out.mono ?_; clear HSR; rintro e w5 ⟨i, rfl, hi, hm, hb5⟩; have HM := hid hm; have HB5 := hid hb5; clear hm hb5)
  clear c1 c2
  obtain ⟨c1, c2⟩ := HK1.out w5 HB5.out
  have hlb : ((w.alloc (.cells #[.slice a n c] 31)).alloc (.cells #[.string key] 9)).heap.size = w.heap.size + 1 + 1 := by simp
  have HB6 := hid (HB3.out.trans ((HB5.out.drew).mono HB3.out.size))
  have HL6 := hid ((HL.out.on HB3.out).on HB5.out)
  have HL7 := hid (HL6.out.on ((Below.refl _ w5).drew))
  clear HK1 HB5 HB3 HL hlb
  by_cases hin : i < n
  · have hii : (i : Int) < (n : Int) := by omega
    obtain ⟨x, hx⟩ : ∃ x, L[i]? = some x := ⟨_, List.getElem?_eq_getElem (by rw [HN.out]; exact hin)⟩
    obtain ⟨b, off, e1, _, d1, _, _, _⟩ := HL6.out.at hx
    subst e1
    have hq := eq_iff x.k key
    have HF : Hid (fnd L key i = decide (x.k = key)) := by show _ = _; unfold fnd; rw [hx]
    generalize decide (x.k = key) = bb at *
    clear hx
    generalize x.k = xk at *
    go_region
    go_wp2_with fail
    go_ret2
    refine ⟨i, ?_, hi, HM.out, HB6.out⟩
    rw [HF.out]
    rfl
  · obtain rfl : i = n := by omega
    have hii : ¬ (i : Int) < (i : Int) := by omega
    have HF : Hid (fnd L key i = false) := by
      show _ = _
      unfold fnd
      rw [List.getElem?_eq_none (by rw [HN.out]; exact Nat.le_refl _)]
    have HS0 : w5.drew.cell? ⟨w.heap.size, 0, none⟩ = some (.slice a i c) := c1
    refine wp_region_d (fun w' => w'.cell? ⟨w.heap.size, 0, none⟩ = some (.slice a i c)) (fun _ => true) (by kernel_rfl) ?_
    refine wpAnyM_pick (i := 0) (some 11) (v := ?vz1) rfl rfl (by kernel_rfl) (by kernel_rfl) (by kernel_rfl) (by kernel_rfl) (fun _ _ _ h => h) (Or.inl ⟨by rfl, ?hz1⟩) HS0 ?rz1
    case hz1 => intro w hSw; go_simp; try with_reducible rfl
    try simp only [Act.put, List.setIfInBounds_toArray, List.set_cons_zero, List.set_cons_succ]
    refine wpAnyM_pick (i := 1) (some 12) (v := ?vz2) rfl rfl (by kernel_rfl) (by kernel_rfl) (by kernel_rfl) (by kernel_rfl) (fun _ _ _ h => h) (Or.inl ⟨by rfl, ?hz2⟩) HS0 ?rz2
    case hz2 => intro w hSw; go_simp; try with_reducible rfl
    try simp only [Act.put, List.setIfInBounds_toArray, List.set_cons_zero, List.set_cons_succ]
    refine wpAnyM_pick (i := 2) (some 13) (v := ?vz3) rfl rfl (by kernel_rfl) (by kernel_rfl) (by kernel_rfl) (by kernel_rfl) (fun _ _ _ h => h) (Or.inl ⟨by rfl, ?hz3⟩) HS0 ?rz3
    case hz3 => intro w hSw; go_simp; try with_reducible rfl
    try simp only [Act.put, List.setIfInBounds_toArray, List.set_cons_zero, List.set_cons_succ]
    refine wpAnyM_pick (i := 3) (some 14) (v := ?vz4) rfl rfl (by kernel_rfl) (by kernel_rfl) (by kernel_rfl) (by kernel_rfl) (fun _ _ _ h => h) (Or.inl ⟨by rfl, ?hz4⟩) HS0 ?rz4
    case hz4 => intro w hSw; go_simp; try with_reducible rfl
    try simp only [Act.put, List.setIfInBounds_toArray, List.set_cons_zero, List.set_cons_succ]
    refine wpAnyM_pick (i := 4) (some 15) (v := ?vz5) rfl rfl (by kernel_rfl) (by kernel_rfl) (by kernel_rfl) (by kernel_rfl) (fun _ _ _ h => h) (Or.inl ⟨by rfl, ?hz5⟩) HS0 ?rz5
    case hz5 => intro w hSw; go_simp; try with_reducible rfl
    try simp only [Act.put, List.setIfInBounds_toArray, List.set_cons_zero, List.set_cons_succ]
    refine wpAnyM_pick (i := 5) (some 16) (v := ?vz6) rfl rfl (by kernel_rfl) (by kernel_rfl) (by kernel_rfl) (by kernel_rfl) (fun _ _ _ h => h) (Or.inl ⟨by rfl, ?hz6⟩) HS0 ?rz6
    case hz6 => intro w hSw; go_simp; try with_reducible rfl
    try simp only [Act.put, List.setIfInBounds_toArray, List.set_cons_zero, List.set_cons_succ]
    refine wpAnyM_pick (i := 6) (some 17) (v := undef) rfl rfl (by kernel_rfl) (by kernel_rfl) (by kernel_rfl) (by kernel_rfl) (fun _ _ _ h => h) (Or.inr ⟨by rfl, rfl⟩) HS0 ?rz7
    try simp only [Act.put, List.setIfInBounds_toArray, List.set_cons_zero, List.set_cons_succ]
    refine wpAnyM_pick (i := 7) (some 18) (v := undef) rfl rfl (by kernel_rfl) (by kernel_rfl) (by kernel_rfl) (by kernel_rfl) (fun _ _ _ h => h) (Or.inr ⟨by rfl, rfl⟩) HS0 ?rz8
    try simp only [Act.put, List.setIfInBounds_toArray, List.set_cons_zero, List.set_cons_succ]
    refine wpAnyM_pick (i := 8) (some 19) (v := undef) rfl rfl (by kernel_rfl) (by kernel_rfl) (by kernel_rfl) (by kernel_rfl) (fun _ _ _ h => h) (Or.inr ⟨by rfl, rfl⟩) HS0 ?rz9
    try simp only [Act.put, List.setIfInBounds_toArray, List.set_cons_zero, List.set_cons_succ]
    refine wpAnyM_pick (i := 9) (some 20) (v := undef) rfl rfl (by kernel_rfl) (by kernel_rfl) (by kernel_rfl) (by kernel_rfl) (fun _ _ _ h => h) (Or.inr ⟨by rfl, rfl⟩) HS0 ?rz10
    try simp only [Act.put, List.setIfInBounds_toArray, List.set_cons_zero, List.set_cons_succ]
    refine wpAnyM_pick (i := 10) (some 21) (v := undef) rfl rfl (by kernel_rfl) (by kernel_rfl) (by kernel_rfl) (by kernel_rfl) (fun _ _ _ h => h) (Or.inr ⟨by rfl, rfl⟩) HS0 ?rz11
    try simp only [Act.put, List.setIfInBounds_toArray, List.set_cons_zero, List.set_cons_succ]
    refine wpAnyM_pick (i := 11) (some 22) (v := undef) rfl rfl (by kernel_rfl) (by kernel_rfl) (by kernel_rfl) (by kernel_rfl) (fun _ _ _ h => h) (Or.inr ⟨by rfl, rfl⟩) HS0 ?rz12
    try simp only [Act.put, List.setIfInBounds_toArray, List.set_cons_zero, List.set_cons_succ]
    refine wpAnyM_pick (i := 12) (some 23) (v := undef) rfl rfl (by kernel_rfl) (by kernel_rfl) (by kernel_rfl) (by kernel_rfl) (fun _ _ _ h => h) (Or.inr ⟨by rfl, rfl⟩) HS0 ?rz13
    try simp only [Act.put, List.setIfInBounds_toArray, List.set_cons_zero, List.set_cons_succ]
    refine wpAnyM_pick (i := 13) (some 24) (v := ?vz14) rfl rfl (by kernel_rfl) (by kernel_rfl) (by kernel_rfl) (by kernel_rfl) (fun _ _ _ h => h) (Or.inl ⟨by rfl, ?hz14⟩) HS0 ?rz14
    case hz14 => intro w hSw; go_simp; try with_reducible rfl
    try simp only [Act.put, List.setIfInBounds_toArray, List.set_cons_zero, List.set_cons_succ]
    refine wpAnyM_pick (i := 14) (some 4) (v := ?vz15) rfl rfl (by kernel_rfl) (by kernel_rfl) (by kernel_rfl) (by kernel_rfl) (fun _ _ _ h => h) (Or.inl ⟨by rfl, ?hz15⟩) HS0 ?rz15
    case hz15 => intro w hSw; go_simp; try with_reducible rfl
    try simp only [Act.put, List.setIfInBounds_toArray, List.set_cons_zero, List.set_cons_succ]
    refine wpAnyM_pick (i := 15) (some 5) (v := ?vz16) rfl rfl (by kernel_rfl) (by kernel_rfl) (by kernel_rfl) (by kernel_rfl) (fun _ _ _ h => h) (Or.inl ⟨by rfl, ?hz16⟩) HS0 ?rz16
    case hz16 => intro w hSw; go_simp; try with_reducible rfl
    try simp only [Act.put, List.setIfInBounds_toArray, List.set_cons_zero, List.set_cons_succ]
    refine wpAnyM_done (by kernel_rfl) ?_ _
    try simp only [Act.put, List.setIfInBounds_toArray, List.set_cons_zero, List.set_cons_succ]
    go_wp2_with fail
    go_ret2
    refine ⟨i, ?_, hi, HM.out, HB6.out⟩
    rw [HF.out]
    rfl
end Go.Proofs.YtjcbaiohpdihoaaGreatDoor.Lf
