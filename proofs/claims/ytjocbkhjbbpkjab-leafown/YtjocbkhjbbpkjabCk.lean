/-
  Whether a list is right: the program's check and the document's Right; the document's Size.
-/
import Derived.Test.YtjocbkhjbbpkjabSz
import Derived.RegionTactic
import Derived.BigQuiet
namespace Go.Proofs.Ytjocbkhjbbpkjab
open Go.RowKit
set_option linter.unusedVariables false
set_option linter.unusedSimpArgs false
set_option maxRecDepth 100000

/-- why a list isn't right, entry by entry, behind one with that key -/
def ckE : Option ByteArray → List Ent → Nat
  | _, [] => 0
  | none, x :: r => if 32 < x.k.size ∨ 64 < x.v.size then 2 else ckE (some x.k) r
  | some q, x :: r => if 32 < x.k.size ∨ 64 < x.v.size then 2 else if lt q x.k = true then ckE (some x.k) r else 19
/-- the key ahead of a place -/
def prv (L : List Ent) : Nat → Option ByteArray
  | 0 => none
  | j + 1 => (L[j]?).map Ent.k
theorem leq_lt (a b : ByteArray) : (Op.bytesLess a.toList b.toList || a.toList == b.toList) = !lt b a := by
  rw [eq_iff]
  show (lt a b || decide (a = b)) = !lt b a
  rcases lt_total a b with h | h | h
  · rw [h, lt_asymm h]; rfl
  · subst h; rw [lt_self]; simp
  · rw [lt_asymm h, h, decide_eq_false]
    · rfl
    · intro e; subst e; rw [lt_self] at h; cases h
theorem ckE_long {L : List Ent} {j : Nat} {x : Ent} (hx : L[j]? = some x) (h : 32 < x.k.size ∨ 64 < x.v.size) : ckE (prv L j) (L.drop j) = 2 := by
  rw [drop_cons hx]
  cases prv L j <;> simp [ckE, h]
theorem ckE_next {L : List Ent} {j : Nat} {x : Ent} (hx : L[j]? = some x) (h : ¬ (32 < x.k.size ∨ 64 < x.v.size)) (hp : ∀ q, prv L j = some q → lt q x.k = true) : ckE (prv L j) (L.drop j) = ckE (prv L (j + 1)) (L.drop (j + 1)) := by
  rw [drop_cons hx]
  have e : prv L (j + 1) = some x.k := by simp [prv, hx]
  rw [e]
  cases hq : prv L j with
  | none => simp only [ckE]; rw [if_neg h]
  | some q => simp only [ckE]; rw [if_neg h, if_pos (hp q hq)]
theorem ckE_order {L : List Ent} {j : Nat} {x y : Ent} (hx : L[j + 1]? = some x) (hy : L[j]? = some y) (h : ¬ (32 < x.k.size ∨ 64 < x.v.size)) (hp : lt y.k x.k = false) : ckE (prv L (j + 1)) (L.drop (j + 1)) = 19 := by
  rw [drop_cons hx]
  have e : prv L (j + 1) = some y.k := by simp [prv, hy]
  rw [e]
  simp only [ckE]
  rw [if_neg h, if_neg (by rw [hp]; decide)]

set_option maxHeartbeats 1000000 in
theorem check_any (w : World) (v : Value) (L : List Ent) (hl : LiesE w v L) : Calls Try.prog 16 #[v] w fun e w' => e = .returned (.int .i64 (ckE none L : Nat)) ∧ Below w.heap.size w w' := by
  obtain ⟨a, c, hv⟩ := hl.form
  subst hv
  have hlen := hl.len
  unfold maxLen at hlen
  have HL := hid hl
  have HE : Hid (ckE (prv L L.length) (L.drop L.length) = 0) := by show _ = _; rw [List.drop_length]; cases prv L L.length <;> rfl
  obtain ⟨m, hm⟩ : ∃ m, L.length = m := ⟨_, rfl⟩
  have HM := hid hm
  obtain ⟨r, hr⟩ : ∃ r, ckE none L = r := ⟨_, rfl⟩
  have HR : Hid (ckE (prv L 0) (L.drop 0) = r) := hr
  rw [hr]
  rw [hm] at HL HE hlen ⊢
  clear hm hl hr
  go_enter Try.func16, Try.ntmps16
  go_wp2_with fail
  go_loopw [7] (fun i wr => ∃ j : Nat, j ≤ m ∧ i = .int .i64 (j : Nat) ∧ Hid (ckE (prv L j) (L.drop j) = r) ∧ Hid (Below w.heap.size w wr)) (fun i _ => m - (intOf i).toNat)
  case atStart => exact ⟨0, Nat.zero_le _, rfl, HR, Below.refl _ _⟩
  case round =>
    obtain ⟨j, hj, rfl, HC, HB⟩ := hrel
    clear HR
    by_cases hjm : j < m
    · have hji : (j : Int) < (m : Int) := by omega
      obtain ⟨x, hx⟩ : ∃ x, L[j]? = some x := ⟨_, List.getElem?_eq_getElem (by rw [HM.out]; exact hjm)⟩
      obtain ⟨b, off, e1, hbl, c1, c2, s1, s2⟩ := (HL.out.on HB.out).at hx
      subst e1
      have HX := hid hx
      have HB2 := hid (HB.out.alloc HB.out.size (.cells #[.string x.k, .string x.v] 26))
      unfold Sml at s1 s2
      clear hx
      by_cases h1 : 32 < x.k.size
      · obtain rfl : 2 = r := by rw [← HC.out, ckE_long HX.out (.inl h1)]
        have d1 : (32 : Int) < (x.k.size : Int) := by omega
        clear HC HX
        generalize x.k = xk at *
        generalize x.v = xv at *
        go_wp2_with fail
        go_ret
        exact ⟨rfl, HB2.out⟩
      · have d1 : ¬ (32 : Int) < (x.k.size : Int) := by omega
        by_cases h2 : 64 < x.v.size
        · obtain rfl : 2 = r := by rw [← HC.out, ckE_long HX.out (.inr h2)]
          have d2 : (64 : Int) < (x.v.size : Int) := by omega
          clear HC HX
          generalize x.k = xk at *
          generalize x.v = xv at *
          go_wp2_with fail
          go_ret
          exact ⟨rfl, HB2.out⟩
        · have d2 : ¬ (64 : Int) < (x.v.size : Int) := by omega
          have hno : ¬ (32 < x.k.size ∨ 64 < x.v.size) := by omega
          by_cases h0 : j = 0
          · have HC2 : Hid (ckE (prv L (j + 1)) (L.drop (j + 1)) = r) := by show _ = _; rw [← ckE_next HX.out hno (fun q hq => by subst h0; cases hq)]; exact HC.out
            have hgt : ¬ (0 : Int) < (j : Int) := by omega
            have hgn : ¬ 0 < j := by omega
            have hgd : decide (0 < j) = false := decide_eq_false hgn
            have hge : decide ((0 : Int) < (j : Int)) = false := decide_eq_false hgt
            clear HC HX hno h1 h2 h0
            generalize x.k = xk at *
            generalize x.v = xv at *
            go_wp2_with fail
            refine wp_region_d (fun _ => True) (fun _ => true) (by kernel_rfl) ?_
            refine wpAnyM_pick (i := 0) (some 22) (v := ?vz1) rfl rfl (by kernel_rfl) (by kernel_rfl) (by kernel_rfl) (by kernel_rfl) (fun _ _ _ h => h) (Or.inl ⟨by rfl, ?hz1⟩) trivial ?rz1
            case hz1 => intro w hSw; go_simp; try with_reducible rfl
            try simp only [Act.put, List.setIfInBounds_toArray, List.set_cons_zero, List.set_cons_succ]
            refine wpAnyM_pick (i := 1) (some 23) (v := ?vz2) rfl rfl (by kernel_rfl) (by kernel_rfl) (by kernel_rfl) (by kernel_rfl) (fun _ _ _ h => h) (Or.inl ⟨by rfl, ?hz2⟩) trivial ?rz2
            case hz2 => intro w hSw; go_simp; try with_reducible rfl
            try simp only [Act.put, List.setIfInBounds_toArray, List.set_cons_zero, List.set_cons_succ]
            refine wpAnyM_pick (i := 2) (some 24) (v := ?vz3) rfl rfl (by kernel_rfl) (by kernel_rfl) (by kernel_rfl) (by kernel_rfl) (fun _ _ _ h => h) (Or.inl ⟨by rfl, ?hz3⟩) trivial ?rz3
            case hz3 => intro w hSw; go_simp; try with_reducible rfl
            try simp only [Act.put, List.setIfInBounds_toArray, List.set_cons_zero, List.set_cons_succ]
            refine wpAnyM_pick (i := 3) (some 25) (v := undef) rfl rfl (by kernel_rfl) (by kernel_rfl) (by kernel_rfl) (by kernel_rfl) (fun _ _ _ h => h) (Or.inr ⟨by rfl, rfl⟩) trivial ?rz4
            try simp only [Act.put, List.setIfInBounds_toArray, List.set_cons_zero, List.set_cons_succ]
            refine wpAnyM_pick (i := 4) (some 26) (v := undef) rfl rfl (by kernel_rfl) (by kernel_rfl) (by kernel_rfl) (by kernel_rfl) (fun _ _ _ h => h) (Or.inr ⟨by rfl, rfl⟩) trivial ?rz5
            try simp only [Act.put, List.setIfInBounds_toArray, List.set_cons_zero, List.set_cons_succ]
            refine wpAnyM_pick (i := 5) (some 27) (v := undef) rfl rfl (by kernel_rfl) (by kernel_rfl) (by kernel_rfl) (by kernel_rfl) (fun _ _ _ h => h) (Or.inr ⟨by rfl, rfl⟩) trivial ?rz6
            try simp only [Act.put, List.setIfInBounds_toArray, List.set_cons_zero, List.set_cons_succ]
            refine wpAnyM_pick (i := 6) (some 28) (v := undef) rfl rfl (by kernel_rfl) (by kernel_rfl) (by kernel_rfl) (by kernel_rfl) (fun _ _ _ h => h) (Or.inr ⟨by rfl, rfl⟩) trivial ?rz7
            try simp only [Act.put, List.setIfInBounds_toArray, List.set_cons_zero, List.set_cons_succ]
            refine wpAnyM_pick (i := 7) (some 29) (v := undef) rfl rfl (by kernel_rfl) (by kernel_rfl) (by kernel_rfl) (by kernel_rfl) (fun _ _ _ h => h) (Or.inr ⟨by rfl, rfl⟩) trivial ?rz8
            try simp only [Act.put, List.setIfInBounds_toArray, List.set_cons_zero, List.set_cons_succ]
            refine wpAnyM_pick (i := 8) (some 30) (v := undef) rfl rfl (by kernel_rfl) (by kernel_rfl) (by kernel_rfl) (by kernel_rfl) (fun _ _ _ h => h) (Or.inr ⟨by rfl, rfl⟩) trivial ?rz9
            try simp only [Act.put, List.setIfInBounds_toArray, List.set_cons_zero, List.set_cons_succ]
            refine wpAnyM_pick (i := 9) (some 31) (v := undef) rfl rfl (by kernel_rfl) (by kernel_rfl) (by kernel_rfl) (by kernel_rfl) (fun _ _ _ h => h) (Or.inr ⟨by rfl, rfl⟩) trivial ?rz10
            try simp only [Act.put, List.setIfInBounds_toArray, List.set_cons_zero, List.set_cons_succ]
            refine wpAnyM_pick (i := 10) (some 32) (v := undef) rfl rfl (by kernel_rfl) (by kernel_rfl) (by kernel_rfl) (by kernel_rfl) (fun _ _ _ h => h) (Or.inr ⟨by rfl, rfl⟩) trivial ?rz11
            try simp only [Act.put, List.setIfInBounds_toArray, List.set_cons_zero, List.set_cons_succ]
            refine wpAnyM_pick (i := 11) (some 33) (v := undef) rfl rfl (by kernel_rfl) (by kernel_rfl) (by kernel_rfl) (by kernel_rfl) (fun _ _ _ h => h) (Or.inr ⟨by rfl, rfl⟩) trivial ?rz12
            try simp only [Act.put, List.setIfInBounds_toArray, List.set_cons_zero, List.set_cons_succ]
            refine wpAnyM_pick (i := 12) (some 34) (v := ?vz13) rfl rfl (by kernel_rfl) (by kernel_rfl) (by kernel_rfl) (by kernel_rfl) (fun _ _ _ h => h) (Or.inl ⟨by rfl, ?hz13⟩) trivial ?rz13
            case hz13 => intro w hSw; go_simp; try with_reducible rfl
            try simp only [Act.put, List.setIfInBounds_toArray, List.set_cons_zero, List.set_cons_succ]
            refine wpAnyM_done (by kernel_rfl) ?_ _
            try simp only [Act.put, List.setIfInBounds_toArray, List.set_cons_zero, List.set_cons_succ]
            have HB3 := hid HB2.out.drew
            clear HB HB2 c1 c2
            go_wp2_with fail
            go_roundw
            case rel => exact ⟨j + 1, by omega, by go_num, HC2, HB3⟩
            case measure => simp [intOf]; omega
          · obtain ⟨i, rfl⟩ : ∃ i, j = i + 1 := ⟨j - 1, by omega⟩
            clear h0
            obtain ⟨y, hy⟩ : ∃ y, L[i]? = some y := ⟨_, List.getElem?_eq_getElem (by rw [HM.out]; omega)⟩
            obtain ⟨b', off', e1, _, d3, _, _, _⟩ := (HL.out.on HB.out).at hy
            cases e1
            have hw1 : IntKind.i64.wrap (((i + 1 : Nat) : Int) - 1) = (i : Int) := by rw [IntKind.wrap_i64]; omega
            have hgt : (0 : Int) < ((i + 1 : Nat) : Int) := by omega
            have him : (i : Int) < (m : Int) := by omega
            have hle := leq_lt x.k y.k
            have c3 : (wr.alloc (.cells #[.string x.k, .string x.v] 26)).drew.cell? ⟨b, off + i * 2, none⟩ = some (.string y.k) := ((Below.refl _ wr).alloc (Nat.le_refl _) (.cells #[.string x.k, .string x.v] 26)).drew.cell (p := ⟨b, off + i * 2, none⟩) hbl |>.trans d3
            by_cases hlt : lt y.k x.k = true
            · have HC2 : Hid (ckE (prv L (i + 1 + 1)) (L.drop (i + 1 + 1)) = r) := by show _ = _; rw [← ckE_next HX.out hno (fun q hq => by simp [prv, hy] at hq; subst hq; exact hlt)]; exact HC.out
              rw [hlt] at hle
              clear HC HX hno h1 h2 hy hlt
              generalize x.k = xk at *
              generalize x.v = xv at *
              generalize y.k = yk at *
              go_wp2_with fail
              go_region
              have HB3 := hid HB2.out.drew
              clear HB HB2 c1 c2 c3 d3
              go_wp2_with fail
              go_roundw
              case rel => exact ⟨i + 1 + 1, by omega, by go_num, HC2, HB3⟩
              case measure => simp [intOf]; omega
            · have hlt : lt y.k x.k = false := by simpa using hlt
              obtain rfl : 19 = r := by rw [← HC.out, ckE_order HX.out hy hno hlt]
              rw [hlt] at hle
              clear HC HX hno h1 h2 hy hlt
              generalize x.k = xk at *
              generalize x.v = xv at *
              generalize y.k = yk at *
              go_wp2_with fail
              go_region
              have HB3 := hid HB2.out.drew
              clear HB HB2 c1 c2 c3 d3
              go_wp2_with fail
              go_ret
              exact ⟨rfl, HB3.out⟩
    · obtain rfl : j = m := by omega
      have hji : ¬ (j : Int) < (j : Int) := by omega
      obtain rfl : 0 = r := by rw [← HC.out, HE.out]
      clear HC HE
      go_wp2_with fail
      go_ret
      exact ⟨rfl, HB.out⟩
end Go.Proofs.Ytjocbkhjbbpkjab

