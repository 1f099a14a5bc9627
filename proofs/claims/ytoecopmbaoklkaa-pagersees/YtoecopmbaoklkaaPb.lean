/-
  Where a number stands among the changed pages (slices.BinarySearchFunc); Dirty and Held.
-/
import Derived.Test.YtoecopmbaoklkaaPa
namespace Go.Proofs.Ytoecopmbaoklkaa
open Go.RowKit
set_option linter.unusedVariables false
set_option linter.unusedSimpArgs false
set_option maxRecDepth 100000

theorem isNaN_any (a : Int) (w : World) : Calls Try.prog 68 #[.int .i64 a] w fun e w' => e = .returned (.bool false) ∧ w = w' := by
  go_enter Try.func68, Try.ntmps68
  go_wp2
  go_ret
  exact ⟨rfl, rfl⟩
/-- -1, 0, 1 -/
def cmpI (a b : Int) : Int := if a < b then -1 else if b < a then 1 else 0
theorem compare_any (a b : Int) (w : World) : Calls Try.prog 51 #[.int .i64 a, .int .i64 b] w fun e w' => e = .returned (.int .i64 (cmpI a b)) ∧ w = w' := by
  have hn : ∀ x, _ := fun x => isNaN_any x w
  unfold cmpI
  by_cases h1 : a < b
  · rw [if_pos h1]
    go_enter Try.func51, Try.ntmps51
    go_wp2_with (go_at_call 68; refine (hn _).mono ?_; rintro e w1 ⟨rfl, rfl⟩)
    go_ret
    exact ⟨rfl, rfl⟩
  · rw [if_neg h1]
    by_cases h2 : b < a
    · rw [if_pos h2]
      go_enter Try.func51, Try.ntmps51
      go_wp2_with (go_at_call 68; refine (hn _).mono ?_; rintro e w1 ⟨rfl, rfl⟩)
      go_ret
      exact ⟨rfl, rfl⟩
    · rw [if_neg h2]
      go_enter Try.func51, Try.ntmps51
      go_wp2_with (go_at_call 68; refine (hn _).mono ?_; rintro e w1 ⟨rfl, rfl⟩)
      go_ret
      exact ⟨rfl, rfl⟩
theorem holds_any (x a : Int) (s : ByteArray) (w : World) : Calls Try.prog 50 #[.agg #[.int .i64 x, .string s], .int .i64 a] w fun e w' => e = .returned (.int .i64 (cmpI x a)) ∧ Below w.heap.size w w' := by
  have hn : ∀ w1, _ := fun w1 => compare_any x a w1
  generalize cmpI x a = z at *
  have HB : Hid (∀ o : Obj, Below w.heap.size w (w.alloc o)) := fun o => (Below.refl _ _).alloc (Nat.le_refl _) _
  go_enter Try.func50, Try.ntmps50
  go_wp2_with (go_at_call 51; refine (hn _).mono ?_; rintro e w1 ⟨rfl, rfl⟩)
  go_ret
  exact ⟨rfl, HB.out _⟩
set_option maxHeartbeats 1000000 in
theorem search_any (w : World) (B0 : Nat) (v : Value) (A M B : List Pg) (a : Int) (h : RowP w B0 v (A ++ M ++ B)) (hl : (A ++ M ++ B).length ≤ 50000) (ha : ∀ c ∈ A, c.pl < a) (hb : ∀ c ∈ B, a < c.pl) (hm : M = [] ∨ ∃ c, M = [c] ∧ c.pl = a) :
    Calls Try.prog 49 #[v, .int .i64 a, .func (.func 50) #[] #[]] w fun e w' => e = .returned (.tuple #[.int .i64 (A.length : Nat), .bool (!M.isEmpty)]) ∧ Below w.heap.size w w' := by
  obtain ⟨p, c, e1⟩ := own_form h
  subst e1
  have H := hid h
  have HC : ∀ (w1 : World) (x : Int) (s : ByteArray), _ := fun w1 x s => holds_any x a s w1
  have HLo : Hid (∀ (k : Nat) (x : Pg), (A ++ M ++ B)[k]? = some x → k < A.length → x.pl < a) := fun k x hx hk => ha x (by rw [List.append_assoc, List.getElem?_append_left hk] at hx; exact List.mem_of_getElem? hx)
  have HHi : Hid (∀ (k : Nat) (x : Pg), (A ++ M ++ B)[k]? = some x → A.length ≤ k → a ≤ x.pl) := fun k x hx hk => by
    rw [List.append_assoc, List.getElem?_append_right hk] at hx
    rcases List.mem_append.1 (List.mem_of_getElem? hx) with h' | h'
    · rcases hm with rfl | ⟨c, rfl, hc⟩
      · cases h'
      · simp at h'; subst h'; omega
    · have := hb x h'; omega
  have HEq : Hid (∀ (x : Pg), (A ++ M ++ B)[A.length]? = some x → decide (cmpI x.pl a = 0) = !M.isEmpty) := fun x hx => by
    rw [List.append_assoc, List.getElem?_append_right (Nat.le_refl _), Nat.sub_self] at hx
    unfold cmpI
    rcases hm with rfl | ⟨c, rfl, hc⟩
    · simp at hx
      have := hb x (List.mem_of_getElem? hx)
      rw [if_neg (by omega), if_pos this]
      rfl
    · simp at hx
      subst hx
      rw [if_neg (by omega), if_neg (by omega)]
      rfl
  have HEnd : Hid (A.length = (A ++ M ++ B).length → M.isEmpty = true) := fun e => by
    have : M.length = 0 := by rw [List.length_append, List.length_append] at e; omega
    rw [List.eq_nil_of_length_eq_zero this]
    rfl
  have hAl : A.length ≤ (A ++ M ++ B).length := by rw [List.length_append, List.length_append]; omega
  generalize A ++ M ++ B = L at *
  generalize A.length = t at *
  generalize M.isEmpty = em at *
  obtain ⟨n, hn⟩ : ∃ n, L.length = n := ⟨_, rfl⟩
  have HN := hid hn
  rw [hn] at hl hAl HEnd ⊢
  clear h hn ha hb hm
  go_enter Try.func49, Try.ntmps49
  go_wp2_with fail
  go_loopw [9, 10] (fun x y wr => ∃ i j : Nat, (i ≤ t ∧ t ≤ j ∧ j ≤ n) ∧ x = .int .i64 (i : Nat) ∧ y = .int .i64 (j : Nat) ∧ Hid (Below w.heap.size w wr)) (fun x y _ => (intOf y).toNat - (intOf x).toNat)
  case atStart => exact ⟨0, n, ⟨Nat.zero_le _, hAl, Nat.le_refl _⟩, rfl, rfl, Below.refl _ _⟩
  case round =>
    obtain ⟨i, j, ⟨hi, hj, hjn⟩, rfl, rfl, HB⟩ := hrel
    by_cases hij : i < j
    · have hiji : (i : Int) < (j : Int) := by omega
      obtain ⟨m, hmm⟩ : ∃ m, (i + j) / 2 = m := ⟨_, rfl⟩
      have hw : ((i : Int) + (j : Int)) / 2 = (m : Int) := by omega
      have hm1 : i ≤ m := by omega
      have hm2 : m < j := by omega
      clear hmm
      have hmi : (m : Int) < (n : Int) := by omega
      obtain ⟨x, hx⟩ : ∃ x, L[m]? = some x := ⟨_, List.getElem?_eq_getElem (by rw [HN.out]; omega)⟩
      obtain ⟨g, e1, _, hgl⟩ := row_some H.out (by rw [HN.out]; omega)
      subst e1
      obtain ⟨_, _, e2, _, _, hcc⟩ := own_cells H.out
      cases e2
      obtain ⟨_, e3, _, _, c0, _⟩ := hcc (m * 2) (.int .i64 x.pl) (by rw [flatP_even, hx]; rfl)
      cases e3
      obtain ⟨_, e3, _, _, c1, _⟩ := hcc (m * 2 + 1) (.string x.data) (by rw [flatP_odd, hx]; rfl)
      cases e3
      have d0 : wr.cell? ⟨g, m * 2, none⟩ = some (.int .i64 x.pl) := (HB.out.cell (p := ⟨g, m * 2, none⟩) hgl).trans c0
      have d1 : wr.cell? ⟨g, m * 2 + 1, none⟩ = some (.string x.data) := (HB.out.cell (p := ⟨g, m * 2 + 1, none⟩) hgl).trans c1
      have hca := HC wr x.pl x.data
      clear hcc c0 c1
      by_cases hmt : m < t
      · have hlt := HLo.out m x hx hmt
        have hce : cmpI x.pl a = -1 := by unfold cmpI; rw [if_pos hlt]
        rw [hce] at hca
        clear hce hlt hx HC
        go_wp2_with (first
          | (go_at_call 50; refine hca.mono ?_; clear hca; rintro e w1 ⟨rfl, hb1⟩; have HB1 := hid (HB.out.trans (hb1.mono HB.out.size)); clear hb1 d0 d1))
        go_roundw
        case rel => exact ⟨m + 1, j, ⟨by omega, by omega, by omega⟩, by go_num, rfl, HB1⟩
        case measure => simp [intOf]; omega
      · have hge := HHi.out m x hx (by omega)
        have hce : ¬ cmpI x.pl a < 0 := by unfold cmpI; rw [if_neg (by omega)]; split <;> omega
        generalize cmpI x.pl a = z at *
        clear hge hx HC
        go_wp2_with (first
          | (go_at_call 50; refine hca.mono ?_; clear hca; rintro e w1 ⟨rfl, hb1⟩; have HB1 := hid (HB.out.trans (hb1.mono HB.out.size)); clear hb1 d0 d1))
        go_roundw
        case rel => exact ⟨i, m, ⟨by omega, by omega, by omega⟩, rfl, by go_num, HB1⟩
        case measure => simp [intOf]; omega
    · obtain rfl : i = t := by omega
      obtain rfl : j = i := by omega
      by_cases hin : j < n
      · have hini : (j : Int) < (n : Int) := by omega
        obtain ⟨x, hx⟩ : ∃ x, L[j]? = some x := ⟨_, List.getElem?_eq_getElem (by rw [HN.out]; omega)⟩
        obtain ⟨g, e1, _, hgl⟩ := row_some H.out (by rw [HN.out]; omega)
        subst e1
        obtain ⟨_, _, e2, _, _, hcc⟩ := own_cells H.out
        cases e2
        obtain ⟨_, e3, _, _, c0, _⟩ := hcc (j * 2) (.int .i64 x.pl) (by rw [flatP_even, hx]; rfl)
        cases e3
        obtain ⟨_, e3, _, _, c1, _⟩ := hcc (j * 2 + 1) (.string x.data) (by rw [flatP_odd, hx]; rfl)
        cases e3
        have d0 : wr.cell? ⟨g, j * 2, none⟩ = some (.int .i64 x.pl) := (HB.out.cell (p := ⟨g, j * 2, none⟩) hgl).trans c0
        have d1 : wr.cell? ⟨g, j * 2 + 1, none⟩ = some (.string x.data) := (HB.out.cell (p := ⟨g, j * 2 + 1, none⟩) hgl).trans c1
        have hca := HC wr x.pl x.data
        have hE := HEq.out x hx
        have HE := hid hE
        clear hcc c0 c1 hx HC hE
        generalize cmpI x.pl a = z at *
        by_cases hz : z = 0
        · subst hz
          go_wp2_with (first
            | (go_at_call 50; refine hca.mono ?_; clear hca; rintro e w1 ⟨rfl, hb1⟩; have HB1 := hid (HB.out.trans (hb1.mono HB.out.size)); clear hb1 d0 d1))
          go_ret2
          exact ⟨by rw [← HE.out]; rfl, HB1.out⟩
        · have hzb : (z == 0) = false := by simp; omega
          go_wp2_with (first
            | (go_at_call 50; refine hca.mono ?_; clear hca; rintro e w1 ⟨rfl, hb1⟩; have HB1 := hid (HB.out.trans (hb1.mono HB.out.size)); clear hb1 d0 d1))
          go_ret2
          exact ⟨by rw [← HE.out, decide_eq_false hz]; rfl, HB1.out⟩
      · obtain rfl : j = n := by omega
        have HE := hid (HEnd.out rfl)
        go_wp2_with fail
        go_ret2
        exact ⟨by rw [HE.out]; rfl, HB.out⟩

end Go.Proofs.Ytoecopmbaoklkaa
