/-
  What the program's small calls answer: mayHave, isBlock, refuses, begin, Len, Down, Cut, Restore, Read; of a nil disk, too.
-/
import Derived.Test.YtoecopmbaoklkaaPl
import Derived.Test.YtoecopmbaoklkaaRep
namespace Go.Proofs.Ytoecopmbaoklkaa
open Go.RowKit
set_option linter.unusedVariables false
set_option linter.unusedSimpArgs false
set_option maxRecDepth 100000

theorem mayHave_any (n : Int) (w : World) : Calls Try.prog 23 #[.int .i64 n] w fun e w' => e = .returned (.bool (decide (64 ≤ n ∧ n ≤ 2048))) ∧ w = w' := by
  by_cases h1 : 64 ≤ n
  · by_cases h2 : n ≤ 2048
    · have hd : decide (64 ≤ n ∧ n ≤ 2048) = true := decide_eq_true ⟨h1, h2⟩
      rw [hd]
      clear hd
      go_enter Try.func23, Try.ntmps23
      go_wp2
      go_ret
      exact ⟨rfl, rfl⟩
    · have hd : decide (64 ≤ n ∧ n ≤ 2048) = false := decide_eq_false (fun h => h2 h.2)
      rw [hd]
      clear hd
      go_enter Try.func23, Try.ntmps23
      go_wp2
      go_ret
      exact ⟨rfl, rfl⟩
  · have hd : decide (64 ≤ n ∧ n ≤ 2048) = false := decide_eq_false (fun h => h1 h.1)
    have h3 : decide (64 ≤ n) = false := decide_eq_false h1
    rw [hd]
    clear hd
    go_enter Try.func23, Try.ntmps23
    go_wp2
    go_ret
    exact ⟨rfl, rfl⟩

theorem isBlock_any (s : ByteArray) (w : World) : Calls Try.prog 87 #[.string s] w fun e w' => e = .returned (.bool (decide (s.size = 256))) ∧ w = w' := by
  by_cases h : s.size = 256
  · have h2 : ((s.size : Int) == 256) = true := by simp; omega
    rw [decide_eq_true h]
    clear h
    go_enter Try.func87, Try.ntmps87
    go_wp2
    go_ret
    exact ⟨rfl, rfl⟩
  · have h2 : ((s.size : Int) == 256) = false := by simp; omega
    rw [decide_eq_false h]
    clear h
    go_enter Try.func87, Try.ntmps87
    go_wp2
    go_ret
    exact ⟨rfl, rfl⟩

theorem refuses_nil (a : Int) (w : World) : Calls Try.prog 54 #[.pointer none, .int .i64 a] w fun e w' => e = .returned (.int .i64 18) ∧ w = w' := by
  go_enter Try.func54, Try.ntmps54
  go_wp2
  go_ret
  exact ⟨rfl, rfl⟩

theorem refuses_any (a : Int) (w : World) (S : Nat → Prop) (k : Nat) (d : Ds) (hd : Dk w S k d) : Calls Try.prog 54 #[.pointer (some ⟨k, 0, none⟩), .int .i64 a] w fun e w' => e = .returned (.int .i64 (d.rdE a : Nat)) ∧ w = w' := by
  obtain ⟨ok, _, _, bv, lv, hb, h5, _⟩ := hd
  obtain ⟨ba, bc, hbv⟩ := own_form h5
  subst hbv
  have c0 : w.cell? ⟨k, 0, none⟩ = some (.slice ba d.bs.length bc) := hb.cell rfl
  have c3 : w.cell? ⟨k, 3, none⟩ = some (.bool d.dn) := hb.cell rfl
  have hl := ok.hi
  clear h5 hb ok
  cases hdn : d.dn with
  | true =>
    rw [hdn] at c3
    rw [Ds.rdE_down a hdn]
    go_enter Try.func54, Try.ntmps54
    go_wp2
    go_ret
    exact ⟨rfl, rfl⟩
  | false =>
    rw [hdn] at c3
    by_cases h1 : a < 0
    · have h2 : decide (a < 0) = true := decide_eq_true h1
      rw [Ds.rdE_out hdn (.inl h1)]
      go_enter Try.func54, Try.ntmps54
      go_wp2
      go_ret
      exact ⟨rfl, rfl⟩
    · have h2 : decide (a < 0) = false := decide_eq_false h1
      by_cases h3 : (d.bs.length : Int) ≤ a
      · rw [Ds.rdE_out hdn (.inr h3)]
        go_enter Try.func54, Try.ntmps54
        go_wp2
        go_ret
        exact ⟨rfl, rfl⟩
      · rw [Ds.rdE_in hdn (fun h => h.elim h1 h3)]
        go_enter Try.func54, Try.ntmps54
        go_wp2
        go_ret
        exact ⟨rfl, rfl⟩

theorem begin_any (bv : Value) (n c : Nat) (a : Option Addr) (hv : bv = .slice a n c) (w : World) : Calls Try.prog 25 #[bv] w fun e w' => e = .returned (.pointer (some ⟨w.heap.size, 0, none⟩)) ∧ w.alloc (.cells #[bv, .slice none 0 0, .int .i64 (-1), .bool false] 72) = w' := by
  subst hv
  go_enter Try.func25, Try.ntmps25
  go_wp2
  go_ret
  exact ⟨rfl, rfl⟩

theorem len_nil (w : World) : Calls Try.prog 48 #[.pointer none] w fun e w' => e = .returned (.int .i64 0) ∧ w = w' := by
  go_enter Try.func48, Try.ntmps48
  go_wp2
  go_ret
  exact ⟨rfl, rfl⟩
theorem len_any (w : World) (S : Nat → Prop) (k : Nat) (d : Ds) (hd : Dk w S k d) : Calls Try.prog 48 #[.pointer (some ⟨k, 0, none⟩)] w fun e w' => e = .returned (.int .i64 (d.bs.length : Nat)) ∧ w = w' := by
  obtain ⟨ok, _, _, bv, lv, hb, h5, _⟩ := hd
  obtain ⟨ba, bc, hbv⟩ := own_form h5
  subst hbv
  have c0 := hb.cell (i := 0) rfl
  clear h5 hb
  go_enter Try.func48, Try.ntmps48
  go_wp2
  go_ret
  exact ⟨rfl, rfl⟩

theorem read_nil (a : Int) (w : World) : Calls Try.prog 30 #[.pointer none, .int .i64 a] w fun e w' => e = .returned (.tuple #[.string ⟨#[]⟩, .int .i64 18]) ∧ w = w' := by
  go_enter Try.func30, Try.ntmps30
  go_wp2_with (go_at_call 54; refine (refuses_nil a w).mono ?_; rintro e w1 ⟨rfl, rfl⟩)
  go_ret2
  exact ⟨rfl, rfl⟩

theorem read_any (a : Int) (w : World) (S : Nat → Prop) (k : Nat) (d : Ds) (hd : Dk w S k d) : Calls Try.prog 30 #[.pointer (some ⟨k, 0, none⟩), .int .i64 a] w fun e w' => e = .returned (.tuple #[.string (d.rdS a), .int .i64 (d.rdE a : Nat)]) ∧ Below w.heap.size w w' := by
  have hr := refuses_any a w S k d hd
  obtain ⟨ok, _, _, bv, lv, hb, h5, _⟩ := hd
  have c0 : w.cell? ⟨k, 0, none⟩ = some bv := hb.cell rfl
  by_cases h0 : d.rdE a = 0
  · have hin := (Ds.rdE_zero h0).2
    unfold Ds.out at hin
    have hS : d.rdS a = d.bs.getD a.toNat ⟨#[]⟩ := by unfold Ds.rdS; rw [if_pos h0]
    rw [h0] at hr ⊢
    rw [hS]
    obtain ⟨g, bc, hbv, hc1, hc2, _, hgl⟩ := own_some h5 (by have := ok.lo; omega)
    subst hbv
    obtain ⟨n, rfl⟩ : ∃ n : Nat, a = (n : Int) := ⟨a.toNat, by omega⟩
    have hnl : n < d.bs.length := by omega
    obtain ⟨s, hs⟩ : ∃ s, d.bs[n]? = some s := ⟨_, List.getElem?_eq_getElem hnl⟩
    have hgd : d.bs.getD (n : Int).toNat ⟨#[]⟩ = s := by rw [Int.toNat_natCast, List.getD_eq_getElem?_getD, hs]; rfl
    rw [hgd]
    have hcl := clone_any s w (by rw [ok.bs s (List.mem_of_getElem? hs)]; decide)
    obtain ⟨_, _, e1, _, _, hcc⟩ := own_cells h5
    cases e1
    obtain ⟨g', hg', _, _, cs, _⟩ := hcc n (.string s) (flatS_at hs)
    cases hg'
    have hhi := ok.hi
    have hi : (n : Int) < (d.bs.length : Int) := by omega
    clear h5 hb ok hcc hgd hs hS h0 hin hnl
    generalize d.bs.length = m at c0 hhi hi hc1
    go_enter Try.func30, Try.ntmps30
    go_wp2_with (first
      | (go_at_call 54; refine hr.mono ?_; rintro e w1 ⟨rfl, rfl⟩)
      | (go_at_call 28; refine hcl.mono ?_; rintro e w2 ⟨rfl, hb2⟩))
    go_ret2
    exact ⟨rfl, hb2⟩
  · have hS : d.rdS a = ⟨#[]⟩ := by unfold Ds.rdS; rw [if_neg h0]
    rw [hS]
    obtain ⟨q, hq⟩ : ∃ q, d.rdE a = q := ⟨_, rfl⟩
    rw [hq] at hr h0 ⊢
    have hqn : ((q : Int) != 0) = true := by simp; omega
    have hqz : ¬ (q : Int) = 0 := by omega
    clear h5 hb ok hS hq
    go_enter Try.func30, Try.ntmps30
    go_wp2_with (go_at_call 54; refine hr.mono ?_; rintro e w1 ⟨rfl, rfl⟩)
    go_ret2
    exact ⟨rfl, Below.refl _ _⟩

end Go.Proofs.Ytoecopmbaoklkaa
