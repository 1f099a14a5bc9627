/-
  A nil net: what its First and All answer.
-/
import Derived.Test.YtpflbdkbbkobbaaFact8
namespace Go.Proofs.Ytpflbdkbbkobbaa
open Go.RowKit Go.Maps Go.Shelf
attribute [local go_sem] Oper.semAt_some
set_option linter.unusedVariables false
set_option maxRecDepth 100000
set_option linter.unusedSimpArgs false

set_option maxHeartbeats 4000000 in
theorem first_nil (w : World) (tv : Value) (t : List Cl) (ht : Lies w tv t) :
    Calls Try.prog 11 #[.pointer none, tv] w fun e w' => e = .returned (.tuple #[.int .i64 0, .slice none 0 0, .bool false]) ∧ Below w.heap.size w w' := by
  refine (callsIn_wide (n := 3)).1 ?_
  have h1 : 1 ≤ 3 := by omega
  have hro : Fence.wide.round = none := rfl
  obtain ⟨ta, tc, htv, _⟩ := ht
  subst htv
  refine callsIn_of_wp_marks Try.func11 rfl trivial ?_ hro
  simp only [Try.ntmps11, List.size_toArray, List.length_cons, List.length_nil, Nat.reduceAdd, Nat.reduceSub, Array.replicate_succ, Array.replicate_zero, List.push_toArray, List.append_toArray, List.nil_append, List.cons_append]
  gi_wp2_with (refine ⟨trivial, ?_⟩; gi_at_call 28; refine ((callsIn_wide (n := _)).2 (mayFit_any _ _ _ _ _)).mono ?_; rintro e w' ⟨rfl, rfl⟩)
  have bI := ((((Boxed.new (w.alloc (.cells #[.slice ta t.length tc] 24)) 3 (.int .i64 0)).alloc (.cells #[.slice none 0 0] 32)).alloc (.cells #[.bool false] 4)).alloc (.cells #[.pointer none] 26)).alloc (.cells #[.slice ta t.length tc] 24)
  have bB := (((Boxed.new ((w.alloc (.cells #[.slice ta t.length tc] 24)).alloc (.cells #[.int .i64 0] 3)) 32 (.slice none 0 0)).alloc (.cells #[.bool false] 4)).alloc (.cells #[.pointer none] 26)).alloc (.cells #[.slice ta t.length tc] 24)
  have bK := ((Boxed.new (((w.alloc (.cells #[.slice ta t.length tc] 24)).alloc (.cells #[.int .i64 0] 3)).alloc (.cells #[.slice none 0 0] 32)) 4 (.bool false)).alloc (.cells #[.pointer none] 26)).alloc (.cells #[.slice ta t.length tc] 24)
  have bN := (Boxed.new ((((w.alloc (.cells #[.slice ta t.length tc] 24)).alloc (.cells #[.int .i64 0] 3)).alloc (.cells #[.slice none 0 0] 32)).alloc (.cells #[.bool false] 4)) 26 (.pointer none)).alloc (.cells #[.slice ta t.length tc] 24)
  simp only [World.size_alloc] at bI bB bK bN
  have hB0 : Below w.heap.size w ((((((w.alloc (.cells #[.slice ta t.length tc] 24)).alloc (.cells #[.int .i64 0] 3)).alloc (.cells #[.slice none 0 0] 32)).alloc (.cells #[.bool false] 4)).alloc (.cells #[.pointer none] 26)).alloc (.cells #[.slice ta t.length tc] 24)) := by
    refine Below.alloc (Below.alloc (Below.alloc (Below.alloc (Below.alloc (Below.alloc (Below.refl _ w) (Nat.le_refl _) _) ?_ _) ?_ _) ?_ _) ?_ _) ?_ _ <;> simp <;> omega
  have hsz : ((((((w.alloc (.cells #[.slice ta t.length tc] 24)).alloc (.cells #[.int .i64 0] 3)).alloc (.cells #[.slice none 0 0] 32)).alloc (.cells #[.bool false] 4)).alloc (.cells #[.pointer none] 26)).alloc (.cells #[.slice ta t.length tc] 24)).heap.size = w.heap.size + 6 := by simp
  obtain ⟨W0, hW0⟩ : ∃ W0, ((((((w.alloc (.cells #[.slice ta t.length tc] 24)).alloc (.cells #[.int .i64 0] 3)).alloc (.cells #[.slice none 0 0] 32)).alloc (.cells #[.bool false] 4)).alloc (.cells #[.pointer none] 26)).alloc (.cells #[.slice ta t.length tc] 24)) = W0 := ⟨_, rfl⟩
  rw [hW0] at hB0 hsz bI bB bK bN ⊢
  clear hW0
  refine wpIn_rangeFunc_ownH hro h1 (gf := 50) (lb := #[.pointer (some ⟨w.heap.size + 1 + 1 + 1 + 1, 0, none⟩), .pointer (some ⟨w.heap.size + 1 + 1 + 1 + 1 + 1, 0, none⟩)]) rfl trivial (enters_of Try.func50 (by kernel_rfl) rfl)
    (may_nil_stops 2 W0 (w.heap.size + 1 + 1 + 1 + 1) (w.heap.size + 1 + 1 + 1 + 1 + 1) (.slice ta t.length tc) bN (fun _ _ => True))
    (fun _ _ => trivial) (fun _ _ _ _ _ _ _ _ => trivial) (Below.refl _ _) (fun _ => rfl)
    (fun pre W => (Boxed W (w.heap.size + 1) 3 (.int .i64 0) ∧ Boxed W (w.heap.size + 1 + 1) 32 (.slice none 0 0) ∧ Boxed W (w.heap.size + 1 + 1 + 1) 4 (.bool false)) ∧ Below w.heap.size w W)
    (fun c pre W => False)
    (OwnFrom.and (Own.from (fun s X Y row hs hg hr => by
      obtain ⟨h1, h2, h3⟩ := hs
      exact ⟨boxed_own _ _ (fun (_ : Unit) => Value.int .i64 0) () X Y row h1 hg hr, boxed_own _ _ (fun (_ : Unit) => Value.slice none 0 0) () X Y row h2 hg hr, boxed_own _ _ (fun (_ : Unit) => Value.bool false) () X Y row h3 hg hr⟩) _) (ownFrom_below (Nat.le_refl _) (by omega)))
    (fun c s X Y row hs hg hr => hs)
    ⟨⟨bI, bB, bK⟩, hB0⟩
    (fun x a' W => True)
    (fun x a' _ X Y row hs hg hr => trivial)
    ?assign ?body ?done ?stop
  case assign =>
    rintro l pre x W K ⟨hi, hB1⟩ hK
    gi_wp2
    exact hK _ _ ((KeepsOthers.alloc _ _).from _) trivial ⟨⟨hi.1.alloc _, hi.2.1.alloc _, hi.2.2.alloc _⟩, hB1.alloc hB1.size _⟩ trivial
  case body =>
    intro l pre x a' W hl _ _ _ hlt
    exact absurd hlt (by omega)
  case done =>
    rintro D ys W hD rfl ⟨hi, hB1⟩ hK
    obtain ⟨i1, i2, i3⟩ := hi
    have c1 := i1.cell
    have f1 := i1.frozen
    have m2 := i2.other (B' := w.heap.size + 1) (by omega) (.int .i64 0)
    have c2 := m2.cell
    have f2 := m2.frozen
    have m3 := (i3.other (B' := w.heap.size + 1) (by omega) (.int .i64 0)).other (B' := w.heap.size + 1 + 1) (by omega) (.slice none 0 0)
    have c3 := m3.cell
    have f3 := m3.frozen
    have z1 : Boxed (((W.setCell ⟨w.heap.size + 1, 0, none⟩ (.int .i64 0)).setCell ⟨w.heap.size + 1 + 1, 0, none⟩ (.slice none 0 0)).setCell ⟨w.heap.size + 1 + 1 + 1, 0, none⟩ (.bool false)) (w.heap.size + 1) 3 (.int .i64 0) := ((i1.set _).other (by omega) _).other (by omega) _
    have z2 : Boxed (((W.setCell ⟨w.heap.size + 1, 0, none⟩ (.int .i64 0)).setCell ⟨w.heap.size + 1 + 1, 0, none⟩ (.slice none 0 0)).setCell ⟨w.heap.size + 1 + 1 + 1, 0, none⟩ (.bool false)) (w.heap.size + 1 + 1) 32 (.slice none 0 0) := (m2.set _).other (by omega) _
    have z3 : Boxed (((W.setCell ⟨w.heap.size + 1, 0, none⟩ (.int .i64 0)).setCell ⟨w.heap.size + 1 + 1, 0, none⟩ (.slice none 0 0)).setCell ⟨w.heap.size + 1 + 1 + 1, 0, none⟩ (.bool false)) (w.heap.size + 1 + 1 + 1) 4 (.bool false) := m3.set _
    have hZ : Below w.heap.size w (((W.setCell ⟨w.heap.size + 1, 0, none⟩ (.int .i64 0)).setCell ⟨w.heap.size + 1 + 1, 0, none⟩ (.slice none 0 0)).setCell ⟨w.heap.size + 1 + 1 + 1, 0, none⟩ (.bool false)) := ((hB1.setCell (p := ⟨w.heap.size + 1, 0, none⟩) (by simp) _).setCell (p := ⟨w.heap.size + 1 + 1, 0, none⟩) (by simp; omega) _).setCell (p := ⟨w.heap.size + 1 + 1 + 1, 0, none⟩) (by simp; omega) _
    have hK' := (((KeepsOthers.setCell W ⟨w.heap.size + 1, 0, none⟩ (.int .i64 0)).trans (KeepsOthers.setCell _ ⟨w.heap.size + 1 + 1, 0, none⟩ (.slice none 0 0))).trans (KeepsOthers.setCell _ ⟨w.heap.size + 1 + 1 + 1, 0, none⟩ (.bool false))).same D _ hK rfl
    gi_wp2
    generalize (((W.setCell ⟨w.heap.size + 1, 0, none⟩ (.int .i64 0)).setCell ⟨w.heap.size + 1 + 1, 0, none⟩ (.slice none 0 0)).setCell ⟨w.heap.size + 1 + 1 + 1, 0, none⟩ (.bool false)) = WZ at z1 z2 z3 hZ hK' ⊢
    refine ⟨by simp, .inl ⟨_, _, rfl, run_takeDeferred hK', ?_⟩⟩
    have rw1 : ∀ r, some D = some r → ∃ o : Obj, WZ.heap[r]? = some o ∧ o.isCells = false := fun r e => by cases e; exact ⟨_, hK', rfl⟩
    have q1 := (boxed_own _ _ (fun (_ : Unit) => Value.int .i64 0) () WZ _ (some D) z1 (grownBy_putObj' _ D (.deferred none)) rw1).cell
    have q2 := (boxed_own _ _ (fun (_ : Unit) => Value.slice none 0 0) () WZ _ (some D) z2 (grownBy_putObj' _ D (.deferred none)) rw1).cell
    have q3 := (boxed_own _ _ (fun (_ : Unit) => Value.bool false) () WZ _ (some D) z3 (grownBy_putObj' _ D (.deferred none)) rw1).cell
    refine ⟨.tuple #[.int .i64 0, .slice none 0 0, .bool false], ?_, rfl, hZ.trans (belowK_b (w := w) (Nat.le_refl _) WZ D _ _ (by omega) hK' rfl rfl)⟩
    simp [results, Try.results11, go_sem, q1, q2, q3]
  case stop => rintro D c pre W hD h; exact h.elim

set_option maxHeartbeats 4000000 in
theorem all_nil (w : World) (tv : Value) (t : List Cl) (ht : Lies w tv t) :
    Calls Try.prog 16 #[.pointer none, tv] w fun e w' => e = .returned (.slice none 0 0) ∧ Below w.heap.size w w' := by
  refine (callsIn_wide (n := 3)).1 ?_
  have h1 : 1 ≤ 3 := by omega
  have hro : Fence.wide.round = none := rfl
  obtain ⟨ta, tc, htv, _⟩ := ht
  subst htv
  refine callsIn_of_wp_marks Try.func16 rfl trivial ?_ hro
  simp only [Try.ntmps16, List.size_toArray, List.length_cons, List.length_nil, Nat.reduceAdd, Nat.reduceSub, Array.replicate_succ, Array.replicate_zero, List.push_toArray, List.append_toArray, List.nil_append, List.cons_append]
  gi_wp2_with (refine ⟨trivial, ?_⟩; gi_at_call 28; refine ((callsIn_wide (n := _)).2 (mayFit_any _ _ _ _ _)).mono ?_; rintro e w' ⟨rfl, rfl⟩)
  have bI := ((Boxed.new (w.alloc (.cells #[.slice ta t.length tc] 24)) 43 (.slice none 0 0)).alloc (.cells #[.pointer none] 26)).alloc (.cells #[.slice ta t.length tc] 24)
  have bN := (Boxed.new ((w.alloc (.cells #[.slice ta t.length tc] 24)).alloc (.cells #[.slice none 0 0] 43)) 26 (.pointer none)).alloc (.cells #[.slice ta t.length tc] 24)
  simp only [World.size_alloc] at bI bN
  have hB0 : Below w.heap.size w ((((w.alloc (.cells #[.slice ta t.length tc] 24)).alloc (.cells #[.slice none 0 0] 43)).alloc (.cells #[.pointer none] 26)).alloc (.cells #[.slice ta t.length tc] 24)) := by
    refine Below.alloc (Below.alloc (Below.alloc (Below.alloc (Below.refl _ w) (Nat.le_refl _) _) ?_ _) ?_ _) ?_ _ <;> simp <;> omega
  have hsz : ((((w.alloc (.cells #[.slice ta t.length tc] 24)).alloc (.cells #[.slice none 0 0] 43)).alloc (.cells #[.pointer none] 26)).alloc (.cells #[.slice ta t.length tc] 24)).heap.size = w.heap.size + 4 := by simp
  obtain ⟨W0, hW0⟩ : ∃ W0, ((((w.alloc (.cells #[.slice ta t.length tc] 24)).alloc (.cells #[.slice none 0 0] 43)).alloc (.cells #[.pointer none] 26)).alloc (.cells #[.slice ta t.length tc] 24)) = W0 := ⟨_, rfl⟩
  rw [hW0] at hB0 hsz bI bN ⊢
  clear hW0
  refine wpIn_rangeFunc_ownH hro h1 (gf := 50) (lb := #[.pointer (some ⟨w.heap.size + 1 + 1, 0, none⟩), .pointer (some ⟨w.heap.size + 1 + 1 + 1, 0, none⟩)]) rfl trivial (enters_of Try.func50 (by kernel_rfl) rfl)
    (may_nil_stops 2 W0 (w.heap.size + 1 + 1) (w.heap.size + 1 + 1 + 1) (.slice ta t.length tc) bN (fun _ _ => True))
    (fun _ _ => trivial) (fun _ _ _ _ _ _ _ _ => trivial) (Below.refl _ _) (fun _ => rfl)
    (fun pre W => Boxed W (w.heap.size + 1) 43 (.slice none 0 0) ∧ Below w.heap.size w W)
    (fun c pre W => False)
    (OwnFrom.and (Own.from (fun s X Y row hs hg hr => by
      exact boxed_own _ _ (fun (_ : Unit) => Value.slice none 0 0) () X Y row hs hg hr) _) (ownFrom_below (Nat.le_refl _) (by omega)))
    (fun c s X Y row hs hg hr => hs)
    ⟨bI, hB0⟩
    (fun x a' W => True)
    (fun x a' _ X Y row hs hg hr => trivial)
    ?assign ?body ?done ?stop
  case assign =>
    rintro l pre x W K ⟨hi, hB1⟩ hK
    gi_wp2
    exact hK _ _ ((KeepsOthers.alloc _ _).from _) trivial ⟨hi.alloc _, hB1.alloc hB1.size _⟩ trivial
  case body =>
    intro l pre x a' W hl _ _ _ hlt
    exact absurd hlt (by omega)
  case done =>
    rintro D ys W hD rfl ⟨hi, hB1⟩ hK
    have c1 := hi.cell
    gi_wp2
    refine ⟨by simp, .inl ⟨_, _, rfl, run_takeDeferred hK, ?_⟩⟩
    refine ⟨.slice none 0 0, ?_, rfl, hB1.trans (belowK_b (w := w) (Nat.le_refl _) W D _ _ (by omega) hK rfl rfl)⟩
    simp [results, Try.results16, go_sem]
  case stop => rintro D c pre W hD h; exact h.elim

end Go.Proofs.Ytpflbdkbbkobbaa
