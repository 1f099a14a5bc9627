/-
  What term.End answers of a right term; lists of places put together.
-/
import Derived.Test.YtpflbdkbbkobbaaLay
import Derived.Laws.AppendOwnNone
namespace Go.Proofs.Ytpflbdkbbkobbaa
open Go.RowKit Go.Maps
set_option linter.unusedVariables false
set_option maxRecDepth 100000
set_option linter.unusedSimpArgs false

set_option maxHeartbeats 1000000 in
theorem end_any (w : World) (v : Value) (L : List Cl) (hv : Lies w v L) (hc : check L = 0) (k : Nat) :
    Calls Try.prog 69 #[v, .int .i64 (k : Nat)] w fun e w' => e = .returned (.int .i64 (posN L k : Nat)) ∧ Below w.heap.size w w' := by
  obtain ⟨h1, h2, h3⟩ := check_zero hc
  have hck := check_any w v L hv
  have hbe : ∀ W, Below w.heap.size w W → Calls Try.prog 59 #[v, .int .i64 (k : Nat)] W fun e w' => e = .returned (.int .i64 (posN L k : Nat)) ∧ W = w' := fun W hW => behind_any W v L (hv.on hW) h1 h2 k
  rw [hc] at hck
  have hki : ¬ (k : Int) < 0 := by omega
  clear h1 h2 h3 hc
  go_enter Try.func69, Try.ntmps69
  go_wp2_with (first | (go_at_call 38; refine hck.mono ?_; rintro e w1 ⟨rfl, hb1⟩) | (go_at_call 59; refine (hbe _ hb1).mono ?_; rintro e w2 ⟨rfl, rfl⟩))
  go_ret
  exact ⟨rfl, hb1⟩

/-- places put behind places -/
theorem wpList_join (w : World) {ops : Array Oper} {rest : List Oper} {o : Oper} {a : Act} {Q : Exit → Act → World → Prop} (hgd : o.guard = none) (s x : Operand)
    (ho : o.op = .call { callee := .builtin .append, args := #[s, x], argTypes := #[43, 43] }) (B : Nat) (v : Value) (l : List Nat) (hs : a.eval s = v) (hown : w.ownsRow B 3 1 v l.length (intsV l)) (b : Nat) (u : Value) (m : List Nat) (hx : a.eval x = u) (hu : w.ownsRow b 3 1 u m.length (intsV m)) (hn : l.length + m.length ≤ 1000) (hB : B ≤ w.heap.size)
    (h : ∀ v' w', w'.ownsRow B 3 1 v' (l ++ m).length (intsV (l ++ m)) → w.grownBy w' v.ownBlock → wpList Try.prog ops Q rest (a.put o.dst v') w') : wpList Try.prog ops Q (o :: rest) a w := by
  obtain ⟨i0, hi, hz0, hz1, hz2⟩ := info_parts info3
  rcases hu.2 with ⟨rfl, hm⟩ | ⟨g, cap, cur, rfl, _, hg, q1, q2, q3, q4⟩
  · obtain rfl : m = [] := List.eq_nil_of_length_eq_zero hm
    refine wpList_append_own_none hgd s x 43 ho B 3 i0 1 Try.underlying43 hi v l.length (intsV l) hs hown hx (h v w ?_ ⟨rfl, rfl, rfl, Nat.le_refl _, fun _ _ _ => rfl⟩)
    rw [List.append_nil]; exact hown
  · refine wpList_append_own w hgd s x 43 ho B 3 i0 (.int .i64 0) 1 8 Try.underlying43 hi hz0 hz1 hz2 rfl (by decide) v l.length (intsV l) hs hown ⟨g, 0, none⟩ m.length cap (intsV m) hx (by rw [intsV_len, Nat.mul_one]) (hu.cells (g := g) rfl) ?_ (by unfold maxLen; omega) (by omega) hB (fun v' w' h1 h2 _ => h v' w' ?_ h2)
    · intro y hy
      unfold intsV at hy
      obtain ⟨z, _, rfl⟩ := List.mem_map.1 hy
      rfl
    · rw [intsV_append, List.length_append]; exact h1

end Go.Proofs.Ytpflbdkbbkobbaa
