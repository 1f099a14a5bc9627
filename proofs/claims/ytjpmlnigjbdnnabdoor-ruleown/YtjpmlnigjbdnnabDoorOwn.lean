/-
  Lists of cells that a call made for itself, and copies of lists.
-/
import Derived.Test.YtjpmlnigjbdnnabDoorChk
import Derived.Deep.AppendLies
namespace Go.Proofs.YtjpmlnigjbdnnabDoor
open Go.RowKit
set_option linter.unusedVariables false
set_option maxRecDepth 100000

theorem info59 : (Tryd.prog.info? 30).map (fun i => (i.zero, i.size, i.bytes)) = some (some (.agg #[.string ⟨#[]⟩, .int .i64 0]), 2, 24) := by kernel_rfl

/-- cells, as they stand in memory -/
def flatC : List Cl → List Value
  | [] => []
  | c :: r => .string c.nm :: .int .i64 c.ar :: flatC r
theorem flatC_length : ∀ L, (flatC L).length = L.length * 2
  | [] => rfl
  | c :: r => by simp only [flatC, List.length_cons, flatC_length r]; omega
theorem flatC_append : ∀ L M, flatC (L ++ M) = flatC L ++ flatC M
  | [], M => rfl
  | c :: r, M => by simp only [List.cons_append, flatC, flatC_append r M]
theorem flatC_even : ∀ (L : List Cl) (k : Nat), (flatC L)[k * 2]? = (L[k]?).map fun c => .string c.nm
  | [], k => by simp [flatC]
  | c :: r, 0 => rfl
  | c :: r, k + 1 => by
    rw [show (k + 1) * 2 = k * 2 + 1 + 1 by omega]
    simp only [flatC, List.getElem?_cons_succ]
    exact flatC_even r k
theorem flatC_odd : ∀ (L : List Cl) (k : Nat), (flatC L)[k * 2 + 1]? = (L[k]?).map fun c => .int .i64 c.ar
  | [], k => by simp [flatC]
  | c :: r, 0 => rfl
  | c :: r, k + 1 => by
    rw [show (k + 1) * 2 + 1 = k * 2 + 1 + 1 + 1 by omega]
    simp only [flatC, List.getElem?_cons_succ]
    exact flatC_odd r k
theorem flatC_one : ∀ L, ∀ u ∈ flatC L, u.oneCell' = true
  | [], u, h => by simp [flatC] at h
  | c :: r, u, h => by
    simp only [flatC, List.mem_cons] at h
    rcases h with rfl | rfl | h
    · rfl
    · rfl
    · exact flatC_one r u h

theorem own_below {w w' : World} {B : Nat} {e : TypeId} {size : Nat} {v : Value} {n : Nat} {xs : List Value} (h : w.ownsRow B e size v n xs) (hb : Below w.heap.size w w') : w'.ownsRow B e size v n xs := by
  refine ⟨h.1, ?_⟩
  rcases h.2 with hn | ⟨g, cap, cur, hv, hB, hg, rest⟩
  · exact .inl hn
  · have hlt : g < w.heap.size := by
      rcases Nat.lt_or_ge g w.heap.size with h' | h'
      · exact h'
      · rw [Array.getElem?_eq_none h'] at hg; cases hg
    exact .inr ⟨g, cap, cur, hv, hB, (hb.block g hlt).trans hg, rest⟩
theorem own_base {w : World} {B B' : Nat} {e : TypeId} {size : Nat} {v : Value} {n : Nat} {xs : List Value} (h : w.ownsRow B e size v n xs) (hB : B' ≤ B) : w.ownsRow B' e size v n xs := by
  refine ⟨h.1, ?_⟩
  rcases h.2 with hn | ⟨g, cap, cur, hv, hB', rest⟩
  · exact .inl hn
  · exact .inr ⟨g, cap, cur, hv, Nat.le_trans hB hB', rest⟩

/-- a list of cells of the call's own -/
def Owns (w : World) (B : Nat) (v : Value) (L : List Cl) : Prop := w.ownsRow B 30 2 v L.length (flatC L)

theorem own_cells {w : World} {B : Nat} {e : TypeId} {size : Nat} {v : Value} {n : Nat} {xs : List Value} (h : w.ownsRow B e size v n xs) :
    ∃ a cap, v = .slice a n cap ∧ n ≤ cap ∧ cap ≤ maxLen ∧ ∀ j x, xs[j]? = some x → ∃ g, a = some ⟨g, 0, none⟩ ∧ B ≤ g ∧ g < w.heap.size ∧ w.cell? ⟨g, j, none⟩ = some x := by
  obtain ⟨hl, hn | ⟨g, cap, cur, hv, hB, hg, h1, h2, h3, h4⟩⟩ := h
  · obtain ⟨rfl, rfl⟩ := hn
    refine ⟨none, 0, rfl, Nat.le_refl _, Nat.zero_le _, fun j x hx => ?_⟩
    rw [Nat.zero_mul] at hl
    rw [List.eq_nil_of_length_eq_zero hl] at hx
    simp at hx
  · refine ⟨some ⟨g, 0, none⟩, cap, hv, h1, h2, fun j x hx => ?_⟩
    have hlt : g < w.heap.size := by
      rcases Nat.lt_or_ge g w.heap.size with h' | h'
      · exact h'
      · rw [Array.getElem?_eq_none h'] at hg; cases hg
    refine ⟨g, rfl, hB, hlt, ?_⟩
    rw [Lib.cell_of_heap hg]
    rw [← h4] at hx
    rw [List.getElem?_take] at hx
    split at hx
    · simpa using hx
    · cases hx

theorem Owns.lies {w : World} {B : Nat} {v : Value} {L : List Cl} (h : Owns w B v L) (hf : Fine L) : Lies w v L := by
  obtain ⟨a, cap, hv, h1, h2, h3⟩ := own_cells h
  refine ⟨a, cap, hv, h1, h2, hf, fun k c hc => ?_⟩
  obtain ⟨g, ha, _, hlt, c1⟩ := h3 (k * 2) (.string c.nm) (by rw [flatC_even, hc]; rfl)
  obtain ⟨g', ha', _, _, c2⟩ := h3 (k * 2 + 1) (.int .i64 c.ar) (by rw [flatC_odd, hc]; rfl)
  have : g' = g := by rw [ha] at ha'; cases ha'; rfl
  subst this
  exact ⟨g', 0, ha, hlt, by rw [Nat.zero_add]; exact c1, by rw [Nat.zero_add]; exact c2⟩

theorem add_plain (b off k : Nat) : ((⟨b, off, none⟩ : Addr).add k) = ⟨b, off + k, none⟩ := by
  cases k <;> simp [Addr.add]
/-- the cells of a list, as append takes them -/
theorem CellsAt.src {w : World} {ad : Addr} {L : List Cl} (h : CellsAt w (some ad) L) : ∀ j u, (flatC L)[j]? = some u → w.cell? (ad.add j) = some u := by
  intro j u hu
  obtain ⟨k, hk | hk⟩ : ∃ k, j = k * 2 ∨ j = k * 2 + 1 := ⟨j / 2, by omega⟩
  · subst hk
    rw [flatC_even] at hu
    cases hc : L[k]? with
    | none => rw [hc] at hu; cases hu
    | some c =>
      rw [hc] at hu; cases hu
      obtain ⟨b, off, ha, _, c1, _⟩ := h k c hc
      cases ha
      rw [add_plain]; exact c1
  · subst hk
    rw [flatC_odd] at hu
    cases hc : L[k]? with
    | none => rw [hc] at hu; cases hu
    | some c =>
      rw [hc] at hu; cases hu
      obtain ⟨b, off, ha, _, _, c2⟩ := h k c hc
      cases ha
      rw [add_plain]; exact c2
theorem CellsAt.nil_or {w : World} {L : List Cl} (h : CellsAt w none L) : L = [] := by
  cases L with
  | nil => rfl
  | cons c r => obtain ⟨b, off, ha, _⟩ := h 0 c rfl; cases ha

theorem copy_any (w : World) (v : Value) (L : List Cl) (hv : Lies w v L) (hz : L.length * 24 ≤ 140737488355328) :
    Calls Tryd.prog 6 #[v] w fun e w' => ∃ v', e = .returned v' ∧ Owns w' w.heap.size v' L ∧ Below w.heap.size w w' := by
  obtain ⟨a, cap, rfl, hc1, hc2, hF, HC⟩ := hv
  obtain ⟨i0, hi, hz0, hz1, hz2⟩ := info_parts info59
  cases a with
  | none =>
    have := HC.nil_or
    subst this
    go_enter Tryd.func6, Tryd.ntmps6
    go_wp2
    go_ret
    exact ⟨_, rfl, World.ownsRow_nil _ _ _ _, Below.refl _ _⟩
  | some ad =>
    have HS : Hid (∀ j u, (flatC L)[j]? = some u → w.cell? (ad.add j) = some u) := HC.src
    clear HC
    go_enter Tryd.func6, Tryd.ntmps6
    go_wp2_with (at_builtin; refine wpList_append_own _ rfl _ _ 23 rfl w.heap.size 30 i0 (.agg #[.string ⟨#[]⟩, .int .i64 0]) 2 24 Tryd.underlying23 hi hz0 hz1 hz2 rfl (by decide) _ 0 [] rfl (World.ownsRow_nil _ _ _ _) ad L.length cap (flatC L) rfl (flatC_length L) HS.out (flatC_one L) ?c3 ?c4 ?c5 ?_)
    case c3 => unfold maxLen; omega
    case c4 => omega
    case c5 => exact Nat.le_refl _
    intro v' w' hown hgrow _
    go_wp2
    go_ret
    refine ⟨_, rfl, ?_, ?_⟩
    · exact hown
    · exact (Below.refl _ w).grown hgrow (Nat.le_refl _) (fun k hk => by cases hk)

end Go.Proofs.YtjpmlnigjbdnnabDoor
