/-
  Blocks of cells that are written into, and what stays beside them; Make's and Kids' answers in one form each.
-/
import Derived.Test.YtjfkkabpfjcceabRText
import Derived.Test.YtjfkkabpfjcceabRMake
namespace Go.Proofs.Ytjfkkabpfjcceab
open Go.RowKit
set_option linter.unusedVariables false
set_option maxRecDepth 100000
set_option linter.unusedSimpArgs false

/-- a block of at least n cells of terms -/
def BlockOk (w : World) (g n : Nat) : Prop := ∃ cur, w.heap[g]? = some (.cells cur 28 (0, 0)) ∧ n * 2 ≤ cur.size
theorem heap_set_self {w : World} {g i : Nat} {u : Value} {cur : Array Value} {t : TypeId} (h : w.heap[g]? = some (.cells cur t (0, 0))) : (w.setCell ⟨g, i, none⟩ u).heap[g]? = some (.cells (cur.setIfInBounds i u) t (0, 0)) := by
  simp only [World.setCell, Array.getElem?_modify, h, if_true]
  rfl
theorem heap_set_other {w : World} {g k i : Nat} {u : Value} (h : k ≠ g) : (w.setCell ⟨g, i, none⟩ u).heap[k]? = w.heap[k]? := Below.heap_setCell _ _ _ _ h
theorem heap_set_size (w : World) (p : Addr) (u : Value) : (w.setCell p u).heap.size = w.heap.size := by simp [World.setCell]
theorem BlockOk.set {w : World} {g n : Nat} (h : BlockOk w g n) (g' i : Nat) (u : Value) : BlockOk (w.setCell ⟨g', i, none⟩ u) g n := by
  obtain ⟨cur, h1, h2⟩ := h
  by_cases e : g = g'
  · subst e
    exact ⟨_, heap_set_self h1, by rw [Array.size_setIfInBounds]; exact h2⟩
  · exact ⟨cur, (heap_set_other e).trans h1, h2⟩
theorem BlockOk.at {w : World} {g n j : Nat} (h : BlockOk w g n) (hj : j < n) : (∃ u, w.cell? ⟨g, j * 2, none⟩ = some u) ∧ w.frozen? ⟨g, j * 2, none⟩ = false := by
  obtain ⟨cur, h1, h2⟩ := h
  refine ⟨⟨cur[j * 2]'(by omega), ?_⟩, Lib.frozen_of_heap h1 _⟩
  rw [Lib.cell_of_heap h1]
  simp
theorem own_block {w : World} {B : Nat} {x : Value} {l : List Cl} (h : Owns w B x l) (hl : l ≠ []) : ∃ g cap, x = .slice (some ⟨g, 0, none⟩) l.length cap ∧ B ≤ g ∧ g < w.heap.size ∧ l.length ≤ cap ∧ cap ≤ maxLen ∧ BlockOk w g l.length := by
  rcases h.2 with ⟨_, h0⟩ | ⟨g, cap, cur, hv, hB, hg, h1, h2, h3, _⟩
  · exact absurd (List.eq_nil_of_length_eq_zero h0) hl
  · exact ⟨g, cap, hv, hB, (Array.getElem?_eq_some_iff.1 hg).1, h1, h2, cur, hg, by rw [h3]; exact Nat.mul_le_mul_right 2 h1⟩

theorem row_kept {w w' : World} {B : Nat} {e : TypeId} {size : Nat} {v : Value} {n : Nat} {xs : List Value} (h : w.ownsRow B e size v n xs) (he : ∀ k, B ≤ k → k < w.heap.size → w'.heap[k]? = w.heap[k]?) : w'.ownsRow B e size v n xs := by
  refine ⟨h.1, ?_⟩
  rcases h.2 with hn | ⟨g, cap, cur, hv, hB, hg, rest⟩
  · exact .inl hn
  · exact .inr ⟨g, cap, cur, hv, hB, (he g hB (Array.getElem?_eq_some_iff.1 hg).1).trans hg, rest⟩
theorem OwnsT.kept {w w' : World} {B : Nat} {v : Value} {K : List (List Cl)} (h : OwnsT w B v K) (he : ∀ k, B ≤ k → k < w.heap.size → w'.heap[k]? = w.heap[k]?) : OwnsT w' B v K := by
  obtain ⟨vs, h1, h2⟩ := h
  refine ⟨vs, row_kept h1 he, fun j l hj => ?_⟩
  obtain ⟨x, hx, ho⟩ := h2 j l hj
  exact ⟨x, hx, row_kept ho he⟩

/-- while the terms of a list are written into: what stays as it was in w0, and where one may write -/
structure Mid (w0 wr : World) (lo hi : Nat) (ka : Option Addr) (K : List (List Cl)) : Prop where
  low : Below lo w0 wr
  high : ∀ k, hi ≤ k → wr.heap[k]? = w0.heap[k]?
  size : wr.heap.size = w0.heap.size
  room : ∀ (i : Nat) l, K[i]? = some l → ∃ gr g cap cr, ka = some ⟨gr, 0, none⟩ ∧ wr.heap[gr]? = some (.cells cr 23 (0, 0)) ∧ wr.cell? ⟨gr, i, none⟩ = some (.slice (some ⟨g, 0, none⟩) l.length cap) ∧ lo ≤ g ∧ g < hi ∧ l.length ≤ cap ∧ cap ≤ maxLen ∧ BlockOk wr g l.length
theorem Mid.store {w0 wr : World} {lo hi : Nat} {ka : Option Addr} {K : List (List Cl)} (h : Mid w0 wr lo hi ka K) {g i n : Nat} (hlo : lo ≤ g) (hhi : g < hi) (hb : BlockOk wr g n) (u : Value) : Mid w0 (wr.setCell ⟨g, i, none⟩ u) lo hi ka K := by
  refine ⟨h.low.setCell hlo u, fun k hk => (heap_set_other (by omega)).trans (h.high k hk), (heap_set_size _ _ _).trans h.size, fun j l hj => ?_⟩
  obtain ⟨gr, g2, cap, cr, h1, h2, h3, h4, h5, h6, h7, h8⟩ := h.room j l hj
  have hne : gr ≠ g := by
    intro e
    subst e
    obtain ⟨cur, hc, _⟩ := hb
    rw [h2] at hc
    cases hc
  exact ⟨gr, g2, cap, cr, h1, (heap_set_other hne).trans h2, (World.cell?_of_block (a := ⟨gr, j, none⟩) (heap_set_other hne)).trans h3, h4, h5, h6, h7, h8.set _ _ _⟩
/-- a list of terms that a call made: it may be written into -/
theorem mid_of {w5 w7 : World} {lo hi n kc : Nat} {ka : Option Addr} {K : List (List Cl)} (h : OwnsT w5 lo (.slice ka n kc) K) (hK : ∀ l ∈ K, l ≠ []) (hhi : w5.heap.size = hi) (hb : Below hi w5 w7) : Mid w7 w7 lo hi ka K := by
  subst hhi
  refine ⟨Below.refl _ _, fun _ _ => rfl, rfl, fun i l hi => ?_⟩
  obtain ⟨vs, hrow, hel⟩ := h.on hb
  obtain ⟨vs5, hrow5, hel5⟩ := h
  obtain ⟨x, hx, ho⟩ := hel5 i l hi
  obtain ⟨g, cap, rfl, q1, q2, q3, q4, q5⟩ := own_block ho (hK l (List.mem_of_getElem? hi))
  obtain ⟨a', cap', hv', _, _, hc⟩ := own_cells hrow5
  cases hv'
  obtain ⟨gr, ha, _, hgl, hcx⟩ := hc i _ hx
  obtain ⟨cr, hcr⟩ : ∃ cr, w5.heap[gr]? = some (.cells cr 23 (0, 0)) := by
    rcases hrow5.2 with ⟨e, _⟩ | ⟨g', cap2, cur, e, _, hg, _⟩
    · injection e with e1 _ _; rw [e1] at ha; cases ha
    · injection e with e1 _ _; rw [ha] at e1; cases e1; exact ⟨cur, hg⟩
  obtain ⟨cur, hcu, hsz⟩ := q5
  exact ⟨gr, g, cap, cr, ha, (hb.block gr hgl).trans hcr, (hb.cell (p := ⟨gr, i, none⟩) hgl).trans hcx, q1, q2, q3, q4, cur, (hb.block g q2).trans hcu, hsz⟩

theorem fine_check {M : List Cl} (h : check M = 0) : Fine M := by
  intro c hc
  have h1 := cellsErr_zero.1 (check_zero h).2.1 c hc
  have h2 := (name_len h1).2
  have h3 := cellErr_ar h1
  exact ⟨by omega, by omega, by omega⟩
theorem make_owns (w : World) (nm : ByteArray) (kv : Value) (K : List (List Cl)) (hnm : nm.size ≤ 9223372036854775807) (hK : LiesT w kv K) :
    ∃ (E : Nat) (M : List Cl), Calls Try.prog 8 #[.string nm, kv] w fun e w' => ∃ v', e = .returned (.tuple #[v', .int .i64 (E : Nat)]) ∧ Owns w' w.heap.size v' M ∧ Below w.heap.size w w' := by
  by_cases h0 : makeE nm K = 0
  · refine ⟨0, mkT nm K K.length, (make_any w nm kv K hnm hK).mono fun e w' h => ?_⟩
    obtain ⟨⟨_, v', rfl, ho⟩ | ⟨h1, _⟩, hb⟩ := h
    · exact ⟨v', rfl, ho, hb⟩
    · exact absurd h0 h1
  · refine ⟨makeE nm K, [], (make_any w nm kv K hnm hK).mono fun e w' h => ?_⟩
    obtain ⟨⟨h1, _⟩ | ⟨_, rfl⟩, hb⟩ := h
    · exact absurd h1 h0
    · exact ⟨_, rfl, World.ownsRow_nil _ _ _ _, hb⟩
theorem kids_owns (L : List Cl) : ∃ KS : List (List Cl), (∀ l ∈ KS, l ≠ []) ∧ KS.length ≤ 64 ∧ (∀ l ∈ KS, Fine l) ∧
    (∀ w v, Lies w v L → Calls Try.prog 7 #[v] w fun e w' => ∃ v', e = .returned (.tuple #[v', .int .i64 (check L : Nat)]) ∧ OwnsT w' w.heap.size v' KS ∧ Below w.heap.size w w') ∧
    (check L = 0 → ∀ w v, Lies w v L → Calls Try.prog 11 #[v] w fun e w' => ∃ v', e = .returned v' ∧ OwnsT w' w.heap.size v' KS ∧ Below w.heap.size w w') := by
  by_cases hE : check L = 0
  · obtain ⟨nm, kd, hflat⟩ := check_term hE
    have h64 := (check_zero hE).1
    rw [hflat, Fo.flat_length] at h64
    simp only [Fo.size] at h64
    refine ⟨kd.trees, fun l hl => ?_, ?_, fun l hl => fine_check (tree_check (nm := nm) (by rw [← hflat]; exact hE) hl), fun w v hv => ?_, fun _ w v hv => rKids_ok w v L hv hE nm kd hflat⟩
    · obtain ⟨nm', k', rfl, _⟩ := trees_fo kd l hl
      simp [Fo.flat]
    · rw [Fo.trees_length]; have := Fo.len_le kd; omega
    · rw [hE]; exact kids_ok w v L hv hE nm kd hflat
  · refine ⟨[], (fun l hl => by simp at hl), by simp, (fun l hl => by simp at hl), fun w v hv => ?_, fun h => absurd h hE⟩
    refine (kids_bad w v L hv hE).mono fun e w' h => ?_
    obtain ⟨rfl, hb⟩ := h
    exact ⟨_, rfl, OwnsT.nil _ _, hb⟩
theorem print_text (L : List Cl) : ∃ TX : ByteArray, ∀ w v, Lies w v L → Calls Try.prog 9 #[v] w fun e w' => e = .returned (.tuple #[.string TX, .int .i64 (check L : Nat)]) ∧ Below w.heap.size w w' := by
  by_cases hE : check L = 0
  · obtain ⟨nm, kd, hflat⟩ := check_term hE
    exact ⟨_, fun w v hv => by rw [hE]; exact rPrint_ok w v L hv hE nm kd hflat⟩
  · exact ⟨_, fun w v hv => rPrint_bad w v L hv hE⟩

end Go.Proofs.Ytjfkkabpfjcceab
