/-
  Blocks of cells that are written into, and what stays beside them; a copy with one cell more.
-/
import Derived.Test.YtjpmlnigjbdnnabDoorHd
import Derived.Test.YtjpmlnigjbdnnabDoorCp
namespace Go.Proofs.YtjpmlnigjbdnnabDoor
open Go.RowKit
set_option linter.unusedVariables false
set_option linter.unusedSimpArgs false
set_option maxRecDepth 100000

/-- a block of at least n cells of terms -/
def BlockOk (w : World) (g n : Nat) : Prop := ∃ cur, w.heap[g]? = some (.cells cur 30 (0, 0)) ∧ n * 2 ≤ cur.size
theorem BlockOk.set {w : World} {g n : Nat} (h : BlockOk w g n) (g' i : Nat) (u : Value) : BlockOk (w.setCell ⟨g', i, none⟩ u) g n := by
  obtain ⟨cur, h1, h2⟩ := h
  by_cases e : g = g'
  · subst e
    exact ⟨_, Blk.set (show Blk w g cur 30 from h1) i u, by rw [Array.size_setIfInBounds]; exact h2⟩
  · exact ⟨cur, (Below.heap_setCell _ _ _ _ e).trans h1, h2⟩
theorem BlockOk.at {w : World} {g n j : Nat} (h : BlockOk w g n) (hj : j < n) : (∃ u, w.cell? ⟨g, j * 2, none⟩ = some u) ∧ w.frozen? ⟨g, j * 2, none⟩ = false := by
  obtain ⟨cur, h1, h2⟩ := h
  refine ⟨⟨cur[j * 2]'(by omega), ?_⟩, Lib.frozen_of_heap h1 _⟩
  rw [Lib.cell_of_heap h1]
  simp
theorem own_block {w : World} {B : Nat} {x : Value} {l : List Cl} (h : Owns w B x l) (hl : l ≠ []) : ∃ g cap, x = .slice (some ⟨g, 0, none⟩) l.length cap ∧ B ≤ g ∧ g < w.heap.size ∧ l.length ≤ cap ∧ cap ≤ maxLen ∧ BlockOk w g l.length := by
  rcases h.2 with ⟨_, h0⟩ | ⟨g, cap, cur, hv, hB, hg, h1, h2, h3, _⟩
  · exact absurd (List.eq_nil_of_length_eq_zero h0) hl
  · exact ⟨g, cap, hv, hB, (Array.getElem?_eq_some_iff.1 hg).1, h1, h2, cur, hg, by rw [h3]; exact Nat.mul_le_mul_right 2 h1⟩
/-- a list of n cells that may be written into: its block, where it has one, is none of the elder ones -/
def WOk (w : World) (H : Nat) (a : Option Addr) (n : Nat) : Prop := ∀ j, j < n → ∃ g, a = some ⟨g, 0, none⟩ ∧ H ≤ g ∧ g < w.heap.size ∧ BlockOk w g n
theorem wok_of {w : World} {B : Nat} {a : Option Addr} {n c : Nat} {M : List Cl} (h : Owns w B (.slice a n c) M) (hn : n = M.length) : WOk w B a n := fun j hj => by
  subst hn
  obtain ⟨g, cap, e, h1, h2, _, _, h3⟩ := own_block h (by intro e; rw [e] at hj; simp at hj)
  injection e with e1 _ _
  exact ⟨g, e1, h1, h2, h3⟩
theorem WOk.on {w w' : World} {H n : Nat} {a : Option Addr} (h : WOk w H a n) (hb : Below w.heap.size w w') : WOk w' H a n := fun j hj => by
  obtain ⟨g, h1, h2, h3, cur, h4, h5⟩ := h j hj
  exact ⟨g, h1, h2, Nat.lt_of_lt_of_le h3 hb.size, cur, (hb.block g h3).trans h4, h5⟩
theorem WOk.base {w : World} {H H' n : Nat} {a : Option Addr} (h : WOk w H a n) (hH : H' ≤ H) : WOk w H' a n := fun j hj => by
  obtain ⟨g, h1, h2, h3⟩ := h j hj
  exact ⟨g, h1, Nat.le_trans hH h2, h3⟩
theorem WOk.set {w : World} {H n : Nat} {a : Option Addr} (h : WOk w H a n) (g' i : Nat) (u : Value) : WOk (w.setCell ⟨g', i, none⟩ u) H a n := fun j hj => by
  obtain ⟨g, h1, h2, h3, h4⟩ := h j hj
  exact ⟨g, h1, h2, Nat.lt_of_lt_of_le h3 (set_grown w g' i u).size, h4.set _ _ _⟩
/-- while what was answered is written into: what stays as it was in w0, and where one may write -/
structure Scr (w0 wr : World) (pb : Nat) (cs : Array Value) (a1 a2 a3 : Option Addr) (n1 n2 n3 : Nat) : Prop where
  low : Below w0.heap.size w0 wr
  box : Blk wr pb cs 25
  s1 : WOk wr w0.heap.size a1 n1
  s2 : WOk wr w0.heap.size a2 n2
  s3 : WOk wr w0.heap.size a3 n3
theorem Scr.store {w0 wr : World} {pb : Nat} {cs : Array Value} {a1 a2 a3 : Option Addr} {n1 n2 n3 : Nat} (h : Scr w0 wr pb cs a1 a2 a3 n1 n2 n3) {g n : Nat} (hg : w0.heap.size ≤ g) (hb : BlockOk wr g n) (i : Nat) (u : Value) : Scr w0 (wr.setCell ⟨g, i, none⟩ u) pb cs a1 a2 a3 n1 n2 n3 := by
  refine ⟨h.low.setCell hg u, h.box.other ?_ u, h.s1.set _ _ _, h.s2.set _ _ _, h.s3.set _ _ _⟩
  intro e
  subst e
  obtain ⟨cur, hc, _⟩ := hb
  have hx := h.box
  unfold Blk at hx
  rw [hx] at hc
  cases hc

/-- a copy with one cell more: the copy, and the cell behind it -/
theorem kept_of {w : World} {B : Nat} {v : Value} {L : List Cl} (h : Owns w B v (L ++ [⟨⟨#[107, 101, 101, 112]⟩, 0⟩])) (hf : Fine L) :
    ∃ g c, v = .slice (some ⟨g, 0, none⟩) (L.length + 1) c ∧ B ≤ g ∧ g < w.heap.size ∧ L.length + 1 ≤ c ∧ c ≤ maxLen ∧ Lies w (.slice (some ⟨g, 0, none⟩) L.length c) L ∧ w.cell? ⟨g, L.length * 2, none⟩ = some (.string ⟨#[107, 101, 101, 112]⟩) := by
  obtain ⟨g, c, hv, hB, hg, h1, h2, _⟩ := own_block h (by simp)
  rw [show (L ++ [(⟨⟨#[107, 101, 101, 112]⟩, 0⟩ : Cl)]).length = L.length + 1 by simp] at hv h1
  subst hv
  have hin0 : Lies w (.slice (some ⟨g, 0, none⟩) (L.length + 1) c) (L ++ [⟨⟨#[107, 101, 101, 112]⟩, 0⟩]) := Owns.lies h (fine_append hf (fun c hc => by simp at hc; subst hc; exact ⟨by decide, by decide, by decide⟩))
  refine ⟨g, c, rfl, hB, hg, h1, h2, ?_, ?_⟩
  · have := Lies.part (i := 0) (M := L) (R := [⟨⟨#[107, 101, 101, 112]⟩, 0⟩]) hin0 (by simp) (by simp)
    simpa using this
  · obtain ⟨a', cap', hv', _, _, _, HC'⟩ := hin0
    injection hv' with e1 _ _
    subst e1
    obtain ⟨b, off, e, _, d, _⟩ := HC' L.length ⟨⟨#[107, 101, 101, 112]⟩, 0⟩ (by simp)
    cases e
    rw [Nat.zero_add] at d
    exact d
theorem more_keep {W' : World} {B : Nat} {v' : Value} {L : List Cl} (h : W'.ownsRow B 30 2 v' (L.length + 1) (flatC L ++ [.string ⟨#[107, 101, 101, 112]⟩, .int .i64 0])) : Owns W' B v' (L ++ [⟨⟨#[107, 101, 101, 112]⟩, 0⟩]) := by
  show World.ownsRow _ _ _ _ _ _ _
  rw [flatC_append, List.length_append]
  exact h

/-- whatever Plain answers, its lists are new memory -/
theorem plain_own (w : World) (id : Int) (lv rv : Value) (L R : List Cl) (hl : Lies w lv L) (hr : Lies w rv R) :
    ∃ (i : Int) (E : Nat) (M N : List Cl), Calls Tryd.prog 7 #[.agg #[.int .i64 id, lv, rv]] w fun e w' => ∃ lv' rv', e = .returned (.tuple #[.agg #[.int .i64 i, lv', rv'], .int .i64 (E : Nat)]) ∧ Owns w' w.heap.size lv' M ∧ Owns w' w.heap.size rv' N ∧ Below w.heap.size w w' := by
  by_cases hE : chk id L R = 0
  · exact ⟨id, 0, _, _, rulePlain_ok w id lv rv L R hl hr hE⟩
  · refine ⟨0, chk id L R, [], [], (rulePlain_bad w id lv rv L R hl hr hE).mono fun e w' h => ?_⟩
    exact ⟨_, _, h.1, World.ownsRow_nil _ _ _ _, World.ownsRow_nil _ _ _ _, h.2⟩
theorem fill_fine (R : List Cl) (l : List Bd) : Fine (fillM R l) := by
  by_cases h : fillE R l = 0
  · exact fine_check (filled h).1
  · unfold fillM; rw [if_neg h]; exact fun c hc => by cases hc

end Go.Proofs.YtjpmlnigjbdnnabDoor
