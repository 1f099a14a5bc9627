/-
  Rows of entries of the call's own that are written into.
-/
import Derived.Test.YtjocbkhjbbpkjabCu
import Derived.Test.YtjocbkhjbbpkjabPw
namespace Go.Proofs.Ytjocbkhjbbpkjab
open Go.RowKit
set_option linter.unusedVariables false
set_option linter.unusedSimpArgs false
set_option maxRecDepth 100000

/-- a row of n entries of the call's own -/
def Rw (w : World) (B : Nat) (v : Value) (n : Nat) : Prop := ∃ M : List Ent, M.length = n ∧ RowE w B v M
theorem Rw.on {w w' : World} {B : Nat} {v : Value} {n : Nat} (h : Rw w B v n) (hb : Below w.heap.size w w') : Rw w' B v n := by
  obtain ⟨M, hM, hr⟩ := h
  exact ⟨M, hM, hr.on hb⟩
theorem RowE.rw {w : World} {B B' : Nat} {v : Value} {M : List Ent} {n : Nat} (h : RowE w B v M) (hn : M.length = n) (hB : B' ≤ B) : Rw w B' v n := ⟨M, hn, h.base hB⟩
theorem flat_odd : ∀ (L : List Ent) (k : Nat) (s : ByteArray), ∃ M : List Ent, M.length = L.length ∧ (flatE L).set (k * 2 + 1) (.string s) = flatE M
  | [], k, s => ⟨[], rfl, by simp [flatE]⟩
  | x :: r, 0, s => ⟨⟨x.k, s⟩ :: r, rfl, rfl⟩
  | x :: r, k + 1, s => by
    obtain ⟨M, h1, h2⟩ := flat_odd r k s
    refine ⟨x :: M, by simp [h1], ?_⟩
    rw [show (k + 1) * 2 + 1 = k * 2 + 1 + 1 + 1 by omega]
    simp only [flatE, List.set_cons_succ]
    rw [h2]
theorem Rw.set {w : World} {B : Nat} {v : Value} {n : Nat} (h : Rw w B v n) (g k : Nat) (s : ByteArray) : Rw (w.setCell ⟨g, k * 2 + 1, none⟩ (.string s)) B v n := by
  obtain ⟨M, hM, hr⟩ := h
  by_cases hg : v.ownBlock = some g
  · obtain ⟨a, c, rfl⟩ := hr.form
    rcases (hr : w.ownsRow B 26 2 _ _ _).2 with ⟨e, _⟩ | ⟨g', cap, cur, e, _⟩
    · injection e with e1 _ _
      subst e1
      simp [Value.ownBlock] at hg
    · injection e with e1 _ e3
      subst e1
      subst e3
      simp [Value.ownBlock] at hg
      subst hg
      obtain ⟨N, hN, e2⟩ := flat_odd M k s
      refine ⟨N, by omega, ?_⟩
      have := own_set hr (k * 2 + 1) (.string s)
      rw [e2] at this
      unfold RowE
      rw [hN]
      exact this
  · exact ⟨M, hM, (Keep.set (S := fun j => j = g) w rfl (k * 2 + 1) (.string s)).row hr (fun g' hg' e => hg (by rw [hg', e]))⟩
/-- where it is written -/
theorem Rw.at {w : World} {B : Nat} {v : Value} {n k : Nat} (h : Rw w B v n) (hk : k < n) : ∃ g c, v = .slice (some ⟨g, 0, none⟩) n c ∧ B ≤ g ∧ ∃ s, w.cell? ⟨g, k * 2 + 1, none⟩ = some (.string s) ∧ w.frozen? ⟨g, k * 2 + 1, none⟩ = false := by
  obtain ⟨M, rfl, hr⟩ := h
  obtain ⟨g, c, rfl, _, _, hB, _⟩ := own_some hr (by omega)
  obtain ⟨x, hx⟩ : ∃ x, M[k]? = some x := ⟨_, List.getElem?_eq_getElem hk⟩
  obtain ⟨_, _, e4, _, _, hcc⟩ := own_cells hr
  cases e4
  obtain ⟨_, e5, _, _, c2, f2⟩ := hcc (k * 2 + 1) (.string x.v) (by rw [flatE_odd, hx]; rfl)
  cases e5
  exact ⟨g, c, rfl, hB, x.v, c2, f2⟩
theorem Rw.form {w : World} {B : Nat} {v : Value} {n : Nat} (h : Rw w B v n) : ∃ a c, v = .slice a n c := by
  obtain ⟨M, rfl, hr⟩ := h
  exact hr.form
theorem below_set {w0 w : World} {B g i : Nat} {v : Value} (h : Below B w0 w) (hg : B ≤ g) (hB : B ≤ w.heap.size) : Below B w0 (w.setCell ⟨g, i, none⟩ v) :=
  h.trans ((Keep.set (S := fun j => j = g) w rfl i v).below (fun j hj => by rw [hj]; exact hg) hB)
theorem Rw.lt {w : World} {B : Nat} {v : Value} {n g : Nat} (h : Rw w B v n) (hg : v.ownBlock = some g) : g < w.heap.size := by
  obtain ⟨M, rfl, hr⟩ := h
  exact ((hr : w.ownsRow B 26 2 v M.length (flatE M)).lt g hg).2
/-- one entry more: the row may move; another row stands -/
theorem wpList_rw {ops : Array Oper} {rest : List Oper} {o : Oper} {a : Act} {Q : Exit → Act → World → Prop} (W : World) (B : Nat) (hgd : o.guard = none) (s x : Operand)
    (ho : o.op = .call { callee := .builtin .append, args := #[s, x], argTypes := #[22, 22] }) (v u : Value) (n m : Nat) (hs : a.eval s = v) (hown : Rw W B v n) (hu : Rw W B u m) (hap : Apart v u) (w0 : World) (hB : Below B w0 W) (hBW : B ≤ W.heap.size)
    (p : Nat) (y : Ent) (hx : a.eval x = .slice (some ⟨p, 0, none⟩) 1 1) (hy : Blk W p #[.string y.k, .string y.v] 26) (hlen : n + 1 ≤ 4398046511000)
    (h : ∀ va vc w', Rw w' B (.slice va (n + 1) vc) (n + 1) → Rw w' B u m → Apart (.slice va (n + 1) vc) u → Below B w0 w' → B ≤ w'.heap.size → wpList Try.prog ops Q rest (a.put o.dst (.slice va (n + 1) vc)) w') : wpList Try.prog ops Q (o :: rest) a W := by
  obtain ⟨M, rfl, hr⟩ := hown
  obtain ⟨N, rfl, hu⟩ := hu
  obtain ⟨i0, hi, hz0, hz1, hz2⟩ := info_parts infoE
  refine wpList_append_blk W hgd s x 22 ho B 26 i0 (.agg #[.string ⟨#[]⟩, .string ⟨#[]⟩]) 2 32 Try.underlying22 hi hz0 hz1 hz2 rfl (by decide) v M.length (flatE M) hs hr ⟨p, 0, none⟩ 1 1 (flatE [y]) hx rfl (fun j z hj => ?_) (flatE_one [y]) (by omega) (by unfold maxLen; omega) (by omega) hBW ?_
  · rw [add_plain, Nat.zero_add]
    match j, hj with
    | 0, hj => cases hj; exact hy.cell (i := 0) rfl
    | 1, hj => cases hj; exact hy.cell (i := 1) rfl
  · intro v' w' hown' hgrow hmv
    obtain ⟨va, vc, e⟩ := own_form hown'
    subst e
    have hle : W.heap.size ≤ w'.heap.size := hgrow.size
    have hrw : Rw w' B (.slice va (M.length + 1) vc) (M.length + 1) := ⟨M ++ [y], by simp, by
      unfold RowE
      rw [List.length_append, flatE_append]
      exact hown'⟩
    have hku : Rw w' B u N.length := ⟨N, rfl, (Keep.grown (S := fun j => v.ownBlock = some j) hgrow (fun k hk => hk)).row hu (fun g hg e => hap g e hg)⟩
    refine h va vc w' hrw hku (fun g hg e => ?_) (hB.grown hgrow hBW (fun g hg => ((hr : W.ownsRow B 26 2 _ _ _).lt g hg).1)) (by omega)
    rcases hmv g hg with h1 | h1
    · exact hap g h1 e
    · have := ((hu : W.ownsRow B 26 2 _ _ _).lt g e).2
      omega
theorem RowE.cellAt {w : World} {B g n c k : Nat} {M : List Ent} {u : Value} (h : RowE w B (.slice (some ⟨g, 0, none⟩) n c) M) (hu : (flatE M)[k]? = some u) : w.cell? ⟨g, k, none⟩ = some u := by
  obtain ⟨_, _, e4, _, _, hcc⟩ := own_cells h
  injection e4 with e41 _ _
  subst e41
  obtain ⟨_, e5, _, _, c1, _⟩ := hcc k _ hu
  injection e5 with e5
  injection e5 with e5 _ _
  subst e5
  exact c1
theorem Apart.symm {u v : Value} (h : Apart u v) : Apart v u := fun g hg e => h g e hg
end Go.Proofs.Ytjocbkhjbbpkjab

