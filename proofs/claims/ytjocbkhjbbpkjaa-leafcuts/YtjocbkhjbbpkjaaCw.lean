/-
  Cut of lists that are right.
-/
import Derived.Test.YtjocbkhjbbpkjaaCu
import Derived.Test.YtjocbkhjbbpkjaaRz
import Derived.Test.YtjocbkhjbbpkjaaPw
namespace Go.Proofs.Ytjocbkhjbbpkjaa
open Go.RowKit
set_option linter.unusedVariables false
set_option linter.unusedSimpArgs false
set_option maxRecDepth 100000

theorem best_ex (L : List Ent) : ∀ j, ∃ b, Best L (j + 2) b
  | 0 => ⟨1, Best.one L⟩
  | j + 1 => by
    obtain ⟨b, hb⟩ := best_ex L j
    by_cases h : gre L (j + 2) < gre L b
    · exact ⟨_, hb.yes (by omega) h⟩
    · exact ⟨_, hb.no h⟩
theorem cut_ex (L : List Ent) : ∃ k, cutAt L k := by
  by_cases h : L.length < 2
  · exact ⟨_, .inl ⟨h, rfl⟩⟩
  · obtain ⟨b, hb⟩ := best_ex L (L.length - 2)
    rw [show L.length - 2 + 2 = L.length by omega] at hb
    exact ⟨b, .inr ⟨by omega, hb⟩⟩
theorem cut_right (w : World) (v : Value) (L : List Ent) (k p q : Nat) (hc : ckE none L = 0) (hl : LiesE w v L) (hz : L.length ≤ 4398046511000) (hk : cutAt L k) (hp : (L.take k).length = p) (hq : (L.drop k).length = q) :
    Calls Try.prog 26 #[v] w fun e w' => ∃ a c a2 c2, e = .returned (.tuple #[.slice a p c, .slice a2 q c2]) ∧ RowE w' w.heap.size (.slice a p c) (L.take k) ∧ RowE w' w.heap.size (.slice a2 q c2) (L.drop k) ∧ Below w.heap.size w w' := by
  refine (cut_any w v L hl hz).mono ?_
  rintro e w' ⟨j, a, c, a2, c2, hj, hm, rfl, hr, hr2, _, hb⟩
  obtain rfl : j = k := (hm hc).uniq hk
  rw [hp] at hr ⊢
  rw [hq] at hr2 ⊢
  exact ⟨a, c, a2, c2, rfl, hr, hr2, hb⟩
theorem rCut_right (w : World) (v : Value) (L : List Ent) (k : Nat) (hc : ckE none L = 0) (hl : LiesE w v L) (hz : L.length ≤ 4398046511000) (hk : cutAt L k) :
    Calls Try.prog 27 #[v] w fun e w' => e = .returned (.int .i64 (k : Nat)) ∧ Below w.heap.size w w' := by
  refine (rCut_any w v L hl hz hc).mono ?_
  rintro e w' ⟨j, rfl, hj, hb⟩
  obtain rfl : j = k := hj.uniq hk
  exact ⟨rfl, hb⟩
theorem run_one (a : Option Addr) (n c i : Nat) (hi : i + 1 ≤ c) (w : World) : (Instr.slice 22 (.slice a n c) (some (.int .i64 (i : Nat))) (some (.int .i64 ((i : Int) + 1))) none).run Try.prog w = .ok (.slice (sA a i c) 1 (c - i)) w := by
  have ht : Try.prog.underlying 22 = some (.slice 52) := Try.underlying22
  have hz : (sizeOf (Try.prog.elem 22)).run Try.prog w = .ok 2 w := by kernel_rfl
  rw [run_slice_lh w 22 a n c (by unfold Program.elem; rw [ht]) .i64 .i64 i ((i : Int) + 1) (by omega) (by omega) (by omega), hz]
  have h1 : ((i : Int) + 1).toNat = i + 1 := by omega
  have h2 : i + 1 - i = 1 := by omega
  simp [Result.andThen, sliced, sA, h1, h2]
theorem LiesE.one_at {w : World} {a : Option Addr} {n c : Nat} {L : List Ent} (h : LiesE w (.slice a n c) L) {i : Nat} {x : Ent} (hx : L[i]? = some x) : LiesE w (.slice (sA a i c) 1 (c - i)) [x] := by
  have hi := (List.getElem?_eq_some_iff.1 hx).1
  have := h.sub i (i + 1) (by omega) (by omega)
  rw [drop_cons hx, show i + 1 - i = 1 by omega] at this
  have e : sliced a i (i + 1) c 2 = .slice (sA a i c) 1 (c - i) := by
    unfold sliced sA
    rw [show i + 1 - i = 1 by omega]
  rw [e] at this
  exact this
theorem szL_one (x : Ent) (h : x.sz ≤ 98) : szL [x] = ((2 + x.sz : Nat) : Int) := by
  unfold szL
  rw [wr64_in (by simp [sumE]; omega)]
  simp [sumE]
end Go.Proofs.Ytjocbkhjbbpkjaa

