/-
  SpaceFills: a space beside the law's world and a row of truths.
-/
import Derived.Test.YtglallhblcjffaaGreatDoorRb4
namespace Go.Proofs.YtglallhblcjffaaGreatDoor
open Go.RowKit
set_option linter.unusedVariables false
set_option linter.unusedSimpArgs false
set_option maxRecDepth 100000

/-- a space made since w0, with a block and a row of truths that are not its own -/
def Fz (w0 w : World) (g : Nat) (cs : Array Value) (v : Value) (T : List Bool) (k q s : Nat) (d : Ds) (f : Int → ByteArray) (N : Nat) : Prop :=
  ∃ S, Sv w S k q s d f N ∧ (∀ j, S j → w0.heap.size ≤ j ∧ j ≠ g ∧ ¬ v.ownBlock = some j) ∧ Blk w g cs 34 ∧ w0.heap.size ≤ g ∧ RowB w w0.heap.size v T ∧ Below w0.heap.size w0 w
section
variable {w0 w W V : World} {g k q s n : Nat} {cs : Array Value} {v : Value} {T : List Bool} {d d' : Ds} {f f' : Int → ByteArray} {N N' : Nat}
theorem Fz.below (h : Fz w0 w g cs v T k q s d f N) : Below w0.heap.size w0 w := by obtain ⟨_, _, _, _, _, _, h⟩ := h; exact h
theorem Fz.good (h : Fz w0 w g cs v T k q s d f N) : d.Ok ∧ d.dn = false ∧ ∀ a, isPg d.bs.length a → (f a).size = 256 := by obtain ⟨_, h, _⟩ := h; exact h.good
theorem Fz.cell (h : Fz w0 w g cs v T k q s d f N) {i : Nat} {x : Value} (hx : cs[i]? = some x) : w.cell? ⟨g, i, none⟩ = some x := by obtain ⟨_, _, _, h, _⟩ := h; exact h.cell hx
theorem Fz.row (h : Fz w0 w g cs v T k q s d f N) : RowB w w0.heap.size v T := by obtain ⟨_, _, _, _, _, h, _⟩ := h; exact h
theorem Fz.call {F : Ending → World → Prop} {args : Array Value} (hE : Env w0) (h : Fz w0 w g cs v T k q s d f N) (hc : ∀ S, Sv w S k q s d f N → Env w → ¬ S 0 → Calls Tryz.prog n args w fun e V => F e V ∧ Sn w S k q s d' f' N' V) : Calls Tryz.prog n args w fun e V => F e V ∧ Fz w0 V g cs v T k q s d' f' N' := by
  obtain ⟨S, h1, h2, h3, h4, h5, h6⟩ := h
  have hp := hE.pos
  refine (hc S h1 (hE.on hp h6) (fun h0 => by have := (h2 0 h0).1; omega)).mono fun e V hh => ⟨hh.1, ?_⟩
  obtain ⟨S', s1, s2⟩ := hh.2.sv
  have hk := hh.2.keep
  refine ⟨S', s1, fun j hj => ?_, hk.blk h3 (fun hg => (h2 g hg).2.1 rfl), h4, hk.row h5 (fun j e hj => (h2 j hj).2.2 e), h6.trans (hk.below (fun j hj => (h2 j hj).1) h6.size)⟩
  rcases s2 j hj with t | t
  · exact h2 j t
  · refine ⟨Nat.le_trans h6.size t, fun e => ?_, fun e => ?_⟩
    · have := h3.lt
      omega
    · have := (World.ownsRow.lt h5 j e).2
      omega
/-- a row of truths is made -/
theorem Fz.make (h : Fz w0 w g cs (.slice none 0 0) [] k q s d f N) {v' : Value} {T' : List Bool} (hr : RowB W w.heap.size v' T') (hb : Below w.heap.size w W) : Fz w0 W g cs v' T' k q s d f N := by
  obtain ⟨S, h1, h2, h3, h4, h5, h6⟩ := h
  refine ⟨S, h1.on hb, fun j hj => ⟨(h2 j hj).1, (h2 j hj).2.1, fun e => ?_⟩, (Keep.of_below (S := fun _ => False) hb).blk h3 (fun h => h), h4, own_base hr h6.size, h6.trans (hb.mono h6.size)⟩
  have := (World.ownsRow.lt hr j e).1
  have := h1.lt j hj
  omega
/-- a truth is set -/
theorem Fz.set {b c : Nat} (h : Fz w0 w g cs (.slice (some ⟨b, 0, none⟩) n c) T k q s d f N) (i : Nat) (x : Bool) : Fz w0 (w.setCell ⟨b, i, none⟩ (.bool x)) g cs (.slice (some ⟨b, 0, none⟩) n c) (T.set i x) k q s d f N := by
  obtain ⟨S, h1, h2, h3, h4, h5, h6⟩ := h
  have k2 : Keep (fun j => j = b) w (w.setCell ⟨b, i, none⟩ (.bool x)) := Keep.set (S := fun j => j = b) w rfl i _
  have hb := (World.ownsRow.lt h5 b rfl).1
  obtain rfl : n = T.length := by
    obtain ⟨_, _, e⟩ := h5.form
    injection e
  have hr := own_set h5 i (.bool x)
  rw [map_set] at hr
  refine ⟨S, k2.sv h1 (fun j hj e => (h2 j hj).2.2 (by subst e; rfl)), h2, k2.blk h3 (fun e => h3.ne h5 (by decide) (show _ = some b from rfl) e.symm), h4, ?_, h6.trans (k2.below (fun j e => by subst e; exact hb) h6.size)⟩
  unfold RowB
  rw [List.length_set]
  exact hr
/-- all is kept, and nothing else is shown -/
theorem commit_fz (hE : Env w0) (hz : Fit (d.lg.length + 5000)) (hl : d.lf < 0) (h : Fz w0 w g cs v T k q s d f N) : ∃ d', d'.bs.length = d.bs.length ∧ (∀ a, isPg d.bs.length a → onD d' a = f a) ∧ Calls Tryz.prog 15 #[.pointer (some ⟨s, 0, none⟩)] w fun e V => e = .returned (.int .i64 0) ∧ Fz w0 V g cs v T k q s d' (onD d') N := by
  obtain ⟨hd, hdn, _⟩ := h.good
  have h' := h
  obtain ⟨S, h1, h2, h3, h4, h5, h6⟩ := h'
  have hp := hE.pos
  obtain ⟨L, hg, ha, c0, _⟩ := scommit_sp (hE.on hp h6) (fun h0 => by have := (h2 0 h0).1; omega) hz h1
  have hc0 : (cmt d L).1 = 0 := by
    by_cases hL : L = []
    · subst hL
      rw [cmt_nil]
    · rw [cmt_on hg hL hdn hl]
  have hat : ∀ a, isPg d.bs.length a → onD (cmt d L).2 a = f a := fun a hpg => by
    have h0 := page_in hd.lo hpg
    have hap := ha a hpg
    rcases cmt_cases hg hdn with ⟨_, _, e3⟩ | ⟨e1, _⟩
    case inr => rw [hc0] at e1; cases e1
    rcases e3 with ⟨rfl, e⟩ | ⟨_, hold⟩
    · rw [e]
      exact onD_of hap
    · have e9 : ((a.toNat : Nat) : Int) = a := by omega
      refine onD_of ?_
      rw [hold.eq.at' a.toNat (by rw [e9]; exact hpg)]
      exact hap
  refine ⟨(cmt d L).2, cmt_len _ _, hat, ?_⟩
  have hcc := c0 hc0
  refine hcc.mono fun e V hh => ⟨hh.1, ?_⟩
  obtain ⟨S', s1, s2⟩ := hh.2.sv
  have hk := hh.2.keep
  refine ⟨S', s1, fun j hj => ?_, hk.blk h3 (fun hg => (h2 g hg).2.1 rfl), h4, hk.row h5 (fun j e hj => (h2 j hj).2.2 e), h6.trans (hk.below (fun j hj => (h2 j hj).1) h6.size)⟩
  rcases s2 j hj with t | t
  · exact h2 j t
  · refine ⟨Nat.le_trans h6.size t, fun e => ?_, fun e => ?_⟩
    · have := h3.lt
      omega
    · have := (World.ownsRow.lt h5 j e).2
      omega
end
end Go.Proofs.YtglallhblcjffaaGreatDoor
