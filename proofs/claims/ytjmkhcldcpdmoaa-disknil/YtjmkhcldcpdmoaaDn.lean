/-
  Two disks of the program that don't meet; rows that are neither's, written into.
-/
import Derived.Test.YtjmkhcldcpdmoaaDq
namespace Go.Proofs.Ytjmkhcldcpdmoaa
open Go.RowKit
set_option linter.unusedVariables false
set_option linter.unusedSimpArgs false
set_option maxRecDepth 100000

/-- two disks, all of which lies between w0 and the mark M -/
def D2 (w0 : World) (M : Nat) (w : World) (k k' : Nat) (d e : Ds) : Prop :=
  ∃ S R, Dk w S k d ∧ Dk w R k' e ∧ (∀ j, S j → w0.heap.size ≤ j ∧ j < M) ∧ (∀ j, R j → w0.heap.size ≤ j ∧ j < M) ∧ (∀ j, S j → ¬ R j) ∧ Below w0.heap.size w0 w
theorem D2.below {w0 w : World} {M k k' : Nat} {d e : Ds} (h : D2 w0 M w k k' d e) : Below w0.heap.size w0 w := by obtain ⟨_, _, _, _, _, _, _, h⟩ := h; exact h
theorem D2.on {w0 w w' : World} {M k k' : Nat} {d e : Ds} (h : D2 w0 M w k k' d e) (hb : Below w.heap.size w w') : D2 w0 M w' k k' d e := by
  obtain ⟨S, R, h1, h2, h3, h4, h5, h6⟩ := h
  exact ⟨S, R, h1.on hb, h2.on hb, h3, h4, h5, h6.trans (hb.mono h6.size)⟩
theorem D2.new {w0 w1 w2 w3 : World} {k k' n : Nat} (hb : Below w0.heap.size w0 w1) (h1 : Dk w2 (Bt w1.heap.size w2.heap.size) k (nw n)) (b1 : Below w1.heap.size w1 w2) (h2 : Dk w3 (Bt w2.heap.size w3.heap.size) k' (nw n)) (b2 : Below w2.heap.size w2 w3) : D2 w0 w3.heap.size w3 k k' (nw n) (nw n) :=
  ⟨_, _, h1.on b2, h2, fun j hs => ⟨Nat.le_trans hb.size hs.1, Nat.lt_of_lt_of_le hs.2 b2.size⟩, fun j hr => ⟨Nat.le_trans hb.size (Nat.le_trans b1.size hr.1), hr.2⟩, fun j hs hr => by have := hs.2; have := hr.1; omega, (hb.trans (b1.mono hb.size)).trans (b2.mono (Nat.le_trans hb.size b1.size))⟩
theorem write_d2 (a : Int) (s : ByteArray) (w0 w : World) (M k k' : Nat) (d e : Ds) (h : D2 w0 M w k k' d e) (hM : M ≤ w.heap.size) (hz : (d.lg.length + 1) * 24 ≤ 140737488355328) : Calls Try.prog 17 #[.pointer (some ⟨k, 0, none⟩), .int .i64 a, .string s] w fun x w' => x = .returned (.int .i64 (d.wrE a s : Nat)) ∧ D2 w0 w'.heap.size w' k k' (d.wr a s) e := by
  obtain ⟨S, R, h1, h2, h3, h4, h5, h6⟩ := h
  refine (write_any a s w S k d h1 hz).mono fun x w' ⟨he, S', hd, hk, hg⟩ => ⟨he, S', R, hd, hk.dk h2 (fun j hr hs => h5 j hs hr), ?_, ?_, ?_, h6.trans (hk.below (fun j hj => (h3 j hj).1) h6.size)⟩
  · intro j hj
    exact ⟨(hg j hj).elim (fun h => (h3 j h).1) (fun h => Nat.le_trans h6.size h), hd.lt j hj⟩
  · intro j hj
    exact ⟨(h4 j hj).1, Nat.lt_of_lt_of_le (h2.lt j hj) hk.size⟩
  · intro j hs hr
    exact (hg j hs).elim (fun h => h5 j h hr) (fun h => by have := h2.lt j hr; omega)
theorem D2.store {w0 w : World} {M k k' g : Nat} {d e : Ds} (h : D2 w0 M w k k' d e) (hg : M ≤ g) (hw : w0.heap.size ≤ g) (i : Nat) (v : Value) : D2 w0 M (w.setCell ⟨g, i, none⟩ v) k k' d e := by
  obtain ⟨S, R, h1, h2, h3, h4, h5, h6⟩ := h
  have hk : Keep (fun j => j = g) w (w.setCell ⟨g, i, none⟩ v) := Keep.grown (set_grown w g i v) (fun j hj => (Option.some.inj hj).symm)
  refine ⟨S, R, hk.dk h1 (fun j hj e => ?_), hk.dk h2 (fun j hj e => ?_), h3, h4, h5, h6.setCell (p := ⟨g, i, none⟩) hw _⟩
  · have := (h3 j hj).2; omega
  · have := (h4 j hj).2; omega
theorem image_d2 (w0 w : World) (M k k' : Nat) (d e : Ds) (h : D2 w0 M w k k' d e) : Calls Try.prog 15 #[.pointer (some ⟨k, 0, none⟩)] w fun x w' => ∃ v', x = .returned v' ∧ RowS w' w.heap.size v' d.bs ∧ Below w.heap.size w w' := by
  obtain ⟨S, R, h1, _⟩ := h
  exact image_any w S k d h1
theorem log_d2 (w0 w : World) (M k k' : Nat) (d e : Ds) (h : D2 w0 M w k k' d e) (hz : d.lg.length * 24 ≤ 140737488355328) : Calls Try.prog 13 #[.pointer (some ⟨k, 0, none⟩)] w fun x w' => ∃ v', x = .returned v' ∧ RowP w' w.heap.size v' d.lg ∧ Below w.heap.size w w' := by
  obtain ⟨S, R, h1, _⟩ := h
  exact log_any w S k d h1 hz
theorem rlog_d2 (w0 w : World) (M k k' : Nat) (d e : Ds) (h : D2 w0 M w k k' d e) (hz : e.lg.length * 24 ≤ 140737488355328) : Calls Try.prog 13 #[.pointer (some ⟨k', 0, none⟩)] w fun x w' => ∃ v', x = .returned v' ∧ RowP w' w.heap.size v' e.lg ∧ Below w.heap.size w w' := by
  obtain ⟨S, R, h1, h2, _⟩ := h
  exact log_any w R k' e h2 hz
theorem read_d2 (a : Int) (w0 w : World) (M k k' : Nat) (d e : Ds) (h : D2 w0 M w k k' d e) : Calls Try.prog 25 #[.pointer (some ⟨k, 0, none⟩), .int .i64 a] w fun x w' => x = .returned (.tuple #[.string (d.rdS a), .int .i64 (d.rdE a : Nat)]) ∧ D2 w0 M w' k k' d e := by
  obtain ⟨S, R, h1, _⟩ := id h
  exact (read_any a w S k d h1).mono fun x w' ⟨he, hb⟩ => ⟨he, h.on hb⟩
theorem rread_d2 (a : Int) (w0 w : World) (M k k' : Nat) (d e : Ds) (h : D2 w0 M w k k' d e) : Calls Try.prog 25 #[.pointer (some ⟨k', 0, none⟩), .int .i64 a] w fun x w' => x = .returned (.tuple #[.string (e.rdS a), .int .i64 (e.rdE a : Nat)]) ∧ D2 w0 M w' k k' d e := by
  obtain ⟨S, R, h1, h2, _⟩ := id h
  exact (read_any a w R k' e h2).mono fun x w' ⟨he, hb⟩ => ⟨he, h.on hb⟩

theorem blk_empty : blk ⟨#[]⟩ = Z := by
  have h : ¬ 256 < (⟨#[]⟩ : ByteArray).size := by decide
  unfold blk Z
  rw [if_neg h]
  apply ByteArray.ext
  rw [ByteArray.data_append]
  show #[] ++ _ = _
  rw [Array.empty_append]
  rfl
theorem nw_in {a : Int} (h0 : 0 ≤ a) (h1 : a < 64) : ¬ (nw 64).out a := by
  unfold Ds.out
  have : (nw 64).bs.length = 64 := by simp [nw]
  omega
theorem nil_wr (s : ByteArray) (hs : s.size = 256) : (nw 64).wrE 1 s = 0 ∧ (nw 64).wr 1 s = (nw 64).put 1 s := Ds.wrE_ok rfl (nw_in (by omega) (by omega)) hs (by decide)
theorem nil_rd (s : ByteArray) : ((nw 64).put 1 s).rdE 1 = 0 ∧ ((nw 64).put 1 s).rdS 1 = s := by
  have h : ((nw 64).put 1 s).rdE 1 = 0 := Ds.rdE_in rfl (by
    unfold Ds.out
    have : ((nw 64).put 1 s).bs.length = 64 := by simp [nw, Ds.put]
    omega)
  refine ⟨h, ?_⟩
  unfold Ds.rdS
  rw [if_pos h]
  show ((nw 64).bs.set (1 : Int).toNat s).getD (1 : Int).toNat ⟨#[]⟩ = s
  rw [List.getD_eq_getElem?_getD, List.getElem?_set_self (by simp [nw])]
  rfl
theorem nil_rd2 : (nw 64).rdE 1 = 0 ∧ (nw 64).rdS 1 = Z := by
  have h : (nw 64).rdE 1 = 0 := Ds.rdE_in rfl (nw_in (by omega) (by omega))
  refine ⟨h, ?_⟩
  unfold Ds.rdS
  rw [if_pos h]
  show (List.replicate 64 Z).getD (1 : Int).toNat ⟨#[]⟩ = Z
  rfl

end Go.Proofs.Ytjmkhcldcpdmoaa
