/-
  A disk that was made since a world, one that stands beside the document's; what is asked ahead of every statement.
-/
import Derived.Test.YtjmkhcldcpdmoaaRw
namespace Go.Proofs.Ytjmkhcldcpdmoaa
open Go.RowKit
set_option linter.unusedVariables false
set_option linter.unusedSimpArgs false
set_option maxRecDepth 100000

/-- a disk that was made since w0, of which nothing has turned -/
def Dw (w0 w : World) (k : Nat) (d : Ds) : Prop := ∃ S, Dk w S k d ∧ (∀ j, S j → w0.heap.size ≤ j) ∧ Below w0.heap.size w0 w
theorem Dw.below {w0 w : World} {k : Nat} {d : Ds} (h : Dw w0 w k d) : Below w0.heap.size w0 w := by obtain ⟨_, _, _, h⟩ := h; exact h
theorem Dw.ok {w0 w : World} {k : Nat} {d : Ds} (h : Dw w0 w k d) : d.Ok := by obtain ⟨_, h, _⟩ := h; exact h.ok
theorem Dw.on {w0 w w' : World} {k : Nat} {d : Ds} (h : Dw w0 w k d) (hb : Below w.heap.size w w') : Dw w0 w' k d := by
  obtain ⟨S, h1, h2, h3⟩ := h
  exact ⟨S, h1.on hb, h2, h3.trans (hb.mono h3.size)⟩
theorem Dw.turned {w0 w w' : World} {k : Nat} {d : Ds} {S S' : Nat → Prop} (h1 : Dk w' S' k d) (h2 : ∀ j, S j → w0.heap.size ≤ j) (h3 : Below w0.heap.size w0 w) (hk : Keep S w w') (hg : Grows S S' w) : Dw w0 w' k d :=
  ⟨S', h1, fun j hj => (hg j hj).elim (h2 j) (fun h => Nat.le_trans h3.size h), h3.trans (hk.below h2 h3.size)⟩

theorem new_dw (w0 w : World) (n : Nat) (h1 : 64 ≤ n) (h2 : n ≤ 2048) (hb : Below w0.heap.size w0 w) : Calls Try.prog 9 #[.int .i64 (n : Nat)] w fun e w' => ∃ k, e = .returned (.tuple #[.pointer (some ⟨k, 0, none⟩), .int .i64 0]) ∧ Dw w0 w' k (nw n) :=
  (new_any n h1 h2 w).mono fun e w' ⟨k, he, hd, hb2⟩ => ⟨k, he, _, hd, fun j hj => Nat.le_trans hb.size hj.1, hb.trans (hb2.mono hb.size)⟩
theorem len_dw (w0 w : World) (k : Nat) (d : Ds) (h : Dw w0 w k d) : Calls Try.prog 26 #[.pointer (some ⟨k, 0, none⟩)] w fun e w' => e = .returned (.int .i64 (d.bs.length : Nat)) ∧ w = w' := by
  obtain ⟨S, h1, _⟩ := h
  exact len_any w S k d h1
theorem down_dw (w0 w : World) (k : Nat) (d : Ds) (h : Dw w0 w k d) : Calls Try.prog 19 #[.pointer (some ⟨k, 0, none⟩)] w fun e w' => e = .returned (.bool d.dn) ∧ w = w' := by
  obtain ⟨S, h1, _⟩ := h
  exact down_any w S k d h1
theorem cut_dw (n : Int) (hn : -9223372036854775808 ≤ n ∧ n ≤ 9223372036854775807) (w0 w : World) (k : Nat) (d : Ds) (h : Dw w0 w k d) : Calls Try.prog 16 #[.pointer (some ⟨k, 0, none⟩), .int .i64 n] w fun e w' => e = .returned (.tuple #[]) ∧ Dw w0 w' k { d with lf := n } := by
  obtain ⟨S, h1, h2, h3⟩ := h
  exact (cut_any n hn w S k d h1).mono fun e w' ⟨he, hd, hk⟩ => ⟨he, Dw.turned hd h2 h3 hk (Grows.refl _ _)⟩
theorem restore_dw (w0 w : World) (k : Nat) (d : Ds) (h : Dw w0 w k d) : Calls Try.prog 20 #[.pointer (some ⟨k, 0, none⟩)] w fun e w' => e = .returned (.tuple #[]) ∧ Dw w0 w' k { d with lf := -1, dn := false } := by
  obtain ⟨S, h1, h2, h3⟩ := h
  exact (restore_any w S k d h1).mono fun e w' ⟨he, hd, hk⟩ => ⟨he, Dw.turned hd h2 h3 hk (Grows.refl _ _)⟩
theorem read_dw (a : Int) (w0 w : World) (k : Nat) (d : Ds) (h : Dw w0 w k d) : Calls Try.prog 25 #[.pointer (some ⟨k, 0, none⟩), .int .i64 a] w fun e w' => e = .returned (.tuple #[.string (d.rdS a), .int .i64 (d.rdE a : Nat)]) ∧ Dw w0 w' k d := by
  obtain ⟨S, h1, h2, h3⟩ := id h
  exact (read_any a w S k d h1).mono fun e w' ⟨he, hb⟩ => ⟨he, h.on hb⟩
theorem write_dw (a : Int) (s : ByteArray) (w0 w : World) (k : Nat) (d : Ds) (h : Dw w0 w k d) (hz : (d.lg.length + 1) * 24 ≤ 140737488355328) : Calls Try.prog 17 #[.pointer (some ⟨k, 0, none⟩), .int .i64 a, .string s] w fun e w' => e = .returned (.int .i64 (d.wrE a s : Nat)) ∧ Dw w0 w' k (d.wr a s) := by
  obtain ⟨S, h1, h2, h3⟩ := h
  exact (write_any a s w S k d h1 hz).mono fun e w' ⟨he, S', hd, hk, hg⟩ => ⟨he, Dw.turned hd h2 h3 hk hg⟩
theorem image_dw (w0 w : World) (k : Nat) (d : Ds) (h : Dw w0 w k d) : Calls Try.prog 15 #[.pointer (some ⟨k, 0, none⟩)] w fun e w' => ∃ v', e = .returned v' ∧ RowS w' w.heap.size v' d.bs ∧ Dw w0 w' k d ∧ Below w.heap.size w w' := by
  obtain ⟨S, h1, h2, h3⟩ := id h
  exact (image_any w S k d h1).mono fun e w' ⟨v', he, hr, hb⟩ => ⟨v', he, hr, h.on hb, hb⟩
theorem log_dw (w0 w : World) (k : Nat) (d : Ds) (h : Dw w0 w k d) (hz : d.lg.length * 24 ≤ 140737488355328) : Calls Try.prog 13 #[.pointer (some ⟨k, 0, none⟩)] w fun e w' => ∃ v', e = .returned v' ∧ RowP w' w.heap.size v' d.lg ∧ Dw w0 w' k d ∧ Below w.heap.size w w' := by
  obtain ⟨S, h1, h2, h3⟩ := id h
  exact (log_any w S k d h1 hz).mono fun e w' ⟨v', he, hr, hb⟩ => ⟨v', he, hr, h.on hb, hb⟩

/-! ## what is asked ahead -/

def X : ByteArray := blk ⟨#[120]⟩
theorem X_size : X.size = 256 := blk_size _
def wk1 : Ds := { nw 64 with lf := 1 }
def wk2 : Ds := wk1.put 3 X
def wk3 : Ds := { wk2 with dn := true }
def wk4 : Ds := { wk2 with lf := -1, dn := false }
theorem wk1_in {a : Int} (h0 : 0 ≤ a) (h1 : a < 64) : ¬ wk1.out a := by
  unfold Ds.out
  have : wk1.bs.length = 64 := by simp [wk1, nw]
  omega
theorem wk2_in {a : Int} (h0 : 0 ≤ a) (h1 : a < 64) : ¬ wk2.out a := by
  unfold Ds.out
  have : wk2.bs.length = 64 := by simp [wk2, Ds.put, wk1, nw]
  omega
theorem wk1_wr : wk1.wrE 3 X = 0 ∧ wk1.wr 3 X = wk2 := Ds.wrE_ok rfl (wk1_in (by omega) (by omega)) X_size (by decide)
theorem wk2_wr : wk2.wrE 4 X = 17 ∧ wk2.wr 4 X = wk3 := Ds.wrE_cut rfl (wk2_in (by omega) (by omega)) X_size rfl
theorem wk3_rd : wk4.rdE 3 = 0 ∧ wk4.rdS 3 = X := by
  have h : wk4.rdE 3 = 0 := Ds.rdE_in rfl (wk2_in (a := 3) (by omega) (by omega))
  refine ⟨h, ?_⟩
  unfold Ds.rdS
  rw [if_pos h]
  show (wk1.bs.set (3 : Int).toNat X).getD (3 : Int).toNat ⟨#[]⟩ = X
  rw [List.getD_eq_getElem?_getD, List.getElem?_set_self (by simp [wk1, nw])]
  rfl

set_option maxHeartbeats 2000000 in
theorem wakes_any (w : World) : Calls Try.prog 8 #[] w fun e w' => e = .returned (.bool true) ∧ Below w.heap.size w w' := by
  have hnw : Calls Try.prog 9 #[.int .i64 64] w fun e w' => ∃ k, e = .returned (.tuple #[.pointer (some ⟨k, 0, none⟩), .int .i64 0]) ∧ Dw w w' k (nw 64) := new_dw w w 64 (by omega) (by omega) (Below.refl _ _)
  have hln : ∀ w1 k, Dw w w1 k (nw 64) → Calls Try.prog 26 #[.pointer (some ⟨k, 0, none⟩)] w1 fun e w' => e = .returned (.int .i64 64) ∧ w1 = w' := fun w1 k h => (len_dw w w1 k _ h).mono fun e w' h => ⟨h.1.trans (by simp [nw]), h.2⟩
  have hct : ∀ w1 k, Dw w w1 k (nw 64) → Calls Try.prog 16 #[.pointer (some ⟨k, 0, none⟩), .int .i64 1] w1 fun e w' => e = .returned (.tuple #[]) ∧ Dw w w' k wk1 := fun w1 k h => cut_dw 1 (by omega) w w1 k (nw 64) h
  have hbk : ∀ w1, Calls Try.prog 18 #[.string ⟨#[120]⟩] w1 fun e w' => e = .returned (.string X) ∧ Below w1.heap.size w1 w' := fun w1 => block_any _ (by decide) w1
  have hw1 : ∀ w1 k, Dw w w1 k wk1 → Calls Try.prog 17 #[.pointer (some ⟨k, 0, none⟩), .int .i64 3, .string X] w1 fun e w' => e = .returned (.int .i64 0) ∧ Dw w w' k wk2 := fun w1 k h => by
    have := write_dw 3 X w w1 k wk1 h (by decide)
    rwa [wk1_wr.1, wk1_wr.2] at this
  have hw2 : ∀ w1 k, Dw w w1 k wk2 → Calls Try.prog 17 #[.pointer (some ⟨k, 0, none⟩), .int .i64 4, .string X] w1 fun e w' => e = .returned (.int .i64 17) ∧ Dw w w' k wk3 := fun w1 k h => by
    have := write_dw 4 X w w1 k wk2 h (by decide)
    rwa [wk2_wr.1, wk2_wr.2] at this
  have hdn : ∀ w1 k, Dw w w1 k wk3 → Calls Try.prog 19 #[.pointer (some ⟨k, 0, none⟩)] w1 fun e w' => e = .returned (.bool true) ∧ w1 = w' := fun w1 k h => down_dw w w1 k wk3 h
  have hrs : ∀ w1 k, Dw w w1 k wk3 → Calls Try.prog 20 #[.pointer (some ⟨k, 0, none⟩)] w1 fun e w' => e = .returned (.tuple #[]) ∧ Dw w w' k wk4 := fun w1 k h => restore_dw w w1 k wk3 h
  have hrd : ∀ w1 k, Dw w w1 k wk4 → Calls Try.prog 25 #[.pointer (some ⟨k, 0, none⟩), .int .i64 3] w1 fun e w' => e = .returned (.tuple #[.string X, .int .i64 0]) ∧ Dw w w' k wk4 := fun w1 k h => by
    have := read_dw 3 w w1 k wk4 h
    rwa [wk3_rd.1, wk3_rd.2] at this
  generalize X = x at *
  go_enter Try.func8, Try.ntmps8
  go_wp2_with (first
    | (go_at_call 9; refine hnw.mono ?_; clear hnw; rintro e w1 ⟨k, rfl, h1⟩; have H1 := hid h1; clear h1)
    | (go_at_call 26; refine (hln _ _ H1.out).mono ?_; clear hln; rintro e w2 ⟨rfl, rfl⟩)
    | (go_at_call 16; refine (hct _ _ H1.out).mono ?_; clear hct; rintro e w2 ⟨rfl, h2⟩; have H2 := hid h2; clear h2 H1)
    | (go_at_call 18; refine ((fun (h : Hid (Dw w w2 k wk1)) => hbk _) H2).mono ?_; rintro e w3 ⟨rfl, h3⟩; have H3 := hid (H2.out.on h3); clear h3 H2)
    | (go_at_call 17; refine (hw1 _ _ H3.out).mono ?_; clear hw1; rintro e w4 ⟨rfl, h4⟩; have H4 := hid h4; clear h4 H3)
    | (go_at_call 18; refine ((fun (h : Hid (Dw w w4 k wk2)) => hbk _) H4).mono ?_; rintro e w5 ⟨rfl, h5⟩; have H5 := hid (H4.out.on h5); clear h5 H4)
    | (go_at_call 17; refine (hw2 _ _ H5.out).mono ?_; clear hw2; rintro e w6 ⟨rfl, h6⟩; have H6 := hid h6; clear h6 H5)
    | (go_at_call 19; refine (hdn _ _ H6.out).mono ?_; clear hdn; rintro e w7 ⟨rfl, rfl⟩)
    | (go_at_call 20; refine (hrs _ _ H6.out).mono ?_; clear hrs; rintro e w7 ⟨rfl, h7⟩; have H7 := hid h7; clear h7 H6)
    | (go_at_call 25; refine (hrd _ _ H7.out).mono ?_; clear hrd; rintro e w8 ⟨rfl, h8⟩; have H8 := hid h8; clear h8 H7)
    | (go_at_call 18; refine ((fun (h : Hid (Dw w w8 k _)) => hbk _) H8).mono ?_; rintro e w9 ⟨rfl, h9⟩; have H9 := hid (H8.out.on h9); clear h9 H8))
  go_ret
  exact ⟨rfl, H9.out.below⟩

end Go.Proofs.Ytjmkhcldcpdmoaa
