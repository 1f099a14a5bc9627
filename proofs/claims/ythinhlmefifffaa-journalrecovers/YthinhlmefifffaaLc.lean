/-
  Calls on a disk beside all that lay there; bytes, and lists of texts, that came in.
-/
import Derived.Test.YthinhlmefifffaaSy
namespace Go.Proofs.Ythinhlmefifffaa
open Go.ChangeShapes Go.WideShapes Go.ChangeAt Go.RowKit Go.Deep Go.Joins
set_option linter.unusedVariables false
set_option linter.unusedSimpArgs false
set_option maxRecDepth 100000

theorem commit_wm (wb : World) (S0 : Nat → Prop) (k : Nat) (d : Ds) (W : World) (v : Value) (L : List Pg) (h : Wm wb S0 k d W) (hl : LiesO wb S0 v L) (hz : Fit (d.lg.length + 5000)) :
    Calls Try.prog 18 #[.pointer (some ⟨k, 0, none⟩), v] W fun e w' => e = .returned (.int .i64 ((cmt d L).1 : Nat)) ∧ Wm wb S0 k (cmt d L).2 w' := by
  obtain ⟨S1, h1, h2⟩ := h.disk
  exact (commit_any W S1 k d h1 v L (hl.keep h.keep h2) hz).mono fun e w' hh => ⟨hh.1, Wm.trans h2 h.keep hh.2⟩
theorem recover_wm (wb : World) (S0 : Nat → Prop) (k : Nat) (d : Ds) (W : World) (h : Wm wb S0 k d W) (hz : Fit (d.lg.length + 1500)) :
    Calls Try.prog 25 #[.pointer (some ⟨k, 0, none⟩)] W fun e w' => e = .returned (.tuple #[.int .i64 ((recv d).1 : Nat), .int .i64 ((recv d).2.1 : Nat)]) ∧ Wm wb S0 k (recv d).2.2 w' := by
  obtain ⟨S1, h1, h2⟩ := h.disk
  exact (recover_any W S1 k d h1 hz).mono fun e w' hh => ⟨hh.1, Wm.trans h2 h.keep hh.2⟩
theorem cut_wm (wb : World) (S0 : Nat → Prop) (k : Nat) (d : Ds) (W : World) (n : Int) (hn : -9223372036854775808 ≤ n ∧ n ≤ 9223372036854775807) (h : Wm wb S0 k d W) :
    Calls Try.prog 15 #[.pointer (some ⟨k, 0, none⟩), .int .i64 n] W fun e w' => e = .returned (.tuple #[]) ∧ Wm wb S0 k (d.cut n) w' := by
  obtain ⟨S1, h1, h2⟩ := h.disk
  exact (cut_any n hn W S1 k d h1).mono fun e w' hh => ⟨hh.1, Wm.trans h2 h.keep ⟨⟨S1, hh.2.1, Grows.refl _ _⟩, hh.2.2⟩⟩
theorem restore_wm (wb : World) (S0 : Nat → Prop) (k : Nat) (d : Ds) (W : World) (h : Wm wb S0 k d W) :
    Calls Try.prog 29 #[.pointer (some ⟨k, 0, none⟩)] W fun e w' => e = .returned (.tuple #[]) ∧ Wm wb S0 k d.res w' := by
  obtain ⟨S1, h1, h2⟩ := h.disk
  exact (restore_any W S1 k d h1).mono fun e w' hh => ⟨hh.1, Wm.trans h2 h.keep ⟨⟨S1, hh.2.1, Grows.refl _ _⟩, hh.2.2⟩⟩
theorem image_wm (wb : World) (S0 : Nat → Prop) (k : Nat) (d : Ds) (W : World) (h : Wm wb S0 k d W) :
    Calls Try.prog 23 #[.pointer (some ⟨k, 0, none⟩)] W fun e w' => ∃ v', e = .returned v' ∧ RowS w' W.heap.size v' d.bs ∧ Below W.heap.size W w' := by
  obtain ⟨S1, h1, h2⟩ := h.disk
  exact image_any W S1 k d h1
/-- a row that stood outside the disk -/
theorem Wm.row {wb W : World} {S0 : Nat → Prop} {k : Nat} {d : Ds} (h : Wm wb S0 k d W) {B : Nat} {v : Value} {L : List ByteArray} (hr : RowS wb B v L) (hn : ∀ g, v.ownBlock = some g → ¬ S0 g) : RowS W B v L := h.keep.row hr hn
theorem Wm.below {wb W w : World} {S0 : Nat → Prop} {k : Nat} {d : Ds} (h : Wm wb S0 k d W) (hb : Below w.heap.size w wb) (hs : ∀ j, S0 j → w.heap.size ≤ j) : Below w.heap.size w W := hb.trans (h.keep.below hs hb.size)

/-- bytes, as they lie in memory -/
def LiesU (w : World) (v : Value) (U : List Nat) : Prop :=
  ∃ (a : Option Addr) (cap : Nat), v = .slice a U.length cap ∧ U.length ≤ cap ∧ cap ≤ maxLen ∧ ∀ k x, U[k]? = some x → ∃ b off, a = some ⟨b, off, none⟩ ∧ b < w.heap.size ∧ w.cell? ⟨b, off + k, none⟩ = some (.int .u8 (x : Nat)) ∧ x ≤ 255
theorem LiesU.form {w : World} {v : Value} {U : List Nat} (h : LiesU w v U) : ∃ a c, v = .slice a U.length c := by obtain ⟨a, c, h, _⟩ := h; exact ⟨a, c, h⟩
theorem LiesU.len {w : World} {v : Value} {U : List Nat} (h : LiesU w v U) : U.length ≤ maxLen := by obtain ⟨a, c, _, h2, h3, _⟩ := h; omega
theorem LiesU.at {w : World} {a : Option Addr} {n c : Nat} {U : List Nat} (h : LiesU w (.slice a n c) U) {k x : Nat} (hk : U[k]? = some x) : ∃ b off, a = some ⟨b, off, none⟩ ∧ b < w.heap.size ∧ w.cell? ⟨b, off + k, none⟩ = some (.int .u8 (x : Nat)) ∧ x ≤ 255 := by
  obtain ⟨a', c', h1, _, _, h4⟩ := h
  injection h1 with e1 _ _
  subst e1
  exact h4 k x hk
theorem open_bytes {H : Type} {enc : TypeId × Value → H} {W : World} {base : Nat} {v : Value} {d : DataW H} {p : List MemPlace}
    (hv : Value.okWide Try.prog W .any base 49 v) (h : DataW.Trod enc Try.prog W 0 (fun _ => true) true 49 v d p) (hw : ∀ n ∈ d.weights Try.prog 49, n ≤ reachBytes) :
    ∃ U, LiesU W v U ∧ True := by
  obtain ⟨a0, len0, cap0, rfl⟩ := okWide_slice Try.underlying49 hv
  obtain ⟨fuel, hf⟩ := h
  have hf2 : DataW.trod enc Try.prog W 0 (fun _ => true) true fuel 49 [.slice a0 len0 cap0] = some (d, p) := by simpa [Value.cells] using hf
  rcases open_slice1 Try.underlying49 cells5' hf2 with ⟨hcs, hx⟩ | ⟨a, len, cap, m, n, V, D, Pl, hcs, _, hl, hm, hmm, hx, hcell⟩
  · simp at hcs
    obtain ⟨rfl, rfl, rfl⟩ := hcs
    exact ⟨[], ⟨none, 0, rfl, Nat.le_refl _, Nat.zero_le _, (fun k c hc => by simp at hc)⟩, trivial⟩
  · simp at hcs
    obtain ⟨rfl, rfl, rfl⟩ := hcs
    simp only [if_true] at hmm
    subst hmm
    have hin : Inhabited Nat := ⟨0⟩
    obtain ⟨F, hF⟩ := choose_lt (α := Nat) (n := len0) (p := fun i x => W.cell? (a.add i) = some (.int .u8 (x : Nat)) ∧ x ≤ 255) (fun i hi => by
      obtain ⟨hc, ht⟩ := hcell i (by omega)
      obtain ⟨x, e0, _, hz⟩ := DataW.trod_int Try.underlying5 ht
      simp only [List.cons.injEq, and_true] at e0
      rw [e0] at hc
      have hb := bounds_u8 hz
      refine ⟨x.toNat, ?_, by omega⟩
      rw [Int.toNat_of_nonneg (by omega)]
      exact hc)
    have hlen : ((List.range len0).map F).length = len0 := by simp
    refine ⟨(List.range len0).map F, ⟨some a, m, by rw [hlen], by rw [hlen]; exact hl, hm, ?_⟩, trivial⟩
    intro j r hj
    have hjl : j < len0 := by have := (List.getElem?_eq_some_iff.1 hj).1; rwa [hlen] at this
    rw [List.getElem?_map, List.getElem?_range hjl] at hj
    simp only [Option.map_some, Option.some.injEq] at hj
    subst hj
    obtain ⟨h0, h1⟩ := hF j hjl
    obtain ⟨g, off, spot⟩ := a
    have hspot : spot = none := by simpa [Addr.add] using World.cell?_spot (hF 0 (by omega)).1
    subst hspot
    rw [add_plain] at h0
    exact ⟨g, off, rfl, World.block_lt_of_cell? W _ h0, h0, h1⟩

/-- texts of a list that came in -/
theorem texts_of {H : Type} {enc : TypeId × Value → H} {W : World} {x : Value} {fuel : Nat} {y : DataW H × List MemPlace} (hf2 : DataW.trod enc Try.prog W 0 (fun _ => true) true fuel 37 [x] = some y) : ∃ L, LiesX W x L := by
  rcases open_slice1 Try.underlying37 cells9 hf2 with ⟨hcs, hx⟩ | ⟨a, len, cap, m, n, V, D, Pl, hcs, _, hl, hm, hmm, hx, hcell⟩
  · simp only [List.cons.injEq, and_true] at hcs
    subst hcs
    exact ⟨[], ⟨none, 0, rfl, Nat.le_refl _, Nat.zero_le _, (fun k c hc => by simp at hc)⟩⟩
  · simp only [List.cons.injEq, and_true] at hcs
    subst hcs
    simp only [if_true] at hmm
    subst hmm
    have hin : Inhabited ByteArray := ⟨⟨#[]⟩⟩
    obtain ⟨F, hF⟩ := choose_lt (α := ByteArray) (n := len) (p := fun i s => W.cell? (a.add i) = some (.string s) ∧ s.size ≤ maxLen) (fun i hi => by
      obtain ⟨hc, ht⟩ := hcell i (by omega)
      obtain ⟨s, e0, _, hs⟩ := DataW.trod_string Try.underlying9 ht
      simp only [List.cons.injEq, and_true] at e0
      rw [e0] at hc
      exact ⟨s, hc, hs⟩)
    have hlen : ((List.range len).map F).length = len := by simp
    refine ⟨(List.range len).map F, ⟨some a, m, by rw [hlen], by rw [hlen]; exact hl, hm, ?_⟩⟩
    intro j r hj
    have hjl : j < len := by have := (List.getElem?_eq_some_iff.1 hj).1; rwa [hlen] at this
    rw [List.getElem?_map, List.getElem?_range hjl] at hj
    simp only [Option.map_some, Option.some.injEq] at hj
    subst hj
    obtain ⟨h0, h1⟩ := hF j hjl
    obtain ⟨g, off, spot⟩ := a
    have hspot : spot = none := by simpa [Addr.add] using World.cell?_spot (hF 0 (by omega)).1
    subst hspot
    rw [add_plain] at h0
    exact ⟨g, off, rfl, World.block_lt_of_cell? W _ h0, h0, h1⟩
def LiesR (w : World) (v : Value) (G : List (List ByteArray)) : Prop :=
  ∃ (a : Option Addr) (cap : Nat), v = .slice a G.length cap ∧ G.length ≤ cap ∧ cap ≤ maxLen ∧ ∀ k T, G[k]? = some T → ∃ b off x, a = some ⟨b, off, none⟩ ∧ b < w.heap.size ∧ w.cell? ⟨b, off + k, none⟩ = some x ∧ LiesX w x T
theorem LiesR.form {w : World} {v : Value} {G : List (List ByteArray)} (h : LiesR w v G) : ∃ a c, v = .slice a G.length c := by obtain ⟨a, c, h, _⟩ := h; exact ⟨a, c, h⟩
theorem LiesR.len {w : World} {v : Value} {G : List (List ByteArray)} (h : LiesR w v G) : G.length ≤ maxLen := by obtain ⟨a, c, _, h2, h3, _⟩ := h; omega
theorem LiesR.at {w : World} {a : Option Addr} {n c : Nat} {G : List (List ByteArray)} (h : LiesR w (.slice a n c) G) {k : Nat} {T : List ByteArray} (hk : G[k]? = some T) : ∃ b off x, a = some ⟨b, off, none⟩ ∧ b < w.heap.size ∧ w.cell? ⟨b, off + k, none⟩ = some x ∧ LiesX w x T := by
  obtain ⟨a', c', h1, _, _, h4⟩ := h
  injection h1 with e1 _ _
  subst e1
  exact h4 k T hk
theorem open_rows {H : Type} {enc : TypeId × Value → H} {W : World} {base : Nat} {v : Value} {d : DataW H} {p : List MemPlace}
    (hv : Value.okWide Try.prog W .any base 57 v) (h : DataW.Trod enc Try.prog W 0 (fun _ => true) true 57 v d p) (hw : ∀ n ∈ d.weights Try.prog 57, n ≤ reachBytes) :
    ∃ G, LiesR W v G ∧ True := by
  obtain ⟨a0, len0, cap0, rfl⟩ := okWide_slice Try.underlying57 hv
  obtain ⟨fuel, hf⟩ := h
  have hf2 : DataW.trod enc Try.prog W 0 (fun _ => true) true fuel 57 [.slice a0 len0 cap0] = some (d, p) := by simpa [Value.cells] using hf
  rcases open_slice1 Try.underlying57 cells37 hf2 with ⟨hcs, hx⟩ | ⟨a, len, cap, m, n, V, D, Pl, hcs, _, hl, hm, hmm, hx, hcell⟩
  · simp at hcs
    obtain ⟨rfl, rfl, rfl⟩ := hcs
    exact ⟨[], ⟨none, 0, rfl, Nat.le_refl _, Nat.zero_le _, (fun k c hc => by simp at hc)⟩, trivial⟩
  · simp at hcs
    obtain ⟨rfl, rfl, rfl⟩ := hcs
    simp only [if_true] at hmm
    subst hmm
    have hin : Inhabited (Value × List ByteArray) := ⟨(.bool false, [])⟩
    obtain ⟨F, hF⟩ := choose_lt (α := Value × List ByteArray) (n := len0) (p := fun i x => W.cell? (a.add i) = some x.1 ∧ LiesX W x.1 x.2) (fun i hi => by
      obtain ⟨hc, ht⟩ := hcell i (by omega)
      obtain ⟨L, hL⟩ := texts_of ht
      exact ⟨(_, L), hc, hL⟩)
    have hlen : ((List.range len0).map fun i => (F i).2).length = len0 := by simp
    refine ⟨(List.range len0).map fun i => (F i).2, ⟨some a, m, by rw [hlen], by rw [hlen]; exact hl, hm, ?_⟩, trivial⟩
    intro j r hj
    have hjl : j < len0 := by have := (List.getElem?_eq_some_iff.1 hj).1; rwa [hlen] at this
    rw [List.getElem?_map, List.getElem?_range hjl] at hj
    simp only [Option.map_some, Option.some.injEq] at hj
    subst hj
    obtain ⟨h0, h1⟩ := hF j hjl
    obtain ⟨g, off, spot⟩ := a
    have hspot : spot = none := by simpa [Addr.add] using World.cell?_spot (hF 0 (by omega)).1
    subst hspot
    rw [add_plain] at h0
    exact ⟨g, off, _, rfl, World.block_lt_of_cell? W _ h0, h0, h1⟩

end Go.Proofs.Ythinhlmefifffaa
