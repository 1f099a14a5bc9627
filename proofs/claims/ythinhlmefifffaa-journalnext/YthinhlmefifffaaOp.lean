/-
  Pages, things laid, texts, bytes, lists of texts that came in, as they lie in memory.
-/
import Derived.Test.YthinhlmefifffaaCk
import Derived.ProofKit
import Derived.OpenShut
import Derived.ChangeOld
import Derived.SizedLaws
import Derived.Deep.SlicePairs
import Derived.Deep.Strs
import Derived.Lib.SmallJoins
namespace Go.Proofs.Ythinhlmefifffaa
open Go.ChangeShapes Go.WideShapes Go.ChangeAt Go.RowKit Go.Deep Go.Joins
set_option linter.unusedVariables false
set_option linter.unusedSimpArgs false
set_option maxRecDepth 100000

def LiesX (w : World) (v : Value) (L : List ByteArray) : Prop :=
  ∃ (a : Option Addr) (cap : Nat), v = .slice a L.length cap ∧ L.length ≤ cap ∧ cap ≤ maxLen ∧ ∀ k s, L[k]? = some s → ∃ b off, a = some ⟨b, off, none⟩ ∧ b < w.heap.size ∧ w.cell? ⟨b, off + k, none⟩ = some (.string s) ∧ s.size ≤ maxLen
theorem LiesX.on {w w' : World} {v : Value} {L : List ByteArray} (h : LiesX w v L) (hb : Below w.heap.size w w') : LiesX w' v L := by
  obtain ⟨a, cap, h1, h2, h3, h4⟩ := h
  refine ⟨a, cap, h1, h2, h3, fun k c hk => ?_⟩
  obtain ⟨b, off, ha, hlt, c1, r⟩ := h4 k c hk
  exact ⟨b, off, ha, Nat.lt_of_lt_of_le hlt hb.size, (hb.cell (p := ⟨b, off + k, none⟩) hlt).trans c1, r⟩
theorem LiesX.form {w : World} {v : Value} {L : List ByteArray} (h : LiesX w v L) : ∃ a c, v = .slice a L.length c := by obtain ⟨a, c, h, _⟩ := h; exact ⟨a, c, h⟩
theorem LiesX.at {w : World} {a : Option Addr} {n c : Nat} {L : List ByteArray} (h : LiesX w (.slice a n c) L) {k : Nat} {x : ByteArray} (hk : L[k]? = some x) : ∃ b off, a = some ⟨b, off, none⟩ ∧ b < w.heap.size ∧ w.cell? ⟨b, off + k, none⟩ = some (.string x) ∧ x.size ≤ maxLen := by
  obtain ⟨a', c', h1, _, _, h4⟩ := h
  injection h1 with e1 _ _
  subst e1
  exact h4 k x hk

theorem cells54 : Try.prog.cellsOf 54 = 2 := by kernel_rfl
theorem bytes54 : Try.prog.bytesOf 54 = 24 := by kernel_rfl
theorem cells52 : Try.prog.cellsOf 52 = 2 := by kernel_rfl
theorem bytes52 : Try.prog.bytesOf 52 = 24 := by kernel_rfl
theorem cells9 : Try.prog.cellsOf 9 = 1 := by kernel_rfl
theorem bytes9 : Try.prog.bytesOf 9 = 16 := by kernel_rfl
theorem cells37 : Try.prog.cellsOf 37 = 1 := by kernel_rfl
theorem bytes37 : Try.prog.bytesOf 37 = 24 := by kernel_rfl
theorem cells5' : Try.prog.cellsOf 5 = 1 := by kernel_rfl
theorem bytes5 : Try.prog.bytesOf 5 = 1 := by kernel_rfl

theorem elem_pages {H : Type} {enc : TypeId × Value → H} {W : World} {a : Addr} {i n : Nat} {cs : List Value} {d : DataW H} {p : List MemPlace} (hc : W.cells? 0 (a.add (i * 2)) 2 = some cs) (ht : DataW.trod enc Try.prog W 0 (fun _ => true) true n 54 cs = some (d, p)) :
    ∃ (r : Pg), W.cell? (a.add (i * 2)) = some (.int .i64 r.pl) ∧ W.cell? (a.add (i * 2 + 1)) = some (.string r.data) ∧ (-9223372036854775808 ≤ r.pl ∧ r.pl ≤ 9223372036854775807) ∧ r.data.size ≤ maxLen := by
  obtain ⟨_, hlen, hcell⟩ := World.cells?_some hc
  obtain ⟨y0, y1, k, hx, _, h0, h1⟩ := trod_struct2 Try.underlying54 ht
  match cs, hlen with
  | [v0, v1], _ =>
    have e0 := hcell 0 (by omega)
    have e1 := hcell 1 (by omega)
    rw [add_add] at e0 e1
    have g0 : DataW.trod enc Try.prog W 0 (fun _ => true) true k 3 [v0] = some y0 := h0
    have g1 : DataW.trod enc Try.prog W 0 (fun _ => true) true k 9 [v1] = some y1 := h1
    obtain ⟨x0, f0, _, hz⟩ := DataW.trod_int Try.underlying3 g0
    obtain ⟨x1, f1, _, hs⟩ := DataW.trod_string Try.underlying9 g1
    simp only [List.cons.injEq, and_true] at f0 f1
    subst f0
    subst f1
    have hb := bounds_i64 hz
    exact ⟨⟨x0, x1⟩, by simpa using e0, by simpa using e1, ⟨by simp only; omega, by simp only; omega⟩, hs⟩

theorem open_pages {H : Type} {enc : TypeId × Value → H} {W : World} {base : Nat} {v : Value} {d : DataW H} {p : List MemPlace}
    (hv : Value.okWide Try.prog W .any base 25 v) (h : DataW.Trod enc Try.prog W 0 (fun _ => true) true 25 v d p) (hw : ∀ n ∈ d.weights Try.prog 25, n ≤ reachBytes) :
    ∃ L, LiesO W (fun _ => False) v L ∧ L.length * 24 ≤ 140737488351232 := by
  obtain ⟨a0, len0, cap0, rfl⟩ := okWide_slice Try.underlying25 hv
  obtain ⟨fuel, hf⟩ := h
  have hf2 : DataW.trod enc Try.prog W 0 (fun _ => true) true fuel 25 [.slice a0 len0 cap0] = some (d, p) := by simpa [Value.cells] using hf
  rcases open_slice Try.underlying25 hf2 with ⟨hcs, hx⟩ | ⟨a, len, cap, m, n, D, Pl, hcs, _, hl, hm, hmm, hx, hel⟩
  · simp at hcs
    obtain ⟨rfl, rfl, rfl⟩ := hcs
    exact ⟨[], ⟨none, 0, rfl, Nat.le_refl _, Nat.zero_le _, (fun k c hc => by simp at hc)⟩, by simp⟩
  · simp at hcs
    obtain ⟨rfl, rfl, rfl⟩ := hcs
    simp only [if_true] at hmm
    subst hmm
    have hd := congrArg Prod.fst hx
    simp only at hd
    rw [hd] at hw
    rw [cells54] at hel
    have hin : Inhabited Pg := ⟨⟨0, ⟨#[]⟩⟩⟩
    obtain ⟨F, hF⟩ := choose_lt (α := Pg) (n := len0) (p := fun i r => W.cell? (a.add (i * 2)) = some (.int .i64 r.pl) ∧ W.cell? (a.add (i * 2 + 1)) = some (.string r.data) ∧ (-9223372036854775808 ≤ r.pl ∧ r.pl ≤ 9223372036854775807) ∧ r.data.size ≤ maxLen) (fun i hi => by
      obtain ⟨cs, h1, h2⟩ := hel i (by omega)
      exact elem_pages h1 h2)
    have hlen : ((List.range len0).map F).length = len0 := by simp
    refine ⟨(List.range len0).map F, ⟨some a, m, by rw [hlen], by rw [hlen]; exact hl, hm, ?_⟩, ?_⟩
    · intro j r hj
      have hjl : j < len0 := by have := (List.getElem?_eq_some_iff.1 hj).1; rwa [hlen] at this
      rw [List.getElem?_map, List.getElem?_range hjl] at hj
      simp only [Option.map_some, Option.some.injEq] at hj
      subst hj
      obtain ⟨h0, h1, h3, h4⟩ := hF j hjl
      obtain ⟨g, off, spot⟩ := a
      have hspot : spot = none := by simpa [Addr.add] using World.cell?_spot (hF 0 (by omega)).1
      subst hspot
      rw [add_plain] at h0 h1
      exact ⟨g, off, rfl, World.block_lt_of_cell? W _ h0, fun h => h, h0, h1, h3, h4⟩
    · rw [hlen]
      have := hw ((len0 + (m - len0)) * Try.prog.bytesOf 54) (by simp [DataW.weights, Try.underlying25])
      rw [bytes54] at this
      have h2 : reachBytes = 140737488351232 := rfl
      omega

theorem elem_lays {H : Type} {enc : TypeId × Value → H} {W : World} {a : Addr} {i n : Nat} {cs : List Value} {d : DataW H} {p : List MemPlace} (hc : W.cells? 0 (a.add (i * 2)) 2 = some cs) (ht : DataW.trod enc Try.prog W 0 (fun _ => true) true n 52 cs = some (d, p)) :
    ∃ (r : Pg), W.cell? (a.add (i * 2)) = some (.int .i64 r.pl) ∧ W.cell? (a.add (i * 2 + 1)) = some (.string r.data) ∧ (-9223372036854775808 ≤ r.pl ∧ r.pl ≤ 9223372036854775807) ∧ r.data.size ≤ maxLen := by
  obtain ⟨_, hlen, hcell⟩ := World.cells?_some hc
  obtain ⟨y0, y1, k, hx, _, h0, h1⟩ := trod_struct2 Try.underlying52 ht
  match cs, hlen with
  | [v0, v1], _ =>
    have e0 := hcell 0 (by omega)
    have e1 := hcell 1 (by omega)
    rw [add_add] at e0 e1
    have g0 : DataW.trod enc Try.prog W 0 (fun _ => true) true k 3 [v0] = some y0 := h0
    have g1 : DataW.trod enc Try.prog W 0 (fun _ => true) true k 9 [v1] = some y1 := h1
    obtain ⟨x0, f0, _, hz⟩ := DataW.trod_int Try.underlying3 g0
    obtain ⟨x1, f1, _, hs⟩ := DataW.trod_string Try.underlying9 g1
    simp only [List.cons.injEq, and_true] at f0 f1
    subst f0
    subst f1
    have hb := bounds_i64 hz
    exact ⟨⟨x0, x1⟩, by simpa using e0, by simpa using e1, ⟨by simp only; omega, by simp only; omega⟩, hs⟩

theorem open_lays {H : Type} {enc : TypeId × Value → H} {W : World} {base : Nat} {v : Value} {d : DataW H} {p : List MemPlace}
    (hv : Value.okWide Try.prog W .any base 43 v) (h : DataW.Trod enc Try.prog W 0 (fun _ => true) true 43 v d p) (hw : ∀ n ∈ d.weights Try.prog 43, n ≤ reachBytes) :
    ∃ L, LiesO W (fun _ => False) v L ∧ L.length * 24 ≤ 140737488351232 := by
  obtain ⟨a0, len0, cap0, rfl⟩ := okWide_slice Try.underlying43 hv
  obtain ⟨fuel, hf⟩ := h
  have hf2 : DataW.trod enc Try.prog W 0 (fun _ => true) true fuel 43 [.slice a0 len0 cap0] = some (d, p) := by simpa [Value.cells] using hf
  rcases open_slice Try.underlying43 hf2 with ⟨hcs, hx⟩ | ⟨a, len, cap, m, n, D, Pl, hcs, _, hl, hm, hmm, hx, hel⟩
  · simp at hcs
    obtain ⟨rfl, rfl, rfl⟩ := hcs
    exact ⟨[], ⟨none, 0, rfl, Nat.le_refl _, Nat.zero_le _, (fun k c hc => by simp at hc)⟩, by simp⟩
  · simp at hcs
    obtain ⟨rfl, rfl, rfl⟩ := hcs
    simp only [if_true] at hmm
    subst hmm
    have hd := congrArg Prod.fst hx
    simp only at hd
    rw [hd] at hw
    rw [cells52] at hel
    have hin : Inhabited Pg := ⟨⟨0, ⟨#[]⟩⟩⟩
    obtain ⟨F, hF⟩ := choose_lt (α := Pg) (n := len0) (p := fun i r => W.cell? (a.add (i * 2)) = some (.int .i64 r.pl) ∧ W.cell? (a.add (i * 2 + 1)) = some (.string r.data) ∧ (-9223372036854775808 ≤ r.pl ∧ r.pl ≤ 9223372036854775807) ∧ r.data.size ≤ maxLen) (fun i hi => by
      obtain ⟨cs, h1, h2⟩ := hel i (by omega)
      exact elem_lays h1 h2)
    have hlen : ((List.range len0).map F).length = len0 := by simp
    refine ⟨(List.range len0).map F, ⟨some a, m, by rw [hlen], by rw [hlen]; exact hl, hm, ?_⟩, ?_⟩
    · intro j r hj
      have hjl : j < len0 := by have := (List.getElem?_eq_some_iff.1 hj).1; rwa [hlen] at this
      rw [List.getElem?_map, List.getElem?_range hjl] at hj
      simp only [Option.map_some, Option.some.injEq] at hj
      subst hj
      obtain ⟨h0, h1, h3, h4⟩ := hF j hjl
      obtain ⟨g, off, spot⟩ := a
      have hspot : spot = none := by simpa [Addr.add] using World.cell?_spot (hF 0 (by omega)).1
      subst hspot
      rw [add_plain] at h0 h1
      exact ⟨g, off, rfl, World.block_lt_of_cell? W _ h0, fun h => h, h0, h1, h3, h4⟩
    · rw [hlen]
      have := hw ((len0 + (m - len0)) * Try.prog.bytesOf 52) (by simp [DataW.weights, Try.underlying43])
      rw [bytes52] at this
      have h2 : reachBytes = 140737488351232 := rfl
      omega

theorem open_texts {H : Type} {enc : TypeId × Value → H} {W : World} {base : Nat} {v : Value} {d : DataW H} {p : List MemPlace}
    (hv : Value.okWide Try.prog W .any base 37 v) (h : DataW.Trod enc Try.prog W 0 (fun _ => true) true 37 v d p) (hw : ∀ n ∈ d.weights Try.prog 37, n ≤ reachBytes) :
    ∃ L, LiesX W v L ∧ L.length * 16 ≤ 140737488351232 := by
  obtain ⟨a0, len0, cap0, rfl⟩ := okWide_slice Try.underlying37 hv
  obtain ⟨fuel, hf⟩ := h
  have hf2 : DataW.trod enc Try.prog W 0 (fun _ => true) true fuel 37 [.slice a0 len0 cap0] = some (d, p) := by simpa [Value.cells] using hf
  rcases open_slice1 Try.underlying37 cells9 hf2 with ⟨hcs, hx⟩ | ⟨a, len, cap, m, n, V, D, Pl, hcs, _, hl, hm, hmm, hx, hcell⟩
  · simp at hcs
    obtain ⟨rfl, rfl, rfl⟩ := hcs
    exact ⟨[], ⟨none, 0, rfl, Nat.le_refl _, Nat.zero_le _, (fun k c hc => by simp at hc)⟩, by simp⟩
  · simp at hcs
    obtain ⟨rfl, rfl, rfl⟩ := hcs
    simp only [if_true] at hmm
    subst hmm
    have hd := congrArg Prod.fst hx
    simp only at hd
    rw [hd] at hw
    have hin : Inhabited ByteArray := ⟨⟨#[]⟩⟩
    obtain ⟨F, hF⟩ := choose_lt (α := ByteArray) (n := len0) (p := fun i s => W.cell? (a.add i) = some (.string s) ∧ s.size ≤ maxLen) (fun i hi => by
      obtain ⟨hc, ht⟩ := hcell i (by omega)
      obtain ⟨s, e0, _, hs⟩ := DataW.trod_string Try.underlying9 ht
      simp only [List.cons.injEq, and_true] at e0
      rw [e0] at hc
      exact ⟨s, hc, hs⟩)
    have hlen : ((List.range len0).map F).length = len0 := by simp
    refine ⟨(List.range len0).map F, ⟨some a, m, by rw [hlen], by rw [hlen]; exact hl, hm, ?_⟩, ?_⟩
    · intro j r hj
      have hjl : j < len0 := by have := (List.getElem?_eq_some_iff.1 hj).1; rwa [hlen] at this
      rw [List.getElem?_map, List.getElem?_range hjl] at hj
      simp only [Option.map_some, Option.some.injEq] at hj
      subst hj
      obtain ⟨h0, h1⟩ := hF j hjl
      obtain ⟨g, off, spot⟩ := a
      have hspot : spot = none := by simpa [Addr.add] using World.cell?_spot (hF 0 (by omega)).1
      subst hspot
      rw [add_plain] at h0
      exact ⟨g, off, rfl, World.block_lt_of_cell? W _ h0, h0, h1⟩
    · rw [hlen]
      have := hw ((len0 + (m - len0)) * Try.prog.bytesOf 9) (by simp [DataW.weights, Try.underlying37])
      rw [bytes9] at this
      have h2 : reachBytes = 140737488351232 := rfl
      omega

end Go.Proofs.Ythinhlmefifffaa
