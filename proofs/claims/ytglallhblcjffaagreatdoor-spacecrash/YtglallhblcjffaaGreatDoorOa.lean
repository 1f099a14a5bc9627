/-
  Acts, and texts, that came in, as they lie in memory.
-/
import Derived.Test.YtglallhblcjffaaGreatDoorApp
import Derived.ProofKit
import Derived.OpenShut
import Derived.ChangeOld
import Derived.SizedLaws
import Derived.Deep.SlicePairs
import Derived.Deep.Strs
import Derived.Lib.SmallJoins
namespace Go.Proofs.YtglallhblcjffaaGreatDoor
open Go.ChangeShapes Go.WideShapes Go.ChangeAt Go.RowKit Go.Deep Go.Joins
set_option linter.unusedVariables false
set_option linter.unusedSimpArgs false
set_option maxRecDepth 100000

structure Ac where
  kd : Int
  pl : Int
  tx : ByteArray
def LiesA (w : World) (v : Value) (L : List Ac) : Prop :=
  ∃ (a : Option Addr) (cap : Nat), v = .slice a L.length cap ∧ L.length ≤ cap ∧ cap ≤ maxLen ∧ ∀ k c, L[k]? = some c → ∃ b off, a = some ⟨b, off, none⟩ ∧ b < w.heap.size ∧ w.cell? ⟨b, off + k * 3, none⟩ = some (.int .i64 c.kd) ∧ w.cell? ⟨b, off + k * 3 + 1, none⟩ = some (.int .i64 c.pl) ∧ w.cell? ⟨b, off + k * 3 + 2, none⟩ = some (.string c.tx) ∧ (-9223372036854775808 ≤ c.pl ∧ c.pl ≤ 9223372036854775807) ∧ c.tx.size ≤ maxLen
def LiesX (w : World) (v : Value) (L : List ByteArray) : Prop :=
  ∃ (a : Option Addr) (cap : Nat), v = .slice a L.length cap ∧ L.length ≤ cap ∧ cap ≤ maxLen ∧ ∀ k s, L[k]? = some s → ∃ b off, a = some ⟨b, off, none⟩ ∧ b < w.heap.size ∧ w.cell? ⟨b, off + k, none⟩ = some (.string s) ∧ s.size ≤ maxLen
theorem LiesA.on {w w' : World} {v : Value} {L : List Ac} (h : LiesA w v L) (hb : Below w.heap.size w w') : LiesA w' v L := by
  obtain ⟨a, cap, h1, h2, h3, h4⟩ := h
  refine ⟨a, cap, h1, h2, h3, fun k c hk => ?_⟩
  obtain ⟨b, off, ha, hlt, c1, c2, c3, r⟩ := h4 k c hk
  exact ⟨b, off, ha, Nat.lt_of_lt_of_le hlt hb.size, (hb.cell (p := ⟨b, off + k * 3, none⟩) hlt).trans c1, (hb.cell (p := ⟨b, off + k * 3 + 1, none⟩) hlt).trans c2, (hb.cell (p := ⟨b, off + k * 3 + 2, none⟩) hlt).trans c3, r⟩
theorem LiesX.on {w w' : World} {v : Value} {L : List ByteArray} (h : LiesX w v L) (hb : Below w.heap.size w w') : LiesX w' v L := by
  obtain ⟨a, cap, h1, h2, h3, h4⟩ := h
  refine ⟨a, cap, h1, h2, h3, fun k c hk => ?_⟩
  obtain ⟨b, off, ha, hlt, c1, r⟩ := h4 k c hk
  exact ⟨b, off, ha, Nat.lt_of_lt_of_le hlt hb.size, (hb.cell (p := ⟨b, off + k, none⟩) hlt).trans c1, r⟩
theorem LiesA.form {w : World} {v : Value} {L : List Ac} (h : LiesA w v L) : ∃ a c, v = .slice a L.length c := by obtain ⟨a, c, h, _⟩ := h; exact ⟨a, c, h⟩
theorem LiesX.form {w : World} {v : Value} {L : List ByteArray} (h : LiesX w v L) : ∃ a c, v = .slice a L.length c := by obtain ⟨a, c, h, _⟩ := h; exact ⟨a, c, h⟩
theorem LiesA.at {w : World} {a : Option Addr} {n c : Nat} {L : List Ac} (h : LiesA w (.slice a n c) L) {k : Nat} {x : Ac} (hk : L[k]? = some x) : ∃ b off, a = some ⟨b, off, none⟩ ∧ b < w.heap.size ∧ w.cell? ⟨b, off + k * 3, none⟩ = some (.int .i64 x.kd) ∧ w.cell? ⟨b, off + k * 3 + 1, none⟩ = some (.int .i64 x.pl) ∧ w.cell? ⟨b, off + k * 3 + 2, none⟩ = some (.string x.tx) ∧ (-9223372036854775808 ≤ x.pl ∧ x.pl ≤ 9223372036854775807) ∧ x.tx.size ≤ maxLen := by
  obtain ⟨a', c', h1, _, _, h4⟩ := h
  injection h1 with e1 _ _
  subst e1
  exact h4 k x hk
theorem LiesX.at {w : World} {a : Option Addr} {n c : Nat} {L : List ByteArray} (h : LiesX w (.slice a n c) L) {k : Nat} {x : ByteArray} (hk : L[k]? = some x) : ∃ b off, a = some ⟨b, off, none⟩ ∧ b < w.heap.size ∧ w.cell? ⟨b, off + k, none⟩ = some (.string x) ∧ x.size ≤ maxLen := by
  obtain ⟨a', c', h1, _, _, h4⟩ := h
  injection h1 with e1 _ _
  subst e1
  exact h4 k x hk

theorem cellsAc : Tryz.prog.cellsOf 28 = 3 := by kernel_rfl
theorem bytesAc : Tryz.prog.bytesOf 28 = 32 := by kernel_rfl
theorem cells9 : Tryz.prog.cellsOf 9 = 1 := by kernel_rfl
theorem bytes9 : Tryz.prog.bytesOf 9 = 16 := by kernel_rfl
theorem add_both (a : Addr) (i j : Nat) (h : a.spot = none) : (a.add i).add j = a.add (i + j) := by
  obtain ⟨b, off, spot⟩ := a
  simp only at h
  subst h
  rw [add_plain, add_plain, add_plain, Nat.add_assoc]

theorem elem_act {H : Type} {enc : TypeId × Value → H} {W : World} {a : Addr} {i n : Nat} {cs : List Value} {d : DataW H} {p : List MemPlace} (hc : W.cells? 0 (a.add (i * 3)) 3 = some cs) (ht : DataW.trod enc Tryz.prog W 0 (fun _ => true) true n 28 cs = some (d, p)) :
    ∃ (r : Ac), W.cell? (a.add (i * 3)) = some (.int .i64 r.kd) ∧ W.cell? (a.add (i * 3 + 1)) = some (.int .i64 r.pl) ∧ W.cell? (a.add (i * 3 + 2)) = some (.string r.tx) ∧ (-9223372036854775808 ≤ r.pl ∧ r.pl ≤ 9223372036854775807) ∧ r.tx.size ≤ maxLen := by
  obtain ⟨_, hlen, hcell⟩ := World.cells?_some hc
  obtain ⟨y0, y1, y2, k, hx, _, h0, h1, h2⟩ := trod_struct3 Tryz.underlying28 ht
  match cs, hlen with
  | [v0, v1, v2], _ =>
    have e0 := hcell 0 (by omega)
    have e1 := hcell 1 (by omega)
    have e2 := hcell 2 (by omega)
    rw [add_add] at e0 e1 e2
    have g0 : DataW.trod enc Tryz.prog W 0 (fun _ => true) true k 3 [v0] = some y0 := h0
    have g1 : DataW.trod enc Tryz.prog W 0 (fun _ => true) true k 3 [v1] = some y1 := h1
    have g2 : DataW.trod enc Tryz.prog W 0 (fun _ => true) true k 9 [v2] = some y2 := h2
    obtain ⟨x0, f0, _, _⟩ := DataW.trod_int Tryz.underlying3 g0
    obtain ⟨x1, f1, _, hz⟩ := DataW.trod_int Tryz.underlying3 g1
    obtain ⟨x2, f2, _, hs⟩ := DataW.trod_string Tryz.underlying9 g2
    simp only [List.cons.injEq, and_true] at f0 f1 f2
    subst f0
    subst f1
    subst f2
    have hb := bounds_i64 hz
    exact ⟨⟨x0, x1, x2⟩, by simpa using e0, by simpa using e1, by simpa using e2, ⟨by simp only; omega, by simp only; omega⟩, hs⟩

theorem open_acts {H : Type} {enc : TypeId × Value → H} {W : World} {base : Nat} {v : Value} {d : DataW H} {p : List MemPlace}
    (hv : Value.okWide Tryz.prog W .any base 22 v) (h : DataW.Trod enc Tryz.prog W 0 (fun _ => true) true 22 v d p) (hw : ∀ n ∈ d.weights Tryz.prog 22, n ≤ reachBytes) :
    ∃ L, LiesA W v L ∧ L.length * 32 ≤ 140737488351232 := by
  obtain ⟨a0, len0, cap0, rfl⟩ := okWide_slice Tryz.underlying22 hv
  obtain ⟨fuel, hf⟩ := h
  have hf2 : DataW.trod enc Tryz.prog W 0 (fun _ => true) true fuel 22 [.slice a0 len0 cap0] = some (d, p) := by simpa [Value.cells] using hf
  rcases open_slice Tryz.underlying22 hf2 with ⟨hcs, hx⟩ | ⟨a, len, cap, m, n, D, Pl, hcs, _, hl, hm, hmm, hx, hel⟩
  · simp at hcs
    obtain ⟨rfl, rfl, rfl⟩ := hcs
    exact ⟨[], ⟨none, 0, rfl, Nat.le_refl _, Nat.zero_le _, (fun k c hc => by simp at hc)⟩, by simp⟩
  · simp at hcs
    obtain ⟨rfl, rfl, rfl⟩ := hcs
    simp only [if_true] at hmm
    subst hmm
    have hd := congrArg Prod.fst hx
    simp only at hd
    rw [hd] at hw
    rw [cellsAc] at hel
    have hin : Inhabited Ac := ⟨⟨0, 0, ⟨#[]⟩⟩⟩
    obtain ⟨F, hF⟩ := choose_lt (α := Ac) (n := len0) (p := fun i r => W.cell? (a.add (i * 3)) = some (.int .i64 r.kd) ∧ W.cell? (a.add (i * 3 + 1)) = some (.int .i64 r.pl) ∧ W.cell? (a.add (i * 3 + 2)) = some (.string r.tx) ∧ (-9223372036854775808 ≤ r.pl ∧ r.pl ≤ 9223372036854775807) ∧ r.tx.size ≤ maxLen) (fun i hi => by
      obtain ⟨cs, h1, h2⟩ := hel i (by omega)
      exact elem_act h1 h2)
    have hlen : ((List.range len0).map F).length = len0 := by simp
    refine ⟨(List.range len0).map F, ⟨some a, m, by rw [hlen], by rw [hlen]; exact hl, hm, ?_⟩, ?_⟩
    · intro j r hj
      have hjl : j < len0 := by have := (List.getElem?_eq_some_iff.1 hj).1; rwa [hlen] at this
      rw [List.getElem?_map, List.getElem?_range hjl] at hj
      simp only [Option.map_some, Option.some.injEq] at hj
      subst hj
      obtain ⟨h0, h1, h2, h3, h4⟩ := hF j hjl
      obtain ⟨g, off, spot⟩ := a
      have hspot : spot = none := by simpa [Addr.add] using World.cell?_spot (hF 0 (by omega)).1
      subst hspot
      rw [add_plain] at h0 h1 h2
      exact ⟨g, off, rfl, World.block_lt_of_cell? W _ h0, h0, h1, h2, h3, h4⟩
    · rw [hlen]
      have := hw ((len0 + (m - len0)) * Tryz.prog.bytesOf 28) (by simp [DataW.weights, Tryz.underlying22])
      rw [bytesAc] at this
      have h2 : reachBytes = 140737488351232 := rfl
      omega

theorem cells5' : Tryz.prog.cellsOf 5 = 1 := by kernel_rfl
/-- bytes, as they lie in memory -/
def LiesU (w : World) (v : Value) (U : List Nat) : Prop :=
  ∃ (a : Option Addr) (cap : Nat), v = .slice a U.length cap ∧ U.length ≤ cap ∧ cap ≤ maxLen ∧ ∀ k x, U[k]? = some x → ∃ b off, a = some ⟨b, off, none⟩ ∧ b < w.heap.size ∧ w.cell? ⟨b, off + k, none⟩ = some (.int .u8 (x : Nat)) ∧ x ≤ 255
theorem LiesU.form {w : World} {v : Value} {U : List Nat} (h : LiesU w v U) : ∃ a c, v = .slice a U.length c := by obtain ⟨a, c, h, _⟩ := h; exact ⟨a, c, h⟩
theorem LiesU.len {w : World} {v : Value} {U : List Nat} (h : LiesU w v U) : U.length ≤ maxLen := by obtain ⟨a, c, _, h2, h3, _⟩ := h; omega
theorem LiesU.at {w : World} {a : Option Addr} {n c : Nat} {U : List Nat} (h : LiesU w (.slice a n c) U) {k x : Nat} (hk : U[k]? = some x) : ∃ b off, a = some ⟨b, off, none⟩ ∧ b < w.heap.size ∧ w.cell? ⟨b, off + k, none⟩ = some (.int .u8 (x : Nat)) ∧ x ≤ 255 := by
  obtain ⟨a', c', h1, _, _, h4⟩ := h
  injection h1 with e1 _ _
  subst e1
  exact h4 k x hk
theorem open_bytes {H : Type} {enc : TypeId × Value → H} {W : World} {base : Nat} {v : Value} {d : DataW H} {p : List MemPlace}
    (hv : Value.okWide Tryz.prog W .any base 39 v) (h : DataW.Trod enc Tryz.prog W 0 (fun _ => true) true 39 v d p) (hw : ∀ n ∈ d.weights Tryz.prog 39, n ≤ reachBytes) :
    ∃ U, LiesU W v U ∧ U.length ≤ 140737488351232 := by
  obtain ⟨a0, len0, cap0, rfl⟩ := okWide_slice Tryz.underlying39 hv
  obtain ⟨fuel, hf⟩ := h
  have hf2 : DataW.trod enc Tryz.prog W 0 (fun _ => true) true fuel 39 [.slice a0 len0 cap0] = some (d, p) := by simpa [Value.cells] using hf
  rcases open_slice1 Tryz.underlying39 cells5' hf2 with ⟨hcs, hx⟩ | ⟨a, len, cap, m, n, V, D, Pl, hcs, _, hl, hm, hmm, hx, hcell⟩
  · simp at hcs
    obtain ⟨rfl, rfl, rfl⟩ := hcs
    exact ⟨[], ⟨none, 0, rfl, Nat.le_refl _, Nat.zero_le _, (fun k c hc => by simp at hc)⟩, by simp⟩
  · simp at hcs
    obtain ⟨rfl, rfl, rfl⟩ := hcs
    simp only [if_true] at hmm
    subst hmm
    have hd := congrArg Prod.fst hx
    simp only at hd
    rw [hd] at hw
    have hin : Inhabited Nat := ⟨0⟩
    obtain ⟨F, hF⟩ := choose_lt (α := Nat) (n := len0) (p := fun i x => W.cell? (a.add i) = some (.int .u8 (x : Nat)) ∧ x ≤ 255) (fun i hi => by
      obtain ⟨hc, ht⟩ := hcell i (by omega)
      obtain ⟨x, e0, _, hz⟩ := DataW.trod_int Tryz.underlying5 ht
      simp only [List.cons.injEq, and_true] at e0
      rw [e0] at hc
      have hb := bounds_u8 hz
      refine ⟨x.toNat, ?_, by omega⟩
      rw [Int.toNat_of_nonneg (by omega)]
      exact hc)
    have hlen : ((List.range len0).map F).length = len0 := by simp
    refine ⟨(List.range len0).map F, ⟨some a, m, by rw [hlen], by rw [hlen]; exact hl, hm, ?_⟩, ?_⟩
    case refine_2 =>
      rw [hlen]
      have := hw ((len0 + (m - len0)) * Tryz.prog.bytesOf 5) (by simp [DataW.weights, Tryz.underlying39])
      rw [show Tryz.prog.bytesOf 5 = 1 by kernel_rfl] at this
      have h2 : reachBytes = 140737488351232 := rfl
      omega
    intro j r hj
    have hjl : j < len0 := by have := (List.getElem?_eq_some_iff.1 hj).1; rwa [hlen] at this
    rw [List.getElem?_map, List.getElem?_range hjl] at hj
    simp only [Option.map_some, Option.some.injEq] at hj
    subst hj
    obtain ⟨h0, h1⟩ := hF j hjl
    obtain ⟨g, off, spot⟩ := a
    have hspot : spot = none := by simpa [Addr.add] using World.cell?_spot (hF 0 (by omega)).1
    subst hspot
    rw [add_plain] at h0
    exact ⟨g, off, rfl, World.block_lt_of_cell? W _ h0, h0, h1⟩


end Go.Proofs.YtglallhblcjffaaGreatDoor
