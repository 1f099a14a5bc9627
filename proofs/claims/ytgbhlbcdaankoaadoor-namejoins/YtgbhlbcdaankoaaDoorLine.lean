/-
  A list of bytes that came in, and lines that are put together of words with blanks ahead.
-/
import Derived.Test.YtgbhlbcdaankoaaDoorSame
import Derived.ProofKit
import Derived.OpenShut
import Derived.ChangeOld
namespace Go.Proofs.YtgbhlbcdaankoaaDoor
open Go.ChangeShapes Go.WideShapes Go.ChangeAt Go.RowKit
set_option linter.unusedVariables false

theorem cells5 : Tryd.prog.cellsOf 5 = 1 := by kernel_rfl

/-- a list of bytes, as it lies in old memory -/
def U8s (W : World) (v : Value) : Prop :=
  ∃ (a : Option Addr) (n c : Nat), v = .slice a n c ∧ n ≤ maxLen ∧ ∀ k, k < n → ∃ b off, ∃ z : Nat, a = some ⟨b, off, none⟩ ∧ b < W.heap.size ∧ z ≤ 255 ∧ W.cell? ⟨b, off + k, none⟩ = some (.int .u8 (z : Int))

theorem add_plain (b off k : Nat) : ((⟨b, off, none⟩ : Addr).add k) = ⟨b, off + k, none⟩ := by
  cases k <;> simp [Addr.add]

theorem open_u8s {H : Type} {enc : TypeId × Value → H} {W : World} {base : Nat} {v : Value} {d : DataW H} {p : List MemPlace}
    (hv : Value.okWide Tryd.prog W .any base 35 v) (h : DataW.Trod enc Tryd.prog W 0 (fun _ => true) true 35 v d p) (hlt : ∀ x ∈ p, x.block < W.heap.size) : U8s W v := by
  obtain ⟨a0, len, cap, rfl⟩ := okWide_slice Tryd.underlying35 hv
  obtain ⟨fuel, hf⟩ := h
  rcases open_ints Tryd.underlying35 Tryd.underlying5 cells5 hf with ⟨hcs, hx⟩ | ⟨a, len', cap', zs, hcs, _, hl, hm, hz, hx, hcell, hwz⟩
  · simp [Value.cells] at hcs
    obtain ⟨rfl, rfl, rfl⟩ := hcs
    exact ⟨none, 0, 0, rfl, Nat.zero_le _, fun k hk => absurd hk (by omega)⟩
  · simp [Value.cells] at hcs
    obtain ⟨rfl, rfl, rfl⟩ := hcs
    simp only [if_true] at hz
    refine ⟨some a, len, cap, rfl, by omega, fun k hk => ?_⟩
    have hc := hcell k (by omega)
    obtain ⟨b, off, spot⟩ := a
    have hspot : spot = none := by simpa [Addr.add] using World.cell?_spot (hcell 0 (by omega))
    subst hspot
    rw [add_plain] at hc
    have hmem : zs.getD k 0 ∈ zs := by
      rw [List.getD_eq_getElem?_getD, List.getElem?_eq_getElem (by omega)]
      exact List.getElem_mem _
    obtain ⟨z0, z1⟩ := bounds_u8 (hwz _ hmem)
    refine ⟨b, off, (zs.getD k 0).toNat, rfl, World.block_lt_of_cell? W _ hc, by omega, ?_⟩
    rw [hc, show (((zs.getD k 0).toNat : Nat) : Int) = zs.getD k 0 by omega]

theorem U8s.on {w w' : World} {v : Value} (h : U8s w v) (hb : Below w.heap.size w w') : U8s w' v := by
  obtain ⟨a, n, c, hv, hn, hc⟩ := h
  refine ⟨a, n, c, hv, hn, fun k hk => ?_⟩
  obtain ⟨b, off, z, ha, hlt, hz, hcell⟩ := hc k hk
  exact ⟨b, off, z, ha, by have := hb.size; omega, hz, (hb.cell (p := ⟨b, off + k, none⟩) hlt).trans hcell⟩

/-- a line that was put together of the first k words -/
def Made (l : List UInt8) (k : Nat) (line : List UInt8) : Prop :=
  ∃ M : List (Nat × List UInt8), M.map (·.2) = (words l).take k ∧ (∀ x ∈ M, 0 < x.1) ∧ line = joined M
theorem made_none (l : List UInt8) : Made l 0 [] := ⟨[], by simp, by simp, rfl⟩
theorem made_next {l line w : List UInt8} {k n : Nat} (h : Made l k line) (hw : (words l)[k]? = some w) (hn : 0 < n) : Made l (k + 1) (line ++ List.replicate n 32 ++ w) := by
  obtain ⟨M, h1, h2, rfl⟩ := h
  refine ⟨M ++ [(n, w)], ?_, ?_, (joined_snoc n w M).symm⟩
  · rw [List.map_append, h1, List.take_add_one, hw]; rfl
  · intro x hx
    rcases List.mem_append.1 hx with h' | h'
    · exact h2 x h'
    · simp at h'; subst h'; exact hn
theorem made_words {l line e : List UInt8} {k : Nat} (h : Made l k line) (hk : k = (words l).length) (he : e = [] ∨ e = [32]) : words (line ++ e) = words l := by
  obtain ⟨M, h1, h2, rfl⟩ := h
  subst hk
  rw [List.take_length] at h1
  rw [words_joined M e (fun x hx => ⟨h2 x hx, ?_⟩) he, h1]
  have hm : x.2 ∈ words l := by rw [← h1]; exact List.mem_map_of_mem hx
  exact words_are l [] (by simp) x.2 hm

theorem wordsB_at {s : ByteArray} {k : Nat} (h : k < (wordsB s).length) : (words s.data.toList)[k]? = some ((wordsB s).getD k ⟨#[]⟩).data.toList := by
  unfold wordsB at h ⊢
  rw [List.length_map] at h
  rw [List.getD_eq_getElem?_getD, List.getElem?_map, List.getElem?_eq_getElem h]
  rfl
theorem wordsB_size {s : ByteArray} {k : Nat} (h : k < (wordsB s).length) : ((wordsB s).getD k ⟨#[]⟩).size ≤ s.size := by
  have h1 := wordsB_at h
  have h2 := word_length s.data.toList [] _ (List.mem_of_getElem? h1)
  rw [size_list] at h2
  simpa [size_list] using h2
theorem wordsB_len (s : ByteArray) : (wordsB s).length ≤ s.size + 1 := by
  unfold wordsB
  rw [List.length_map]
  have := words_length s.data.toList []
  rw [size_list] at this
  exact this
theorem wordsB_eq {s t : ByteArray} (h : words t.data.toList = words s.data.toList) : wordsB t = wordsB s := by
  unfold wordsB; rw [h]

/-- so many blanks -/
def blanksB (j : Nat) : ByteArray := ⟨(List.replicate j 32).toArray⟩

theorem blank_list (t : ByteArray) (j : Nat) : ((t ++ blanksB j) ++ (⟨#[32]⟩ : ByteArray)) = t ++ blanksB (j + 1) := by
  apply ByteArray.ext
  apply Array.ext'
  simp [blanksB, List.replicate_succ']
theorem blank_none (t : ByteArray) : t ++ blanksB 0 = t := by
  apply ByteArray.ext
  apply Array.ext'
  simp [blanksB]
theorem blank_size (t : ByteArray) (j : Nat) : (t ++ blanksB j).size = t.size + j := by
  rw [ByteArray.size_append]
  congr 1
  show (List.replicate j (32 : UInt8)).toArray.size = j
  simp
theorem line_list (t u : ByteArray) (j : Nat) : ((t ++ blanksB j) ++ u).data.toList = t.data.toList ++ List.replicate j 32 ++ u.data.toList := by
  simp [blanksB]

end Go.Proofs.YtgbhlbcdaankoaaDoor
