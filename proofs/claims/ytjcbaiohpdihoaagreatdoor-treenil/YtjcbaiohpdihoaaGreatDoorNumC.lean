/-
  What the program's Pad and Trim, and the document's, answer, at every input.
-/
import Derived.Test.YtjcbaiohpdihoaaGreatDoorNumA
import Derived.Lib.BufferWrite
import Derived.Laws.MakeOwn
namespace Go.Proofs.YtjcbaiohpdihoaaGreatDoor.Nu
open Go.RowKit
set_option linter.unusedVariables false
set_option maxRecDepth 100000

/-- s with bytes 0 behind it, n bytes in all. -/
def padOf (s : ByteArray) (n : Nat) : ByteArray := ⟨(s.data.toList ++ List.replicate (n - s.size) 0).toArray⟩

theorem rep_cells (n : Nat) : (madeCells (Value.int .u8 0).cells (n * 1)).toList = Lib.byteCells (List.replicate n 0) := by
  simp [Lib.byteCells, Value.cells, toList_madeCells_one]

theorem zeros_ok (n : Nat) (w : World) (h : n ≤ 65536) :
    Calls Tryz.prog 147 #[.int .i64 n] w fun e w' => e = .returned (.string ⟨(List.replicate n 0).toArray⟩) ∧ Below w.heap.size w w' := by
  obtain ⟨i0, hi, hz0, hz1, hz2⟩ := info_parts info5
  go_enter Tryz.func147, Tryz.ntmps147
  go_wp2_with (at_make; refine wpList_make_full _ rfl (.tmp 3) (.tmp 3) 171 rfl w.heap.size 5 i0 (.int .u8 0) 1 Tryz.underlying171 hi hz0 hz1 .i64 .i64 _ _ n rfl rfl rfl rfl (by rw [hz2]; omega) (by unfold maxLen; omega) (Nat.le_refl _) ?_; intro w1 hown hgrow; have hcv := conv_own (l := List.replicate n 0) (by rw [← rep_cells]; exact hown) (by simp))
  go_ret
  exact ⟨rfl, (Below.refl _ w).grown hgrow (Nat.le_refl _) (fun _ h => by cases h)⟩

theorem pad_range (s : ByteArray) (n : Int) (w : World) (h : n < 0 ∨ 65536 < n) :
    Calls Tryz.prog 126 #[.string s, .int .i64 n] w fun e w' => e = .returned (.tuple #[.string ⟨#[]⟩, .int .i64 1]) ∧ w = w' := by
  rcases h with h | h
  · go_enter Tryz.func126, Tryz.ntmps126
    go_wp2
    go_ret2
    exact ⟨rfl, rfl⟩
  · have hd : decide (n < 0) = false := by simp; omega
    go_enter Tryz.func126, Tryz.ntmps126
    go_wp2
    go_ret2
    exact ⟨rfl, rfl⟩

theorem pad_long (s : ByteArray) (n : Nat) (w : World) (hs : s.size ≤ maxLen) (hn : n ≤ 65536) (h : n < s.size) :
    Calls Tryz.prog 126 #[.string s, .int .i64 n] w fun e w' => e = .returned (.tuple #[.string ⟨#[]⟩, .int .i64 2]) ∧ w = w' := by
  unfold maxLen at hs
  go_enter Tryz.func126, Tryz.ntmps126
  go_wp2
  go_ret2
  exact ⟨rfl, rfl⟩

theorem cells5 : Tryz.prog.cellsOf 5 = 1 := by kernel_rfl
theorem info5s : (Tryz.prog.info? 5).map (·.size) = some 1 := by kernel_rfl

theorem make_run (n : Nat) (W : World) (h : n ≤ 281474976710656) : ∃ M : Array Value, M.toList = Lib.byteCells (List.replicate n 0) ∧
    (Instr.makeSlice 171 (.int .i64 (n : Int)) (.int .i64 (n : Int))).run Tryz.prog W = .ok (.slice (some ⟨W.heap.size, 0, none⟩) n n) (W.alloc (.cells M 5)) := by
  obtain ⟨i0, hi, hz0, hz1, hz2⟩ := info_parts info5
  refine ⟨_, rep_cells n, ?_⟩
  have hr := run_make (P := Tryz.prog) W 171 5 i0 (.int .u8 0) Tryz.underlying171 hi hz0 .i64 .i64 (n : Int) (n : Int) (by omega) (by omega) (by rw [hz2]; omega) (by omega)
  rw [hz1] at hr
  simpa using hr

/-- A row of bytes and a text that is copied over its head. -/
theorem copy_run (s : ByteArray) (n : Nat) (W : World) (M : Array Value) (hM : M.toList = Lib.byteCells (List.replicate n 0)) (h : s.size ≤ n) :
    ∃ Y : Array Value, Y.toList = Lib.byteCells (s.data.toList ++ List.replicate (n - s.size) 0) ∧
      (Builtin.copy_ #[171, 9] 3 #[.slice (some ⟨W.heap.size, 0, none⟩) n n, .string s]).run Tryz.prog (W.alloc (.cells M 5)) = .ok (goInt s.size) ((W.alloc (.cells M 5)).setRow W.heap.size Y) := by
  have hs : M.size = n := by rw [← Array.length_toList, hM, Lib.byteCells_length, List.length_replicate]
  have hr := Lib.run_copy_row_string (P := Tryz.prog) (W.alloc (.cells M 5)) 171 9 3 5 W.heap.size 0 n n s M 5 Tryz.underlying171 info5s (heap_alloc_new W _) h (by omega)
  refine ⟨_, ?_, hr⟩
  rw [List.toList_toArray, List.take_zero, List.nil_append, hM, Lib.byteCells_append]
  congr 1
  simp [Lib.byteCells]

theorem row_own (W : World) (M Y : Array Value) : ((W.alloc (.cells M 5)).setRow W.heap.size Y).heap[W.heap.size]? = some (.cells Y 5 (0, 0)) :=
  setRow_heap _ _ M _ 5 (0, 0) (heap_alloc_new W _)

theorem row_below (W : World) (M Y : Array Value) : Below W.heap.size W ((W.alloc (.cells M 5)).setRow W.heap.size Y) :=
  ((Below.refl _ W).alloc (Nat.le_refl _) _).trans ⟨rfl, rfl, rfl, by simp, fun k hk => setRow_other _ _ _ _ (by omega)⟩

theorem row_cell (W : World) (M Y : Array Value) (l : List UInt8) (hY : Y.toList = Lib.byteCells l) (j : Nat) (x : UInt8) (hx : l[j]? = some x) :
    ((W.alloc (.cells M 5)).setRow W.heap.size Y).cell? ⟨W.heap.size, j, none⟩ = some (.int .u8 x.toNat) := by
  rw [cell_of_row _ _ j Y 5 (0, 0) (row_own W M Y), ← Array.getElem?_toList, hY]
  simp [Lib.byteCells, hx]

theorem conv_row (W : World) (M Y : Array Value) (l : List UInt8) (n : Nat) (hY : Y.toList = Lib.byteCells l) (hl : l.length = n) :
    (convert 171 9 (.slice (some ⟨W.heap.size, 0, none⟩) n n)).run Tryz.prog ((W.alloc (.cells M 5)).setRow W.heap.size Y) = .ok (.string ⟨l.toArray⟩) ((W.alloc (.cells M 5)).setRow W.heap.size Y) := by
  have h := run_convert_bytes_back (P := Tryz.prog) ((W.alloc (.cells M 5)).setRow W.heap.size Y) 171 9 5 ⟨W.heap.size, 0, none⟩ n l Tryz.underlying171 Tryz.underlying5 Tryz.underlying9 (fun j hj => by
    rw [add_zero_off, row_cell W M Y l hY j l[j] (by simp)])
  rwa [hl] at h

theorem pad_ok (s : ByteArray) (n : Nat) (w : World) (hn : n ≤ 65536) (h : s.size ≤ n) :
    Calls Tryz.prog 126 #[.string s, .int .i64 n] w fun e w' => e = .returned (.tuple #[.string (padOf s n), .int .i64 0]) ∧ Below w.heap.size w w' := by
  obtain ⟨M, hM, hmk⟩ := make_run n w (by omega)
  obtain ⟨Y, hY, hcp⟩ := copy_run s n w M hM h
  have hcv := conv_row w M Y _ n hY (by rw [List.length_append, List.length_replicate]; show s.data.size + _ = n; have : s.data.size = s.size := rfl; omega)
  have hcv' : (convert 171 9 (.slice (some ⟨w.heap.size, 0, none⟩) n n)).run Tryz.prog ((w.alloc (.cells M 5)).setRow w.heap.size Y) = .ok (.string (padOf s n)) ((w.alloc (.cells M 5)).setRow w.heap.size Y) := hcv
  clear hM hY hcv
  go_enter Tryz.func126, Tryz.ntmps126
  go_wp2
  go_ret2
  exact ⟨rfl, row_below w M Y⟩

theorem padOf_list (s : ByteArray) (n : Nat) : (padOf s n).data.toList = s.data.toList ++ List.replicate (n - s.size) 0 := by simp [padOf]

theorem padOf_size (s : ByteArray) (n : Nat) (h : s.size ≤ n) : (padOf s n).size = n := by
  have e : (padOf s n).size = (padOf s n).data.toList.length := rfl
  have e2 : s.data.toList.length = s.size := rfl
  rw [e, padOf_list, List.length_append, List.length_replicate, e2]
  omega


end Go.Proofs.YtjcbaiohpdihoaaGreatDoor.Nu
