/-
  What the program's Pad and Trim, and the document's, answer, at every input.
-/
import Derived.Test.YthohopbolalpcaaNumB
import Derived.Lib.BufferWrite
import Derived.Laws.MakeOwn
namespace Go.Proofs.Ythohopbolalpcaa
open Go.RowKit
set_option maxRecDepth 100000
set_option linter.unusedVariables false

/-- s with bytes 0 behind it, n bytes in all. -/
def padOf (s : ByteArray) (n : Nat) : ByteArray := ⟨(s.data.toList ++ List.replicate (n - s.size) 0).toArray⟩

theorem rep_cells (n : Nat) : (madeCells (Value.int .u8 0).cells (n * 1)).toList = Lib.byteCells (List.replicate n 0) := by
  simp [Lib.byteCells, Value.cells, toList_madeCells_one]

theorem zeros_ok (n : Nat) (w : World) (h : n ≤ 65536) :
    Calls Try.prog 32 #[.int .i64 n] w fun e w' => e = .returned (.string ⟨(List.replicate n 0).toArray⟩) ∧ Below w.heap.size w w' := by
  obtain ⟨i0, hi, hz0, hz1, hz2⟩ := info_parts info5
  go_enter Try.func32, Try.ntmps32
  go_wp2_with (at_make; refine wpList_make_full _ rfl (.tmp 3) (.tmp 3) 76 rfl w.heap.size 5 i0 (.int .u8 0) 1 Try.underlying76 hi hz0 hz1 .i64 .i64 _ _ n rfl rfl rfl rfl (by rw [hz2]; omega) (by unfold maxLen; omega) (Nat.le_refl _) ?_; intro w1 hown hgrow; have hcv := conv_own (l := List.replicate n 0) (by rw [← rep_cells]; exact hown) (by simp))
  go_ret
  exact ⟨rfl, (Below.refl _ w).grown hgrow (Nat.le_refl _) (fun _ h => by cases h)⟩

theorem pad_range (s : ByteArray) (n : Int) (w : World) (h : n < 0 ∨ 65536 < n) :
    Calls Try.prog 56 #[.string s, .int .i64 n] w fun e w' => e = .returned (.tuple #[.string ⟨#[]⟩, .int .i64 1]) ∧ w = w' := by
  rcases h with h | h
  · go_enter Try.func56, Try.ntmps56
    go_wp2
    go_ret2
    exact ⟨rfl, rfl⟩
  · have hd : decide (n < 0) = false := by simp; omega
    go_enter Try.func56, Try.ntmps56
    go_wp2
    go_ret2
    exact ⟨rfl, rfl⟩

theorem pad_long (s : ByteArray) (n : Nat) (w : World) (hs : s.size ≤ maxLen) (hn : n ≤ 65536) (h : n < s.size) :
    Calls Try.prog 56 #[.string s, .int .i64 n] w fun e w' => e = .returned (.tuple #[.string ⟨#[]⟩, .int .i64 2]) ∧ w = w' := by
  unfold maxLen at hs
  go_enter Try.func56, Try.ntmps56
  go_wp2
  go_ret2
  exact ⟨rfl, rfl⟩

theorem cells5 : Try.prog.cellsOf 5 = 1 := by kernel_rfl
theorem info5s : (Try.prog.info? 5).map (·.size) = some 1 := by kernel_rfl

theorem make_run (n : Nat) (W : World) (h : n ≤ 281474976710656) : ∃ M : Array Value, M.toList = Lib.byteCells (List.replicate n 0) ∧
    (Instr.makeSlice 76 (.int .i64 (n : Int)) (.int .i64 (n : Int))).run Try.prog W = .ok (.slice (some ⟨W.heap.size, 0, none⟩) n n) (W.alloc (.cells M 5)) := by
  obtain ⟨i0, hi, hz0, hz1, hz2⟩ := info_parts info5
  refine ⟨_, rep_cells n, ?_⟩
  have hr := run_make (P := Try.prog) W 76 5 i0 (.int .u8 0) Try.underlying76 hi hz0 .i64 .i64 (n : Int) (n : Int) (by omega) (by omega) (by rw [hz2]; omega) (by omega)
  rw [hz1] at hr
  simpa using hr

/-- A row of bytes and a text that is copied over its head. -/
theorem copy_run (s : ByteArray) (n : Nat) (W : World) (M : Array Value) (hM : M.toList = Lib.byteCells (List.replicate n 0)) (h : s.size ≤ n) :
    ∃ Y : Array Value, Y.toList = Lib.byteCells (s.data.toList ++ List.replicate (n - s.size) 0) ∧
      (Builtin.copy_ #[76, 9] 3 #[.slice (some ⟨W.heap.size, 0, none⟩) n n, .string s]).run Try.prog (W.alloc (.cells M 5)) = .ok (goInt s.size) ((W.alloc (.cells M 5)).setRow W.heap.size Y) := by
  have hs : M.size = n := by rw [← Array.length_toList, hM, Lib.byteCells_length, List.length_replicate]
  have hr := Lib.run_copy_row_string (P := Try.prog) (W.alloc (.cells M 5)) 76 9 3 5 W.heap.size 0 n n s M 5 Try.underlying76 info5s (heap_alloc_new W _) h (by omega)
  refine ⟨_, ?_, hr⟩
  rw [List.toList_toArray, List.take_zero, List.nil_append, hM, Lib.byteCells_append]
  congr 1
  simp [Lib.byteCells]

theorem row_own (W : World) (M Y : Array Value) : ((W.alloc (.cells M 5)).setRow W.heap.size Y).heap[W.heap.size]? = some (.cells Y 5 (0, 0)) :=
  setRow_heap _ _ M _ 5 (0, 0) (heap_alloc_new W _)

theorem row_below (W : World) (M Y : Array Value) : Below W.heap.size W ((W.alloc (.cells M 5)).setRow W.heap.size Y) :=
  ((Below.refl _ W).alloc (Nat.le_refl _) _).trans ⟨rfl, rfl, rfl, by simp, fun k hk => setRow_other _ _ _ _ (by omega)⟩

theorem row_cell (W : World) (M Y : Array Value) (l : List UInt8) (hY : Y.toList = Lib.byteCells l) (j : Nat) (x : UInt8) (hx : l[j]? = some x) :
    ((W.alloc (.cells M 5)).setRow W.heap.size Y).cell? ⟨W.heap.size, j, none⟩ = some (.int .u8 x.toNat) := by
  rw [cell_of_row _ _ j Y 5 (0, 0) (row_own W M Y), ← Array.getElem?_toList, hY]
  simp [Lib.byteCells, hx]

theorem conv_row (W : World) (M Y : Array Value) (l : List UInt8) (n : Nat) (hY : Y.toList = Lib.byteCells l) (hl : l.length = n) :
    (convert 76 9 (.slice (some ⟨W.heap.size, 0, none⟩) n n)).run Try.prog ((W.alloc (.cells M 5)).setRow W.heap.size Y) = .ok (.string ⟨l.toArray⟩) ((W.alloc (.cells M 5)).setRow W.heap.size Y) := by
  have h := run_convert_bytes_back (P := Try.prog) ((W.alloc (.cells M 5)).setRow W.heap.size Y) 76 9 5 ⟨W.heap.size, 0, none⟩ n l Try.underlying76 Try.underlying5 Try.underlying9 (fun j hj => by
    rw [add_zero_off, row_cell W M Y l hY j l[j] (by simp)])
  rwa [hl] at h

theorem pad_ok (s : ByteArray) (n : Nat) (w : World) (hn : n ≤ 65536) (h : s.size ≤ n) :
    Calls Try.prog 56 #[.string s, .int .i64 n] w fun e w' => e = .returned (.tuple #[.string (padOf s n), .int .i64 0]) ∧ Below w.heap.size w w' := by
  obtain ⟨M, hM, hmk⟩ := make_run n w (by omega)
  obtain ⟨Y, hY, hcp⟩ := copy_run s n w M hM h
  have hcv := conv_row w M Y _ n hY (by rw [List.length_append, List.length_replicate]; show s.data.size + _ = n; have : s.data.size = s.size := rfl; omega)
  have hcv' : (convert 76 9 (.slice (some ⟨w.heap.size, 0, none⟩) n n)).run Try.prog ((w.alloc (.cells M 5)).setRow w.heap.size Y) = .ok (.string (padOf s n)) ((w.alloc (.cells M 5)).setRow w.heap.size Y) := hcv
  clear hM hY hcv
  go_enter Try.func56, Try.ntmps56
  go_wp2
  go_ret2
  exact ⟨rfl, row_below w M Y⟩

theorem clone_in (s : ByteArray) (w : World) (hs : s.size ≤ 281474976710656) :
    Calls Try.prog 83 #[.string s] w fun e w' => e = .returned (.string s) ∧ Below w.heap.size w w' := by
  by_cases h0 : s.size = 0
  · have hz : s = ⟨#[]⟩ := ByteArray.ext (Array.eq_empty_of_size_eq_zero h0)
    subst hz
    go_enter Try.func83, Try.ntmps83
    go_wp2
    go_ret
    exact ⟨rfl, Below.refl _ _⟩
  · obtain ⟨M, hM, hmk⟩ := make_run s.size w hs
    obtain ⟨Y, hY, hcp⟩ := copy_run s s.size w M hM (Nat.le_refl _)
    simp only [Nat.sub_self, List.replicate_zero, List.append_nil] at hY
    have hne : s.data.toList ≠ [] := fun e => h0 (by rw [Lib.size_eq, e]; rfl)
    have hYs : Y.size = s.size := by rw [← Array.length_toList, hY, Lib.byteCells_length, ← Lib.size_eq]
    have hus := Lib.run_unsafeString_row (P := Try.prog) ((w.alloc (.cells M 5)).setRow w.heap.size Y) 107 3 9 5 Try.underlying107 cells5 w.heap.size Y.size (by unfold World.shape?; rw [row_own]) s.data.toList hne (by rw [← Lib.size_eq]; omega) (by rw [← Lib.size_eq]; omega)
      (fun j x hx => by rw [add_zero_off]; exact row_cell w M Y _ hY j x hx)
    rw [← Lib.size_eq] at hus
    clear hM hY hYs hne
    go_enter Try.func83, Try.ntmps83
    go_wp2
    go_ret
    exact ⟨rfl, Lib.below_freeze (row_below w M Y) (p := ⟨w.heap.size, 0, none⟩) (Nat.le_refl _) _⟩

theorem clone_any (s : ByteArray) (w : World) (hs : s.size ≤ 281474976710656) :
    Calls Try.prog 81 #[.string s] w fun e w' => e = .returned (.string s) ∧ Below w.heap.size w w' := by
  go_enter Try.func81, Try.ntmps81
  go_wp2_with (go_at_call 83; refine (clone_in s _ hs).mono ?_; rintro e w1 ⟨rfl, hb1⟩)
  go_ret
  exact ⟨rfl, hb1⟩

/-- Of the first k bytes: how many are left where bytes 0 at their end are left out. -/
def endAt (s : ByteArray) : Nat → Nat
  | 0 => 0
  | k + 1 => if s.data.toList.getD k 0 ≠ 0 then k + 1 else endAt s k

theorem endAt_le (s : ByteArray) (k : Nat) : endAt s k ≤ k := by
  induction k with
  | zero => simp [endAt]
  | succ k ih => rw [endAt]; split <;> omega

/-- s without the bytes 0 at its end. -/
def trimOf (s : ByteArray) : ByteArray := s.extract 0 (endAt s s.size)

theorem endAt_step (s : ByteArray) (k : Nat) (h : k < s.size) : endAt s (k + 1) = if ((s[k].toNat : Int) != 0) = true then k + 1 else endAt s k := by
  have e : s.data.toList.getD k 0 = s[k] := by
    have hk : k < s.data.toList.length := h
    rw [List.getD_eq_getElem?_getD, List.getElem?_eq_getElem hk]
    rfl
  rw [endAt, e]
  have : (s[k] ≠ 0) ↔ ((s[k].toNat : Int) != 0) = true := by
    rw [bne_iff_ne, Ne, Ne, ← UInt8.toNat_inj]
    simp
  simp only [this]

theorem rTrim_any (s : ByteArray) (w : World) (hs : s.size ≤ maxLen) :
    Calls Try.prog 37 #[.string s] w fun e w' => e = .returned (.string (trimOf s)) ∧ w = w' := by
  unfold maxLen at hs
  go_enter Try.func37, Try.ntmps37
  go_wp2
  go_loop [3, 4] (fun x i => ∃ k m : Nat, k ≤ s.size ∧ m ≤ k ∧ m = endAt s k ∧ i = .int .i64 k ∧ x = .int .i64 m) (fun _ i => s.size - (intOf i).toNat)
  case atStart => exact ⟨0, 0, Nat.zero_le _, Nat.zero_le _, rfl, rfl, rfl⟩
  case round =>
    obtain ⟨k, m, hk, hmk, hm, rfl, rfl⟩ := hrel
    have HM : Hid (m = endAt s k) := hm
    clear hm
    by_cases hlt : k < s.size
    · have HS : Hid (endAt s (k + 1) = if ((s[k].toNat : Int) != 0) = true then k + 1 else endAt s k) := endAt_step s k hlt
      go_wp2
      · have hne : ((s[k].toNat : Int) != 0) = true := by assumption
        go_round
        case rel => exact ⟨k + 1, k + 1, by omega, by omega, by rw [HS.out, if_pos hne], by go_num, by go_num⟩
        case measure => simp [intOf]; omega
      · have hne : ((s[k].toNat : Int) != 0) = false := by assumption
        go_round
        case rel => exact ⟨k + 1, m, by omega, by omega, by rw [HS.out, if_neg (by rw [hne]; decide)]; exact HM.out, by go_num, by go_num⟩
        case measure => simp [intOf]; omega
    · have hkc : k = s.size := by omega
      have HE : Hid (s.extract 0 m = trimOf s) := by
        show _ = _
        unfold trimOf; rw [HM.out, hkc]
      go_wp2
      go_ret
      exact ⟨by rw [← HE.out]; rfl, rfl⟩

theorem trim_any (s : ByteArray) (w : World) (hs : s.size ≤ 281474976710656) :
    Calls Try.prog 67 #[.string s] w fun e w' => e = .returned (.string (trimOf s)) ∧ Below w.heap.size w w' := by
  go_enter Try.func67, Try.ntmps67
  go_wp2
  go_loop [3, 7] (fun x i => ∃ k m : Nat, k ≤ s.size ∧ m ≤ k ∧ m = endAt s k ∧ i = .int .i64 k ∧ x = .int .i64 m) (fun _ i => s.size - (intOf i).toNat)
  case atStart => exact ⟨0, 0, Nat.zero_le _, Nat.zero_le _, rfl, rfl, rfl⟩
  case round =>
    obtain ⟨k, m, hk, hmk, hm, rfl, rfl⟩ := hrel
    have HM : Hid (m = endAt s k) := hm
    clear hm
    by_cases hlt : k < s.size
    · have HS : Hid (endAt s (k + 1) = if ((s[k].toNat : Int) != 0) = true then k + 1 else endAt s k) := endAt_step s k hlt
      go_wp2
      · have hne : ((s[k].toNat : Int) != 0) = true := by assumption
        go_round
        case rel => exact ⟨k + 1, k + 1, by omega, by omega, by rw [HS.out, if_pos hne], by go_num, by go_num⟩
        case measure => simp [intOf]; omega
      · have hne : ((s[k].toNat : Int) != 0) = false := by assumption
        go_round
        case rel => exact ⟨k + 1, m, by omega, by omega, by rw [HS.out, if_neg (by rw [hne]; decide)]; exact HM.out, by go_num, by go_num⟩
        case measure => simp [intOf]; omega
    · have hkc : k = s.size := by omega
      have HE : Hid (s.extract 0 m = trimOf s) := by
        show _ = _
        unfold trimOf; rw [HM.out, hkc]
      have hz : (s.extract 0 m).size ≤ 281474976710656 := by rw [ByteArray.size_extract]; omega
      go_wp2_with (go_at_call 81; refine (clone_any (s.extract 0 m) _ hz).mono ?_; rintro e w1 ⟨rfl, hb1⟩)
      go_ret
      exact ⟨by rw [← HE.out]; rfl, hb1⟩

/-- Bytes 0 behind a text change nothing of it, trimmed. -/
theorem padOf_list (s : ByteArray) (n : Nat) : (padOf s n).data.toList = s.data.toList ++ List.replicate (n - s.size) 0 := by simp [padOf]

theorem padOf_size (s : ByteArray) (n : Nat) (h : s.size ≤ n) : (padOf s n).size = n := by
  have e : (padOf s n).size = (padOf s n).data.toList.length := rfl
  have e2 : s.data.toList.length = s.size := rfl
  rw [e, padOf_list, List.length_append, List.length_replicate, e2]
  omega

theorem endAt_pad (s : ByteArray) (n k : Nat) : endAt (padOf s n) k = endAt s (min k s.size) := by
  have e2 : s.data.toList.length = s.size := rfl
  induction k with
  | zero => simp [endAt]
  | succ k ih =>
    rw [endAt, padOf_list, ih]
    by_cases h : k < s.size
    · have h1 : min (k + 1) s.size = k + 1 := by omega
      have h2 : min k s.size = k := by omega
      rw [h1, h2, endAt, List.getD_eq_getElem?_getD, List.getElem?_append_left (by omega), ← List.getD_eq_getElem?_getD]
    · have h1 : min (k + 1) s.size = s.size := by omega
      have h2 : min k s.size = s.size := by omega
      have h3 : (s.data.toList ++ List.replicate (n - s.size) 0).getD k 0 = 0 := by
        rw [List.getD_eq_getElem?_getD, List.getElem?_append_right (by omega), List.getElem?_replicate]
        split <;> rfl
      rw [h1, h2, h3]
      simp

theorem trimOf_pad (s : ByteArray) (n : Nat) (h : s.size ≤ n) : trimOf (padOf s n) = trimOf s := by
  have e2 : s.data.toList.length = s.size := rfl
  have hle := endAt_le s s.size
  unfold trimOf
  rw [padOf_size s n h, endAt_pad, Nat.min_eq_right h]
  apply ByteArray.ext
  apply Array.toList_inj.1
  rw [Lib.extract_data, Lib.extract_data, padOf_list, List.drop_zero, List.drop_zero, List.take_append_of_le_length (by omega)]

end Go.Proofs.Ythohopbolalpcaa
