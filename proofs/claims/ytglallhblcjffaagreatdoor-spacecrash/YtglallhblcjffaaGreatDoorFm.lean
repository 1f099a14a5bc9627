/-
  The space's form: where its map is, its mark, its pages, its bits.
-/
import Derived.Test.YtglallhblcjffaaGreatDoorJn
import Derived.Test.YtglallhblcjffaaGreatDoorCk
import Derived.Test.YtglallhblcjffaaGreatDoorEt
import Derived.Deep.QuietTactic
import Derived.BigQuiet
namespace Go.Proofs.YtglallhblcjffaaGreatDoor.Nu
open Go.RowKit
set_option linter.unusedVariables false
set_option maxRecDepth 100000
/-- What Set answers: s, in which the bytes from p on are n's. -/
def setOf (s : ByteArray) (p n c : Nat) : ByteArray := s.extract 0 p ++ ⟨(be n c).toArray⟩ ++ s.extract (p + c) s.size
set_option maxHeartbeats 400000 in
theorem set_ok (s : ByteArray) (p n c : Nat) (w : World) (h1 : 1 ≤ c) (h2 : c ≤ 8) (hn : n < 256 ^ c) (hs : s.size ≤ maxLen) (h : p + c ≤ s.size) :
    Calls Tryz.prog 126 #[.string s, .int .i64 p, .int .u64 n, .int .i64 c] w fun e w' => e = .returned (.tuple #[.string (setOf s p n c), .int .i64 0]) ∧ Below w.heap.size w w' := by
  have hs' := hs
  unfold maxLen at hs'
  have hlen := be_length n c
  go_enter Tryz.func126, Tryz.ntmps126
  go_wp2_with (first
    | (go_at_call 94; refine (put_ok n c _ h1 h2 hn).mono ?_; rintro e w1 ⟨rfl, hb⟩)
    | (go_at_call 151; refine (stands_yes s p c _ h2 hs h).mono ?_; rintro e w' ⟨rfl, rfl⟩))
  go_quiet (fail)
  go_wp2
  go_ret2
  exact ⟨rfl, hb.trans ((below_drewN _ _).mono hb.size)⟩
end Go.Proofs.YtglallhblcjffaaGreatDoor.Nu
namespace Go.Proofs.YtglallhblcjffaaGreatDoor
open Go.RowKit
set_option linter.unusedVariables false
set_option linter.unusedSimpArgs false
set_option maxRecDepth 100000

/-! ## bits -/
def byteAt (b : ByteArray) (k : Nat) : Nat := (b.data.toList.getD k 0).toNat
/-- is the i-th bit 1? -/
def hasB (b : ByteArray) (i : Nat) : Bool := (byteAt b (i / 8)).testBit (i % 8)
/-- a byte with a bit set, or not -/
def wb (x k : Nat) (t : Bool) : Nat := x - (if x.testBit k then 2 ^ k else 0) + (if t then 2 ^ k else 0)
def withB (b : ByteArray) (i : Nat) (t : Bool) : ByteArray := Nu.setOf b (i / 8) (wb (byteAt b (i / 8)) (i % 8) t) 1
theorem byteAt_lt (b : ByteArray) (k : Nat) : byteAt b k < 256 := by unfold byteAt; exact UInt8.toNat_lt _
theorem bit_and : ∀ x : Fin 256, ∀ k : Fin 8, (bits BinOp.and IntKind.u8 ((x.val : Int) / 2 ^ k.val) 1 == 1) = x.val.testBit k.val := by decide +kernel
theorem bit_put : ∀ x : Fin 256, ∀ k : Fin 8, bits BinOp.or IntKind.u8 (bits BinOp.andNot IntKind.u8 (x.val : Int) (2 ^ k.val % 256)) (2 ^ k.val % 256) = (wb x.val k.val true : Nat) := by decide +kernel
theorem bit_out : ∀ x : Fin 256, ∀ k : Fin 8, bits BinOp.andNot IntKind.u8 (x.val : Int) (2 ^ k.val % 256) = (wb x.val k.val false : Nat) := by decide +kernel
theorem wb_lt : ∀ x : Fin 256, ∀ k : Fin 8, ∀ t : Bool, wb x.val k.val t < 256 := by decide +kernel
theorem wb_bit : ∀ x : Fin 256, ∀ k j : Fin 8, ∀ t : Bool, (wb x.val k.val t).testBit j.val = if j = k then t else x.val.testBit j.val := by decide +kernel

theorem getB (b : ByteArray) (k : Nat) (h : k < b.size) : (b[k]'h).toNat = byteAt b k := by
  unfold byteAt
  have h1 : k < b.data.toList.length := by simpa using h
  rw [List.getD_eq_getElem?_getD, List.getElem?_eq_getElem h1]
  rfl
theorem setOf_list (b : ByteArray) (p n : Nat) (hp : p < b.size) : (Nu.setOf b p n 1).data.toList = b.data.toList.take p ++ [UInt8.ofNat n] ++ b.data.toList.drop (p + 1) := by
  have e1 : Nu.be n 1 = [UInt8.ofNat n] := rfl
  have hs : b.size = b.data.size := rfl
  unfold Nu.setOf
  rw [e1, ByteArray.data_append, ByteArray.data_append, ByteArray.data_extract, ByteArray.data_extract, Array.toList_append, Array.toList_append, Array.toList_extract, Array.toList_extract, List.extract_eq_take_drop, List.extract_eq_take_drop]
  simp only [List.drop_zero, Nat.sub_zero]
  congr 1
  rw [hs, List.take_of_length_le (by simp)]
theorem setOf_size (b : ByteArray) (p n : Nat) (hp : p < b.size) : (Nu.setOf b p n 1).size = b.size := by
  have h := congrArg List.length (setOf_list b p n hp)
  have e : ∀ s : ByteArray, s.size = s.data.toList.length := fun s => by simp
  rw [e, e, h]
  have := e b
  simp only [List.length_append, List.length_take, List.length_drop, List.length_singleton]
  omega
theorem byteAt_set (b : ByteArray) (p n k : Nat) (hp : p < b.size) (hn : n < 256) : byteAt (Nu.setOf b p n 1) k = if k = p then n else byteAt b k := by
  have e : b.size = b.data.toList.length := by simp
  unfold byteAt
  rw [setOf_list b p n hp, List.getD_eq_getElem?_getD, List.getD_eq_getElem?_getD]
  by_cases h : k = p
  · subst h
    have hl : (b.data.toList.take k).length = k := by rw [List.length_take]; omega
    rw [if_pos rfl, List.getElem?_append_left (by rw [List.length_append, hl]; simp), List.getElem?_append_right (by rw [hl]; exact Nat.le_refl _), hl, Nat.sub_self]
    simp
    omega
  · rw [if_neg h]
    by_cases h2 : k < p
    · rw [List.append_assoc, List.getElem?_append_left (by simp; omega), List.getElem?_take_of_lt h2]
    · rw [List.getElem?_append_right (by simp; omega), List.getElem?_drop]
      congr 3
      simp
      omega
theorem withB_size {b : ByteArray} {i : Nat} (hb : b.size = 256) (hi : i < 2048) (t : Bool) : (withB b i t).size = 256 := by
  unfold withB
  rw [setOf_size _ _ _ (by omega), hb]
theorem hasB_with {b : ByteArray} {i : Nat} (hb : b.size = 256) (hi : i < 2048) (t : Bool) (j : Nat) : hasB (withB b i t) j = if j = i then t else hasB b j := by
  have hx := byteAt_lt b (i / 8)
  have hw := wb_lt ⟨_, hx⟩ ⟨i % 8, by omega⟩ t
  unfold hasB withB
  rw [byteAt_set _ _ _ _ (by omega) hw]
  by_cases h : j / 8 = i / 8
  · rw [if_pos h]
    have := wb_bit ⟨_, hx⟩ ⟨i % 8, by omega⟩ ⟨j % 8, by omega⟩ t
    simp only [Fin.mk.injEq] at this
    rw [this, h]
    by_cases h2 : j % 8 = i % 8
    · rw [if_pos h2, if_pos (by omega)]
    · rw [if_neg h2, if_neg (by intro e; subst e; exact h2 rfl)]
  · rw [if_neg h, if_neg (by intro e; subst e; exact h rfl)]

theorem bhas_any (b : ByteArray) (i : Nat) (hb : b.size = 256) (hi : i < 2048) (w : World) : Calls Tryz.prog 83 #[.string b, .int .i64 (i : Nat)] w fun e w' => e = .returned (.bool (hasB b i)) ∧ w = w' := by
  have h3 : ((i / 8 : Nat) : Int) < 256 := by omega
  have HX : Hid (∀ h, (bits BinOp.and IntKind.u8 (((b[i / 8]'h).toNat : Int) / 2 ^ (i % 8)) 1 == 1) = hasB b i) := fun h => by
    rw [getB b _ h]
    exact bit_and ⟨_, byteAt_lt b (i / 8)⟩ ⟨i % 8, by omega⟩
  go_enter Tryz.func83, Tryz.ntmps83
  go_wp2
  rw [HX.out]
  go_ret
  exact ⟨rfl, rfl⟩
set_option maxHeartbeats 1000000 in
theorem bwith_any (b : ByteArray) (i : Nat) (t : Bool) (hb : b.size = 256) (hi : i < 2048) (w : World) : Calls Tryz.prog 85 #[.string b, .int .i64 (i : Nat), .bool t] w fun e w' => e = .returned (.string (withB b i t)) ∧ Below w.heap.size w w' := by
  have h3 : ((i / 8 : Nat) : Int) < 256 := by omega
  have hx := byteAt_lt b (i / 8)
  have hw := wb_lt ⟨_, hx⟩ ⟨i % 8, by omega⟩ t
  have hst := Nu.set_ok b (i / 8) (wb (byteAt b (i / 8)) (i % 8) t) 1 w (by decide) (by decide) (by simpa using hw) (by rw [hb]; decide) (by omega)
  have HST := hid hst
  clear hst
  cases t with
  | true =>
    have HX : Hid (∀ h, bits BinOp.or IntKind.u8 (bits BinOp.andNot IntKind.u8 (((b[i / 8]'h).toNat : Int)) (2 ^ (i % 8) % 256)) (2 ^ (i % 8) % 256) = ((wb (byteAt b (i / 8)) (i % 8) true : Nat) : Int)) := fun h => by
      rw [getB b _ h]
      exact bit_put ⟨_, hx⟩ ⟨i % 8, by omega⟩
    have hw2 : wb (byteAt b (i / 8)) (i % 8) true < 256 := hw
    have HW : Hid (IntKind.u64.wrap ((wb (byteAt b (i / 8)) (i % 8) true : Nat) : Int) = ((wb (byteAt b (i / 8)) (i % 8) true : Nat) : Int)) := by show _ = _; rw [IntKind.wrap_u64]; omega
    clear hw hx
    go_enter Tryz.func85, Tryz.ntmps85
    go_wp2_with fail
    rw [HX.out, HW.out]
    go_wp2_with (go_at_call 126; refine HST.out.mono ?_; clear HST; rintro e w1 ⟨rfl, hb1⟩)
    go_ret
    exact ⟨rfl, hb1⟩
  | false =>
    have HX : Hid (∀ h, bits BinOp.andNot IntKind.u8 (((b[i / 8]'h).toNat : Int)) (2 ^ (i % 8) % 256) = ((wb (byteAt b (i / 8)) (i % 8) false : Nat) : Int)) := fun h => by
      rw [getB b _ h]
      exact bit_out ⟨_, hx⟩ ⟨i % 8, by omega⟩
    have hw2 : wb (byteAt b (i / 8)) (i % 8) false < 256 := hw
    have HW : Hid (IntKind.u64.wrap ((wb (byteAt b (i / 8)) (i % 8) false : Nat) : Int) = ((wb (byteAt b (i / 8)) (i % 8) false : Nat) : Int)) := by show _ = _; rw [IntKind.wrap_u64]; omega
    clear hw hx
    go_enter Tryz.func85, Tryz.ntmps85
    go_wp2_with fail
    rw [HX.out, HW.out]
    go_wp2_with (go_at_call 126; refine HST.out.mono ?_; clear HST; rintro e w1 ⟨rfl, hb1⟩)
    go_ret
    exact ⟨rfl, hb1⟩
end Go.Proofs.YtglallhblcjffaaGreatDoor
