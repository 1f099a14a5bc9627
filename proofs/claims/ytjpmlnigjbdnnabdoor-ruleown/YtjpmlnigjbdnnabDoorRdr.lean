/-
  The reader in memory: what its small functions do.
-/
import Derived.Test.YtjpmlnigjbdnnabDoorOwn
import Derived.Test.YtjpmlnigjbdnnabDoorRead
import Derived.RegionTactic
import Derived.BigQuiet
import Derived.Deep.QuietTactic
import Derived.Deep.RegionLaw
namespace Go.Proofs.YtjpmlnigjbdnnabDoor
open Go.RowKit
set_option linter.unusedVariables false
set_option maxRecDepth 100000

theorem isS_nat (c : UInt8) : isS c = ((decide ((97 : Int) ≤ (c.toNat : Int)) && decide ((c.toNat : Int) ≤ 122)) || (decide ((65 : Int) ≤ (c.toNat : Int)) && decide ((c.toNat : Int) ≤ 90)) || (decide ((48 : Int) ≤ (c.toNat : Int)) && decide ((c.toNat : Int) ≤ 57))) := by
  unfold isS
  rw [sg_eq]
  unfold sgN
  generalize c.toNat = n
  by_cases h1 : 97 ≤ n ∧ n ≤ 122
  · rw [if_pos h1]
    have a1 : (97 : Int) ≤ n := by omega
    have a2 : (n : Int) ≤ 122 := by omega
    simp [a1, a2]
  · rw [if_neg h1]
    by_cases h2 : 65 ≤ n ∧ n ≤ 90
    · rw [if_pos h2]
      have a1 : (65 : Int) ≤ n := by omega
      have a2 : (n : Int) ≤ 90 := by omega
      simp [a1, a2]
    · rw [if_neg h2]
      by_cases h3 : 48 ≤ n ∧ n ≤ 57
      · rw [if_pos h3]
        have a1 : (48 : Int) ≤ n := by omega
        have a2 : (n : Int) ≤ 57 := by omega
        simp [a1, a2]
      · rw [if_neg h3]
        have e1 : (decide ((97 : Int) ≤ (n : Int)) && decide ((n : Int) ≤ 122)) = false := by simp; omega
        have e2 : (decide ((65 : Int) ≤ (n : Int)) && decide ((n : Int) ≤ 90)) = false := by simp; omega
        have e3 : (decide ((48 : Int) ≤ (n : Int)) && decide ((n : Int) ≤ 57)) = false := by simp; omega
        rw [e1, e2, e3]; rfl

theorem inName_any (c : UInt8) (w : World) :
    Calls Tryd.prog 73 #[.int .u8 (c.toNat : Int)] w fun e w' => e = .returned (.bool (isS c)) ∧ w = w' := by
  have HS : Hid (isS c = _) := isS_nat c
  have hc : c.toNat ≤ 255 := by have := c.toNat_lt; omega
  obtain ⟨r, hr⟩ : ∃ r, isS c = r := ⟨_, rfl⟩
  rw [hr] at HS ⊢
  generalize c.toNat = n at HS hc ⊢
  clear hr
  go_enter Tryd.func73, Tryd.ntmps73
  go_wp2
  all_goals go_ret
  all_goals (refine ⟨?_, rfl⟩; show Ending.returned (Value.bool _) = Ending.returned (Value.bool _); rw [HS.out]; congr 2; clear HS; grind)
/-- a reader at block b: its text, its place, its cells (v, a list of the call's own) -/
structure Rdr (w : World) (b : Nat) (s : ByteArray) (k : Nat) (v : Value) (L : List Cl) : Prop where
  blk : w.heap[b]? = some (.cells #[.string s, .int .i64 (k : Nat), v] 79 (0, 0))
  own : Owns w (b + 1) v L
  fine : Fine L

theorem Rdr.lt {w : World} {b : Nat} {s : ByteArray} {k : Nat} {v : Value} {L : List Cl} (h : Rdr w b s k v L) : b < w.heap.size := by
  rcases Nat.lt_or_ge b w.heap.size with h' | h'
  · exact h'
  · have := h.blk; rw [Array.getElem?_eq_none h'] at this; cases this
theorem Rdr.on {w w' : World} {b : Nat} {s : ByteArray} {k : Nat} {v : Value} {L : List Cl} (h : Rdr w b s k v L) (hb : Below w.heap.size w w') : Rdr w' b s k v L :=
  ⟨(hb.block b h.lt).trans h.blk, own_below h.own hb, h.fine⟩
theorem Rdr.c0 {w : World} {b : Nat} {s : ByteArray} {k : Nat} {v : Value} {L : List Cl} (h : Rdr w b s k v L) : w.cell? ⟨b, 0, none⟩ = some (.string s) := by rw [Lib.cell_of_heap h.blk]; rfl
theorem Rdr.c1 {w : World} {b : Nat} {s : ByteArray} {k : Nat} {v : Value} {L : List Cl} (h : Rdr w b s k v L) : w.cell? ⟨b, 1, none⟩ = some (.int .i64 (k : Nat)) := by rw [Lib.cell_of_heap h.blk]; rfl
theorem Rdr.c2 {w : World} {b : Nat} {s : ByteArray} {k : Nat} {v : Value} {L : List Cl} (h : Rdr w b s k v L) : w.cell? ⟨b, 2, none⟩ = some v := by rw [Lib.cell_of_heap h.blk]; rfl
theorem Rdr.fz {w : World} {b : Nat} {s : ByteArray} {k : Nat} {v : Value} {L : List Cl} (h : Rdr w b s k v L) (j : Nat) : w.frozen? ⟨b, j, none⟩ = false := Lib.frozen_of_heap h.blk j
theorem Rdr.cells {w : World} {b : Nat} {s : ByteArray} {k : Nat} {v : Value} {L : List Cl} (h : Rdr w b s k v L) : Lies w v L := h.own.lies h.fine

/-- the byte that stands at a place -/
def stand (s : ByteArray) (k : Nat) (c : UInt8) : Bool := decide (s.data.toList[k]? = some c)

theorem get_data (s : ByteArray) (k : Nat) (h : k < s.size) : s.data.toList[k]? = some s[k] := by
  have hk : k < s.data.toList.length := h
  rw [List.getElem?_eq_getElem hk]
  rfl

theorem below_drewN (w : World) (n : Nat) : Below w.heap.size w (w.drewN n) := ⟨rfl, rfl, rfl, Nat.le_refl _, fun _ _ => rfl⟩

theorem stands_any (w : World) (b : Nat) (s : ByteArray) (k : Nat) (v : Value) (L : List Cl) (c : UInt8) (h : Rdr w b s k v L) (hs : s.size ≤ 1024) :
    Calls Tryd.prog 65 #[.pointer (some ⟨b, 0, none⟩), .int .u8 (c.toNat : Int)] w fun e w' => e = .returned (.bool (stand s k c)) ∧ Below w.heap.size w w' := by
  have c0 := h.c0
  have c1 := h.c1
  have hbl : Below w.heap.size w w := Below.refl _ _
  by_cases hk : k < s.size
  · have hki : (k : Int) < (s.size : Int) := by omega
    have hd : decide ((k : Int) < (s.size : Int)) = true := decide_eq_true hki
    have HR : Hid (stand s k c = decide (s[k] = c)) := by
      show _ = _
      unfold stand
      rw [get_data s k hk]
      simp
    obtain ⟨r, hr⟩ : ∃ r, stand s k c = r := ⟨_, rfl⟩
    rw [hr] at HR ⊢
    have HR2 : Hid (r = ((s[k].toNat : Int) == (c.toNat : Int))) := by
      show _ = _
      rw [HR.out]
      by_cases e : s[k] = c
      · rw [e]; simp
      · have : ¬ s[k].toNat = c.toNat := fun e2 => e (UInt8.toNat_inj.1 e2)
        rw [decide_eq_false e]
        symm
        simp only [beq_eq_false_iff_ne]; omega
    clear HR hr
    go_enter Tryd.func65, Tryd.ntmps65
    go_wp2
    go_quiet (fail)
    go_wp2
    go_ret
    exact ⟨by rw [HR2.out]; rfl, below_drewN _ _⟩
  · have hki : ¬ (k : Int) < (s.size : Int) := by omega
    have hd : decide ((k : Int) < (s.size : Int)) = false := decide_eq_false hki
    have HR : Hid (stand s k c = false) := by
      show _ = _
      unfold stand
      rw [List.getElem?_eq_none (by rw [size_list]; omega)]
      simp
    go_enter Tryd.func65, Tryd.ntmps65
    go_wp2
    go_quiet (fail)
    go_wp2
    go_ret
    exact ⟨by rw [HR.out]; rfl, below_drewN _ _⟩

/-- the panic with which a reader gives up -/
def fl (k e : Nat) : List PanicEntry := [{ v := .iface 76 (.agg #[.int .i64 (k : Nat), .int .i64 (e : Nat)]), recovered := false }]

theorem giveUp_any (w : World) (b : Nat) (s : ByteArray) (k : Nat) (v : Value) (L : List Cl) (e : Nat) (h : Rdr w b s k v L) :
    Calls Tryd.prog 66 #[.pointer (some ⟨b, 0, none⟩), .int .i64 (e : Nat)] w fun x w' => x = .panicked (fl k e) ∧ w = w' := by
  have c1 := h.c1
  go_enter Tryd.func66, Tryd.ntmps66
  go_wp2
  exact ⟨rfl, rfl, rfl⟩

/-- what is wrong behind the n-th argument -/
def behindArg (s : ByteArray) (k : Nat) (n : Int) : Option Nat :=
  if stand s k 41 then none else if stand s k 44 then (if n = 4 then some 5 else none) else some 3
def endsAs (k : Nat) : Option Nat → Ending
  | none => .returned (.tuple #[])
  | some e => .panicked (fl k e)

theorem checkBehind_any (w : World) (b : Nat) (s : ByteArray) (k : Nat) (v : Value) (L : List Cl) (n : Int) (h : Rdr w b s k v L) (hs : s.size ≤ 1024) :
    Calls Tryd.prog 67 #[.pointer (some ⟨b, 0, none⟩), .int .i64 n] w fun x w' => x = endsAs k (behindArg s k n) ∧ Below w.heap.size w w' := by
  have H41 := stands_any w b s k v L 41 h hs
  have e41 : ((41 : UInt8).toNat : Int) = 41 := rfl
  have e44 : ((44 : UInt8).toNat : Int) = 44 := rfl
  have H44 : ∀ w1, Below w.heap.size w w1 → _ := fun w1 hb => stands_any w1 b s k v L 44 (h.on hb) hs
  have HG : ∀ w1 e, Below w.heap.size w w1 → _ := fun w1 e hb => giveUp_any w1 b s k v L e (h.on hb)
  rw [e41] at H41
  simp only [e44] at H44
  by_cases h1 : stand s k 41 = true
  · have HR : Hid (behindArg s k n = none) := by show _ = _; unfold behindArg; rw [if_pos h1]
    rw [h1] at H41
    clear h1 H44 HG
    go_enter Tryd.func67, Tryd.ntmps67
    go_wp2_with (go_at_call 65; refine H41.mono ?_; rintro e w1 ⟨rfl, hb1⟩)
    go_end0
    exact ⟨by rw [HR.out]; rfl, hb1⟩
  · have h1' : stand s k 41 = false := by simpa using h1
    rw [h1'] at H41
    by_cases h2 : stand s k 44 = true
    · rw [h2] at H44
      by_cases h3 : n = 4
      · have HR : Hid (behindArg s k n = some 5) := by show _ = _; unfold behindArg; rw [if_neg h1, if_pos h2, if_pos h3]
        subst h3
        clear h1 h1' h2
        go_enter Tryd.func67, Tryd.ntmps67
        go_wp2_with (first
          | (go_at_call_of 65 (Value.int IntKind.u8 41); refine H41.mono ?_; rintro e w1 ⟨rfl, hb1⟩)
          | (go_at_call_of 65 (Value.int IntKind.u8 44); refine (H44 _ hb1).mono ?_; rintro e w2 ⟨rfl, hb2⟩; replace hb2 := hb1.trans (hb2.mono hb1.size))
          | (go_at_call 66; refine (HG _ 5 hb2).mono ?_; rintro e w3 ⟨rfl, rfl⟩))
        exact ⟨rfl, by rw [HR.out]; rfl, hb2⟩
      · have HR : Hid (behindArg s k n = none) := by show _ = _; unfold behindArg; rw [if_neg h1, if_pos h2, if_neg h3]
        have h3b : (n == 4) = false := by simp only [beq_eq_false_iff_ne]; exact h3
        clear h1 h1' h2
        go_enter Tryd.func67, Tryd.ntmps67
        go_wp2_with (first
          | (go_at_call_of 65 (Value.int IntKind.u8 41); refine H41.mono ?_; rintro e w1 ⟨rfl, hb1⟩)
          | (go_at_call_of 65 (Value.int IntKind.u8 44); refine (H44 _ hb1).mono ?_; rintro e w2 ⟨rfl, hb2⟩; replace hb2 := hb1.trans (hb2.mono hb1.size)))
        go_end0
        exact ⟨by rw [HR.out]; rfl, hb2⟩
    · have h2' : stand s k 44 = false := by simpa using h2
      have HR : Hid (behindArg s k n = some 3) := by show _ = _; unfold behindArg; rw [if_neg h1, if_neg h2]
      rw [h2'] at H44
      clear h1 h1' h2 h2'
      go_enter Tryd.func67, Tryd.ntmps67
      go_wp2_with (first
        | (go_at_call_of 65 (Value.int IntKind.u8 41); refine H41.mono ?_; rintro e w1 ⟨rfl, hb1⟩)
        | (go_at_call_of 65 (Value.int IntKind.u8 44); refine (H44 _ hb1).mono ?_; rintro e w2 ⟨rfl, hb2⟩; replace hb2 := hb1.trans (hb2.mono hb1.size))
        | (go_at_call 66; refine (HG _ 3 hb2).mono ?_; rintro e w3 ⟨rfl, rfl⟩))
      exact ⟨rfl, by rw [HR.out]; rfl, hb2⟩

theorem readEnd_any (w : World) (b : Nat) (s : ByteArray) (k : Nat) (v : Value) (L : List Cl) (h : Rdr w b s k v L) (hs : s.size ≤ 1024) :
    Calls Tryd.prog 50 #[.pointer (some ⟨b, 0, none⟩)] w fun x w' => x = endsAs k (if k < s.size then some 3 else none) ∧ Below w.heap.size w w' := by
  have c0 := h.c0
  have c1 := h.c1
  have HG : ∀ w1 e, Below w.heap.size w w1 → _ := fun w1 e hb => giveUp_any w1 b s k v L e (h.on hb)
  by_cases hk : k < s.size
  · have hki : (k : Int) < (s.size : Int) := by omega
    have HR : Hid ((if k < s.size then some 3 else none) = some 3) := if_pos hk
    go_enter Tryd.func50, Tryd.ntmps50
    go_wp2
    go_quiet (fail)
    go_wp2_with (go_at_call 66; refine (HG _ 3 (below_drewN _ _)).mono ?_; rintro e w3 ⟨rfl, rfl⟩)
    exact ⟨rfl, rfl, below_drewN _ _⟩
  · have hki : ¬ (k : Int) < (s.size : Int) := by omega
    have HR : Hid ((if k < s.size then some 3 else none) = (none : Option Nat)) := if_neg hk
    go_enter Tryd.func50, Tryd.ntmps50
    go_wp2
    go_quiet (fail)
    go_wp2
    go_end0
    exact ⟨rfl, below_drewN _ _⟩

end Go.Proofs.YtjpmlnigjbdnnabDoor
