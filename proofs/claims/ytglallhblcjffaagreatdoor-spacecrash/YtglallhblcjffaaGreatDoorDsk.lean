/-
  What the program's small calls answer: mayHave, isBlock, refuses, begin, Len, Down, Cut, Restore, Read; of a nil disk, too.
-/
import Derived.Test.YtglallhblcjffaaGreatDoorApp
import Derived.Test.YtglallhblcjffaaGreatDoorRep
namespace Go.Proofs.YtglallhblcjffaaGreatDoor
open Go.RowKit
set_option linter.unusedVariables false
set_option linter.unusedSimpArgs false
set_option maxRecDepth 100000

/-- a write that was done -/
structure Pg where
  pl : Int
  data : ByteArray
/-- a disk -/
structure Ds where
  bs : List ByteArray
  lg : List Pg
  lf : Int
  dn : Bool
def Ds.out (d : Ds) (a : Int) : Prop := a < 0 ∨ (d.bs.length : Int) ≤ a
instance (d : Ds) (a : Int) : Decidable (d.out a) := by unfold Ds.out; infer_instance
/-- why it isn't read -/
def Ds.rdE (d : Ds) (a : Int) : Nat := if d.dn = true then 17 else if d.out a then 1 else 0
def Ds.rdS (d : Ds) (a : Int) : ByteArray := if d.rdE a = 0 then d.bs.getD a.toNat ⟨#[]⟩ else ⟨#[]⟩
/-- what a write answers -/
def Ds.wrE (d : Ds) (a : Int) (s : ByteArray) : Nat := if d.dn = true then 17 else if d.out a then 1 else if ¬ s.size = 256 then 3 else if d.lf = 0 then 17 else 0
/-- and what it leaves -/
def Ds.put (d : Ds) (a : Int) (s : ByteArray) : Ds := { d with bs := d.bs.set a.toNat s, lg := d.lg ++ [⟨a, s⟩], lf := if 0 < d.lf then d.lf - 1 else d.lf }
def Ds.wr (d : Ds) (a : Int) (s : ByteArray) : Ds := if d.dn = true then d else if d.out a then d else if ¬ s.size = 256 then d else if d.lf = 0 then { d with dn := true } else d.put a s

theorem Ds.rdE_down {d : Ds} (a : Int) (h : d.dn = true) : d.rdE a = 17 := by unfold Ds.rdE; rw [if_pos h]
theorem Ds.rdE_out {d : Ds} {a : Int} (h : d.dn = false) (ho : d.out a) : d.rdE a = 1 := by unfold Ds.rdE; rw [if_neg (by rw [h]; decide), if_pos ho]
theorem Ds.rdE_in {d : Ds} {a : Int} (h : d.dn = false) (ho : ¬ d.out a) : d.rdE a = 0 := by unfold Ds.rdE; rw [if_neg (by rw [h]; decide), if_neg ho]
theorem Ds.rdE_zero {d : Ds} {a : Int} (h : d.rdE a = 0) : d.dn = false ∧ ¬ d.out a := by
  cases hd : d.dn with
  | true => rw [Ds.rdE_down a hd] at h; cases h
  | false =>
    refine ⟨rfl, fun ho => ?_⟩
    rw [Ds.rdE_out hd ho] at h
    cases h

structure Ds.Ok (d : Ds) : Prop where
  lo : 64 ≤ d.bs.length
  hi : d.bs.length ≤ 2048
  bs : ∀ s ∈ d.bs, s.size = 256
  lg : ∀ p ∈ d.lg, p.data.size = 256 ∧ 0 ≤ p.pl ∧ p.pl < d.bs.length
  lf : -9223372036854775808 ≤ d.lf ∧ d.lf ≤ 9223372036854775807

theorem Ds.Ok.put {d : Ds} (h : d.Ok) {a : Int} {s : ByteArray} (ho : ¬ d.out a) (hs : s.size = 256) : (d.put a s).Ok := by
  unfold Ds.out at ho
  refine ⟨?_, ?_, ?_, ?_, ?_⟩
  · simp only [Ds.put, List.length_set]; exact h.lo
  · simp only [Ds.put, List.length_set]; exact h.hi
  · intro t ht
    simp only [Ds.put] at ht
    rcases List.mem_or_eq_of_mem_set ht with h' | h'
    · exact h.bs t h'
    · rw [h']; exact hs
  · intro p hp
    simp only [Ds.put, List.length_set] at hp ⊢
    rcases List.mem_append.1 hp with h' | h'
    · exact h.lg p h'
    · simp only [List.mem_singleton] at h'
      rw [h']
      refine ⟨hs, ?_, ?_⟩ <;> simp only <;> omega
  · have := h.lf
    simp only [Ds.put]
    split <;> omega
theorem Ds.Ok.wr {d : Ds} (h : d.Ok) (a : Int) (s : ByteArray) : (d.wr a s).Ok := by
  unfold Ds.wr
  split
  · exact h
  split
  · exact h
  split
  · exact h
  split
  · exact ⟨h.lo, h.hi, h.bs, h.lg, h.lf⟩
  · rename_i h1 h2 h3
    exact h.put ‹_› (by simpa using h2)
theorem Ds.wr_len (d : Ds) (a : Int) (s : ByteArray) : (d.wr a s).bs.length = d.bs.length := by
  unfold Ds.wr
  split
  · rfl
  split
  · rfl
  split
  · rfl
  split
  · rfl
  · simp [Ds.put]
theorem Ds.wr_lg (d : Ds) (a : Int) (s : ByteArray) : (d.wr a s).lg.length ≤ d.lg.length + 1 := by
  unfold Ds.wr
  split
  · omega
  split
  · omega
  split
  · omega
  split
  · simp
  · simp [Ds.put]

/-- writes, as they stand in memory -/
def flatP : List Pg → List Value
  | [] => []
  | p :: r => .int .i64 p.pl :: .string p.data :: flatP r
theorem flatP_length : ∀ L, (flatP L).length = L.length * 2
  | [] => rfl
  | c :: r => by simp only [flatP, List.length_cons, flatP_length r]; omega
theorem flatP_append : ∀ L M, flatP (L ++ M) = flatP L ++ flatP M
  | [], M => rfl
  | c :: r, M => by simp only [List.cons_append, flatP, flatP_append r M]
theorem flatP_even : ∀ (L : List Pg) (k : Nat), (flatP L)[k * 2]? = (L[k]?).map fun c => .int .i64 c.pl
  | [], k => by simp [flatP]
  | c :: r, 0 => rfl
  | c :: r, k + 1 => by
    rw [show (k + 1) * 2 = k * 2 + 1 + 1 by omega]
    simp only [flatP, List.getElem?_cons_succ]
    exact flatP_even r k
theorem flatP_odd : ∀ (L : List Pg) (k : Nat), (flatP L)[k * 2 + 1]? = (L[k]?).map fun c => .string c.data
  | [], k => by simp [flatP]
  | c :: r, 0 => rfl
  | c :: r, k + 1 => by
    rw [show (k + 1) * 2 + 1 = k * 2 + 1 + 1 + 1 by omega]
    simp only [flatP, List.getElem?_cons_succ]
    exact flatP_odd r k
theorem flatP_one : ∀ L, ∀ u ∈ flatP L, u.oneCell' = true
  | [], u, h => by simp [flatP] at h
  | c :: r, u, h => by
    simp only [flatP, List.mem_cons] at h
    rcases h with rfl | rfl | h
    · rfl
    · rfl
    · exact flatP_one r u h
/-- texts, as they stand in memory -/
def flatS (L : List ByteArray) : List Value := L.map Value.string
theorem flatS_length (L : List ByteArray) : (flatS L).length = L.length * 1 := by simp [flatS]
theorem flatS_at {L : List ByteArray} {i : Nat} {s : ByteArray} (h : L[i]? = some s) : (flatS L)[i]? = some (.string s) := by simp [flatS, h]
theorem flatS_set (L : List ByteArray) (i : Nat) (s : ByteArray) : (flatS L).set i (.string s) = flatS (L.set i s) := by simp [flatS, List.map_set]
theorem flatS_one (L : List ByteArray) : ∀ u ∈ flatS L, u.oneCell' = true := by
  intro u hu
  obtain ⟨s, _, rfl⟩ := List.mem_map.1 hu
  rfl
theorem flatS_append (L M : List ByteArray) : flatS (L ++ M) = flatS L ++ flatS M := by simp [flatS]

/-- rows of texts, rows of writes -/
def RowS (w : World) (B : Nat) (v : Value) (L : List ByteArray) : Prop := w.ownsRow B 9 1 v L.length (flatS L)
def RowP (w : World) (B : Nat) (v : Value) (L : List Pg) : Prop := w.ownsRow B 101 2 v L.length (flatP L)
/-- all of v's block lies in S -/
def In (S : Nat → Prop) (v : Value) : Prop := ∀ g, v.ownBlock = some g → S g

/-- a disk of the program at block k, of which all lies in S -/
def Dk (w : World) (S : Nat → Prop) (k : Nat) (d : Ds) : Prop :=
  d.Ok ∧ (∀ j, S j → j < w.heap.size) ∧ S k ∧ ∃ bv lv, Blk w k #[bv, lv, .int .i64 d.lf, .bool d.dn] 87 ∧ RowS w 0 bv d.bs ∧ RowP w 0 lv d.lg ∧ In S bv ∧ In S lv
/-- what belongs to S behind a call belonged to it, or is new -/
def Grows (S S' : Nat → Prop) (w : World) : Prop := ∀ j, S' j → S j ∨ w.heap.size ≤ j

theorem Keep.dk {T S : Nat → Prop} {w w' : World} {k : Nat} {d : Ds} (h : Keep T w w') (hd : Dk w S k d) (hn : ∀ j, S j → ¬ T j) : Dk w' S k d := by
  obtain ⟨h1, h2, h3, bv, lv, h4, h5, h6, h7, h8⟩ := hd
  exact ⟨h1, fun j hj => Nat.lt_of_lt_of_le (h2 j hj) h.size, h3, bv, lv, h.blk h4 (hn k h3), h.row h5 (fun g hg => hn g (h7 g hg)), h.row h6 (fun g hg => hn g (h8 g hg)), h7, h8⟩
theorem Dk.on {S : Nat → Prop} {w w' : World} {k : Nat} {d : Ds} (hd : Dk w S k d) (h : Below w.heap.size w w') : Dk w' S k d :=
  (Keep.of_below (S := fun _ => False) h).dk hd (fun _ _ h => h)
theorem Grows.refl (S : Nat → Prop) (w : World) : Grows S S w := fun _ h => .inl h
theorem Grows.trans {S S' S'' : Nat → Prop} {w w' : World} (h : Grows S S' w) (h' : Grows S' S'' w') (hs : w.heap.size ≤ w'.heap.size) : Grows S S'' w := fun j hj =>
  (h' j hj).elim (fun x => h j x) (fun x => .inr (Nat.le_trans hs x))
theorem Dk.lt {S : Nat → Prop} {w : World} {k : Nat} {d : Ds} (hd : Dk w S k d) : ∀ j, S j → j < w.heap.size := hd.2.1
theorem Dk.ok {S : Nat → Prop} {w : World} {k : Nat} {d : Ds} (hd : Dk w S k d) : d.Ok := hd.1
theorem RowS.on {w w' : World} {B : Nat} {v : Value} {L : List ByteArray} (h : RowS w B v L) (hb : Below w.heap.size w w') : RowS w' B v L := own_below h hb
theorem RowP.on {w w' : World} {B : Nat} {v : Value} {L : List Pg} (h : RowP w B v L) (hb : Below w.heap.size w w') : RowP w' B v L := own_below h hb

/-- the cells of a disk's block turned, its rows not -/
theorem Dk.set {S : Nat → Prop} {w : World} {k : Nat} {d : Ds} (hd : Dk w S k d) {i : Nat} {v : Value} {d' : Ds} (hi : i = 2 ∧ v = .int .i64 d'.lf ∧ d' = { d with lf := d'.lf } ∨ i = 3 ∧ v = .bool d'.dn ∧ d' = { d with dn := d'.dn }) (hok : d'.Ok) : Dk (w.setCell ⟨k, i, none⟩ v) S k d' := by
  obtain ⟨h1, h2, h3, bv, lv, h4, h5, h6, h7, h8⟩ := hd
  have hg := set_grown w k i v
  have e1 : ∀ g, bv.ownBlock = some g → g ≠ k := fun g hg => h4.ne h5 (by decide) hg
  have e2 : ∀ g, lv.ownBlock = some g → g ≠ k := fun g hg => h4.ne h6 (by decide) hg
  have r5 : RowS (w.setCell ⟨k, i, none⟩ v) 0 bv d.bs := World.ownsRow.kept h5 hg (by
    cases e : bv.ownBlock with
    | none => exact .inl rfl
    | some g => exact .inr (fun x => e1 g e (Option.some.inj x)))
  have r6 : RowP (w.setCell ⟨k, i, none⟩ v) 0 lv d.lg := World.ownsRow.kept h6 hg (by
    cases e : lv.ownBlock with
    | none => exact .inl rfl
    | some g => exact .inr (fun x => e2 g e (Option.some.inj x)))
  rcases hi with ⟨rfl, rfl, e⟩ | ⟨rfl, rfl, e⟩
  · have hb := h4.set 2 (.int .i64 d'.lf)
    refine ⟨hok, fun j hj => by simpa [World.setCell] using h2 j hj, h3, bv, lv, ?_, ?_, ?_, h7, h8⟩
    · rw [e]; exact hb
    · rw [e]; exact r5
    · rw [e]; exact r6
  · have hb := h4.set 3 (.bool d'.dn)
    refine ⟨hok, fun j hj => by simpa [World.setCell] using h2 j hj, h3, bv, lv, ?_, ?_, ?_, h7, h8⟩
    · rw [e]; exact hb
    · rw [e]; exact r5
    · rw [e]; exact r6

theorem mayHave_any (n : Int) (w : World) : Calls Tryz.prog 45 #[.int .i64 n] w fun e w' => e = .returned (.bool (decide (64 ≤ n ∧ n ≤ 2048))) ∧ w = w' := by
  by_cases h1 : 64 ≤ n
  · by_cases h2 : n ≤ 2048
    · have hd : decide (64 ≤ n ∧ n ≤ 2048) = true := decide_eq_true ⟨h1, h2⟩
      rw [hd]
      clear hd
      go_enter Tryz.func45, Tryz.ntmps45
      go_wp2
      go_ret
      exact ⟨rfl, rfl⟩
    · have hd : decide (64 ≤ n ∧ n ≤ 2048) = false := decide_eq_false (fun h => h2 h.2)
      rw [hd]
      clear hd
      go_enter Tryz.func45, Tryz.ntmps45
      go_wp2
      go_ret
      exact ⟨rfl, rfl⟩
  · have hd : decide (64 ≤ n ∧ n ≤ 2048) = false := decide_eq_false (fun h => h1 h.1)
    have h3 : decide (64 ≤ n) = false := decide_eq_false h1
    rw [hd]
    clear hd
    go_enter Tryz.func45, Tryz.ntmps45
    go_wp2
    go_ret
    exact ⟨rfl, rfl⟩

theorem isBlock_any (s : ByteArray) (w : World) : Calls Tryz.prog 142 #[.string s] w fun e w' => e = .returned (.bool (decide (s.size = 256))) ∧ w = w' := by
  by_cases h : s.size = 256
  · have h2 : ((s.size : Int) == 256) = true := by simp; omega
    rw [decide_eq_true h]
    clear h
    go_enter Tryz.func142, Tryz.ntmps142
    go_wp2
    go_ret
    exact ⟨rfl, rfl⟩
  · have h2 : ((s.size : Int) == 256) = false := by simp; omega
    rw [decide_eq_false h]
    clear h
    go_enter Tryz.func142, Tryz.ntmps142
    go_wp2
    go_ret
    exact ⟨rfl, rfl⟩

theorem refuses_nil (a : Int) (w : World) : Calls Tryz.prog 96 #[.pointer none, .int .i64 a] w fun e w' => e = .returned (.int .i64 18) ∧ w = w' := by
  go_enter Tryz.func96, Tryz.ntmps96
  go_wp2
  go_ret
  exact ⟨rfl, rfl⟩

theorem refuses_any (a : Int) (w : World) (S : Nat → Prop) (k : Nat) (d : Ds) (hd : Dk w S k d) : Calls Tryz.prog 96 #[.pointer (some ⟨k, 0, none⟩), .int .i64 a] w fun e w' => e = .returned (.int .i64 (d.rdE a : Nat)) ∧ w = w' := by
  obtain ⟨ok, _, _, bv, lv, hb, h5, _⟩ := hd
  obtain ⟨ba, bc, hbv⟩ := own_form h5
  subst hbv
  have c0 : w.cell? ⟨k, 0, none⟩ = some (.slice ba d.bs.length bc) := hb.cell rfl
  have c3 : w.cell? ⟨k, 3, none⟩ = some (.bool d.dn) := hb.cell rfl
  have hl := ok.hi
  clear h5 hb ok
  cases hdn : d.dn with
  | true =>
    rw [hdn] at c3
    rw [Ds.rdE_down a hdn]
    go_enter Tryz.func96, Tryz.ntmps96
    go_wp2
    go_ret
    exact ⟨rfl, rfl⟩
  | false =>
    rw [hdn] at c3
    by_cases h1 : a < 0
    · have h2 : decide (a < 0) = true := decide_eq_true h1
      rw [Ds.rdE_out hdn (.inl h1)]
      go_enter Tryz.func96, Tryz.ntmps96
      go_wp2
      go_ret
      exact ⟨rfl, rfl⟩
    · have h2 : decide (a < 0) = false := decide_eq_false h1
      by_cases h3 : (d.bs.length : Int) ≤ a
      · rw [Ds.rdE_out hdn (.inr h3)]
        go_enter Tryz.func96, Tryz.ntmps96
        go_wp2
        go_ret
        exact ⟨rfl, rfl⟩
      · rw [Ds.rdE_in hdn (fun h => h.elim h1 h3)]
        go_enter Tryz.func96, Tryz.ntmps96
        go_wp2
        go_ret
        exact ⟨rfl, rfl⟩

theorem begin_any (bv : Value) (n c : Nat) (a : Option Addr) (hv : bv = .slice a n c) (w : World) : Calls Tryz.prog 47 #[bv] w fun e w' => e = .returned (.pointer (some ⟨w.heap.size, 0, none⟩)) ∧ w.alloc (.cells #[bv, .slice none 0 0, .int .i64 (-1), .bool false] 87) = w' := by
  subst hv
  go_enter Tryz.func47, Tryz.ntmps47
  go_wp2
  go_ret
  exact ⟨rfl, rfl⟩

theorem len_nil (w : World) : Calls Tryz.prog 61 #[.pointer none] w fun e w' => e = .returned (.int .i64 0) ∧ w = w' := by
  go_enter Tryz.func61, Tryz.ntmps61
  go_wp2
  go_ret
  exact ⟨rfl, rfl⟩
theorem len_any (w : World) (S : Nat → Prop) (k : Nat) (d : Ds) (hd : Dk w S k d) : Calls Tryz.prog 61 #[.pointer (some ⟨k, 0, none⟩)] w fun e w' => e = .returned (.int .i64 (d.bs.length : Nat)) ∧ w = w' := by
  obtain ⟨ok, _, _, bv, lv, hb, h5, _⟩ := hd
  obtain ⟨ba, bc, hbv⟩ := own_form h5
  subst hbv
  have c0 := hb.cell (i := 0) rfl
  clear h5 hb
  go_enter Tryz.func61, Tryz.ntmps61
  go_wp2
  go_ret
  exact ⟨rfl, rfl⟩

theorem down_nil (w : World) : Calls Tryz.prog 86 #[.pointer none] w fun e w' => e = .returned (.bool false) ∧ w = w' := by
  go_enter Tryz.func86, Tryz.ntmps86
  go_wp2
  go_ret
  exact ⟨rfl, rfl⟩
theorem down_any (w : World) (S : Nat → Prop) (k : Nat) (d : Ds) (hd : Dk w S k d) : Calls Tryz.prog 86 #[.pointer (some ⟨k, 0, none⟩)] w fun e w' => e = .returned (.bool d.dn) ∧ w = w' := by
  obtain ⟨ok, _, _, bv, lv, hb, h5, _⟩ := hd
  have c3 := hb.cell (i := 3) rfl
  clear h5 hb
  go_enter Tryz.func86, Tryz.ntmps86
  go_wp2
  go_ret
  exact ⟨rfl, rfl⟩

theorem cut_nil (n : Int) (w : World) : Calls Tryz.prog 14 #[.pointer none, .int .i64 n] w fun e w' => e = .returned (.tuple #[]) ∧ w = w' := by
  go_enter Tryz.func14, Tryz.ntmps14
  go_wp2
  go_end0
  exact ⟨rfl, rfl⟩
theorem cut_any (n : Int) (hn : -9223372036854775808 ≤ n ∧ n ≤ 9223372036854775807) (w : World) (S : Nat → Prop) (k : Nat) (d : Ds) (hd : Dk w S k d) : Calls Tryz.prog 14 #[.pointer (some ⟨k, 0, none⟩), .int .i64 n] w fun e w' => e = .returned (.tuple #[]) ∧ Dk w' S k { d with lf := n } ∧ Keep S w w' := by
  have HD := hid (hd.set (i := 2) (v := .int .i64 n) (d' := { d with lf := n }) (.inl ⟨rfl, rfl, rfl⟩) ⟨hd.1.lo, hd.1.hi, hd.1.bs, hd.1.lg, hn⟩)
  have HK := hid (Keep.set (S := S) w hd.2.2.1 2 (.int .i64 n))
  obtain ⟨ok, _, _, bv, lv, hb, h5, _⟩ := hd
  have c2 := hb.cell (i := 2) rfl
  have f2 := hb.free 2
  clear h5 hb ok
  go_enter Tryz.func14, Tryz.ntmps14
  go_wp2
  go_end0
  exact ⟨rfl, HD.out, HK.out⟩

theorem restore_nil (w : World) : Calls Tryz.prog 16 #[.pointer none] w fun e w' => e = .returned (.tuple #[]) ∧ w = w' := by
  go_enter Tryz.func16, Tryz.ntmps16
  go_wp2
  go_end0
  exact ⟨rfl, rfl⟩
theorem restore_any (w : World) (S : Nat → Prop) (k : Nat) (d : Ds) (hd : Dk w S k d) : Calls Tryz.prog 16 #[.pointer (some ⟨k, 0, none⟩)] w fun e w' => e = .returned (.tuple #[]) ∧ Dk w' S k { d with lf := -1, dn := false } ∧ Keep S w w' := by
  have hd1 := hd.set (i := 3) (v := .bool false) (d' := { d with dn := false }) (.inr ⟨rfl, rfl, rfl⟩) ⟨hd.1.lo, hd.1.hi, hd.1.bs, hd.1.lg, hd.1.lf⟩
  have HD := hid (hd1.set (i := 2) (v := .int .i64 (-1)) (d' := { d with lf := -1, dn := false }) (.inl ⟨rfl, rfl, rfl⟩) ⟨hd.1.lo, hd.1.hi, hd.1.bs, hd.1.lg, by simp only; omega⟩)
  have HK := hid ((Keep.set (S := S) w hd.2.2.1 3 (.bool false)).trans (Keep.set (S := S) (w.setCell ⟨k, 3, none⟩ (.bool false)) hd.2.2.1 2 (.int .i64 (-1))) (fun _ _ h => h))
  obtain ⟨ok, _, _, bv, lv, hb, h5, _⟩ := hd
  have c3 := hb.cell (i := 3) rfl
  have f3 := hb.free 3
  have hb2 := hb.set 3 (.bool false)
  have c2 := hb2.cell (i := 2) rfl
  have f2 := hb2.free 2
  clear h5 hb ok hd1 hb2
  go_enter Tryz.func16, Tryz.ntmps16
  go_wp2
  go_end0
  exact ⟨rfl, HD.out, HK.out⟩

theorem read_nil (a : Int) (w : World) : Calls Tryz.prog 63 #[.pointer none, .int .i64 a] w fun e w' => e = .returned (.tuple #[.string ⟨#[]⟩, .int .i64 18]) ∧ w = w' := by
  go_enter Tryz.func63, Tryz.ntmps63
  go_wp2_with (go_at_call 96; refine (refuses_nil a w).mono ?_; rintro e w1 ⟨rfl, rfl⟩)
  go_ret2
  exact ⟨rfl, rfl⟩

theorem read_any (a : Int) (w : World) (S : Nat → Prop) (k : Nat) (d : Ds) (hd : Dk w S k d) : Calls Tryz.prog 63 #[.pointer (some ⟨k, 0, none⟩), .int .i64 a] w fun e w' => e = .returned (.tuple #[.string (d.rdS a), .int .i64 (d.rdE a : Nat)]) ∧ Below w.heap.size w w' := by
  have hr := refuses_any a w S k d hd
  obtain ⟨ok, _, _, bv, lv, hb, h5, _⟩ := hd
  have c0 : w.cell? ⟨k, 0, none⟩ = some bv := hb.cell rfl
  by_cases h0 : d.rdE a = 0
  · have hin := (Ds.rdE_zero h0).2
    unfold Ds.out at hin
    have hS : d.rdS a = d.bs.getD a.toNat ⟨#[]⟩ := by unfold Ds.rdS; rw [if_pos h0]
    rw [h0] at hr ⊢
    rw [hS]
    obtain ⟨g, bc, hbv, hc1, hc2, _, hgl⟩ := own_some h5 (by have := ok.lo; omega)
    subst hbv
    obtain ⟨n, rfl⟩ : ∃ n : Nat, a = (n : Int) := ⟨a.toNat, by omega⟩
    have hnl : n < d.bs.length := by omega
    obtain ⟨s, hs⟩ : ∃ s, d.bs[n]? = some s := ⟨_, List.getElem?_eq_getElem hnl⟩
    have hgd : d.bs.getD (n : Int).toNat ⟨#[]⟩ = s := by rw [Int.toNat_natCast, List.getD_eq_getElem?_getD, hs]; rfl
    rw [hgd]
    have hcl := clone_any s w (by rw [ok.bs s (List.mem_of_getElem? hs)]; decide)
    obtain ⟨_, _, e1, _, _, hcc⟩ := own_cells h5
    cases e1
    obtain ⟨g', hg', _, _, cs, _⟩ := hcc n (.string s) (flatS_at hs)
    cases hg'
    have hhi := ok.hi
    have hi : (n : Int) < (d.bs.length : Int) := by omega
    clear h5 hb ok hcc hgd hs hS h0 hin hnl
    generalize d.bs.length = m at c0 hhi hi hc1
    go_enter Tryz.func63, Tryz.ntmps63
    go_wp2_with (first
      | (go_at_call 96; refine hr.mono ?_; rintro e w1 ⟨rfl, rfl⟩)
      | (go_at_call 92; refine hcl.mono ?_; rintro e w2 ⟨rfl, hb2⟩))
    go_ret2
    exact ⟨rfl, hb2⟩
  · have hS : d.rdS a = ⟨#[]⟩ := by unfold Ds.rdS; rw [if_neg h0]
    rw [hS]
    obtain ⟨q, hq⟩ : ∃ q, d.rdE a = q := ⟨_, rfl⟩
    rw [hq] at hr h0 ⊢
    have hqn : ((q : Int) != 0) = true := by simp; omega
    have hqz : ¬ (q : Int) = 0 := by omega
    clear h5 hb ok hS hq
    go_enter Tryz.func63, Tryz.ntmps63
    go_wp2_with (go_at_call 96; refine hr.mono ?_; rintro e w1 ⟨rfl, rfl⟩)
    go_ret2
    exact ⟨rfl, Below.refl _ _⟩

end Go.Proofs.YtglallhblcjffaaGreatDoor
