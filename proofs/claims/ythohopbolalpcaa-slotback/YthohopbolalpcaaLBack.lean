/-
  SlotBack: what is packed is unpacked, and what is unpacked is packed as it was; any bucket, any bytes. No condition of its own.
-/
import Derived.Test.YthohopbolalpcaaRows
import Derived.Test.YthohopbolalpcaaSz
import Derived.ProofKit
import Derived.OpenShut
import Derived.ShutString
import Derived.ChangeOld
import Derived.Below
import Derived.SizedLaws
import Derived.Lib.SmallJoins
namespace Go.Proofs.Ythohopbolalpcaa
open Go.ChangeShapes Go.WideShapes Go.ChangeAt Go.RowKit Go.Joins
open Go.ChangeMaps (open_string shut_string)
set_option linter.unusedVariables false
set_option linter.unusedSimpArgs false
set_option maxRecDepth 100000

theorem slotBack_aa (b : Bk) (nv : Value) (s : ByteArray) (c : Bk) (z1 : s.size ≤ maxLen) (w : World) (hl : LiesN w nv b.nodes) (hz : b.nodes.length * 72 ≤ 140737488351232) (hk : SmN b.nodes) (h0 : bkE b = 0) (hc0 : bkE c = 0) (hc1 : (⟨(pageB c).toArray⟩ : ByteArray) = s) :
    Calls Try.prog 7 #[.agg #[.int .i64 b.depth, .int .i64 b.next, nv], .string s] w fun e w' => e = .returned (.bool true) ∧ Below w.heap.size w w' := by
  obtain ⟨na, nc, rfl, _⟩ := hl.form
  have HWK : Hid (∀ w1, _) := fun w1 => wakes_any w1
  have HL : Hid (∀ w1, Below w.heap.size w w1 → LiesN w1 (.slice na b.nodes.length nc) b.nodes) := fun w1 hb => hl.on hb
  have HCP : Hid (∀ w1, Below w.heap.size w w1 → Calls Try.prog 17 #[.agg #[.int .i64 b.depth, .int .i64 b.next, .slice na b.nodes.length nc]] w1 fun e w' => CopL b w1 e w') := fun w1 hb => copy_lies b _ w1 (hl.on hb) hz hk
  have HPK : Hid (∀ w1 v, LiesN w1 v b.nodes → Calls Try.prog 16 #[.agg #[.int .i64 b.depth, .int .i64 b.next, v]] w1 fun e w' => e = .returned (.tuple #[.string ⟨(pageB b).toArray⟩, .int .i64 0]) ∧ Below w1.heap.size w1 w') := fun w1 v h => pack_ok b v w1 h h0
  have HU1 : Hid (∀ w1, Calls Try.prog 19 #[.string ⟨(pageB b).toArray⟩] w1 fun e w' => UnpB b w1 e w') := fun w1 => unp_ok b h0 w1
  have HS1 : Hid (∀ w1 v u, LiesN w1 v b.nodes → LiesN w1 u b.nodes → Calls Try.prog 21 #[.agg #[.int .i64 b.depth, .int .i64 b.next, v], .agg #[.int .i64 b.depth, .int .i64 b.next, u]] w1 fun e w' => e = .returned (.bool true) ∧ Below w1.heap.size w1 w') := fun w1 v u h1 h2 => same_true b v u w1 h1 h2
  generalize (⟨(pageB b).toArray⟩ : ByteArray) = P at *
  have HU2 : Hid (∀ w1, Calls Try.prog 19 #[.string s] w1 fun e w' => UnpB c w1 e w') := fun w1 => by rw [← hc1]; exact unp_ok c hc0 w1
  have HP2 : Hid (∀ w1 v, LiesN w1 v c.nodes → Calls Try.prog 16 #[.agg #[.int .i64 c.depth, .int .i64 c.next, v]] w1 fun e w' => e = .returned (.tuple #[.string s, .int .i64 0]) ∧ Below w1.heap.size w1 w') := fun w1 v h => by rw [← hc1]; exact pack_ok c v w1 h hc0
  have hss : (s.toList == s.toList) = true := by simp
  have HB1 := hid ((Below.refl w.heap.size w).alloc (Nat.le_refl _) (.cells #[.int .i64 b.depth, .int .i64 b.next, .slice na b.nodes.length nc] 42))
  have HX1 := hid (Blk.made w #[.int .i64 b.depth, .int .i64 b.next, .slice na b.nodes.length nc] 42)
  obtain ⟨p, hp⟩ : ∃ p, w.heap.size = p := ⟨_, rfl⟩
  have HXB : Hid (∀ w1, Below (w.alloc (.cells #[.int .i64 b.depth, .int .i64 b.next, .slice na b.nodes.length nc] 42)).heap.size (w.alloc (.cells #[.int .i64 b.depth, .int .i64 b.next, .slice na b.nodes.length nc] 42)) w1 → Blk w1 p #[.int .i64 b.depth, .int .i64 b.next, .slice na b.nodes.length nc] 42 ∧ Below w.heap.size w w1) := fun w1 hb => ⟨by rw [← hp]; exact HX1.out.on hb HX1.out.lt, HB1.out.trans (hb.mono HB1.out.size)⟩
  clear hl HX1 h0 hc0 hc1
  go_enter Try.func7, Try.ntmps7
  go_wp2_with (first
    | (go_at_call 9; refine (HWK.out _).mono ?_; clear HWK; rintro e w1 ⟨rfl, hb1⟩; have HD1 := hid hb1; have hx1 := (HXB.out _ hb1).1; have c0 := hx1.cell (i := 0) rfl; have c1 := hx1.cell (i := 1) rfl; have c2 := hx1.cell (i := 2) rfl; have HW1 := hid (HXB.out _ hb1).2; clear hb1 hx1)
    | (go_at_call 17; refine (HCP.out _ HW1.out).mono ?_; clear HCP; rintro e w2 ⟨va, vc, rfl, hL2, hb2⟩; have HL2 := hid hL2; have HW2 := hid (HW1.out.trans (hb2.mono HW1.out.size)); have HD2 := hid (HD1.out.trans (hb2.mono HD1.out.size)); clear hL2 hb2)
    | (go_at_call 16; first | (refine (HPK.out _ _ HL2.out).mono ?_; clear HPK HL2; rintro e w3 ⟨rfl, hb3⟩; have HW3 := hid (HW2.out.trans (hb3.mono HW2.out.size)); have HD3 := hid (HD2.out.trans (hb3.mono HD2.out.size)); clear hb3) | (refine (HP2.out _ _ HL8.out).mono ?_; clear HP2; rintro e w9 ⟨rfl, hb9⟩; have HW9 := hid (HW8.out.trans (hb9.mono HW8.out.size)); clear hb9))
    | (go_at_call 19; first | (refine (HU1.out _).mono ?_; clear HU1; rintro e w4 ⟨ua, uc, M, rfl, hM4, hO4, hL4, hb4⟩; have HW4 := hid (HW3.out.trans (hb4.mono HW3.out.size)); have hd4 := HD3.out.trans (hb4.mono HD3.out.size); have hal := (Below.refl w4.heap.size w4).alloc (Nat.le_refl _) (.cells #[.int .i64 b.depth, .int .i64 b.next, .slice ua b.nodes.length uc] 42); have HD5 := hid (hd4.trans (hal.mono hd4.size)); have HW5 := hid (HW4.out.trans (hal.mono HW4.out.size)); have HL5 := hid (hL4.on hal); have hx5 := (HXB.out _ HD5.out).1; have e0 := hx5.cell (i := 0) rfl; have e1 := hx5.cell (i := 1) rfl; have e2 := hx5.cell (i := 2) rfl; clear hM4 hO4 hL4 hb4 hd4 hal hx5) | (refine (HU2.out _).mono ?_; clear HU2; rintro e w7 ⟨xa, xc, M7, rfl, hM7, hO7, hL7, hb7⟩; have HW7 := hid (HW6.out.trans (hb7.mono HW6.out.size)); have hal7 := (Below.refl w7.heap.size w7).alloc (Nat.le_refl _) (.cells #[.int .i64 c.depth, .int .i64 c.next, .slice xa c.nodes.length xc] 42); have HL8 := hid (hL7.on hal7); have HW8 := hid (HW7.out.trans (hal7.mono HW7.out.size)); clear hM7 hO7 hL7 hb7 hal7))
    | (go_at_call 21; (refine (HS1.out _ _ _ HL5.out (HL.out _ HW5.out)).mono ?_; clear HS1; rintro e w6 ⟨rfl, hb6⟩; have HW6 := hid (HW5.out.trans (hb6.mono HW5.out.size)); clear hb6)))
  go_ret
  exact ⟨rfl, HW9.out⟩
theorem slotBack_an (b : Bk) (nv : Value) (s : ByteArray) (z1 : s.size ≤ maxLen) (w : World) (hl : LiesN w nv b.nodes) (hz : b.nodes.length * 72 ≤ 140737488351232) (hk : SmN b.nodes) (h0 : bkE b = 0) (hn : ∀ b, bkE b = 0 → (⟨(pageB b).toArray⟩ : ByteArray) ≠ s) :
    Calls Try.prog 7 #[.agg #[.int .i64 b.depth, .int .i64 b.next, nv], .string s] w fun e w' => e = .returned (.bool true) ∧ Below w.heap.size w w' := by
  obtain ⟨na, nc, rfl, _⟩ := hl.form
  have HWK : Hid (∀ w1, _) := fun w1 => wakes_any w1
  have HL : Hid (∀ w1, Below w.heap.size w w1 → LiesN w1 (.slice na b.nodes.length nc) b.nodes) := fun w1 hb => hl.on hb
  have HCP : Hid (∀ w1, Below w.heap.size w w1 → Calls Try.prog 17 #[.agg #[.int .i64 b.depth, .int .i64 b.next, .slice na b.nodes.length nc]] w1 fun e w' => CopL b w1 e w') := fun w1 hb => copy_lies b _ w1 (hl.on hb) hz hk
  have HPK : Hid (∀ w1 v, LiesN w1 v b.nodes → Calls Try.prog 16 #[.agg #[.int .i64 b.depth, .int .i64 b.next, v]] w1 fun e w' => e = .returned (.tuple #[.string ⟨(pageB b).toArray⟩, .int .i64 0]) ∧ Below w1.heap.size w1 w') := fun w1 v h => pack_ok b v w1 h h0
  have HU1 : Hid (∀ w1, Calls Try.prog 19 #[.string ⟨(pageB b).toArray⟩] w1 fun e w' => UnpB b w1 e w') := fun w1 => unp_ok b h0 w1
  have HS1 : Hid (∀ w1 v u, LiesN w1 v b.nodes → LiesN w1 u b.nodes → Calls Try.prog 21 #[.agg #[.int .i64 b.depth, .int .i64 b.next, v], .agg #[.int .i64 b.depth, .int .i64 b.next, u]] w1 fun e w' => e = .returned (.bool true) ∧ Below w1.heap.size w1 w') := fun w1 v u h1 h2 => same_true b v u w1 h1 h2
  generalize (⟨(pageB b).toArray⟩ : ByteArray) = P at *
  have HU2 : Hid (∀ w1, Calls Try.prog 19 #[.string s] w1 fun e w' => e = .returned (.tuple #[.agg #[.int .i64 0, .int .i64 0, .slice none 0 0], .int .i64 3]) ∧ Below w1.heap.size w1 w') := fun w1 => unp_no s w1 z1 hn
  have HS2 : Hid (∀ w1, _) := fun w1 => same_zero w1
  have HB1 := hid ((Below.refl w.heap.size w).alloc (Nat.le_refl _) (.cells #[.int .i64 b.depth, .int .i64 b.next, .slice na b.nodes.length nc] 42))
  have HX1 := hid (Blk.made w #[.int .i64 b.depth, .int .i64 b.next, .slice na b.nodes.length nc] 42)
  obtain ⟨p, hp⟩ : ∃ p, w.heap.size = p := ⟨_, rfl⟩
  have HXB : Hid (∀ w1, Below (w.alloc (.cells #[.int .i64 b.depth, .int .i64 b.next, .slice na b.nodes.length nc] 42)).heap.size (w.alloc (.cells #[.int .i64 b.depth, .int .i64 b.next, .slice na b.nodes.length nc] 42)) w1 → Blk w1 p #[.int .i64 b.depth, .int .i64 b.next, .slice na b.nodes.length nc] 42 ∧ Below w.heap.size w w1) := fun w1 hb => ⟨by rw [← hp]; exact HX1.out.on hb HX1.out.lt, HB1.out.trans (hb.mono HB1.out.size)⟩
  clear hl HX1 h0 hn
  go_enter Try.func7, Try.ntmps7
  go_wp2_with (first
    | (go_at_call 9; refine (HWK.out _).mono ?_; clear HWK; rintro e w1 ⟨rfl, hb1⟩; have HD1 := hid hb1; have hx1 := (HXB.out _ hb1).1; have c0 := hx1.cell (i := 0) rfl; have c1 := hx1.cell (i := 1) rfl; have c2 := hx1.cell (i := 2) rfl; have HW1 := hid (HXB.out _ hb1).2; clear hb1 hx1)
    | (go_at_call 17; refine (HCP.out _ HW1.out).mono ?_; clear HCP; rintro e w2 ⟨va, vc, rfl, hL2, hb2⟩; have HL2 := hid hL2; have HW2 := hid (HW1.out.trans (hb2.mono HW1.out.size)); have HD2 := hid (HD1.out.trans (hb2.mono HD1.out.size)); clear hL2 hb2)
    | (go_at_call 16; first | (refine (HPK.out _ _ HL2.out).mono ?_; clear HPK HL2; rintro e w3 ⟨rfl, hb3⟩; have HW3 := hid (HW2.out.trans (hb3.mono HW2.out.size)); have HD3 := hid (HD2.out.trans (hb3.mono HD2.out.size)); clear hb3))
    | (go_at_call 19; first | (refine (HU1.out _).mono ?_; clear HU1; rintro e w4 ⟨ua, uc, M, rfl, hM4, hO4, hL4, hb4⟩; have HW4 := hid (HW3.out.trans (hb4.mono HW3.out.size)); have hd4 := HD3.out.trans (hb4.mono HD3.out.size); have hal := (Below.refl w4.heap.size w4).alloc (Nat.le_refl _) (.cells #[.int .i64 b.depth, .int .i64 b.next, .slice ua b.nodes.length uc] 42); have HD5 := hid (hd4.trans (hal.mono hd4.size)); have HW5 := hid (HW4.out.trans (hal.mono HW4.out.size)); have HL5 := hid (hL4.on hal); have hx5 := (HXB.out _ HD5.out).1; have e0 := hx5.cell (i := 0) rfl; have e1 := hx5.cell (i := 1) rfl; have e2 := hx5.cell (i := 2) rfl; clear hM4 hO4 hL4 hb4 hd4 hal hx5) | (refine (HU2.out _).mono ?_; clear HU2; rintro e w7 ⟨rfl, hb7⟩; have HW7 := hid (HW6.out.trans (hb7.mono HW6.out.size)); have hal7 := (Below.refl w7.heap.size w7).alloc (Nat.le_refl _) (.cells #[.int .i64 0, .int .i64 0, .slice none 0 0] 42); have HW8 := hid (HW7.out.trans (hal7.mono HW7.out.size)); clear hb7 hal7))
    | (go_at_call 21; first | (refine (HS1.out _ _ _ HL5.out (HL.out _ HW5.out)).mono ?_; clear HS1; rintro e w6 ⟨rfl, hb6⟩; have HW6 := hid (HW5.out.trans (hb6.mono HW5.out.size)); clear hb6) | (refine (HS2.out _).mono ?_; clear HS2; rintro e w9 ⟨rfl, hb9⟩; have HW9 := hid (HW8.out.trans (hb9.mono HW8.out.size)); clear hb9)))
  go_ret
  exact ⟨rfl, HW9.out⟩
theorem slotBack_na (b : Bk) (nv : Value) (s : ByteArray) (c : Bk) (z1 : s.size ≤ maxLen) (w : World) (hl : LiesN w nv b.nodes) (hz : b.nodes.length * 72 ≤ 140737488351232) (hk : SmN b.nodes) (h0 : bkE b ≠ 0) (hc0 : bkE c = 0) (hc1 : (⟨(pageB c).toArray⟩ : ByteArray) = s) :
    Calls Try.prog 7 #[.agg #[.int .i64 b.depth, .int .i64 b.next, nv], .string s] w fun e w' => e = .returned (.bool true) ∧ Below w.heap.size w w' := by
  obtain ⟨na, nc, rfl, _⟩ := hl.form
  have HWK : Hid (∀ w1, _) := fun w1 => wakes_any w1
  have HL : Hid (∀ w1, Below w.heap.size w w1 → LiesN w1 (.slice na b.nodes.length nc) b.nodes) := fun w1 hb => hl.on hb
  have HCP : Hid (∀ w1, Below w.heap.size w w1 → Calls Try.prog 17 #[.agg #[.int .i64 b.depth, .int .i64 b.next, .slice na b.nodes.length nc]] w1 fun e w' => CopL b w1 e w') := fun w1 hb => copy_lies b _ w1 (hl.on hb) hz hk
  have HPK : Hid (∀ w1 v, LiesN w1 v b.nodes → Calls Try.prog 16 #[.agg #[.int .i64 b.depth, .int .i64 b.next, v]] w1 fun e w' => e = .returned (.tuple #[.string ⟨#[]⟩, .int .i64 (bkE b : Nat)]) ∧ Below w1.heap.size w1 w') := fun w1 v h => by
    have := sPack_any b v w1 h
    rw [if_neg h0] at this
    exact this
  have hne : ((bkE b : Nat) : Int) ≠ 0 := by omega
  generalize bkE b = r at *
  have HU2 : Hid (∀ w1, Calls Try.prog 19 #[.string s] w1 fun e w' => UnpB c w1 e w') := fun w1 => by rw [← hc1]; exact unp_ok c hc0 w1
  have HP2 : Hid (∀ w1 v, LiesN w1 v c.nodes → Calls Try.prog 16 #[.agg #[.int .i64 c.depth, .int .i64 c.next, v]] w1 fun e w' => e = .returned (.tuple #[.string s, .int .i64 0]) ∧ Below w1.heap.size w1 w') := fun w1 v h => by rw [← hc1]; exact pack_ok c v w1 h hc0
  have hss : (s.toList == s.toList) = true := by simp
  have HB1 := hid ((Below.refl w.heap.size w).alloc (Nat.le_refl _) (.cells #[.int .i64 b.depth, .int .i64 b.next, .slice na b.nodes.length nc] 42))
  have HX1 := hid (Blk.made w #[.int .i64 b.depth, .int .i64 b.next, .slice na b.nodes.length nc] 42)
  obtain ⟨p, hp⟩ : ∃ p, w.heap.size = p := ⟨_, rfl⟩
  have HXB : Hid (∀ w1, Below (w.alloc (.cells #[.int .i64 b.depth, .int .i64 b.next, .slice na b.nodes.length nc] 42)).heap.size (w.alloc (.cells #[.int .i64 b.depth, .int .i64 b.next, .slice na b.nodes.length nc] 42)) w1 → Blk w1 p #[.int .i64 b.depth, .int .i64 b.next, .slice na b.nodes.length nc] 42 ∧ Below w.heap.size w w1) := fun w1 hb => ⟨by rw [← hp]; exact HX1.out.on hb HX1.out.lt, HB1.out.trans (hb.mono HB1.out.size)⟩
  clear hl HX1 h0 hc0 hc1
  go_enter Try.func7, Try.ntmps7
  go_wp2_with (first
    | (go_at_call 9; refine (HWK.out _).mono ?_; clear HWK; rintro e w1 ⟨rfl, hb1⟩; have HD1 := hid hb1; have hx1 := (HXB.out _ hb1).1; have c0 := hx1.cell (i := 0) rfl; have c1 := hx1.cell (i := 1) rfl; have c2 := hx1.cell (i := 2) rfl; have HW1 := hid (HXB.out _ hb1).2; clear hb1 hx1)
    | (go_at_call 17; refine (HCP.out _ HW1.out).mono ?_; clear HCP; rintro e w2 ⟨va, vc, rfl, hL2, hb2⟩; have HL2 := hid hL2; have HW2 := hid (HW1.out.trans (hb2.mono HW1.out.size)); have HD2 := hid (HD1.out.trans (hb2.mono HD1.out.size)); clear hL2 hb2)
    | (go_at_call 16; first | (refine (HPK.out _ _ HL2.out).mono ?_; clear HPK HL2; rintro e w3 ⟨rfl, hb3⟩; have HW3 := hid (HW2.out.trans (hb3.mono HW2.out.size)); have HD3 := hid (HD2.out.trans (hb3.mono HD2.out.size)); clear hb3) | (refine (HP2.out _ _ HL8.out).mono ?_; clear HP2; rintro e w9 ⟨rfl, hb9⟩; have HW9 := hid (HW8.out.trans (hb9.mono HW8.out.size)); clear hb9))
    | (go_at_call 19; first | (refine (HU2.out _).mono ?_; clear HU2; rintro e w7 ⟨xa, xc, M7, rfl, hM7, hO7, hL7, hb7⟩; have HW7 := hid (HW3.out.trans (hb7.mono HW3.out.size)); have hal7 := (Below.refl w7.heap.size w7).alloc (Nat.le_refl _) (.cells #[.int .i64 c.depth, .int .i64 c.next, .slice xa c.nodes.length xc] 42); have HL8 := hid (hL7.on hal7); have HW8 := hid (HW7.out.trans (hal7.mono HW7.out.size)); clear hM7 hO7 hL7 hb7 hal7)))
  go_ret
  exact ⟨rfl, HW9.out⟩
theorem slotBack_nn (b : Bk) (nv : Value) (s : ByteArray) (z1 : s.size ≤ maxLen) (w : World) (hl : LiesN w nv b.nodes) (hz : b.nodes.length * 72 ≤ 140737488351232) (hk : SmN b.nodes) (h0 : bkE b ≠ 0) (hn : ∀ b, bkE b = 0 → (⟨(pageB b).toArray⟩ : ByteArray) ≠ s) :
    Calls Try.prog 7 #[.agg #[.int .i64 b.depth, .int .i64 b.next, nv], .string s] w fun e w' => e = .returned (.bool true) ∧ Below w.heap.size w w' := by
  obtain ⟨na, nc, rfl, _⟩ := hl.form
  have HWK : Hid (∀ w1, _) := fun w1 => wakes_any w1
  have HL : Hid (∀ w1, Below w.heap.size w w1 → LiesN w1 (.slice na b.nodes.length nc) b.nodes) := fun w1 hb => hl.on hb
  have HCP : Hid (∀ w1, Below w.heap.size w w1 → Calls Try.prog 17 #[.agg #[.int .i64 b.depth, .int .i64 b.next, .slice na b.nodes.length nc]] w1 fun e w' => CopL b w1 e w') := fun w1 hb => copy_lies b _ w1 (hl.on hb) hz hk
  have HPK : Hid (∀ w1 v, LiesN w1 v b.nodes → Calls Try.prog 16 #[.agg #[.int .i64 b.depth, .int .i64 b.next, v]] w1 fun e w' => e = .returned (.tuple #[.string ⟨#[]⟩, .int .i64 (bkE b : Nat)]) ∧ Below w1.heap.size w1 w') := fun w1 v h => by
    have := sPack_any b v w1 h
    rw [if_neg h0] at this
    exact this
  have hne : ((bkE b : Nat) : Int) ≠ 0 := by omega
  generalize bkE b = r at *
  have HU2 : Hid (∀ w1, Calls Try.prog 19 #[.string s] w1 fun e w' => e = .returned (.tuple #[.agg #[.int .i64 0, .int .i64 0, .slice none 0 0], .int .i64 3]) ∧ Below w1.heap.size w1 w') := fun w1 => unp_no s w1 z1 hn
  have HS2 : Hid (∀ w1, _) := fun w1 => same_zero w1
  have HB1 := hid ((Below.refl w.heap.size w).alloc (Nat.le_refl _) (.cells #[.int .i64 b.depth, .int .i64 b.next, .slice na b.nodes.length nc] 42))
  have HX1 := hid (Blk.made w #[.int .i64 b.depth, .int .i64 b.next, .slice na b.nodes.length nc] 42)
  obtain ⟨p, hp⟩ : ∃ p, w.heap.size = p := ⟨_, rfl⟩
  have HXB : Hid (∀ w1, Below (w.alloc (.cells #[.int .i64 b.depth, .int .i64 b.next, .slice na b.nodes.length nc] 42)).heap.size (w.alloc (.cells #[.int .i64 b.depth, .int .i64 b.next, .slice na b.nodes.length nc] 42)) w1 → Blk w1 p #[.int .i64 b.depth, .int .i64 b.next, .slice na b.nodes.length nc] 42 ∧ Below w.heap.size w w1) := fun w1 hb => ⟨by rw [← hp]; exact HX1.out.on hb HX1.out.lt, HB1.out.trans (hb.mono HB1.out.size)⟩
  clear hl HX1 h0 hn
  go_enter Try.func7, Try.ntmps7
  go_wp2_with (first
    | (go_at_call 9; refine (HWK.out _).mono ?_; clear HWK; rintro e w1 ⟨rfl, hb1⟩; have HD1 := hid hb1; have hx1 := (HXB.out _ hb1).1; have c0 := hx1.cell (i := 0) rfl; have c1 := hx1.cell (i := 1) rfl; have c2 := hx1.cell (i := 2) rfl; have HW1 := hid (HXB.out _ hb1).2; clear hb1 hx1)
    | (go_at_call 17; refine (HCP.out _ HW1.out).mono ?_; clear HCP; rintro e w2 ⟨va, vc, rfl, hL2, hb2⟩; have HL2 := hid hL2; have HW2 := hid (HW1.out.trans (hb2.mono HW1.out.size)); have HD2 := hid (HD1.out.trans (hb2.mono HD1.out.size)); clear hL2 hb2)
    | (go_at_call 16; first | (refine (HPK.out _ _ HL2.out).mono ?_; clear HPK HL2; rintro e w3 ⟨rfl, hb3⟩; have HW3 := hid (HW2.out.trans (hb3.mono HW2.out.size)); have HD3 := hid (HD2.out.trans (hb3.mono HD2.out.size)); clear hb3))
    | (go_at_call 19; first | (refine (HU2.out _).mono ?_; clear HU2; rintro e w7 ⟨rfl, hb7⟩; have HW7 := hid (HW3.out.trans (hb7.mono HW3.out.size)); have hal7 := (Below.refl w7.heap.size w7).alloc (Nat.le_refl _) (.cells #[.int .i64 0, .int .i64 0, .slice none 0 0] 42); have HW8 := hid (HW7.out.trans (hal7.mono HW7.out.size)); clear hb7 hal7))
    | (go_at_call 21; (refine (HS2.out _).mono ?_; clear HS2; rintro e w9 ⟨rfl, hb9⟩; have HW9 := hid (HW8.out.trans (hb9.mono HW8.out.size)); clear hb9)))
  go_ret
  exact ⟨rfl, HW9.out⟩
theorem slotBack_walk (b : Bk) (nv : Value) (s : ByteArray) (z1 : s.size ≤ reachBytes) (w : World) (l0 : LiesN w nv b.nodes ∧ b.nodes.length * 72 ≤ 140737488351232 ∧ SmN b.nodes ∧ (-9223372036854775808 ≤ b.depth ∧ b.depth ≤ 9223372036854775807) ∧ (-9223372036854775808 ≤ b.next ∧ b.next ≤ 9223372036854775807)) :
    Calls Try.prog 7 #[.agg #[.int .i64 b.depth, .int .i64 b.next, nv], .string s] w fun e w' => e = .returned (.bool true) ∧ Below w.heap.size w w' := by
  have hr : reachBytes = 140737488351232 := rfl
  have hms : s.size ≤ maxLen := by unfold maxLen; omega
  obtain ⟨hl, hz, hk, _⟩ := l0
  by_cases h0 : bkE b = 0
  · by_cases hc : ∃ c, bkE c = 0 ∧ (⟨(pageB c).toArray⟩ : ByteArray) = s
    · obtain ⟨c, c0, c1⟩ := hc
      exact slotBack_aa b nv s c hms w hl hz hk h0 c0 c1
    · exact slotBack_an b nv s hms w hl hz hk h0 (fun c c0 c1 => hc ⟨c, c0, c1⟩)
  · by_cases hc : ∃ c, bkE c = 0 ∧ (⟨(pageB c).toArray⟩ : ByteArray) = s
    · obtain ⟨c, c0, c1⟩ := hc
      exact slotBack_na b nv s c hms w hl hz hk h0 c0 c1
    · exact slotBack_nn b nv s hms w hl hz hk h0 (fun c c0 c1 => hc ⟨c, c0, c1⟩)

theorem slotBack_own : ownKnob Try.prog.godebug = none := by kernel_rfl
theorem slotBack_laidOut : laidOutB Try.prog = true := by kernel_rfl

set_option maxRecDepth 100000 in
theorem slotBack_lifted (os : Os) (started : os.Started) (H : Type) (enc : TypeId × Value → H) :
    ReturnsInHanded {} Try.checked os 7 .any (Rows.slotBackSpec.pre6 enc Try.prog Try.f7 Rows.slotBackRow.domain false) (Rows.slotBackSpec.post enc Try.prog Try.f7 false true false false) := by
  refine returnsInHanded_of_change_sized (C := Try.checked) slotBack_own started (by kernel_rfl) Try.func7
    (ChangeSpec.witness6 (enc := enc) (C := Try.checked) false ⟨#[], #[.agg #[.int .i64 0, .int .i64 0, .slice none 0 0], .string ByteArray.empty], []⟩ 8 (by kernel_rfl) (by kernel_rfl) (by kernel_rfl) (by kernel_rfl)) ?_
  intro W base args ds gs before hval0 hW hcnd hsz0 _
  have hsz : (DataW.weightsEach Try.prog (Try.f7.params.toList ++ Rows.slotBackSpec.plain.varTypes Try.prog) (ds ++ gs)).all (· ≤ reachBytes) = true := hsz0
  have hval : ∀ (j : Nat) t v, Try.f7.params[j]? = some t → args[j]? = some v → Value.okWide Try.prog W .any base t v := hval0
  have hW' := hW
  obtain ⟨p, q, hA0, hV, rfl, hfz, hnd⟩ := hW
  have hA : DataW.TrodAll enc Try.prog W 0 (fun _ => true) true Try.f7.params.toList args.toList ds p := hA0
  rw [Try.params7] at hA hval hsz
  obtain ⟨v0, vs0, d0, ds0, p0, q0, hargs, rfl, rfl, h0, r0⟩ := trodAll_cons hA
  obtain ⟨v1, vs1, d1, ds1, p1, q1, rfl, rfl, rfl, h1, r1⟩ := trodAll_cons r0
  obtain ⟨rfl, rfl, rfl⟩ := trodAll_nil r1
  obtain rfl : args = #[v0, v1] := by cases args; simp_all
  obtain ⟨rfl, rfl⟩ := trodVars_none hV
  have k0 := h0
  have lt0 : ∀ x ∈ p0, x.block < W.heap.size := by obtain ⟨m, hm⟩ := k0; exact DataW.trod_lt m _ _ _ hm
  have k1 := h1
  have lt1 : ∀ x ∈ p1, x.block < W.heap.size := by obtain ⟨m, hm⟩ := k1; exact DataW.trod_lt m _ _ _ hm
  obtain ⟨B0, n0, rfl, l0⟩ := open_bucket (hval 0 42 v0 rfl rfl) h0 (fun n hn => by simpa using List.all_eq_true.1 hsz n (DataW.weights_mem_each (j := 0) (t := 42) rfl rfl n hn))
  obtain ⟨a1, rfl, rfl, rfl, w1⟩ := open_string Try.underlying9 (hval 1 9 v1 rfl rfl) h1
  have z1 : a1.size ≤ reachBytes := by have := sized_string hsz (j := 1) (t := 9) rfl rfl; simpa using this
  clear hA0 hval0
  refine (slotBack_walk B0 n0 a1 z1 W l0).mono fun e W' ⟨he, bel⟩ => ?_
  subst he
  exact ⟨_, rfl, _, _, _, [], _, [], hW', trodAll_mk1 (shut_bool Try.underlying4 _), (trodAll_cons_mk (Below.trod slotBack_laidOut (by kernel_rfl) (of_decide_eq_true (by kernel_rfl)) k0 bel lt0) (trodAll_cons_mk (Below.trod slotBack_laidOut (by kernel_rfl) (of_decide_eq_true (by kernel_rfl)) k1 bel lt1) trodAll_mk0)), rfl, bel.frame _, fun h => by cases h⟩

theorem slotBack_holds : Rows.SlotBackSaid :=
  OpenClaim.holds_of_wide 7 Try.f7 rfl rfl rfl rfl rfl rfl rfl ⟨rfl, rfl, rfl, rfl, rfl⟩ rfl rfl rfl rfl rfl (by kernel_rfl) Try.func7 (by kernel_rfl)
    (of_decide_eq_true (by kernel_rfl)) (by unfold Func.isWrapper; first | (rw [if_pos (by decide +kernel)]; kernel_rfl) | (rw [if_neg (by decide +kernel)]; exact ⟨rfl, rfl⟩))
    (fun os started H enc _ => slotBack_lifted os started H enc)

#print axioms slotBack_holds

end Go.Proofs.Ythohopbolalpcaa
