/-
  What the program's Parse answers.
-/
import Derived.Test.YtjpmlnigjbdnnaaDoorTerm
import Derived.Defers
import Derived.Recover
import Derived.Laws.Pointers
namespace Go.Proofs.YtjpmlnigjbdnnaaDoor
open Go.RowKit
set_option linter.unusedVariables false
set_option maxRecDepth 100000

theorem as_nil (W : World) : (Instr.typeAssert .nilIface 20 89 true).run Tryd.prog W = .ok (.tuple #[.agg #[.int .i64 0, .int .i64 0], .bool false]) W := by kernel_rfl
theorem as_fault (W : World) (v : Value) : (Instr.typeAssert (.iface 89 v) 20 89 true).run Tryd.prog W = .ok (.tuple #[v, .bool true]) W := by kernel_rfl

theorem catch_idle (b : Nat) (w : World) :
    CallsD Tryd.prog 71 #[.pointer (some ⟨b, 0, none⟩), .pointer (some ⟨b + 1, 0, none⟩), .pointer (some ⟨b + 1 + 1, 0, none⟩)] .returning w fun e u' w' => e = .returned (.tuple #[]) ∧ u' = .returning ∧ Below w.heap.size w w' := by
  have hb : ∀ o, Below w.heap.size w (w.alloc o) := fun o => (Below.refl _ w).alloc (Nat.le_refl _) o
  refine callsD_of_wpS Tryd.func71 rfl fun c₀ cs hu => ?_
  apply wpS_seq
  apply wpS_region
  simp [wpOpsS, go_sem, recoverD, hu, Tryd.ntmps71, Exit.thenS, as_nil, Array.replicate]
  refine wpS_of_wp ?_
  go_wp2
  cases c₀
  simp_all [bodyPostS, results, Tryd.results71]

theorem catch_fault (b : Nat) (w : World) (k e : Nat) (v0 v1 v2 : Value) (h0 : w.cell? ⟨b, 0, none⟩ = some v0) (h1 : w.cell? ⟨b + 1, 0, none⟩ = some v1) (h2 : w.cell? ⟨b + 1 + 1, 0, none⟩ = some v2)
    (z0 : w.frozen? ⟨b, 0, none⟩ = false) (z1 : w.frozen? ⟨b + 1, 0, none⟩ = false) (z2 : w.frozen? ⟨b + 1 + 1, 0, none⟩ = false) (hlt : b + 1 + 1 < w.heap.size) :
    CallsD Tryd.prog 71 #[.pointer (some ⟨b, 0, none⟩), .pointer (some ⟨b + 1, 0, none⟩), .pointer (some ⟨b + 1 + 1, 0, none⟩)] (.panicking (fl k e)) w fun x u' w' => x = .returned (.tuple #[]) ∧
      u' = .panicking [{ v := .iface 89 (.agg #[.int .i64 (k : Nat), .int .i64 (e : Nat)]), recovered := true }] ∧ w'.cell? ⟨b, 0, none⟩ = some (.slice none 0 0) ∧ w'.cell? ⟨b + 1, 0, none⟩ = some (.int .i64 (k : Nat)) ∧ w'.cell? ⟨b + 1 + 1, 0, none⟩ = some (.int .i64 (e : Nat)) ∧ Below b w w' := by
  unfold fl
  refine callsD_of_wpS Tryd.func71 rfl fun c₀ cs hu => ?_
  apply wpS_seq
  apply wpS_region
  simp [wpOpsS, go_sem, recoverD, hu, Tryd.ntmps71, Exit.thenS, as_fault, Array.replicate]
  refine wpS_of_wp ?_
  have hba := (Below.refl w.heap.size w).alloc (Nat.le_refl _) (.cells #[.int .i64 (k : Nat), .int .i64 (e : Nat)] 89)
  have g0 : (w.alloc (.cells #[.int .i64 (k : Nat), .int .i64 (e : Nat)] 89)).cell? ⟨b, 0, none⟩ = some v0 := (hba.cell (p := ⟨b, 0, none⟩) (by show b < _; omega)).trans h0
  have g1 : (w.alloc (.cells #[.int .i64 (k : Nat), .int .i64 (e : Nat)] 89)).cell? ⟨b + 1, 0, none⟩ = some v1 := (hba.cell (p := ⟨b + 1, 0, none⟩) (by show b + 1 < _; omega)).trans h1
  have g2 : (w.alloc (.cells #[.int .i64 (k : Nat), .int .i64 (e : Nat)] 89)).cell? ⟨b + 1 + 1, 0, none⟩ = some v2 := (hba.cell (p := ⟨b + 1 + 1, 0, none⟩) (by show b + 1 + 1 < _; omega)).trans h2
  have y0 : (w.alloc (.cells #[.int .i64 (k : Nat), .int .i64 (e : Nat)] 89)).frozen? ⟨b, 0, none⟩ = false := (hba.frozen (p := ⟨b, 0, none⟩) (by show b < _; omega)).trans z0
  have y1 : (w.alloc (.cells #[.int .i64 (k : Nat), .int .i64 (e : Nat)] 89)).frozen? ⟨b + 1, 0, none⟩ = false := (hba.frozen (p := ⟨b + 1, 0, none⟩) (by show b + 1 < _; omega)).trans z1
  have y2 : (w.alloc (.cells #[.int .i64 (k : Nat), .int .i64 (e : Nat)] 89)).frozen? ⟨b + 1 + 1, 0, none⟩ = false := (hba.frozen (p := ⟨b + 1 + 1, 0, none⟩) (by show b + 1 + 1 < _; omega)).trans z2
  have g3 : (w.alloc (.cells #[.int .i64 (k : Nat), .int .i64 (e : Nat)] 89)).cell? ⟨w.heap.size, 0, none⟩ = some (.int .i64 (k : Nat)) := by simp
  have g4 : (w.alloc (.cells #[.int .i64 (k : Nat), .int .i64 (e : Nat)] 89)).cell? ⟨w.heap.size, 1, none⟩ = some (.int .i64 (e : Nat)) := by simp
  have hbb : Below b w (w.alloc (.cells #[.int .i64 (k : Nat), .int .i64 (e : Nat)] 89)) := hba.mono (by omega)
  have hF0 : ¬ w.heap.size = b := by omega
  have hF1 : ¬ w.heap.size = b + 1 := by omega
  have hF2 : ¬ w.heap.size = b + 1 + 1 := by omega
  generalize w.alloc (.cells #[.int .i64 (k : Nat), .int .i64 (e : Nat)] 89) = W at g0 g1 g2 g3 g4 y0 y1 y2 hbb ⊢
  generalize w.heap.size = F at hF0 hF1 hF2 g3 g4 ⊢
  have HBB : Hid (Below b w W) := hbb
  clear hba h0 h1 h2 z0 z1 z2 hlt hbb
  go_wp2
  go_region
  have hw := (((HBB.out.setCell (p := ⟨b, 0, none⟩) (Nat.le_refl _) (.slice none 0 0)).setCell (p := ⟨b + 1, 0, none⟩) (Nat.le_succ _) (.int .i64 (k : Nat))).setCell (p := ⟨b + 1 + 1, 0, none⟩) (by show b ≤ b + 1 + 1; omega) (.int .i64 (e : Nat))).drew
  show bodyPostS _ _ _ _ _ _ _ _ _
  simp [bodyPostS, results, Tryd.results71, g0, g1, g2, go_sem]
  exact hw

/-- what a call answers that reads: a list, a place, an error -/
def Answers (w : World) (r : R) (x : Ending) (w' : World) : Prop :=
  match r with
  | .bad j e => x = .returned (.tuple #[.slice none 0 0, .int .i64 (j : Nat), .int .i64 (e : Nat)]) ∧ Below w.heap.size w w'
  | .ok M j => ∃ v, x = .returned (.tuple #[v, .int .i64 0, .int .i64 0]) ∧ Owns w' w.heap.size v M ∧ Fine M ∧ Below w.heap.size w w'

theorem parse_long (s : ByteArray) (w : World) (hs : 1024 < s.size) : Calls Tryd.prog 42 #[.string s] w fun x w' => Answers w (parse s) x w' := by
  have HP : Hid (parse s = .bad 0 2) := by show _ = _; unfold parse; rw [if_pos hs]
  generalize parse s = RES at HP ⊢
  have hsi : (1024 : Int) < (s.size : Int) := by omega
  have hmf : ∀ (fn : Fn) (first cap : Array Value) (w : World), (Instr.makeFunc fn first cap).run Tryd.prog w = .ok (.func fn first cap) w := fun _ _ _ _ => rfl
  go_enter_defers Tryd.func42, Tryd.ntmps42
  go_wp2
  have hw : Below w.heap.size w (((w.alloc (.cells #[.slice none 0 0] 23)).alloc (.cells #[.int .i64 0] 3)).alloc (.cells #[.int .i64 2] 27)) :=
    (((Below.refl _ w).alloc (Nat.le_refl _) _).alloc (by simp) _).alloc (by simp; omega) _
  simp [bodyPostD, Leaves, results, Tryd.results42, go_sem]
  rw [HP.out]
  exact ⟨rfl, hw⟩

/-- the world in which the reader begins -/
def W3 (w : World) : World := ((w.alloc (.cells #[.slice none 0 0] 23)).alloc (.cells #[.int .i64 0] 3)).alloc (.cells #[.int .i64 0] 27)
def W4 (w : World) (s : ByteArray) : World := (W3 w).alloc (.cells #[.string s, .int .i64 0, .slice none 0 0] 92)
theorem W3_size (w : World) : (W3 w).heap.size = w.heap.size + 1 + 1 + 1 := by simp [W3]
theorem W4_rdr (w : World) (s : ByteArray) : Rdr (W4 w s) (w.heap.size + 1 + 1 + 1) s 0 (.slice none 0 0) [] := by
  refine ⟨?_, World.ownsRow_nil _ _ _ _, fun c hc => by cases hc⟩
  unfold W4
  rw [← W3_size w]
  show ((W3 w).heap.push _)[_]? = _
  simp
theorem W3_below (w : World) : Below w.heap.size w (W3 w) := (((Below.refl _ w).alloc (Nat.le_refl _) _).alloc (by simp) _).alloc (by simp; omega) _
theorem W4_below (w : World) (s : ByteArray) : Below w.heap.size w (W4 w s) := (W3_below w).alloc (by rw [W3_size]; omega) _
/-- the three results' variables -/
structure Vars3 (w : World) (b : Nat) : Prop where
  h0 : w.heap[b]? = some (.cells #[.slice none 0 0] 23 (0, 0))
  h1 : w.heap[b + 1]? = some (.cells #[.int .i64 0] 3 (0, 0))
  h2 : w.heap[b + 1 + 1]? = some (.cells #[.int .i64 0] 27 (0, 0))
theorem W4_vars (w : World) (s : ByteArray) : Vars3 (W4 w s) w.heap.size := by
  refine ⟨?_, ?_, ?_⟩
  · show ((((w.heap.push _).push _).push _).push _)[w.heap.size]? = _
    simp only [Array.getElem?_push, Array.size_push]
    rw [if_neg (by omega), if_neg (by omega), if_neg (by omega), if_pos trivial]
  · show ((((w.heap.push _).push _).push _).push _)[w.heap.size + 1]? = _
    simp only [Array.getElem?_push, Array.size_push]
    rw [if_neg (by omega), if_neg (by omega), if_pos trivial]
  · show ((((w.heap.push _).push _).push _).push _)[w.heap.size + 1 + 1]? = _
    simp only [Array.getElem?_push, Array.size_push]
    rw [if_neg (by omega), if_pos trivial]
theorem Vars3.on {w w' : World} {b : Nat} (h : Vars3 w b) (hb : Below (b + 1 + 1 + 1) w w') : Vars3 w' b :=
  ⟨(hb.block _ (by omega)).trans h.h0, (hb.block _ (by omega)).trans h.h1, (hb.block _ (by omega)).trans h.h2⟩

theorem parse_bad (s : ByteArray) (w : World) (hs : s.size ≤ 1024) (j e : Nat) (h : rd s 65 0 [] = .bad j e) : Calls Tryd.prog 42 #[.string s] w fun x w' => Answers w (.bad j e) x w' := by
  have hmf : ∀ (fn : Fn) (first cap : Array Value) (w : World), (Instr.makeFunc fn first cap).run Tryd.prog w = .ok (.func fn first cap) w := fun _ _ _ _ => rfl
  have hsi : ¬ (1024 : Int) < (s.size : Int) := by omega
  have hrt := readTerm_any s hs 65 _ _ 0 _ _ (W4_rdr w s) (Nat.zero_le _) (by simp) (by simp)
  rw [h] at hrt
  have hrt2 : Calls Tryd.prog 72 #[.pointer (some ⟨w.heap.size + 1 + 1 + 1, 0, none⟩)] ((((w.alloc (.cells #[.slice none 0 0] 23)).alloc (.cells #[.int .i64 0] 3)).alloc (.cells #[.int .i64 0] 27)).alloc (.cells #[.string s, .int .i64 0, .slice none 0 0] 92))
      fun x w' => x = .panicked (fl j e) ∧ Below (w.heap.size + 1 + 1 + 1) (W4 w s) w' := hrt
  clear hrt h
  go_enter_defers Tryd.func42, Tryd.ntmps42
  go_wp2_with (go_at_call 72; refine hrt2.mono ?_; rintro x w1 ⟨rfl, hb1⟩)
  have hv := (W4_vars w s).on hb1
  have hlt : w.heap.size + 1 + 1 < w1.heap.size := by have := hb1.size; have := (W4_rdr w s).lt; omega
  refine leaves_cons (f := 71) (args := #[.pointer (some ⟨w.heap.size, 0, none⟩), .pointer (some ⟨w.heap.size + 1, 0, none⟩), .pointer (some ⟨w.heap.size + 1 + 1, 0, none⟩)]) (by simp) (by simp [go_sem]) ?_
  refine (catch_fault w.heap.size w1 j e (.slice none 0 0) (.int .i64 0) (.int .i64 0) (by rw [Lib.cell_of_heap hv.h0]; rfl) (by rw [Lib.cell_of_heap hv.h1]; rfl) (by rw [Lib.cell_of_heap hv.h2]; rfl) (Lib.frozen_of_heap hv.h0 0) (Lib.frozen_of_heap hv.h1 0) (Lib.frozen_of_heap hv.h2 0) hlt).mono ?_
  rintro x u' w'' ⟨rfl, rfl, q0, q1, q2, hb⟩
  have hfin : Below w.heap.size w w'' := ((W4_below w s).trans (hb1.mono (by omega))).trans hb
  simp [Leaves, settle, results, Tryd.results42, go_sem, q0, q1, q2]
  exact ⟨rfl, hfin⟩

theorem parse_ok (s : ByteArray) (w : World) (hs : s.size ≤ 1024) (M : List Cl) (j : Nat) (h : rd s 65 0 [] = .ok M j) : Calls Tryd.prog 42 #[.string s] w fun x w' => Answers w (if j < s.size then .bad j 3 else .ok M 0) x w' := by
  have hmf : ∀ (fn : Fn) (first cap : Array Value) (w : World), (Instr.makeFunc fn first cap).run Tryd.prog w = .ok (.func fn first cap) w := fun _ _ _ _ => rfl
  have hsi : ¬ (1024 : Int) < (s.size : Int) := by omega
  have hrt := readTerm_any s hs 65 _ _ 0 _ _ (W4_rdr w s) (Nat.zero_le _) (by simp) (by simp)
  rw [h] at hrt
  have hrt2 : Calls Tryd.prog 72 #[.pointer (some ⟨w.heap.size + 1 + 1 + 1, 0, none⟩)] ((((w.alloc (.cells #[.slice none 0 0] 23)).alloc (.cells #[.int .i64 0] 3)).alloc (.cells #[.int .i64 0] 27)).alloc (.cells #[.string s, .int .i64 0, .slice none 0 0] 92))
      fun x w' => x = .returned (.tuple #[]) ∧ Below (w.heap.size + 1 + 1 + 1) (W4 w s) w' ∧ ∃ v', Rdr w' (w.heap.size + 1 + 1 + 1) s j v' M := hrt
  clear hrt h
  have hend := fun w1 v1 h1 => readEnd_any w1 (w.heap.size + 1 + 1 + 1) s j v1 M h1 hs
  by_cases hj : j < s.size
  · simp only [if_pos hj] at hend ⊢
    have hend2 : ∀ w1 v1, Rdr w1 (w.heap.size + 1 + 1 + 1) s j v1 M → Calls Tryd.prog 73 #[.pointer (some ⟨w.heap.size + 1 + 1 + 1, 0, none⟩)] w1 fun x w' => x = .panicked (fl j 3) ∧ Below w1.heap.size w1 w' := hend
    clear hend
    go_enter_defers Tryd.func42, Tryd.ntmps42
    go_wp2_with (first | (go_at_call 72; refine hrt2.mono ?_; rintro x w1 ⟨rfl, hb1, v1, R1⟩) | (go_at_call 73; refine (hend2 _ _ R1).mono ?_; rintro x w2 ⟨rfl, hb2⟩))
    have hb3 := hb1.trans (hb2.mono (Nat.le_of_lt R1.lt))
    have hv := (W4_vars w s).on hb3
    have hlt : w.heap.size + 1 + 1 < w2.heap.size := by have := hb3.size; have := (W4_rdr w s).lt; omega
    refine leaves_cons (f := 71) (args := #[.pointer (some ⟨w.heap.size, 0, none⟩), .pointer (some ⟨w.heap.size + 1, 0, none⟩), .pointer (some ⟨w.heap.size + 1 + 1, 0, none⟩)]) (by simp) (by simp [go_sem]) ?_
    refine (catch_fault w.heap.size w2 j 3 (.slice none 0 0) (.int .i64 0) (.int .i64 0) (by rw [Lib.cell_of_heap hv.h0]; rfl) (by rw [Lib.cell_of_heap hv.h1]; rfl) (by rw [Lib.cell_of_heap hv.h2]; rfl) (Lib.frozen_of_heap hv.h0 0) (Lib.frozen_of_heap hv.h1 0) (Lib.frozen_of_heap hv.h2 0) hlt).mono ?_
    rintro x u' w'' ⟨rfl, rfl, q0, q1, q2, hb⟩
    have hfin : Below w.heap.size w w'' := ((W4_below w s).trans (hb3.mono (by omega))).trans hb
    simp [Leaves, settle, results, Tryd.results42, go_sem, q0, q1, q2]
    exact ⟨rfl, hfin⟩
  · simp only [if_neg hj] at hend ⊢
    have hend2 : ∀ w1 v1, Rdr w1 (w.heap.size + 1 + 1 + 1) s j v1 M → Calls Tryd.prog 73 #[.pointer (some ⟨w.heap.size + 1 + 1 + 1, 0, none⟩)] w1 fun x w' => x = .returned (.tuple #[]) ∧ Below w1.heap.size w1 w' := hend
    clear hend
    go_enter_defers Tryd.func42, Tryd.ntmps42
    go_wp2_with (first | (go_at_call 72; refine hrt2.mono ?_; rintro x w1 ⟨rfl, hb1, v1, R1⟩) | (go_at_call 73; refine (hend2 _ _ R1).mono ?_; rintro x w2 ⟨rfl, hb2⟩; have R2 := R1.on hb2; have hb3 := hb1.trans (hb2.mono (Nat.le_of_lt R1.lt)); have hv := (W4_vars w s).on hb3; obtain ⟨al, cv, hv1, _⟩ := own_cells R2.own; subst hv1; have d2 := R2.c2; have g0 : w2.cell? ⟨w.heap.size, 0, none⟩ = some (.slice none 0 0) := by { rw [Lib.cell_of_heap hv.h0]; rfl }; have g1 : w2.cell? ⟨w.heap.size + 1, 0, none⟩ = some (.int .i64 0) := by { rw [Lib.cell_of_heap hv.h1]; rfl }; have g2 : w2.cell? ⟨w.heap.size + 1 + 1, 0, none⟩ = some (.int .i64 0) := by { rw [Lib.cell_of_heap hv.h2]; rfl }; have y0 := Lib.frozen_of_heap hv.h0 0; have y1 := Lib.frozen_of_heap hv.h1 0; have y2 := Lib.frozen_of_heap hv.h2 0))
    have hw5 : Below w.heap.size w (((w2.setCell ⟨w.heap.size, 0, none⟩ (.slice al M.length cv)).setCell ⟨w.heap.size + 1, 0, none⟩ (.int .i64 0)).setCell ⟨w.heap.size + 1 + 1, 0, none⟩ (.int .i64 0)) :=
      ((((W4_below w s).trans (hb3.mono (by omega))).setCell (Nat.le_refl _) _).setCell (by show w.heap.size ≤ w.heap.size + 1; omega) _).setCell (by show w.heap.size ≤ w.heap.size + 1 + 1; omega) _
    have own5 : World.ownsRow (((w2.setCell ⟨w.heap.size, 0, none⟩ (.slice al M.length cv)).setCell ⟨w.heap.size + 1, 0, none⟩ (.int .i64 0)).setCell ⟨w.heap.size + 1 + 1, 0, none⟩ (.int .i64 0)) (w.heap.size + 1 + 1 + 1 + 1) 33 2 (.slice al M.length cv) M.length (flatC M) :=
      ownsRow_setCell_below (ownsRow_setCell_below (ownsRow_setCell_below R2.own (by show w.heap.size < _; omega) _) (by show w.heap.size + 1 < _; omega) _) (by show w.heap.size + 1 + 1 < _; omega) _
    have hfin := R2.fine
    have k0 : (((w2.setCell ⟨w.heap.size, 0, none⟩ (.slice al M.length cv)).setCell ⟨w.heap.size + 1, 0, none⟩ (.int .i64 0)).setCell ⟨w.heap.size + 1 + 1, 0, none⟩ (.int .i64 0)).cell? ⟨w.heap.size, 0, none⟩ = some (.slice al M.length cv) := by go_simp
    have k1 : (((w2.setCell ⟨w.heap.size, 0, none⟩ (.slice al M.length cv)).setCell ⟨w.heap.size + 1, 0, none⟩ (.int .i64 0)).setCell ⟨w.heap.size + 1 + 1, 0, none⟩ (.int .i64 0)).cell? ⟨w.heap.size + 1, 0, none⟩ = some (.int .i64 0) := by go_simp
    have k2 : (((w2.setCell ⟨w.heap.size, 0, none⟩ (.slice al M.length cv)).setCell ⟨w.heap.size + 1, 0, none⟩ (.int .i64 0)).setCell ⟨w.heap.size + 1 + 1, 0, none⟩ (.int .i64 0)).cell? ⟨w.heap.size + 1 + 1, 0, none⟩ = some (.int .i64 0) := by go_simp
    have hlt : w.heap.size + 1 + 1 < (((w2.setCell ⟨w.heap.size, 0, none⟩ (.slice al M.length cv)).setCell ⟨w.heap.size + 1, 0, none⟩ (.int .i64 0)).setCell ⟨w.heap.size + 1 + 1, 0, none⟩ (.int .i64 0)).heap.size := by
      have h1 := hb3.size
      have h2 := (W4_rdr w s).lt
      simp [World.setCell]
      omega
    generalize ((w2.setCell ⟨w.heap.size, 0, none⟩ (.slice al M.length cv)).setCell ⟨w.heap.size + 1, 0, none⟩ (.int .i64 0)).setCell ⟨w.heap.size + 1 + 1, 0, none⟩ (.int .i64 0) = W5 at hw5 own5 k0 k1 k2 hlt ⊢
    refine leaves_cons (f := 71) (args := #[.pointer (some ⟨w.heap.size, 0, none⟩), .pointer (some ⟨w.heap.size + 1, 0, none⟩), .pointer (some ⟨w.heap.size + 1 + 1, 0, none⟩)]) (by simp) (by simp [go_sem]) ?_
    refine (catch_idle w.heap.size W5).mono ?_
    rintro x u' w'' ⟨rfl, rfl, hb⟩
    have q0 := (hb.cell (p := ⟨w.heap.size, 0, none⟩) (by show w.heap.size < _; omega)).trans k0
    have q1 := (hb.cell (p := ⟨w.heap.size + 1, 0, none⟩) (by show w.heap.size + 1 < _; omega)).trans k1
    have q2 := (hb.cell (p := ⟨w.heap.size + 1 + 1, 0, none⟩) hlt).trans k2
    have fin1 : Owns w'' w.heap.size (.slice al M.length cv) M := own_base (own_below own5 hb) (by omega)
    have fin2 : Below w.heap.size w w'' := hw5.trans (hb.mono (by omega))
    simp [Leaves, settle, results, Tryd.results42, go_sem, q0, q1, q2]
    exact ⟨_, rfl, fin1, hfin, fin2⟩

theorem parse_any (s : ByteArray) (w : World) : Calls Tryd.prog 42 #[.string s] w fun x w' => Answers w (parse s) x w' := by
  by_cases hs : 1024 < s.size
  · exact parse_long s w hs
  · unfold parse
    rw [if_neg hs]
    cases h : rd s 65 0 [] with
    | bad j e => exact parse_bad s w (by omega) j e h
    | ok M j => exact parse_ok s w (by omega) M j h

end Go.Proofs.YtjpmlnigjbdnnaaDoor
