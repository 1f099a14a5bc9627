/-
  A node's slot, as the program makes it.
-/
import Derived.Test.YthohopbolalpcaaSi
import Derived.Laws.Rows
import Derived.Laws.EntriesVeiled
import Derived.Laws.Tables
namespace Go.Proofs.Ythohopbolalpcaa
open Go.RowKit
set_option linter.unusedVariables false
set_option linter.unusedSimpArgs false
set_option maxRecDepth 100000

/-- the function by which a field takes -/
def kfn (i : Nat) : Nat := if i = 0 then 60 else if i = 1 then 62 else if i = 2 then 64 else if i = 3 then 66 else if i = 4 then 60 else if i = 5 then 70 else if i = 6 then 72 else 75
/-- the i-th field, as it lies -/
theorem fld_at {cl : List Nat} (hc : cl.length = 4) {i : Nat} (hi : i < 11) :
    (flatH ++ flatC cl)[i * 3]? = some (.int .i64 (wd i : Nat)) ∧
    ((i < 7 ∧ (flatH ++ flatC cl)[i * 3 + 1]? = some (.func (.func (tfn i)) #[] #[])) ∨ (∃ k c, i = 7 + k ∧ cl[k]? = some c ∧ (flatH ++ flatC cl)[i * 3 + 1]? = some (.func (.func 73) #[] #[.pointer (some ⟨c, 0, none⟩)]))) ∧
    (flatH ++ flatC cl)[i * 3 + 2]? = some (.func (.func (kfn i)) #[] #[]) := by
  match cl, hc with
  | [c0, c1, c2, c3], _ =>
    match i, hi with
    | 0, _ => exact ⟨rfl, .inl ⟨by decide, rfl⟩, rfl⟩
    | 1, _ => exact ⟨rfl, .inl ⟨by decide, rfl⟩, rfl⟩
    | 2, _ => exact ⟨rfl, .inl ⟨by decide, rfl⟩, rfl⟩
    | 3, _ => exact ⟨rfl, .inl ⟨by decide, rfl⟩, rfl⟩
    | 4, _ => exact ⟨rfl, .inl ⟨by decide, rfl⟩, rfl⟩
    | 5, _ => exact ⟨rfl, .inl ⟨by decide, rfl⟩, rfl⟩
    | 6, _ => exact ⟨rfl, .inl ⟨by decide, rfl⟩, rfl⟩
    | 7, _ => exact ⟨rfl, .inr ⟨0, c0, rfl, rfl, rfl⟩, rfl⟩
    | 8, _ => exact ⟨rfl, .inr ⟨1, c1, rfl, rfl, rfl⟩, rfl⟩
    | 9, _ => exact ⟨rfl, .inr ⟨2, c2, rfl, rfl, rfl⟩, rfl⟩
    | 10, _ => exact ⟨rfl, .inr ⟨3, c3, rfl, rfl, rfl⟩, rfl⟩

/-- what the first n fields of a slot are as bytes -/
def slotP (x : Nd) (n : Nat) : List UInt8 := (List.range n).flatMap fun i => be (tell x i) (wd i)
/-- where a field begins -/
def off (n : Nat) : Nat := ((List.range n).map wd).foldl (· + ·) 0
theorem off_succ (n : Nat) : off (n + 1) = off n + wd n := by simp [off, List.range_succ]
theorem slotP_succ (x : Nd) (n : Nat) : slotP x (n + 1) = slotP x n ++ be (tell x n) (wd n) := by simp [slotP, List.range_succ, List.flatMap_append]
theorem slotP_len (x : Nd) (n : Nat) : (slotP x n).length = off n := by
  induction n with
  | zero => rfl
  | succ n ih => rw [slotP_succ, off_succ, List.length_append, ih, be_length]
/-- a node's slot -/
def slotB (x : Nd) : List UInt8 := slotP x 11 ++ [0]
theorem off_le {i : Nat} (h : i < 11) : off i + wd i ≤ 47 := by
  match i, h with
  | 0, _ | 1, _ | 2, _ | 3, _ | 4, _ | 5, _ | 6, _ | 7, _ | 8, _ | 9, _ | 10, _ => decide
theorem wd_le (i : Nat) : 1 ≤ wd i ∧ wd i ≤ 8 := by unfold wd; (repeat' split) <;> omega
theorem tell_lt {x : Nd} (h : NdOk x) {i : Nat} (hi : i < 11) : tell x i < 256 ^ wd i := by
  have hk : ∀ j, x.kids.getD j 0 < 256 ^ 6 := fun j => by
    rw [List.getD_eq_getElem?_getD]
    cases hj : x.kids[j]? with
    | none => decide
    | some v => exact isA_lt ((ctE_ok h.ct).2.2 v (List.mem_of_getElem? hj))
  match i, hi with
  | 0, _ => show 1 < 256; decide
  | 1, _ => show (if x.queued then 1 else 0) < 256; split <;> omega
  | 2, _ => show x.at' % 65536 < 65536; omega
  | 3, _ =>
    have := val_lt (padOf x.name 8).data.toList
    rw [pad8_len (ctE_ok h.ct).1] at this
    exact this
  | 4, _ => show x.kids.length < 256; have := (ctE_ok h.ct).2.1; omega
  | 5, _ => show x.count.toNat < 4294967296; have := h.c1; omega
  | 6, _ => exact h.nxl
  | 7, _ => exact hk 0
  | 8, _ => exact hk 1
  | 9, _ => exact hk 2
  | 10, _ => exact hk 3
theorem zero86 (W : World) : Arr (W.alloc (.cells #[Value.int IntKind.u8 0, Value.int IntKind.u8 0, Value.int IntKind.u8 0, Value.int IntKind.u8 0, Value.int IntKind.u8 0, Value.int IntKind.u8 0, Value.int IntKind.u8 0, Value.int IntKind.u8 0, Value.int IntKind.u8 0, Value.int IntKind.u8 0, Value.int IntKind.u8 0, Value.int IntKind.u8 0, Value.int IntKind.u8 0, Value.int IntKind.u8 0, Value.int IntKind.u8 0, Value.int IntKind.u8 0, Value.int IntKind.u8 0, Value.int IntKind.u8 0, Value.int IntKind.u8 0, Value.int IntKind.u8 0, Value.int IntKind.u8 0, Value.int IntKind.u8 0, Value.int IntKind.u8 0, Value.int IntKind.u8 0, Value.int IntKind.u8 0, Value.int IntKind.u8 0, Value.int IntKind.u8 0, Value.int IntKind.u8 0, Value.int IntKind.u8 0, Value.int IntKind.u8 0, Value.int IntKind.u8 0, Value.int IntKind.u8 0, Value.int IntKind.u8 0, Value.int IntKind.u8 0, Value.int IntKind.u8 0, Value.int IntKind.u8 0, Value.int IntKind.u8 0, Value.int IntKind.u8 0, Value.int IntKind.u8 0, Value.int IntKind.u8 0, Value.int IntKind.u8 0, Value.int IntKind.u8 0, Value.int IntKind.u8 0, Value.int IntKind.u8 0, Value.int IntKind.u8 0, Value.int IntKind.u8 0, Value.int IntKind.u8 0, Value.int IntKind.u8 0] 86)) W.heap.size 86 48 [] := Blk.made W _ 86
theorem info86 : (Try.prog.info? 86).map (·.size) = some 48 := by kernel_rfl
theorem enters_tell : ∀ i, i < 11 → ∀ args w, (callFunc (tfn i) args).run Try.prog w = .ok (.enter (tfn i) args) w := by
  intro i hi args w
  match i, hi with
  | 0, _ | 1, _ | 2, _ | 3, _ | 4, _ | 5, _ | 6, _ | 7, _ | 8, _ | 9, _ | 10, _ => rfl

/-- a whole array out of its block -/
theorem wpList_ldArr {ops : Array Oper} {rest : List Oper} {o : Oper} {a : Act} {Q : Exit → Act → World → Prop} {w : World} (hgd : o.guard = none) (s : Operand) (ho : o.op = .load 86 s) (g : Nat) (l : List UInt8) (hs : a.eval s = .pointer (some ⟨g, 0, none⟩))
    (hb : Blk w g (Lib.byteCells l).toArray 86) (hl : l.length = 48) (h : wpList Try.prog ops Q rest (a.put o.dst (.agg (Lib.byteCells l).toArray)) w) : wpList Try.prog ops Q (o :: rest) a w := by
  refine wpList_plain hgd fun K hK => ?_
  have hrun := run_loadVar_row (P := Try.prog) w g 86 86 _ (0, 0) _ hb Try.underlying86 rfl (by rw [info86, List.size_toArray, Lib.byteCells_length, hl])
  unfold Oper.wp
  simp [execOp, ho, hs, Instr.loadAt, Instr.sureAddr, hrun, Result.andThen]
  exact hK _ _ h
/-- a whole array into its block -/
theorem wpList_stArr {ops : Array Oper} {rest : List Oper} {o : Oper} {a : Act} {Q : Exit → Act → World → Prop} {w : World} (hgd : o.guard = none) (s x : Operand) (ho : o.op = .store 86 s x) (g : Nat) (l m : List UInt8) (hs : a.eval s = .pointer (some ⟨g, 0, none⟩)) (hx : a.eval x = .agg (Lib.byteCells l).toArray)
    (hb : Blk w g (Lib.byteCells m).toArray 86) (hl : l.length = 48) (hm : m.length = 48) (h : ∀ w', Blk w' g (Lib.byteCells l).toArray 86 → Keep (fun j => j = g) w w' → wpList Try.prog ops Q rest (a.put o.dst undef) w') : wpList Try.prog ops Q (o :: rest) a w := by
  refine wpList_plain hgd fun K hK => ?_
  have hrun := run_storeVar_row (P := Try.prog) w g 86 86 _ (Lib.byteCells l).toArray hb (by rw [info86, List.size_toArray, Lib.byteCells_length, hl]) (by rw [List.size_toArray, Lib.byteCells_length, List.size_toArray, Lib.byteCells_length, hl, hm]) (by
    rw [Array.all_eq_true_iff_forall_mem]
    intro u hu
    exact Lib.byteCells_one l u (by simpa using hu))
  have hh := h _ (setRow_heap w g _ (Lib.byteCells l).toArray 86 (0, 0) hb) ⟨rfl, rfl, rfl, by simp [World.setRow], fun k _ hk => setRow_other w g k _ (fun e => hk e)⟩
  unfold Oper.wp
  simp [execOp, ho, hs, hx, Instr.storeAt, Instr.sureAddr, hrun, Result.andThen]
  exact hK _ _ hh

theorem Flds.keep {w w' : World} {B k : Nat} {v : Value} {l : List UInt8} (h : Flds w B v) (ha : Arr w k 86 48 l) (hk : Keep (fun j => j = k) w w') : Flds w' B v := by
  obtain ⟨cl, h1, h2, h3⟩ := h
  refine ⟨cl, h1, hk.row h2 (fun g hg e => Blk.ne ha h2 (by decide) hg e), fun i c hc => hk.blk (h3 i c hc) (fun e => ?_)⟩
  have := h3 i c hc
  unfold Arr at ha
  subst e
  unfold Blk at this ha
  rw [this] at ha
  simp at ha
set_option maxHeartbeats 8000000 in
theorem slotOf_any (x : Nd) (kv v : Value) (B : Nat) (w : World) (ho : NdOk x) (hf : NdF w kv x) (hF : Flds w B v) :
    Calls Try.prog 50 #[.agg (cellsN x kv), v] w fun e w' => e = .returned (.agg (Lib.byteCells (slotB x)).toArray) ∧ Below w.heap.size w w' := by
  have HTL := hid (fun i (hi : i < 11) => tell_lt ho hi)
  have HFK : Hid (∀ (w1 w2 : World) {g0 c0 k : Nat} {l : List UInt8}, Flds w1 B (.slice (some ⟨g0, 0, none⟩) 11 c0) → Arr w1 k 86 48 l → Keep (fun j => j = k) w1 w2 → Flds w2 B (.slice (some ⟨g0, 0, none⟩) 11 c0)) := fun w1 w2 _ _ _ _ h ha hk => h.keep ha hk
  obtain ⟨cl, hcl, hrow, hblk⟩ := hF
  obtain ⟨fa, fc, rfl⟩ := own_form hrow
  have hF : Flds w B (.slice fa 11 fc) := ⟨cl, hcl, hrow, hblk⟩
  clear hcl hrow hblk cl
  obtain ⟨p, hp⟩ : ∃ p, w.heap.size = p := ⟨_, rfl⟩
  have h1 := (Below.refl w.heap.size w).alloc (Nat.le_refl _) (.cells (cellsN x kv) 57)
  have s1 : (w.alloc (.cells (cellsN x kv) 57)).heap.size = p + 1 := by rw [← hp]; show (w.heap.push _).size = _; rw [Array.size_push]
  have k1 := Blk.made w (cellsN x kv) 57
  have h2 := h1.alloc h1.size (.cells #[Value.int IntKind.u8 0, Value.int IntKind.u8 0, Value.int IntKind.u8 0, Value.int IntKind.u8 0, Value.int IntKind.u8 0, Value.int IntKind.u8 0, Value.int IntKind.u8 0, Value.int IntKind.u8 0, Value.int IntKind.u8 0, Value.int IntKind.u8 0, Value.int IntKind.u8 0, Value.int IntKind.u8 0, Value.int IntKind.u8 0, Value.int IntKind.u8 0, Value.int IntKind.u8 0, Value.int IntKind.u8 0, Value.int IntKind.u8 0, Value.int IntKind.u8 0, Value.int IntKind.u8 0, Value.int IntKind.u8 0, Value.int IntKind.u8 0, Value.int IntKind.u8 0, Value.int IntKind.u8 0, Value.int IntKind.u8 0, Value.int IntKind.u8 0, Value.int IntKind.u8 0, Value.int IntKind.u8 0, Value.int IntKind.u8 0, Value.int IntKind.u8 0, Value.int IntKind.u8 0, Value.int IntKind.u8 0, Value.int IntKind.u8 0, Value.int IntKind.u8 0, Value.int IntKind.u8 0, Value.int IntKind.u8 0, Value.int IntKind.u8 0, Value.int IntKind.u8 0, Value.int IntKind.u8 0, Value.int IntKind.u8 0, Value.int IntKind.u8 0, Value.int IntKind.u8 0, Value.int IntKind.u8 0, Value.int IntKind.u8 0, Value.int IntKind.u8 0, Value.int IntKind.u8 0, Value.int IntKind.u8 0, Value.int IntKind.u8 0, Value.int IntKind.u8 0] 86)
  have k2 := k1.alloc (.cells #[Value.int IntKind.u8 0, Value.int IntKind.u8 0, Value.int IntKind.u8 0, Value.int IntKind.u8 0, Value.int IntKind.u8 0, Value.int IntKind.u8 0, Value.int IntKind.u8 0, Value.int IntKind.u8 0, Value.int IntKind.u8 0, Value.int IntKind.u8 0, Value.int IntKind.u8 0, Value.int IntKind.u8 0, Value.int IntKind.u8 0, Value.int IntKind.u8 0, Value.int IntKind.u8 0, Value.int IntKind.u8 0, Value.int IntKind.u8 0, Value.int IntKind.u8 0, Value.int IntKind.u8 0, Value.int IntKind.u8 0, Value.int IntKind.u8 0, Value.int IntKind.u8 0, Value.int IntKind.u8 0, Value.int IntKind.u8 0, Value.int IntKind.u8 0, Value.int IntKind.u8 0, Value.int IntKind.u8 0, Value.int IntKind.u8 0, Value.int IntKind.u8 0, Value.int IntKind.u8 0, Value.int IntKind.u8 0, Value.int IntKind.u8 0, Value.int IntKind.u8 0, Value.int IntKind.u8 0, Value.int IntKind.u8 0, Value.int IntKind.u8 0, Value.int IntKind.u8 0, Value.int IntKind.u8 0, Value.int IntKind.u8 0, Value.int IntKind.u8 0, Value.int IntKind.u8 0, Value.int IntKind.u8 0, Value.int IntKind.u8 0, Value.int IntKind.u8 0, Value.int IntKind.u8 0, Value.int IntKind.u8 0, Value.int IntKind.u8 0, Value.int IntKind.u8 0] 86)
  have r2 := zero86 (w.alloc (.cells (cellsN x kv) 57))
  have s2 : ((w.alloc (.cells (cellsN x kv) 57)).alloc (.cells #[Value.int IntKind.u8 0, Value.int IntKind.u8 0, Value.int IntKind.u8 0, Value.int IntKind.u8 0, Value.int IntKind.u8 0, Value.int IntKind.u8 0, Value.int IntKind.u8 0, Value.int IntKind.u8 0, Value.int IntKind.u8 0, Value.int IntKind.u8 0, Value.int IntKind.u8 0, Value.int IntKind.u8 0, Value.int IntKind.u8 0, Value.int IntKind.u8 0, Value.int IntKind.u8 0, Value.int IntKind.u8 0, Value.int IntKind.u8 0, Value.int IntKind.u8 0, Value.int IntKind.u8 0, Value.int IntKind.u8 0, Value.int IntKind.u8 0, Value.int IntKind.u8 0, Value.int IntKind.u8 0, Value.int IntKind.u8 0, Value.int IntKind.u8 0, Value.int IntKind.u8 0, Value.int IntKind.u8 0, Value.int IntKind.u8 0, Value.int IntKind.u8 0, Value.int IntKind.u8 0, Value.int IntKind.u8 0, Value.int IntKind.u8 0, Value.int IntKind.u8 0, Value.int IntKind.u8 0, Value.int IntKind.u8 0, Value.int IntKind.u8 0, Value.int IntKind.u8 0, Value.int IntKind.u8 0, Value.int IntKind.u8 0, Value.int IntKind.u8 0, Value.int IntKind.u8 0, Value.int IntKind.u8 0, Value.int IntKind.u8 0, Value.int IntKind.u8 0, Value.int IntKind.u8 0, Value.int IntKind.u8 0, Value.int IntKind.u8 0, Value.int IntKind.u8 0] 86)).heap.size = p + 1 + 1 := by show (Array.push _ _).size = _; rw [Array.size_push, s1]
  have HB3 := hid (h2.alloc h2.size (.cells #[Value.int IntKind.u8 0, Value.int IntKind.u8 0, Value.int IntKind.u8 0, Value.int IntKind.u8 0, Value.int IntKind.u8 0, Value.int IntKind.u8 0, Value.int IntKind.u8 0, Value.int IntKind.u8 0, Value.int IntKind.u8 0, Value.int IntKind.u8 0, Value.int IntKind.u8 0, Value.int IntKind.u8 0, Value.int IntKind.u8 0, Value.int IntKind.u8 0, Value.int IntKind.u8 0, Value.int IntKind.u8 0, Value.int IntKind.u8 0, Value.int IntKind.u8 0, Value.int IntKind.u8 0, Value.int IntKind.u8 0, Value.int IntKind.u8 0, Value.int IntKind.u8 0, Value.int IntKind.u8 0, Value.int IntKind.u8 0, Value.int IntKind.u8 0, Value.int IntKind.u8 0, Value.int IntKind.u8 0, Value.int IntKind.u8 0, Value.int IntKind.u8 0, Value.int IntKind.u8 0, Value.int IntKind.u8 0, Value.int IntKind.u8 0, Value.int IntKind.u8 0, Value.int IntKind.u8 0, Value.int IntKind.u8 0, Value.int IntKind.u8 0, Value.int IntKind.u8 0, Value.int IntKind.u8 0, Value.int IntKind.u8 0, Value.int IntKind.u8 0, Value.int IntKind.u8 0, Value.int IntKind.u8 0, Value.int IntKind.u8 0, Value.int IntKind.u8 0, Value.int IntKind.u8 0, Value.int IntKind.u8 0, Value.int IntKind.u8 0, Value.int IntKind.u8 0] 86))
  have HX3 := hid (k2.alloc (.cells #[Value.int IntKind.u8 0, Value.int IntKind.u8 0, Value.int IntKind.u8 0, Value.int IntKind.u8 0, Value.int IntKind.u8 0, Value.int IntKind.u8 0, Value.int IntKind.u8 0, Value.int IntKind.u8 0, Value.int IntKind.u8 0, Value.int IntKind.u8 0, Value.int IntKind.u8 0, Value.int IntKind.u8 0, Value.int IntKind.u8 0, Value.int IntKind.u8 0, Value.int IntKind.u8 0, Value.int IntKind.u8 0, Value.int IntKind.u8 0, Value.int IntKind.u8 0, Value.int IntKind.u8 0, Value.int IntKind.u8 0, Value.int IntKind.u8 0, Value.int IntKind.u8 0, Value.int IntKind.u8 0, Value.int IntKind.u8 0, Value.int IntKind.u8 0, Value.int IntKind.u8 0, Value.int IntKind.u8 0, Value.int IntKind.u8 0, Value.int IntKind.u8 0, Value.int IntKind.u8 0, Value.int IntKind.u8 0, Value.int IntKind.u8 0, Value.int IntKind.u8 0, Value.int IntKind.u8 0, Value.int IntKind.u8 0, Value.int IntKind.u8 0, Value.int IntKind.u8 0, Value.int IntKind.u8 0, Value.int IntKind.u8 0, Value.int IntKind.u8 0, Value.int IntKind.u8 0, Value.int IntKind.u8 0, Value.int IntKind.u8 0, Value.int IntKind.u8 0, Value.int IntKind.u8 0, Value.int IntKind.u8 0, Value.int IntKind.u8 0, Value.int IntKind.u8 0] 86))
  have HR3 := hid (Blk.alloc r2 (.cells #[Value.int IntKind.u8 0, Value.int IntKind.u8 0, Value.int IntKind.u8 0, Value.int IntKind.u8 0, Value.int IntKind.u8 0, Value.int IntKind.u8 0, Value.int IntKind.u8 0, Value.int IntKind.u8 0, Value.int IntKind.u8 0, Value.int IntKind.u8 0, Value.int IntKind.u8 0, Value.int IntKind.u8 0, Value.int IntKind.u8 0, Value.int IntKind.u8 0, Value.int IntKind.u8 0, Value.int IntKind.u8 0, Value.int IntKind.u8 0, Value.int IntKind.u8 0, Value.int IntKind.u8 0, Value.int IntKind.u8 0, Value.int IntKind.u8 0, Value.int IntKind.u8 0, Value.int IntKind.u8 0, Value.int IntKind.u8 0, Value.int IntKind.u8 0, Value.int IntKind.u8 0, Value.int IntKind.u8 0, Value.int IntKind.u8 0, Value.int IntKind.u8 0, Value.int IntKind.u8 0, Value.int IntKind.u8 0, Value.int IntKind.u8 0, Value.int IntKind.u8 0, Value.int IntKind.u8 0, Value.int IntKind.u8 0, Value.int IntKind.u8 0, Value.int IntKind.u8 0, Value.int IntKind.u8 0, Value.int IntKind.u8 0, Value.int IntKind.u8 0, Value.int IntKind.u8 0, Value.int IntKind.u8 0, Value.int IntKind.u8 0, Value.int IntKind.u8 0, Value.int IntKind.u8 0, Value.int IntKind.u8 0, Value.int IntKind.u8 0, Value.int IntKind.u8 0] 86))
  have HA3 := hid (zero86 ((w.alloc (.cells (cellsN x kv) 57)).alloc (.cells #[Value.int IntKind.u8 0, Value.int IntKind.u8 0, Value.int IntKind.u8 0, Value.int IntKind.u8 0, Value.int IntKind.u8 0, Value.int IntKind.u8 0, Value.int IntKind.u8 0, Value.int IntKind.u8 0, Value.int IntKind.u8 0, Value.int IntKind.u8 0, Value.int IntKind.u8 0, Value.int IntKind.u8 0, Value.int IntKind.u8 0, Value.int IntKind.u8 0, Value.int IntKind.u8 0, Value.int IntKind.u8 0, Value.int IntKind.u8 0, Value.int IntKind.u8 0, Value.int IntKind.u8 0, Value.int IntKind.u8 0, Value.int IntKind.u8 0, Value.int IntKind.u8 0, Value.int IntKind.u8 0, Value.int IntKind.u8 0, Value.int IntKind.u8 0, Value.int IntKind.u8 0, Value.int IntKind.u8 0, Value.int IntKind.u8 0, Value.int IntKind.u8 0, Value.int IntKind.u8 0, Value.int IntKind.u8 0, Value.int IntKind.u8 0, Value.int IntKind.u8 0, Value.int IntKind.u8 0, Value.int IntKind.u8 0, Value.int IntKind.u8 0, Value.int IntKind.u8 0, Value.int IntKind.u8 0, Value.int IntKind.u8 0, Value.int IntKind.u8 0, Value.int IntKind.u8 0, Value.int IntKind.u8 0, Value.int IntKind.u8 0, Value.int IntKind.u8 0, Value.int IntKind.u8 0, Value.int IntKind.u8 0, Value.int IntKind.u8 0, Value.int IntKind.u8 0] 86)))
  rw [s2] at HA3
  rw [s1] at HR3
  rw [hp] at HX3 HB3
  have HF3 := hid (hF.on (by rw [hp]; exact HB3.out))
  have hfl := hf.lies
  have HN3 := hid (hf.on (by rw [hp]; exact HB3.out))
  have HP := hid hp
  clear h1 s1 k1 h2 k2 r2 s2 hf hF
  have HOK := hid ho
  clear ho
  have HTT : Hid (∀ (i : Nat) (hi : i < 11) (w1 : World), Below p w w1 → ∀ cl : List Nat, cl.length = 4 → (∀ k c : Nat, cl[k]? = some c → Blk w1 c #[.int .i64 (k : Nat)] 3) →
      ((i < 7 ∧ ∀ w2, Below w1.heap.size w1 w2 → Calls Try.prog (tfn i) #[.agg (cellsN x kv)] w2 fun e w' => e = .returned (.int .u64 (tell x i : Nat)) ∧ Below w2.heap.size w2 w') ∨
       (7 ≤ i ∧ ∀ k c, i = 7 + k → cl[k]? = some c → ∀ w2, Below w1.heap.size w1 w2 → Calls Try.prog 73 #[.agg (cellsN x kv), .pointer (some ⟨c, 0, none⟩)] w2 fun e w' => e = .returned (.int .u64 (tell x i : Nat)) ∧ Below w2.heap.size w2 w'))) := by
    intro i hi w1 hb1 cl _ hcb
    have hl1 := hfl.on (by rw [hp]; exact hb1)
    match i, hi with
    | 0, _ => exact .inl ⟨by decide, fun w2 _ => tell0⟩
    | 1, _ => exact .inl ⟨by decide, fun w2 _ => tell1⟩
    | 2, _ => exact .inl ⟨by decide, fun w2 _ => tell2 HOK.out⟩
    | 3, _ => exact .inl ⟨by decide, fun w2 _ => tell3 HOK.out⟩
    | 4, _ => exact .inl ⟨by decide, fun w2 hb => tell4 (hl1.on hb)⟩
    | 5, _ => exact .inl ⟨by decide, fun w2 _ => tell5 HOK.out⟩
    | 6, _ => exact .inl ⟨by decide, fun w2 _ => tell6⟩
    | k + 7, h =>
      refine .inr ⟨by omega, fun k' c hk hc w2 hb => ?_⟩
      obtain rfl : k' = k := by omega
      rw [Nat.add_comm k' 7]
      exact tell7 k' c (hl1.on hb) ((hcb k' c hc).on hb (hcb k' c hc).lt)
  clear hfl
  obtain ⟨ak, ck, rfl⟩ := HN3.out.lies.form
  have HCN : Hid (cellsN x (.slice ak x.kids.length ck) = cellsN x (.slice ak x.kids.length ck)) := rfl
  obtain ⟨A, hA⟩ : ∃ A : Nat, x.at' = A := ⟨_, rfl⟩
  obtain ⟨nm, hnm⟩ : ∃ nm, x.name = nm := ⟨_, rfl⟩
  obtain ⟨M, hM⟩ : ∃ M, x.kids.length = M := ⟨_, rfl⟩
  obtain ⟨ct', hct⟩ : ∃ c, x.count = c := ⟨_, rfl⟩
  obtain ⟨qd, hqd⟩ : ∃ c, x.queued = c := ⟨_, rfl⟩
  obtain ⟨nx, hnx⟩ : ∃ c, x.next = c := ⟨_, rfl⟩
  simp only [cellsN, hA, hnm, hM, hct, hqd, hnx] at HX3 HR3 HA3 HB3 HF3 HTT ⊢
  clear hA hnm hM hct hqd hnx HCN HN3
  have HP0 : Hid (slotP x 0 = []) := rfl
  rw [← HP0.out] at HA3
  go_enter Try.func50, Try.ntmps50
  go_wp2_with fail
  generalize (((w.alloc (Obj.cells #[.int .u64 (A : Nat), .string nm, .slice ak M ck, .int .i64 ct', .bool qd, .int .u64 (nx : Nat)] 57)).alloc (Obj.cells #[Value.int IntKind.u8 0, Value.int IntKind.u8 0, Value.int IntKind.u8 0, Value.int IntKind.u8 0, Value.int IntKind.u8 0, Value.int IntKind.u8 0, Value.int IntKind.u8 0, Value.int IntKind.u8 0, Value.int IntKind.u8 0, Value.int IntKind.u8 0, Value.int IntKind.u8 0, Value.int IntKind.u8 0, Value.int IntKind.u8 0, Value.int IntKind.u8 0, Value.int IntKind.u8 0, Value.int IntKind.u8 0, Value.int IntKind.u8 0, Value.int IntKind.u8 0, Value.int IntKind.u8 0, Value.int IntKind.u8 0, Value.int IntKind.u8 0, Value.int IntKind.u8 0, Value.int IntKind.u8 0, Value.int IntKind.u8 0, Value.int IntKind.u8 0, Value.int IntKind.u8 0, Value.int IntKind.u8 0, Value.int IntKind.u8 0, Value.int IntKind.u8 0, Value.int IntKind.u8 0, Value.int IntKind.u8 0, Value.int IntKind.u8 0, Value.int IntKind.u8 0, Value.int IntKind.u8 0, Value.int IntKind.u8 0, Value.int IntKind.u8 0, Value.int IntKind.u8 0, Value.int IntKind.u8 0, Value.int IntKind.u8 0, Value.int IntKind.u8 0, Value.int IntKind.u8 0, Value.int IntKind.u8 0, Value.int IntKind.u8 0, Value.int IntKind.u8 0, Value.int IntKind.u8 0, Value.int IntKind.u8 0, Value.int IntKind.u8 0, Value.int IntKind.u8 0] 86)).alloc (Obj.cells #[Value.int IntKind.u8 0, Value.int IntKind.u8 0, Value.int IntKind.u8 0, Value.int IntKind.u8 0, Value.int IntKind.u8 0, Value.int IntKind.u8 0, Value.int IntKind.u8 0, Value.int IntKind.u8 0, Value.int IntKind.u8 0, Value.int IntKind.u8 0, Value.int IntKind.u8 0, Value.int IntKind.u8 0, Value.int IntKind.u8 0, Value.int IntKind.u8 0, Value.int IntKind.u8 0, Value.int IntKind.u8 0, Value.int IntKind.u8 0, Value.int IntKind.u8 0, Value.int IntKind.u8 0, Value.int IntKind.u8 0, Value.int IntKind.u8 0, Value.int IntKind.u8 0, Value.int IntKind.u8 0, Value.int IntKind.u8 0, Value.int IntKind.u8 0, Value.int IntKind.u8 0, Value.int IntKind.u8 0, Value.int IntKind.u8 0, Value.int IntKind.u8 0, Value.int IntKind.u8 0, Value.int IntKind.u8 0, Value.int IntKind.u8 0, Value.int IntKind.u8 0, Value.int IntKind.u8 0, Value.int IntKind.u8 0, Value.int IntKind.u8 0, Value.int IntKind.u8 0, Value.int IntKind.u8 0, Value.int IntKind.u8 0, Value.int IntKind.u8 0, Value.int IntKind.u8 0, Value.int IntKind.u8 0, Value.int IntKind.u8 0, Value.int IntKind.u8 0, Value.int IntKind.u8 0, Value.int IntKind.u8 0, Value.int IntKind.u8 0, Value.int IntKind.u8 0] 86)) = w3 at *
  clear hp
  go_loopw [6, 11] (fun y i wr => ∃ (j q : Nat), j ≤ 11 ∧ y = .int .i64 (q : Nat) ∧ i = .int .i64 (j : Nat) ∧ Hid (q = off j) ∧ Hid (Arr wr (p + 1 + 1) 86 48 (slotP x j)) ∧ Hid (Arr wr (p + 1) 86 48 []) ∧ Hid (Blk wr p #[.int .u64 (A : Nat), .string nm, .slice ak M ck, .int .i64 ct', .bool qd, .int .u64 (nx : Nat)] 57) ∧ Hid (Flds wr B (.slice fa 11 fc)) ∧ Hid (Below p w wr)) (fun _ i _ => 11 - (intOf i).toNat)
  case atStart => exact ⟨0, 0, Nat.zero_le _, rfl, rfl, rfl, HA3, HR3, HX3, HF3, HB3⟩
  case round =>
    obtain ⟨j, q, hj, rfl, rfl, HQ, HA, HR, HX, HF, HB⟩ := hrel
    clear HA3 HR3 HX3 HF3 HB3 HP0
    by_cases hjn : j < 11
    · have hji : (j : Int) < 11 := by omega
      have HO := hid (HTT.out j hjn)
      have HL := hid (HTL.out j hjn)
      have HEN := hid (enters_tell j hjn)
      have HWL := hid (wd_le j)
      have HOL := hid (off_le hjn)
      have HOS := hid (off_succ j)
      have HPS := hid (slotP_succ x j)
      have HPL := hid (slotP_len x j)
      obtain ⟨cl, hcl, hrow, hblk⟩ := HF.out
      have HFB := hid (HO.out wr HB.out cl hcl hblk)
      obtain ⟨_, _, e1, _, _, hcc⟩ := own_cells hrow
      cases e1
      obtain ⟨f0, f1, f2⟩ := fld_at hcl hjn
      obtain ⟨g, e2, _, hgl, c0, _⟩ := hcc _ _ f0
      cases e2
      obtain ⟨_, e2, _, _, c2, _⟩ := hcc _ _ f2
      cases e2
      clear HO
      have hfn : ∃ (f : Nat) (cs : Array Value), wr.cell? ⟨g, j * 3 + 1, none⟩ = some (.func (.func f) #[] cs) ∧ (∀ args w, (callFunc f args).run Try.prog w = .ok (.enter f args) w) ∧ (cs = #[] ∨ ∃ c, cs = #[.pointer (some ⟨c, 0, none⟩)]) ∧ ∀ w2, Below wr.heap.size wr w2 → Calls Try.prog f (#[.agg #[.int .u64 (A : Nat), .string nm, .slice ak M ck, .int .i64 ct', .bool qd, .int .u64 (nx : Nat)]] ++ cs) w2 fun e w' => e = .returned (.int .u64 (tell x j : Nat)) ∧ Below w2.heap.size w2 w' := by
        rcases f1 with ⟨h7, f1⟩ | ⟨k, c, rfl, hk, f1⟩
        · obtain ⟨_, e2, _, _, c1, _⟩ := hcc _ _ f1
          cases e2
          refine ⟨_, _, c1, HEN.out, .inl rfl, ?_⟩
          rcases HFB.out with ⟨_, h⟩ | ⟨h', _⟩
          · simpa using h
          · omega
        · obtain ⟨_, e2, _, _, c1, _⟩ := hcc _ _ f1
          cases e2
          refine ⟨73, _, c1, by have := HEN.out; rw [show tfn (7 + k) = 73 by (unfold tfn; iterate 7 rw [if_neg (by omega)])] at this; exact this, .inr ⟨c, rfl⟩, ?_⟩
          rcases HFB.out with ⟨h', _⟩ | ⟨_, h⟩
          · omega
          · exact h k c rfl hk
      obtain ⟨f, cs, c1, hen, hcs, hcall⟩ := hfn
      have HCALL := hid hcall
      have HF' := HF
      clear HF HFB f0 f1 f2 hcc hrow hblk hcl HEN hcall
      generalize kfn j = kf at *
      generalize tell x j = T at *
      have HWE : Hid (wd j = wd j) := rfl
      obtain ⟨W, hW⟩ : ∃ W, wd j = W := ⟨_, rfl⟩
      rw [hW] at HL HWL HOL HOS HPS c0
      clear hW HWE
      have hq := HQ.out
      have hwl := HWL.out
      have hol := HOL.out
      have hpl := HPL.out
      have q1 : (q : Int) ≤ 48 := by omega
      have q2 : ¬ 48 = q := by omega
      have q3 : q + W ≤ 48 := by omega
      have q4 : IntKind.i64.wrap ((q : Int) + (W : Int)) = ((q + W : Nat) : Int) := by rw [IntKind.wrap_i64]; omega
      have HPX : Hid (∀ w1, _) := fun w1 => sput T W w1 hwl.1 hwl.2 HL.out
      have HXX : Hid ((⟨(be T W).toArray⟩ : ByteArray).data.toList = be T W) := rfl
      have hxW : (⟨(be T W).toArray⟩ : ByteArray).size = W := by rw [Lib.size_eq, HXX.out, be_length]
      rw [← HXX.out] at HPS
      clear HXX
      generalize (⟨(be T W).toArray⟩ : ByteArray) = X at *
      have HQS : Hid (q + W = off (j + 1)) := by show _ = _; rw [HOS.out, hq]
      have HLEN : Hid ((slotP x j).length = q) := by show _ = _; rw [hpl, hq]
      clear hq hwl hol hpl HPL HOS
      rcases hcs with rfl | ⟨cb, rfl⟩
      · have HFX := hid (Blk.made wr #[.int .i64 (W : Nat), .func (.func f) #[] #[], .func (.func kf) #[] #[]] 99)
        have HAL : Hid (Below wr.heap.size wr (wr.alloc (.cells #[.int .i64 (W : Nat), .func (.func f) #[] #[], .func (.func kf) #[] #[]] 99))) := (Below.refl _ wr).alloc (Nat.le_refl _) _
        obtain ⟨q8, hq8⟩ : ∃ q8, wr.heap.size = q8 := ⟨_, rfl⟩
        go_wp2_with fail
        have hlp := HX.out.lt
        have hl8 : q8 < (wr.alloc (.cells #[.int .i64 (W : Nat), .func (.func f) #[] #[], .func (.func kf) #[] #[]] 99)).heap.size := by rw [← hq8]; exact HFX.out.lt
        have HNE : Hid (q8 ≠ p + 1 + 1) := by show _ ≠ _; have := HA.out.lt; omega
        generalize wr.alloc (.cells #[.int .i64 (W : Nat), .func (.func f) #[] #[], .func (.func kf) #[] #[]] 99) = w8 at *
        have HC8 := hid (fun w2 (hb : Below w8.heap.size w8 w2) => HCALL.out w2 (HAL.out.trans (hb.mono HAL.out.size)))
        have HX8 := hid (HX.out.on HAL.out HX.out.lt)
        have HA8 := hid (HA.out.on HAL.out)
        have HR8 := hid (HR.out.on HAL.out)
        have HF8 := hid (HF'.out.on HAL.out)
        have HB8 := hid (HB.out.trans (HAL.out.mono (Nat.le_of_lt (Nat.lt_of_le_of_lt (Nat.le_refl _) hlp))))
        rw [hq8] at HFX
        clear HCALL HX HA HR HF' HB HAL hlp c0 c1 c2 hgl hq8
        refine wp_region_d (fun w' => w'.cell? ⟨q8, 0, none⟩ = some (.int .i64 (W : Nat)) ∧ w'.cell? ⟨q8, 1, none⟩ = some (.func (.func f) #[] #[]) ∧ w'.cell? ⟨p, 0, none⟩ = some (.int .u64 (A : Nat)) ∧ w'.cell? ⟨p, 1, none⟩ = some (.string nm) ∧ w'.cell? ⟨p, 2, none⟩ = some (.slice ak M ck) ∧ w'.cell? ⟨p, 3, none⟩ = some (.int .i64 ct') ∧ w'.cell? ⟨p, 4, none⟩ = some (.bool qd) ∧ w'.cell? ⟨p, 5, none⟩ = some (.int .u64 (nx : Nat))) (fun _ => true) (by kernel_rfl) ?_
        have hdr := (Below.refl w8.heap.size w8).drew
        have HX9 := hid (HX8.out.on hdr HX8.out.lt)
        have HFX9 := hid (HFX.out.on hdr HFX.out.lt)
        have HA9 := hid (HA8.out.on hdr)
        have HR9 := hid (HR8.out.on hdr)
        have HF9 := hid (HF8.out.on hdr)
        have HB9 := hid HB8.out.drew
        have HC9 := hid (HC8.out _ hdr)
        clear HX8 HFX HA8 HR8 HF8 HB8 HC8 hdr hl8
        generalize w8.drew = w9 at *
        have HSS : Hid (∀ w', Blk w' p #[.int .u64 (A : Nat), .string nm, .slice ak M ck, .int .i64 ct', .bool qd, .int .u64 (nx : Nat)] 57 → Blk w' q8 #[.int .i64 (W : Nat), .func (.func f) #[] #[], .func (.func kf) #[] #[]] 99 → w'.cell? ⟨q8, 0, none⟩ = some (.int .i64 (W : Nat)) ∧ w'.cell? ⟨q8, 1, none⟩ = some (.func (.func f) #[] #[]) ∧ w'.cell? ⟨p, 0, none⟩ = some (.int .u64 (A : Nat)) ∧ w'.cell? ⟨p, 1, none⟩ = some (.string nm) ∧ w'.cell? ⟨p, 2, none⟩ = some (.slice ak M ck) ∧ w'.cell? ⟨p, 3, none⟩ = some (.int .i64 ct') ∧ w'.cell? ⟨p, 4, none⟩ = some (.bool qd) ∧ w'.cell? ⟨p, 5, none⟩ = some (.int .u64 (nx : Nat))) := fun w' h1 h2 => ⟨h2.cell (i := 0) rfl, h2.cell (i := 1) rfl, h1.cell (i := 0) rfl, h1.cell (i := 1) rfl, h1.cell (i := 2) rfl, h1.cell (i := 3) rfl, h1.cell (i := 4) rfl, h1.cell (i := 5) rfl⟩
        have hS := HSS.out w9 HX9.out HFX9.out
        refine wpAnyM_pick (i := 0) (some 15) (v := ?vz1) rfl rfl (by kernel_rfl) (by kernel_rfl) (by kernel_rfl) (by kernel_rfl) (fun _ _ _ h => h) (Or.inl ⟨by rfl, ?hz1⟩) hS ?rz1
        case hz1 => intro w hSw; (first | obtain ⟨hs1, hs2, hs3, hs4, hs5, hs6, hs7, hs8⟩ := hSw | obtain ⟨hs1, hs2, hs3⟩ := hSw | obtain ⟨hs1, hs2⟩ := hSw | skip); go_simp; try with_reducible rfl
        try simp only [Act.put, List.setIfInBounds_toArray, List.set_cons_zero, List.set_cons_succ]
        refine wpAnyM_pick (i := 1) (some 16) (v := ?vz2) rfl rfl (by kernel_rfl) (by kernel_rfl) (by kernel_rfl) (by kernel_rfl) (fun _ _ _ h => h) (Or.inl ⟨by rfl, ?hz2⟩) hS ?rz2
        case hz2 => intro w hSw; (first | obtain ⟨hs1, hs2, hs3, hs4, hs5, hs6, hs7, hs8⟩ := hSw | obtain ⟨hs1, hs2, hs3⟩ := hSw | obtain ⟨hs1, hs2⟩ := hSw | skip); go_simp; try with_reducible rfl
        try simp only [Act.put, List.setIfInBounds_toArray, List.set_cons_zero, List.set_cons_succ]
        refine wpAnyM_pick (i := 2) (some 17) (v := ?vz3) rfl rfl (by kernel_rfl) (by kernel_rfl) (by kernel_rfl) (by kernel_rfl) (fun _ _ _ h => h) (Or.inl ⟨by rfl, ?hz3⟩) hS ?rz3
        case hz3 => intro w hSw; (first | obtain ⟨hs1, hs2, hs3, hs4, hs5, hs6, hs7, hs8⟩ := hSw | obtain ⟨hs1, hs2, hs3⟩ := hSw | obtain ⟨hs1, hs2⟩ := hSw | skip); go_simp; try with_reducible rfl
        try simp only [Act.put, List.setIfInBounds_toArray, List.set_cons_zero, List.set_cons_succ]
        refine wpAnyM_pick (i := 3) (some 18) (v := ?vz4) rfl rfl (by kernel_rfl) (by kernel_rfl) (by kernel_rfl) (by kernel_rfl) (fun _ _ _ h => h) (Or.inl ⟨by rfl, ?hz4⟩) hS ?rz4
        case hz4 => intro w hSw; (first | obtain ⟨hs1, hs2, hs3, hs4, hs5, hs6, hs7, hs8⟩ := hSw | obtain ⟨hs1, hs2, hs3⟩ := hSw | obtain ⟨hs1, hs2⟩ := hSw | skip); go_simp; try with_reducible rfl
        try simp only [Act.put, List.setIfInBounds_toArray, List.set_cons_zero, List.set_cons_succ]
        refine wpAnyM_pick (i := 4) (some 19) (v := ?vz5) rfl rfl (by kernel_rfl) (by kernel_rfl) (by kernel_rfl) (by kernel_rfl) (fun _ _ _ h => h) (Or.inl ⟨by rfl, ?hz5⟩) hS ?rz5
        case hz5 => intro w hSw; (first | obtain ⟨hs1, hs2, hs3, hs4, hs5, hs6, hs7, hs8⟩ := hSw | obtain ⟨hs1, hs2, hs3⟩ := hSw | obtain ⟨hs1, hs2⟩ := hSw | skip); go_simp; try with_reducible rfl
        try simp only [Act.put, List.setIfInBounds_toArray, List.set_cons_zero, List.set_cons_succ]
        refine wpAnyM_pick (i := 5) (some 20) (v := ?vz6) rfl rfl (by kernel_rfl) (by kernel_rfl) (by kernel_rfl) (by kernel_rfl) (fun _ _ _ h => h) (Or.inl ⟨by rfl, ?hz6⟩) hS ?rz6
        case hz6 => intro w hSw; (first | obtain ⟨hs1, hs2, hs3, hs4, hs5, hs6, hs7, hs8⟩ := hSw | obtain ⟨hs1, hs2, hs3⟩ := hSw | obtain ⟨hs1, hs2⟩ := hSw | skip); go_simp; try with_reducible rfl
        try simp only [Act.put, List.setIfInBounds_toArray, List.set_cons_zero, List.set_cons_succ]
        refine wpAnyM_pick (i := 7) (some 22) (v := ?vz7) rfl rfl (by kernel_rfl) (by kernel_rfl) (by kernel_rfl) (by kernel_rfl) (fun _ _ _ h => h) (Or.inl ⟨by rfl, ?hz7⟩) hS ?rz7
        case hz7 => intro w hSw; (first | obtain ⟨hs1, hs2, hs3, hs4, hs5, hs6, hs7, hs8⟩ := hSw | obtain ⟨hs1, hs2, hs3⟩ := hSw | obtain ⟨hs1, hs2⟩ := hSw | skip); go_simp; try with_reducible rfl
        try simp only [Act.put, List.setIfInBounds_toArray, List.set_cons_zero, List.set_cons_succ]
        refine wpAnyM_pick (i := 8) (some 23) (v := ?vz8) rfl rfl (by kernel_rfl) (by kernel_rfl) (by kernel_rfl) (by kernel_rfl) (fun _ _ _ h => h) (Or.inl ⟨by rfl, ?hz8⟩) hS ?rz8
        case hz8 => intro w hSw; (first | obtain ⟨hs1, hs2, hs3, hs4, hs5, hs6, hs7, hs8⟩ := hSw | obtain ⟨hs1, hs2, hs3⟩ := hSw | obtain ⟨hs1, hs2⟩ := hSw | skip); go_simp; try with_reducible rfl
        try simp only [Act.put, List.setIfInBounds_toArray, List.set_cons_zero, List.set_cons_succ]
        refine wpAnyM_one (i := 6) (by kernel_rfl) rfl (fun K hK => ?_)
        go_simp
        refine (HC9.out).mono ?_
        rintro e w10 ⟨rfl, hb10⟩
        have HX10 := hid (HX9.out.on hb10 HX9.out.lt)
        have HFX10 := hid (HFX9.out.on hb10 HFX9.out.lt)
        have HA10 := hid (HA9.out.on hb10)
        have HR10 := hid (HR9.out.on hb10)
        have HF10 := hid (HF9.out.on hb10)
        have HB10 := hid (HB9.out.trans (hb10.mono (Nat.le_of_lt HX9.out.lt)))
        clear hb10 HX9 HFX9 HA9 HR9 HF9 HB9 hS HC9
        have hS := HSS.out w10 HX10.out HFX10.out
        go_wp2_with fail
        refine hK.out _ _ (fun _ => hS) ?_
        clear hK K
        try simp only [Act.put, List.setIfInBounds_toArray, List.set_cons_zero, List.set_cons_succ]
        refine wpAnyM_one (i := 9) (by kernel_rfl) rfl (fun K hK => ?_)
        go_simp
        go_at_call 43
        refine (HPX.out _).mono ?_
        rintro e w11 ⟨rfl, hb11⟩
        have HX11 := hid (HX10.out.on hb11 HX10.out.lt)
        have HFX11 := hid (HFX10.out.on hb11 HFX10.out.lt)
        have HA11 := hid (HA10.out.on hb11)
        have HR11 := hid (HR10.out.on hb11)
        have HF11 := hid (HF10.out.on hb11)
        have HB11 := hid (HB10.out.trans (hb11.mono (Nat.le_of_lt HX10.out.lt)))
        clear hb11 HX10 HFX10 HA10 HR10 HF10 HB10 hS HPX
        have hS := HSS.out w11 HX11.out HFX11.out
        go_wp2_with fail
        refine hK.out _ _ (fun _ => hS) ?_
        clear hK K
        try simp only [Act.put, List.setIfInBounds_toArray, List.set_cons_zero, List.set_cons_succ]
        obtain ⟨w12, hcp, ha12, hk12⟩ := HA11.out.copy X q W (48 - q) (48 - q) HLEN.out hxW q3 (by omega)
        have hlp := HX11.out.lt
        have HX12 := hid (hk12.blk HX11.out (by omega))
        have HFX12 := hid (hk12.blk HFX11.out (fun e => HNE.out e))
        have HA12 : Hid (Arr w12 (p + 1 + 1) 86 48 (slotP x (j + 1))) := by show Arr _ _ _ _ _; rw [HPS.out]; exact ha12
        have HR12 := hid (hk12.blk HR11.out (by omega))
        have HF12 : Hid (Flds w12 B (.slice (some ⟨g, 0, none⟩) 11 fc)) := HFK.out w11 w12 HF11.out HA11.out hk12
        have HB12 := hid (HB11.out.trans (hk12.below (fun j hj => by rw [hj]; omega) (Nat.le_of_lt hlp)))
        clear ha12 hk12 hlp HX11 HFX11 HA11 HR11 HF11 HB11 hS
        have hS := HSS.out w12 HX12.out HFX12.out
        refine wpAnyM_one (i := 10) (by kernel_rfl) rfl (fun K hK => ?_)
        go_simp
        refine hK.out _ _ (fun _ => hS) ?_
        clear hK K
        try simp only [Act.put, List.setIfInBounds_toArray, List.set_cons_zero, List.set_cons_succ]
        refine wpAnyM_pick (i := 11) (some 26) (v := ?vz9) rfl rfl (by kernel_rfl) (by kernel_rfl) (by kernel_rfl) (by kernel_rfl) (fun _ _ _ h => h) (Or.inl ⟨by rfl, ?hz9⟩) hS ?rz9
        case hz9 => intro w hSw; (first | obtain ⟨hs1, hs2, hs3, hs4, hs5, hs6, hs7, hs8⟩ := hSw | obtain ⟨hs1, hs2, hs3⟩ := hSw | obtain ⟨hs1, hs2⟩ := hSw | skip); go_simp; try with_reducible rfl
        try simp only [Act.put, List.setIfInBounds_toArray, List.set_cons_zero, List.set_cons_succ]
        refine wpAnyM_pick (i := 12) (some 6) (v := ?vz10) rfl rfl (by kernel_rfl) (by kernel_rfl) (by kernel_rfl) (by kernel_rfl) (fun _ _ _ h => h) (Or.inl ⟨by rfl, ?hz10⟩) hS ?rz10
        case hz10 => intro w hSw; (first | obtain ⟨hs1, hs2, hs3, hs4, hs5, hs6, hs7, hs8⟩ := hSw | obtain ⟨hs1, hs2, hs3⟩ := hSw | obtain ⟨hs1, hs2⟩ := hSw | skip); go_simp; try with_reducible rfl
        try simp only [Act.put, List.setIfInBounds_toArray, List.set_cons_zero, List.set_cons_succ]
        refine wpAnyM_done (by kernel_rfl) ?_ _
        clear hcp hS
        go_wp2_with fail
        go_roundw
        case rel => exact ⟨j + 1, q + W, by omega, rfl, by go_num, HQS, HA12, HR12, HX12, HF12, HB12⟩
        case measure => simp [intOf]; omega
      · have HFX := hid (Blk.made wr #[.int .i64 (W : Nat), .func (.func f) #[] #[.pointer (some ⟨cb, 0, none⟩)], .func (.func kf) #[] #[]] 99)
        have HAL : Hid (Below wr.heap.size wr (wr.alloc (.cells #[.int .i64 (W : Nat), .func (.func f) #[] #[.pointer (some ⟨cb, 0, none⟩)], .func (.func kf) #[] #[]] 99))) := (Below.refl _ wr).alloc (Nat.le_refl _) _
        obtain ⟨q8, hq8⟩ : ∃ q8, wr.heap.size = q8 := ⟨_, rfl⟩
        go_wp2_with fail
        have hlp := HX.out.lt
        have hl8 : q8 < (wr.alloc (.cells #[.int .i64 (W : Nat), .func (.func f) #[] #[.pointer (some ⟨cb, 0, none⟩)], .func (.func kf) #[] #[]] 99)).heap.size := by rw [← hq8]; exact HFX.out.lt
        have HNE : Hid (q8 ≠ p + 1 + 1) := by show _ ≠ _; have := HA.out.lt; omega
        generalize wr.alloc (.cells #[.int .i64 (W : Nat), .func (.func f) #[] #[.pointer (some ⟨cb, 0, none⟩)], .func (.func kf) #[] #[]] 99) = w8 at *
        have HC8 := hid (fun w2 (hb : Below w8.heap.size w8 w2) => HCALL.out w2 (HAL.out.trans (hb.mono HAL.out.size)))
        have HX8 := hid (HX.out.on HAL.out HX.out.lt)
        have HA8 := hid (HA.out.on HAL.out)
        have HR8 := hid (HR.out.on HAL.out)
        have HF8 := hid (HF'.out.on HAL.out)
        have HB8 := hid (HB.out.trans (HAL.out.mono (Nat.le_of_lt (Nat.lt_of_le_of_lt (Nat.le_refl _) hlp))))
        rw [hq8] at HFX
        clear HCALL HX HA HR HF' HB HAL hlp c0 c1 c2 hgl hq8
        refine wp_region_d (fun w' => w'.cell? ⟨q8, 0, none⟩ = some (.int .i64 (W : Nat)) ∧ w'.cell? ⟨q8, 1, none⟩ = some (.func (.func f) #[] #[.pointer (some ⟨cb, 0, none⟩)]) ∧ w'.cell? ⟨p, 0, none⟩ = some (.int .u64 (A : Nat)) ∧ w'.cell? ⟨p, 1, none⟩ = some (.string nm) ∧ w'.cell? ⟨p, 2, none⟩ = some (.slice ak M ck) ∧ w'.cell? ⟨p, 3, none⟩ = some (.int .i64 ct') ∧ w'.cell? ⟨p, 4, none⟩ = some (.bool qd) ∧ w'.cell? ⟨p, 5, none⟩ = some (.int .u64 (nx : Nat))) (fun _ => true) (by kernel_rfl) ?_
        have hdr := (Below.refl w8.heap.size w8).drew
        have HX9 := hid (HX8.out.on hdr HX8.out.lt)
        have HFX9 := hid (HFX.out.on hdr HFX.out.lt)
        have HA9 := hid (HA8.out.on hdr)
        have HR9 := hid (HR8.out.on hdr)
        have HF9 := hid (HF8.out.on hdr)
        have HB9 := hid HB8.out.drew
        have HC9 := hid (HC8.out _ hdr)
        clear HX8 HFX HA8 HR8 HF8 HB8 HC8 hdr hl8
        generalize w8.drew = w9 at *
        have HSS : Hid (∀ w', Blk w' p #[.int .u64 (A : Nat), .string nm, .slice ak M ck, .int .i64 ct', .bool qd, .int .u64 (nx : Nat)] 57 → Blk w' q8 #[.int .i64 (W : Nat), .func (.func f) #[] #[.pointer (some ⟨cb, 0, none⟩)], .func (.func kf) #[] #[]] 99 → w'.cell? ⟨q8, 0, none⟩ = some (.int .i64 (W : Nat)) ∧ w'.cell? ⟨q8, 1, none⟩ = some (.func (.func f) #[] #[.pointer (some ⟨cb, 0, none⟩)]) ∧ w'.cell? ⟨p, 0, none⟩ = some (.int .u64 (A : Nat)) ∧ w'.cell? ⟨p, 1, none⟩ = some (.string nm) ∧ w'.cell? ⟨p, 2, none⟩ = some (.slice ak M ck) ∧ w'.cell? ⟨p, 3, none⟩ = some (.int .i64 ct') ∧ w'.cell? ⟨p, 4, none⟩ = some (.bool qd) ∧ w'.cell? ⟨p, 5, none⟩ = some (.int .u64 (nx : Nat))) := fun w' h1 h2 => ⟨h2.cell (i := 0) rfl, h2.cell (i := 1) rfl, h1.cell (i := 0) rfl, h1.cell (i := 1) rfl, h1.cell (i := 2) rfl, h1.cell (i := 3) rfl, h1.cell (i := 4) rfl, h1.cell (i := 5) rfl⟩
        have hS := HSS.out w9 HX9.out HFX9.out
        refine wpAnyM_pick (i := 0) (some 15) (v := ?vz11) rfl rfl (by kernel_rfl) (by kernel_rfl) (by kernel_rfl) (by kernel_rfl) (fun _ _ _ h => h) (Or.inl ⟨by rfl, ?hz11⟩) hS ?rz11
        case hz11 => intro w hSw; (first | obtain ⟨hs1, hs2, hs3, hs4, hs5, hs6, hs7, hs8⟩ := hSw | obtain ⟨hs1, hs2, hs3⟩ := hSw | obtain ⟨hs1, hs2⟩ := hSw | skip); go_simp; try with_reducible rfl
        try simp only [Act.put, List.setIfInBounds_toArray, List.set_cons_zero, List.set_cons_succ]
        refine wpAnyM_pick (i := 1) (some 16) (v := ?vz12) rfl rfl (by kernel_rfl) (by kernel_rfl) (by kernel_rfl) (by kernel_rfl) (fun _ _ _ h => h) (Or.inl ⟨by rfl, ?hz12⟩) hS ?rz12
        case hz12 => intro w hSw; (first | obtain ⟨hs1, hs2, hs3, hs4, hs5, hs6, hs7, hs8⟩ := hSw | obtain ⟨hs1, hs2, hs3⟩ := hSw | obtain ⟨hs1, hs2⟩ := hSw | skip); go_simp; try with_reducible rfl
        try simp only [Act.put, List.setIfInBounds_toArray, List.set_cons_zero, List.set_cons_succ]
        refine wpAnyM_pick (i := 2) (some 17) (v := ?vz13) rfl rfl (by kernel_rfl) (by kernel_rfl) (by kernel_rfl) (by kernel_rfl) (fun _ _ _ h => h) (Or.inl ⟨by rfl, ?hz13⟩) hS ?rz13
        case hz13 => intro w hSw; (first | obtain ⟨hs1, hs2, hs3, hs4, hs5, hs6, hs7, hs8⟩ := hSw | obtain ⟨hs1, hs2, hs3⟩ := hSw | obtain ⟨hs1, hs2⟩ := hSw | skip); go_simp; try with_reducible rfl
        try simp only [Act.put, List.setIfInBounds_toArray, List.set_cons_zero, List.set_cons_succ]
        refine wpAnyM_pick (i := 3) (some 18) (v := ?vz14) rfl rfl (by kernel_rfl) (by kernel_rfl) (by kernel_rfl) (by kernel_rfl) (fun _ _ _ h => h) (Or.inl ⟨by rfl, ?hz14⟩) hS ?rz14
        case hz14 => intro w hSw; (first | obtain ⟨hs1, hs2, hs3, hs4, hs5, hs6, hs7, hs8⟩ := hSw | obtain ⟨hs1, hs2, hs3⟩ := hSw | obtain ⟨hs1, hs2⟩ := hSw | skip); go_simp; try with_reducible rfl
        try simp only [Act.put, List.setIfInBounds_toArray, List.set_cons_zero, List.set_cons_succ]
        refine wpAnyM_pick (i := 4) (some 19) (v := ?vz15) rfl rfl (by kernel_rfl) (by kernel_rfl) (by kernel_rfl) (by kernel_rfl) (fun _ _ _ h => h) (Or.inl ⟨by rfl, ?hz15⟩) hS ?rz15
        case hz15 => intro w hSw; (first | obtain ⟨hs1, hs2, hs3, hs4, hs5, hs6, hs7, hs8⟩ := hSw | obtain ⟨hs1, hs2, hs3⟩ := hSw | obtain ⟨hs1, hs2⟩ := hSw | skip); go_simp; try with_reducible rfl
        try simp only [Act.put, List.setIfInBounds_toArray, List.set_cons_zero, List.set_cons_succ]
        refine wpAnyM_pick (i := 5) (some 20) (v := ?vz16) rfl rfl (by kernel_rfl) (by kernel_rfl) (by kernel_rfl) (by kernel_rfl) (fun _ _ _ h => h) (Or.inl ⟨by rfl, ?hz16⟩) hS ?rz16
        case hz16 => intro w hSw; (first | obtain ⟨hs1, hs2, hs3, hs4, hs5, hs6, hs7, hs8⟩ := hSw | obtain ⟨hs1, hs2, hs3⟩ := hSw | obtain ⟨hs1, hs2⟩ := hSw | skip); go_simp; try with_reducible rfl
        try simp only [Act.put, List.setIfInBounds_toArray, List.set_cons_zero, List.set_cons_succ]
        refine wpAnyM_pick (i := 7) (some 22) (v := ?vz17) rfl rfl (by kernel_rfl) (by kernel_rfl) (by kernel_rfl) (by kernel_rfl) (fun _ _ _ h => h) (Or.inl ⟨by rfl, ?hz17⟩) hS ?rz17
        case hz17 => intro w hSw; (first | obtain ⟨hs1, hs2, hs3, hs4, hs5, hs6, hs7, hs8⟩ := hSw | obtain ⟨hs1, hs2, hs3⟩ := hSw | obtain ⟨hs1, hs2⟩ := hSw | skip); go_simp; try with_reducible rfl
        try simp only [Act.put, List.setIfInBounds_toArray, List.set_cons_zero, List.set_cons_succ]
        refine wpAnyM_pick (i := 8) (some 23) (v := ?vz18) rfl rfl (by kernel_rfl) (by kernel_rfl) (by kernel_rfl) (by kernel_rfl) (fun _ _ _ h => h) (Or.inl ⟨by rfl, ?hz18⟩) hS ?rz18
        case hz18 => intro w hSw; (first | obtain ⟨hs1, hs2, hs3, hs4, hs5, hs6, hs7, hs8⟩ := hSw | obtain ⟨hs1, hs2, hs3⟩ := hSw | obtain ⟨hs1, hs2⟩ := hSw | skip); go_simp; try with_reducible rfl
        try simp only [Act.put, List.setIfInBounds_toArray, List.set_cons_zero, List.set_cons_succ]
        refine wpAnyM_one (i := 6) (by kernel_rfl) rfl (fun K hK => ?_)
        go_simp
        refine (HC9.out).mono ?_
        rintro e w10 ⟨rfl, hb10⟩
        have HX10 := hid (HX9.out.on hb10 HX9.out.lt)
        have HFX10 := hid (HFX9.out.on hb10 HFX9.out.lt)
        have HA10 := hid (HA9.out.on hb10)
        have HR10 := hid (HR9.out.on hb10)
        have HF10 := hid (HF9.out.on hb10)
        have HB10 := hid (HB9.out.trans (hb10.mono (Nat.le_of_lt HX9.out.lt)))
        clear hb10 HX9 HFX9 HA9 HR9 HF9 HB9 hS HC9
        have hS := HSS.out w10 HX10.out HFX10.out
        go_wp2_with fail
        refine hK.out _ _ (fun _ => hS) ?_
        clear hK K
        try simp only [Act.put, List.setIfInBounds_toArray, List.set_cons_zero, List.set_cons_succ]
        refine wpAnyM_one (i := 9) (by kernel_rfl) rfl (fun K hK => ?_)
        go_simp
        go_at_call 43
        refine (HPX.out _).mono ?_
        rintro e w11 ⟨rfl, hb11⟩
        have HX11 := hid (HX10.out.on hb11 HX10.out.lt)
        have HFX11 := hid (HFX10.out.on hb11 HFX10.out.lt)
        have HA11 := hid (HA10.out.on hb11)
        have HR11 := hid (HR10.out.on hb11)
        have HF11 := hid (HF10.out.on hb11)
        have HB11 := hid (HB10.out.trans (hb11.mono (Nat.le_of_lt HX10.out.lt)))
        clear hb11 HX10 HFX10 HA10 HR10 HF10 HB10 hS HPX
        have hS := HSS.out w11 HX11.out HFX11.out
        go_wp2_with fail
        refine hK.out _ _ (fun _ => hS) ?_
        clear hK K
        try simp only [Act.put, List.setIfInBounds_toArray, List.set_cons_zero, List.set_cons_succ]
        obtain ⟨w12, hcp, ha12, hk12⟩ := HA11.out.copy X q W (48 - q) (48 - q) HLEN.out hxW q3 (by omega)
        have hlp := HX11.out.lt
        have HX12 := hid (hk12.blk HX11.out (by omega))
        have HFX12 := hid (hk12.blk HFX11.out (fun e => HNE.out e))
        have HA12 : Hid (Arr w12 (p + 1 + 1) 86 48 (slotP x (j + 1))) := by show Arr _ _ _ _ _; rw [HPS.out]; exact ha12
        have HR12 := hid (hk12.blk HR11.out (by omega))
        have HF12 : Hid (Flds w12 B (.slice (some ⟨g, 0, none⟩) 11 fc)) := HFK.out w11 w12 HF11.out HA11.out hk12
        have HB12 := hid (HB11.out.trans (hk12.below (fun j hj => by rw [hj]; omega) (Nat.le_of_lt hlp)))
        clear ha12 hk12 hlp HX11 HFX11 HA11 HR11 HF11 HB11 hS
        have hS := HSS.out w12 HX12.out HFX12.out
        refine wpAnyM_one (i := 10) (by kernel_rfl) rfl (fun K hK => ?_)
        go_simp
        refine hK.out _ _ (fun _ => hS) ?_
        clear hK K
        try simp only [Act.put, List.setIfInBounds_toArray, List.set_cons_zero, List.set_cons_succ]
        refine wpAnyM_pick (i := 11) (some 26) (v := ?vz19) rfl rfl (by kernel_rfl) (by kernel_rfl) (by kernel_rfl) (by kernel_rfl) (fun _ _ _ h => h) (Or.inl ⟨by rfl, ?hz19⟩) hS ?rz19
        case hz19 => intro w hSw; (first | obtain ⟨hs1, hs2, hs3, hs4, hs5, hs6, hs7, hs8⟩ := hSw | obtain ⟨hs1, hs2, hs3⟩ := hSw | obtain ⟨hs1, hs2⟩ := hSw | skip); go_simp; try with_reducible rfl
        try simp only [Act.put, List.setIfInBounds_toArray, List.set_cons_zero, List.set_cons_succ]
        refine wpAnyM_pick (i := 12) (some 6) (v := ?vz20) rfl rfl (by kernel_rfl) (by kernel_rfl) (by kernel_rfl) (by kernel_rfl) (fun _ _ _ h => h) (Or.inl ⟨by rfl, ?hz20⟩) hS ?rz20
        case hz20 => intro w hSw; (first | obtain ⟨hs1, hs2, hs3, hs4, hs5, hs6, hs7, hs8⟩ := hSw | obtain ⟨hs1, hs2, hs3⟩ := hSw | obtain ⟨hs1, hs2⟩ := hSw | skip); go_simp; try with_reducible rfl
        try simp only [Act.put, List.setIfInBounds_toArray, List.set_cons_zero, List.set_cons_succ]
        refine wpAnyM_done (by kernel_rfl) ?_ _
        clear hcp hS
        go_wp2_with fail
        go_roundw
        case rel => exact ⟨j + 1, q + W, by omega, rfl, by go_num, HQS, HA12, HR12, HX12, HF12, HB12⟩
        case measure => simp [intOf]; omega
    · have hji : ¬ (j : Int) < 11 := by omega
      obtain rfl : j = 11 := by omega
      have HSB : Hid (slotP x 11 ++ List.replicate (48 - (slotP x 11).length) 0 = slotB x) := by show _ = _; rw [slotP_len]; rfl
      have HS8 : Hid ((slotB x).length = 48) := by show _ = _; unfold slotB; rw [List.length_append, slotP_len]; rfl
      have HA2 : Hid (Blk wr (p + 1 + 1) (Lib.byteCells (slotB x)).toArray 86) := by show Blk _ _ _ _; have := HA.out; unfold Arr at this; rw [HSB.out] at this; exact this
      have HR2 : Hid (Blk wr (p + 1) (Lib.byteCells (List.replicate 48 0)).toArray 86) := HR.out
      clear HA HR HSB
      have HSX := hid (Eq.refl (slotB x))
      obtain ⟨sb, hsb⟩ : ∃ sb, slotB x = sb := ⟨_, rfl⟩
      have HSB := hid hsb
      rw [hsb] at HA2 HS8
      clear hsb HSX
      go_wp2_with (first
        | (refine wpList_ldArr rfl (.tmp 5) rfl (p + 1 + 1) sb rfl HA2.out HS8.out ?_)
        | (refine wpList_stArr rfl (.tmp 4) (.tmp 28) rfl (p + 1) sb (List.replicate 48 0) rfl rfl HR2.out HS8.out (by simp) ?_; intro w5 hb5 hk5))
      refine bodyPost_ret (results_cell_row rfl _ w5 (p + 1) 86 _ (0, 0) _ rfl hb5 Try.underlying86 rfl (by rw [info86, List.size_toArray, Lib.byteCells_length, HS8.out])) rfl ⟨by rw [HSB.out], ?_⟩
      rw [HP.out]
      exact HB.out.trans (hk5.below (fun j hj => by rw [hj]; omega) (Nat.le_of_lt (Nat.lt_of_le_of_lt (by omega) (Blk.lt HR2.out))))
end Go.Proofs.Ythohopbolalpcaa

