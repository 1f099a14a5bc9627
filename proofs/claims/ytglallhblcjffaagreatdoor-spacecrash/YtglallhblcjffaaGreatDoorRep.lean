/-
  A text of 256 bytes 0 as the library's Repeat makes it: its builder, step by step, at this program; and strings.Clone.
-/
import Derived.Test.YtglallhblcjffaaGreatDoorApp
import Derived.Test.YtglallhblcjffaaGreatDoorShelf
import Derived.Lib.FrozenHead
import Derived.Lib.MakeNoZero
import Derived.Lib.UnsafeStr
import Derived.Lib.MinMax
import Derived.Laws.Externs
import Derived.RegionTactic
import Derived.BigQuiet
import Derived.Deep.LoopGhost
namespace Go.Proofs.YtglallhblcjffaaGreatDoor
open Go.RowKit
set_option linter.unusedVariables false
set_option linter.unusedSimpArgs false
set_option maxRecDepth 100000

theorem clone_any (s : ByteArray) (w : World) (hs : s.size ≤ 281474976710656) :
    Calls Tryz.prog 92 #[.string s] w fun e w' => e = .returned (.string s) ∧ Below w.heap.size w w' := by
  go_enter Tryz.func92, Tryz.ntmps92
  go_wp2_with (go_at_call 132; refine (Tryz.stringslite_Clone s _ hs).mono ?_; rintro e w1 ⟨rfl, hb1⟩)
  go_ret
  exact ⟨rfl, hb1⟩

theorem size77 : (Tryz.prog.info? 128).map (·.size) = some 2 := by kernel_rfl
theorem size5 : (Tryz.prog.info? 5).map (·.size) = some 1 := by kernel_rfl
theorem lies77 : liesAt Tryz.prog Tryz.prog.depth 128 (2 / Tryz.prog.cellsOf 128) 0 128 1 = true := by kernel_rfl
theorem cells5 : Tryz.prog.cellsOf 5 = 1 := by kernel_rfl

/-- n bytes 0 -/
def zs (n : Nat) : List UInt8 := List.replicate n 0
/-- a builder at block b that holds n bytes 0, some of them told already -/
def Zb (w : World) (b n : Nat) : Prop := Lib.IsBuilderF 128 5 b b (Lib.byteCells (zs n)) w

set_option maxHeartbeats 1000000 in
theorem check_zb (b : Nat) (bs : List Value) (w : World) (h : Lib.IsBuilderF 128 5 b b bs w) :
    Calls Tryz.prog 124 #[.pointer (some ⟨b, 0, none⟩)] w fun e w' => e = .returned (.tuple #[]) ∧ (Lib.BuilderAtF 128 5 b b (.pointer (some ⟨b, 0, none⟩)) bs w' ∧ Below b w w') := by
  obtain ⟨j, hj, hjs⟩ := Option.map_eq_some_iff.1 size77
  rcases h with h | h
  · have h0 := h.cell0
    have hfz := h.frozen0
    have hsh := h.shape
    have HF := hid (h.used (.pointer (some ⟨b, 0, none⟩)))
    have HB := hid ((Below.refl b w).setCell (p := ⟨b, 0, none⟩) h.1 (.pointer (some ⟨b, 0, none⟩)))
    have hto := Lib.run_to_unsafe (P := Tryz.prog) w ⟨b, 0, none⟩ Tryz.underlying126 Tryz.underlying146 hj (by rw [hjs]; decide) hsh (Nat.zero_lt_succ 1)
    have hfrom := Lib.run_from_unsafe (P := Tryz.prog) w ⟨b, 0, none⟩ Tryz.underlying146 Tryz.underlying126 hj hsh lies77
    have hno : (callFunc 149 #[.pointer (some ⟨b, 0, none⟩)]).run Tryz.prog w = .ok (.value (.pointer (some ⟨b, 0, none⟩))) w := by
      rw [run_callFunc_extern Tryz.func149 (by kernel_rfl) (by kernel_rfl) (by kernel_rfl) (e := Extern.AbiNoEscape.same) (by kernel_rfl), Lib.run_noEscape]
      rfl
    clear h
    go_enter Tryz.func124, Tryz.ntmps124
    go_wp2
    go_end0
    exact ⟨rfl, HF.out, HB.out⟩
  · have h0 := h.cell0
    have hne := Lib.run_neq_ptr_same (P := Tryz.prog) w (⟨b, 0, none⟩ : Addr) Tryz.underlying126 hj
    have HF := hid h
    clear h
    go_enter Tryz.func124, Tryz.ntmps124
    go_wp2
    go_end0
    exact ⟨rfl, HF.out, Below.refl b _⟩

set_option maxHeartbeats 1000000 in
theorem check_fresh (b : Nat) (w : World) (hbk : w.heap[b]? = some (.cells #[.pointer none, .slice none 0 0] 128 (0, 0))) :
    Calls Tryz.prog 124 #[.pointer (some ⟨b, 0, none⟩)] w fun e w' => e = .returned (.tuple #[]) ∧ w.setCell ⟨b, 0, none⟩ (.pointer (some ⟨b, 0, none⟩)) = w' := by
  obtain ⟨j, hj, hjs⟩ := Option.map_eq_some_iff.1 size77
  have h0 : w.cell? ⟨b, 0, none⟩ = some (.pointer none) := by rw [Lib.cell_of_heap hbk]; rfl
  have hfz : w.frozen? ⟨b, 0, none⟩ = false := Lib.frozen_of_heap hbk 0
  have hsh : w.shape? b = some (128, 2) := by simp [World.shape?, hbk]
  have hto := Lib.run_to_unsafe (P := Tryz.prog) w ⟨b, 0, none⟩ Tryz.underlying126 Tryz.underlying146 hj (by rw [hjs]; decide) hsh (Nat.zero_lt_succ 1)
  have hfrom := Lib.run_from_unsafe (P := Tryz.prog) w ⟨b, 0, none⟩ Tryz.underlying146 Tryz.underlying126 hj hsh lies77
  have hno : (callFunc 149 #[.pointer (some ⟨b, 0, none⟩)]).run Tryz.prog w = .ok (.value (.pointer (some ⟨b, 0, none⟩))) w := by
    rw [run_callFunc_extern Tryz.func149 (by kernel_rfl) (by kernel_rfl) (by kernel_rfl) (e := Extern.AbiNoEscape.same) (by kernel_rfl), Lib.run_noEscape]
    rfl
  clear hbk
  go_enter Tryz.func124, Tryz.ntmps124
  go_wp2
  go_end0
  exact ⟨rfl, rfl⟩

set_option maxHeartbeats 2000000 in
theorem grow_zb (b n : Nat) (w : World) (hbk : w.heap[b]? = some (.cells #[.pointer (some ⟨b, 0, none⟩), .slice none 0 0] 128 (0, 0))) (hn : n ≤ 100000) :
    Calls Tryz.prog 125 #[.pointer (some ⟨b, 0, none⟩), .int .i64 n] w fun e w' => e = .returned (.tuple #[]) ∧ (Lib.BuilderAt 128 5 b b (.pointer (some ⟨b, 0, none⟩)) [] w' ∧ Below b w w') := by
  obtain ⟨cs, hrun, hle, hmax⟩ := Lib.run_makeNoZero (P := Tryz.prog) w.drew #[3] 39 5 Tryz.underlying39 n (by omega)
  have hw : IntKind.i64.wrap (IntKind.i64.wrap 0 + (n : Int)) = n := by
    rw [IntKind.wrap_i64, IntKind.wrap_i64]
    omega
  have hcall : (callFunc 150 #[.int .i64 (n : Int)]).run Tryz.prog w.drew = .ok (.value (.slice (some ⟨w.drew.heap.size, 0, none⟩) n cs.size)) (w.drew.drew.drew.alloc (.cells cs 5)) := by
    rw [run_callFunc_extern Tryz.func150 (by kernel_rfl) (by kernel_rfl) (by kernel_rfl) (e := Extern.BytealgMakeNoZero.makeNoZero #[3] #[39]) (by kernel_rfl), hrun]
    rfl
  have hlt : b < w.heap.size := lt_of_block hbk
  have hk1 : w.drew.heap[b]? = _ := hbk
  have hk2 : (w.alloc (.cells cs 5)).heap[b]? = _ := (Lib.alloc_old w _ b hlt).trans hbk
  have c1 : w.drew.cell? ⟨b, 1, none⟩ = some (.slice none 0 0) := by rw [Lib.cell_of_heap hk1]; rfl
  have c2 : (w.alloc (.cells cs 5)).cell? ⟨b, 1, none⟩ = some (.slice none 0 0) := by rw [Lib.cell_of_heap hk2]; rfl
  have f2 : (w.alloc (.cells cs 5)).frozen? ⟨b, 1, none⟩ = false := Lib.frozen_of_heap hk2 1
  have hcopy : ∀ W : World, (Builtin.copy_ #[39, 39] 3 #[.slice (some ⟨w.heap.size, 0, none⟩) 0 cs.size, .slice none 0 0]).run Tryz.prog W = .ok (goInt 0) W :=
    fun W => run_copy_none W 39 39 3 5 _ _ 0 cs.size 0 0 Tryz.underlying39 size5 rfl
  have hfin := Lib.grown_fresh (T := 128) (e := 5) (cs := cs) (Nat.le_refl b) hbk (Nat.le_of_lt hlt) (hmax (by unfold maxLen; omega)) (by decide)
  have HF := hid hfin
  clear hfin hk1 hk2 hrun hlt
  go_enter Tryz.func125, Tryz.ntmps125
  go_wp2
  go_region
  all_goals (go_wp2; go_end0; exact ⟨rfl, HF.out⟩)

set_option maxHeartbeats 2000000 in
theorem Grow_zb (b n : Nat) (w : World) (hbk : w.heap[b]? = some (.cells #[.pointer none, .slice none 0 0] 128 (0, 0))) (hn : n ≤ 100000) (h0 : 0 < n) :
    Calls Tryz.prog 78 #[.pointer (some ⟨b, 0, none⟩), .int .i64 n] w fun e w' => e = .returned (.tuple #[]) ∧ (Lib.BuilderAt 128 5 b b (.pointer (some ⟨b, 0, none⟩)) [] w' ∧ Below b w w') := by
  have hfr := check_fresh b w hbk
  have hgr : ∀ w1 : World, w1.heap[b]? = some (.cells #[.pointer (some ⟨b, 0, none⟩), .slice none 0 0] 128 (0, 0)) → _ := fun w1 h => grow_zb b n w1 h hn
  have hbk1 : (w.setCell ⟨b, 0, none⟩ (.pointer (some ⟨b, 0, none⟩))).heap[b]? = some (.cells #[.pointer (some ⟨b, 0, none⟩), .slice none 0 0] 128 (0, 0)) := by
    simp [World.setCell, Array.getElem?_modify, hbk]
  have c1 : (w.setCell ⟨b, 0, none⟩ (.pointer (some ⟨b, 0, none⟩))).drew.cell? ⟨b, 1, none⟩ = some (.slice none 0 0) := by
    have : (w.setCell ⟨b, 0, none⟩ (.pointer (some ⟨b, 0, none⟩))).drew.heap[b]? = _ := hbk1
    rw [Lib.cell_of_heap this]; rfl
  have HB := hid ((Below.refl b w).setCell (p := ⟨b, 0, none⟩) (Nat.le_refl _) (.pointer (some ⟨b, 0, none⟩)))
  have HK := hid hbk1
  clear hbk hbk1
  go_enter Tryz.func78, Tryz.ntmps78
  go_wp2_with (go_at_call 124; refine hfr.mono ?_; rintro e w' ⟨rfl, rfl⟩)
  clear hfr
  generalize w.setCell ⟨b, 0, none⟩ (.pointer (some ⟨b, 0, none⟩)) = w1 at HB HK c1 ⊢
  go_region
  all_goals go_wp2_with (go_at_call 125; refine (hgr w1.drew HK.out).mono ?_; rintro e w' ⟨rfl, h1, h2⟩)
  all_goals (go_end0; exact ⟨rfl, h1, HB.out.drew.trans h2⟩)

set_option maxHeartbeats 2000000 in
theorem write_zb (b n : Nat) (s : ByteArray) (m : Nat) (hs : s = ⟨(zs m).toArray⟩) (w : World) (h : Zb w b n) (hlen : n + m ≤ 100000) :
    Calls Tryz.prog 79 #[.pointer (some ⟨b, 0, none⟩), .string s] w fun e w' => (∃ k, e = .returned (.tuple #[.int .i64 k, .nilIface])) ∧ Zb w' b (n + m) ∧ Below b w w' := by
  obtain ⟨i0, hi, hz0, hz1, hz2⟩ := info_parts info5
  have hcc := check_zb b (Lib.byteCells (zs n)) w h
  have hll : (Lib.byteCells (zs n)).length = n := by rw [Lib.byteCells_length]; simp [zs]
  have hsz : s.size = m := by rw [hs]; show (zs m).toArray.size = m; simp [zs]
  have HC : Hid (Lib.byteCells (zs (n + m)) = Lib.byteCells (zs n) ++ Lib.strCells s) := by
    show _ = _
    rw [Lib.strCells_eq, ← Lib.byteCells_append, hs]
    simp [zs, List.replicate_append_replicate]
  have HZ : Hid (∀ w', Lib.IsBuilderF 128 5 b b (Lib.byteCells (zs (n + m))) w' → Zb w' b (n + m)) := fun _ h => h
  generalize Lib.byteCells (zs n) = bs at hcc hll HC
  have HZ2 : Hid (∀ w', Lib.IsBuilderF 128 5 b b (bs ++ Lib.strCells s) w' → Zb w' b (n + m)) := fun w' h => HZ.out w' (by rw [HC.out]; exact h)
  clear h HZ HC hs
  go_enter Tryz.func79, Tryz.ntmps79
  go_wp2_with (first | (go_at_call 124; refine hcc.mono ?_; rintro e w1 ⟨rfl, h1, hb1⟩; have hlt := h1.lt; obtain ⟨hB, v, hbk, hown, hne⟩ := h1; have c0 : w1.cell? ⟨b, 0, none⟩ = some (.pointer (some ⟨b, 0, none⟩)) := by { rw [Lib.cell_of_heap hbk]; rfl }; have c1 : w1.cell? ⟨b, 1, none⟩ = some v := by { rw [Lib.cell_of_heap hbk]; rfl }) | (at_builtin; refine Lib.wpList_append_own_stringF _ rfl _ _ 39 9 rfl b 5 i0 Tryz.underlying39 Tryz.underlying9 hi hz0 hz1 hz2 _ _ _ rfl hown s rfl ?c3 ?c4 ?c5 ?_))
  case c3 => unfold maxLen; omega
  case c4 => omega
  case c5 => omega
  intro v' w2 hown' hgrow _
  have hb2 : w2.heap[b]? = some (.cells #[.pointer (some ⟨b, 0, none⟩), v] 128 (0, 0)) := by
    rw [hgrow.block b hlt (fun e => hne e.symm)]
    exact hbk
  have d1 : w2.cell? ⟨b, 1, none⟩ = some v := by rw [Lib.cell_of_heap hb2]; rfl
  have f1 : w2.frozen? ⟨b, 1, none⟩ = false := Lib.frozen_of_heap hb2 1
  have hput := Lib.BuilderAtF.put (T := 128) (e := 5) hB hb2 (bs' := bs ++ Lib.strCells s) (by simpa [Lib.strCells_length, hll, hsz] using hown') (by decide)
  have HBel := hid ((hb1.grown hgrow (by omega) (fun k hk => (hown.lt k hk).1)).setCell (p := ⟨b, 1, none⟩) (Nat.le_refl _) v')
  obtain ⟨ao, n', cap, hv'⟩ : ∃ ao n' cap, v' = .slice ao n' cap := by
    rcases hown'.2 with ⟨hv, _⟩ | ⟨g, cap, cur, fz, hv, _⟩
    · exact ⟨_, _, _, hv⟩
    · exact ⟨_, _, _, hv⟩
  subst hv'
  have HP := hid (HZ2.out _ (.inr hput))
  clear hput hgrow hown hown' hbk
  go_wp2
  go_ret2
  exact ⟨⟨_, rfl⟩, HP.out, HBel.out⟩

theorem len_zb (b n : Nat) (w : World) (h : Zb w b n) : Calls Tryz.prog 80 #[.pointer (some ⟨b, 0, none⟩)] w fun e w' => e = .returned (.int .i64 (n : Nat)) ∧ w = w' := by
  have hll : (Lib.byteCells (zs n)).length = n := by rw [Lib.byteCells_length]; simp [zs]
  obtain ⟨p, _, v, hbk, hown, _⟩ : ∃ p, Lib.BuilderAtF 128 5 b b p (Lib.byteCells (zs n)) w := by
    rcases h with h | h <;> exact ⟨_, h⟩
  rw [hll] at hown
  obtain ⟨ao, cap, hv⟩ : ∃ ao cap, v = .slice ao n cap := by
    rcases hown.2 with ⟨hv, h0⟩ | ⟨g, cap, cur, fz, hv, _⟩
    · exact ⟨none, 0, by rw [hv, h0]⟩
    · exact ⟨_, _, hv⟩
  subst hv
  have c1 : w.cell? ⟨b, 1, none⟩ = some (.slice ao n cap) := by rw [Lib.cell_of_heap hbk]; rfl
  clear hown hbk hll
  go_enter Tryz.func80, Tryz.ntmps80
  go_wp2
  go_ret
  exact ⟨rfl, rfl⟩

set_option maxHeartbeats 1000000 in
theorem string_zb (b n : Nat) (w : World) (h : Zb w b n) (h0 : 0 < n) :
    Calls Tryz.prog 81 #[.pointer (some ⟨b, 0, none⟩)] w fun e w' => e = .returned (.string ⟨(zs n).toArray⟩) ∧ Zb w' b n ∧ Below b w w' := by
  obtain ⟨p, hp, hAt⟩ : ∃ p, (p = .pointer none ∨ p = .pointer (some ⟨b, 0, none⟩)) ∧ Lib.BuilderAtF 128 5 b b p (Lib.byteCells (zs n)) w := by
    rcases h with h | h
    · exact ⟨_, .inl rfl, h⟩
    · exact ⟨_, .inr rfl, h⟩
  have hA2 := hAt.drew
  obtain ⟨hB, v, hbk, hown, hne⟩ := hAt
  have hll : (zs n).length = n := by simp [zs]
  have hne0 : zs n ≠ [] := fun e => by rw [e] at hll; simp at hll; omega
  rw [Lib.byteCells_length, hll] at hown
  rcases hown.2 with ⟨_, hz⟩ | ⟨g, cap, cur, fz, hv, hbg, hg, hfz, hnc, hcm, hcs, htake⟩
  · omega
  subst hv
  have hk1 : w.drew.heap[b]? = some (.cells #[p, .slice (some ⟨g, 0, none⟩) n cap] 128 (0, 0)) := hbk
  have hg1 : w.drew.heap[g]? = some (.cells cur 5 fz) := hg
  have c1 : w.drew.cell? ⟨b, 1, none⟩ = some (.slice (some ⟨g, 0, none⟩) n cap) := by rw [Lib.cell_of_heap hk1]; rfl
  have hSD : (Builtin.unsafeSliceData_ #[39] 170 #[.slice (some ⟨g, 0, none⟩) n cap]).run Tryz.prog w.drew = .ok (.pointer (some ⟨g, 0, none⟩)) w.drew := Lib.run_unsafeSliceData_row _ _ _ _ _ _ (by omega)
  have hUS : (Builtin.unsafeString_ #[170, 3] 9 #[.pointer (some ⟨g, 0, none⟩), .int .i64 n]).run Tryz.prog w.drew = .ok (.string ⟨(zs n).toArray⟩) (w.drew.freeze ⟨g, 0, none⟩ n) := by
    have := Lib.run_unsafeString_row w.drew 170 3 9 5 Tryz.underlying170 cells5 g cur.size (by simp [World.shape?, hg1]) (zs n) hne0 (by omega) (by unfold maxLen at hcm; omega) (fun j x hx => hown.cells (g := g) rfl j (.int .u8 x.toNat) (by simp [Lib.byteCells, hx]))
    rwa [hll] at this
  have hF := hA2.froze (g := g) (cap := cap) (by rw [Lib.byteCells_length, hll]; exact c1)
  rw [Lib.byteCells_length, hll] at hF
  have HZ : Hid (Zb (w.drew.freeze ⟨g, 0, none⟩ n) b n) := by
    rcases hp with rfl | rfl
    · exact .inl hF
    · exact .inr hF
  have HB := hid (Lib.below_freeze (Below.drew (Below.refl b w)) (p := ⟨g, 0, none⟩) hbg n)
  clear hF hA2 hown htake hk1 hg1 hll hne0 hbk hg
  go_enter Tryz.func81, Tryz.ntmps81
  go_wp2
  go_region
  all_goals (go_wp2; go_ret; exact ⟨rfl, HZ.out, HB.out⟩)

theorem min3 (ts : Array TypeId) (t : TypeId) (x y z r : Int) (hr : (if z < (if y < x then y else x) then z else (if y < x then y else x)) = r) (W : World) :
    (Builtin.min_ ts t #[.int .i64 x, .int .i64 y, .int .i64 z]).run Tryz.prog W = .ok (.int .i64 r) W := by
  rw [← hr]
  simp [Builtin.min_, Builtin.min2]

theorem zb_zero {w : World} {b : Nat} (h : Lib.BuilderAt 128 5 b b (.pointer (some ⟨b, 0, none⟩)) [] w) : Zb w b 0 := Lib.IsBuilderF.of (.inr h)

set_option maxHeartbeats 4000000 in
theorem repeat_any (w : World) :
    Calls Tryz.prog 46 #[.string ⟨#[0]⟩, .int .i64 256] w fun e w' => e = .returned (.string ⟨(zs 256).toArray⟩) ∧ Below w.heap.size w w' := by
  have hMul : Calls Tryz.prog 77 #[.int .u64 1, .int .u64 256] w fun e w' => e = .returned (.tuple #[.int .u64 0, .int .u64 256]) ∧ w = w' := (Tryz.bits_Mul 1 256 (by decide) (by decide) w).mono fun e w' h => ⟨h.1, h.2.symm⟩
  have b0 : Below w.heap.size w (w.alloc (.cells #[.pointer none, .slice none 0 0] 128)) := (Below.refl _ w).alloc (Nat.le_refl _) _
  have hG : Calls Tryz.prog 78 #[.pointer (some ⟨w.heap.size, 0, none⟩), .int .i64 256] (w.alloc (.cells #[.pointer none, .slice none 0 0] 128)) fun e w' => e = .returned (.tuple #[]) ∧ (Lib.BuilderAt 128 5 w.heap.size w.heap.size (.pointer (some ⟨w.heap.size, 0, none⟩)) [] w' ∧ Below w.heap.size (w.alloc (.cells #[.pointer none, .slice none 0 0] 128)) w') := Grow_zb w.heap.size 256 (w.alloc (.cells #[.pointer none, .slice none 0 0] 128)) (heap_alloc_new w _) (by omega) (by omega)
  have hW1 : ∀ w1, Zb w1 w.heap.size 0 → _ := fun w1 h => write_zb w.heap.size 0 ⟨#[0]⟩ 1 rfl w1 h (by omega)
  go_enter Tryz.func46, Tryz.ntmps46
  go_wp2_with (first
    | (go_at_call 77; refine hMul.mono ?_; clear hMul; rintro e w' ⟨rfl, rfl⟩)
    | (go_at_call 78; go_loud (refine hG.mono ?_; clear hG; rintro e w1 ⟨rfl, h1, b1⟩; have HB1 := hid (b0.trans b1); have HZ1 := hid (zb_zero h1); clear h1 b1 b0))
    | (go_at_call 79; refine (hW1 _ HZ1.out).mono ?_; clear hW1; rintro e w2 ⟨⟨k, rfl⟩, h2, b2⟩; have HB2 := hid (HB1.out.trans b2); have HZ2 := hid h2; clear h2 b2 HZ1 HB1))
  go_loopg [] 255 (fun g wx => ∃ q : Nat, 1 ≤ q ∧ q + g = 256 ∧ Hid (Zb wx w.heap.size q) ∧ Hid (Below w.heap.size w wx))
  case atStart => exact ⟨1, Nat.le_refl _, rfl, HZ2, HB2⟩
  case round =>
    obtain ⟨q, hq1, hqg, HZ, HB⟩ := hrel
    clear HZ2 HB2
    have hL := len_zb _ _ _ HZ.out
    have hS := string_zb _ _ _ HZ.out hq1
    cases gk with
    | zero =>
      obtain rfl : q = 256 := by omega
      go_wp2_with (first
        | (go_at_call 80; refine hL.mono ?_; rintro e w' ⟨rfl, rfl⟩)
        | (go_at_call 81; refine hS.mono ?_; rintro e w3 ⟨rfl, h3, b3⟩))
      go_ret
      exact ⟨rfl, HB.out.trans b3⟩
    | succ g =>
      have hlt : (q : Int) < 256 := by omega
      obtain ⟨k, hk⟩ : ∃ k : Nat, k = min (256 - q) q := ⟨_, rfl⟩
      have hk1 : 1 ≤ k := by omega
      have hk2 : k ≤ q := by omega
      have hk3 : q + k ≤ 256 := by omega
      have hmin : ∀ (ts : Array TypeId) (t : TypeId) (W : World), (Builtin.min_ ts t #[.int .i64 ((256 : Int) - (q : Int)), .int .i64 (q : Int), .int .i64 256]).run Tryz.prog W = .ok (.int .i64 (k : Int)) W := fun ts t W => min3 ts t _ _ _ _ (by rw [hk]; split <;> split <;> omega) W
      obtain ⟨S, hSS⟩ : ∃ S : ByteArray, (⟨(zs q).toArray⟩ : ByteArray) = S := ⟨_, rfl⟩
      have hSz : S.size = q := by rw [← hSS]; show (zs q).toArray.size = q; simp [zs]
      have hSx : S.extract 0 k = ⟨(zs k).toArray⟩ := by
        apply ByteArray.ext
        apply Array.ext'
        rw [Lib.extract_data, ← hSS]
        simp only [List.drop_zero, Nat.sub_zero, zs, List.take_replicate]
        rw [Nat.min_eq_left hk2]
      have hW : ∀ w1, Zb w1 w.heap.size q → _ := fun w1 h => write_zb w.heap.size q (S.extract 0 k) k hSx w1 h (by omega)
      rw [hSS] at hS
      clear hSS hSx hk
      go_wp2_with (first
        | (go_at_call 80; refine hL.mono ?_; rintro e w' ⟨rfl, rfl⟩)
        | (go_at_call 81; refine hS.mono ?_; clear hS; rintro e w3 ⟨rfl, h3, b3⟩; have HZ3 := hid h3; have HB3 := hid (HB.out.trans b3); clear h3 b3)
        | (go_at_call 79; refine (hW _ HZ3.out).mono ?_; clear hW; rintro e w4 ⟨⟨_, rfl⟩, h4, b4⟩; have HZ4 := hid h4; have HB4 := hid (HB3.out.trans b4); clear h4 b4))
      go_roundg (256 - (q + k))
      case measure => omega
      case rel => exact ⟨q + k, by omega, by omega, HZ4, HB4⟩

end Go.Proofs.YtglallhblcjffaaGreatDoor
