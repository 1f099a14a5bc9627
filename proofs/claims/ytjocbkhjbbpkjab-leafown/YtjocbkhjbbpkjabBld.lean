/-
  A strings.Builder of the call's own: what its writers and String do at this program.
-/
import Derived.Test.YtjocbkhjbbpkjabApp
import Derived.Test.YtjocbkhjbbpkjabNumC
import Derived.Lib.Builder
import Derived.Lib.AppendStr
import Derived.Lib.UnsafeStr
import Derived.Laws.Externs
import Derived.RegionTactic
import Derived.BigQuiet
namespace Go.Proofs.Ytjocbkhjbbpkjab
open Go.RowKit
set_option linter.unusedVariables false
set_option maxRecDepth 100000

theorem size66 : (Try.prog.info? 55).map (·.size) = some 2 := by kernel_rfl
theorem lies66 : liesAt Try.prog Try.prog.depth 55 (2 / Try.prog.cellsOf 55) 0 55 1 = true := by kernel_rfl
/-- blocks of entries stand -/
def Kp (w w' : World) : Prop := ∀ g cs, Blk w g cs 26 → Blk w' g cs 26
theorem Kp.refl (w : World) : Kp w w := fun _ _ h => h
theorem Kp.trans {a b c : World} (h : Kp a b) (k : Kp b c) : Kp a c := fun g cs x => k g cs (h g cs x)
theorem Kp.of_below {w w' : World} (h : Below w.heap.size w w') : Kp w w' := fun g cs x => x.on h x.lt
theorem Kp.set {w : World} {b i : Nat} {cs : Array Value} {v : Value} (hb : Blk w b cs 55) : Kp w (w.setCell ⟨b, i, none⟩ v) := fun g cs' x => x.other (fun e => by
  subst e
  have := x.symm.trans hb
  cases this) v
theorem Kp.grown {w w' : World} {B n : Nat} {v : Value} {xs : List Value} (hg : w.grownBy w' v.ownBlock) (hr : w.ownsRow B 5 1 v n xs) : Kp w w' := fun g cs x => x.kept hg (fun e => x.ne hr (by decide) e.symm rfl)
/-- a builder at block b that holds these bytes -/
def Bld (w : World) (B b : Nat) (l : List UInt8) : Prop := Lib.IsBuilder 55 5 B b (Lib.byteCells l) w

set_option maxHeartbeats 1000000 in
set_option maxRecDepth 100000 in
theorem copyCheck_bld (B b : Nat) (bs : List Value) (w : World) (h : Lib.IsBuilder 55 5 B b bs w) :
    Calls Try.prog 32 #[.pointer (some ⟨b, 0, none⟩)] w fun e w' => e = .returned (.tuple #[]) ∧ (Lib.BuilderAt 55 5 B b (.pointer (some ⟨b, 0, none⟩)) bs w' ∧ Below B w w' ∧ Kp w w') := by
  obtain ⟨j, hj, hjs⟩ := Option.map_eq_some_iff.1 size66
  rcases h with h | h
  · have h0 := h.cell0
    have hfz := h.frozen0
    have hsh := h.shape
    have hfin := h.used (.pointer (some ⟨b, 0, none⟩))
    have HKP : Hid (Kp w (w.setCell ⟨b, 0, none⟩ (.pointer (some ⟨b, 0, none⟩)))) := by obtain ⟨_, v9, hbk9, _⟩ := h; exact Kp.set hbk9
    have hbl : Below B w (w.setCell ⟨b, 0, none⟩ (.pointer (some ⟨b, 0, none⟩))) := (Below.refl B w).setCell (p := ⟨b, 0, none⟩) h.1 _
    have hto := Lib.run_to_unsafe (P := Try.prog) w ⟨b, 0, none⟩ Try.underlying52 Try.underlying74 hj (by rw [hjs]; decide) hsh (Nat.zero_lt_succ 1)
    have hfrom := Lib.run_from_unsafe (P := Try.prog) w ⟨b, 0, none⟩ Try.underlying74 Try.underlying52 hj hsh lies66
    have hno : (callFunc 35 #[.pointer (some ⟨b, 0, none⟩)]).run Try.prog w = .ok (.value (.pointer (some ⟨b, 0, none⟩))) w := by
      rw [run_callFunc_extern Try.func35 (by kernel_rfl) (by kernel_rfl) (by kernel_rfl) (e := Extern.AbiNoEscape.same) (by kernel_rfl), Lib.run_noEscape]
      rfl
    have HF : Hid (Lib.BuilderAt 55 5 B b (.pointer (some ⟨b, 0, none⟩)) bs (w.setCell ⟨b, 0, none⟩ (.pointer (some ⟨b, 0, none⟩)))) := hfin
    have HB : Hid (Below B w (w.setCell ⟨b, 0, none⟩ (.pointer (some ⟨b, 0, none⟩)))) := hbl
    clear hfin hbl h
    go_enter Try.func32, Try.ntmps32
    go_wp2
    go_end0
    exact ⟨rfl, HF.out, HB.out, HKP.out⟩
  · have h0 := h.cell0
    have hne := Lib.run_neq_ptr_same (P := Try.prog) w (⟨b, 0, none⟩ : Addr) Try.underlying52 hj
    have HF : Hid (Lib.BuilderAt 55 5 B b (.pointer (some ⟨b, 0, none⟩)) bs w) := h
    clear h
    go_enter Try.func32, Try.ntmps32
    go_wp2
    go_end0
    exact ⟨rfl, HF.out, Below.refl B _, Kp.refl _⟩

theorem BuilderAt.isLt {B b : Nat} {p : Value} {bs : List Value} {w : World} (h : Lib.BuilderAt 55 5 B b p bs w) : b < w.heap.size := h.lt

set_option maxHeartbeats 2000000 in
set_option maxRecDepth 100000 in
theorem writeString_bld (B b : Nat) (l : List UInt8) (s : ByteArray) (w : World) (h : Bld w B b l) (hlen : l.length + s.size ≤ 100000) (hBw : B ≤ w.heap.size) :
    Calls Try.prog 24 #[.pointer (some ⟨b, 0, none⟩), .string s] w fun e w' => e = .returned (.tuple #[.int .i64 s.size, .nilIface]) ∧ Bld w' B b (l ++ s.data.toList) ∧ Below B w w' ∧ Kp w w' := by
  obtain ⟨i0, hi, hz0, hz1, hz2⟩ := info_parts info5
  have hcc := copyCheck_bld B b (Lib.byteCells l) w h
  have hll : (Lib.byteCells l).length = l.length := Lib.byteCells_length l
  have HC : Hid (Lib.byteCells (l ++ s.data.toList) = Lib.byteCells l ++ Lib.strCells s) := by show _ = _; simp [Lib.byteCells, Lib.strCells]
  generalize Lib.byteCells l = bs at hcc hll HC
  clear h
  have Bld' : ∀ w', Lib.IsBuilder 55 5 B b (Lib.byteCells (l ++ s.data.toList)) w' → Bld w' B b (l ++ s.data.toList) := fun _ h => h
  rw [HC.out] at Bld'
  have HBld : Hid (∀ w', Lib.IsBuilder 55 5 B b (bs ++ Lib.strCells s) w' → Bld w' B b (l ++ s.data.toList)) := Bld'
  clear Bld' HC
  go_enter Try.func24, Try.ntmps24
  go_wp2_with (first | (go_at_call 32; refine hcc.mono ?_; rintro e w1 ⟨rfl, h1, hb1, hk1⟩; have HK1 := hid hk1; clear hk1; have hlt := h1.lt; obtain ⟨hB, v, hbk, hown, hne⟩ := h1; have c0 : w1.cell? ⟨b, 0, none⟩ = some (.pointer (some ⟨b, 0, none⟩)) := by { rw [Lib.cell_of_heap hbk]; rfl }; have c1 : w1.cell? ⟨b, 1, none⟩ = some v := by { rw [Lib.cell_of_heap hbk]; rfl }) | (at_builtin; refine Lib.wpList_append_own_string _ rfl _ _ 53 9 rfl B 5 i0 Try.underlying53 Try.underlying9 hi hz0 hz1 hz2 _ _ _ rfl hown s rfl ?c3 ?c4 ?c5 ?_))
  case c3 => unfold maxLen; omega
  case c4 => omega
  case c5 => have := hb1.size; omega
  intro v' w2 hown' hgrow _
  have hb2 : w2.heap[b]? = some (.cells #[.pointer (some ⟨b, 0, none⟩), v] 55 (0, 0)) := by
    rw [hgrow.block b hlt (fun e => hne e.symm)]
    exact hbk
  have d1 : w2.cell? ⟨b, 1, none⟩ = some v := by rw [Lib.cell_of_heap hb2]; rfl
  have f1 : w2.frozen? ⟨b, 1, none⟩ = false := Lib.frozen_of_heap hb2 1
  have hput := Lib.BuilderAt.put (T := 55) (e := 5) hB hb2 (bs' := bs ++ Lib.strCells s) (by simpa [Lib.strCells_length, hll] using hown') (by decide)
  have hbel : Below B w w2 := hb1.grown hgrow (by have := hb1.size; omega) (fun k hk => (hown.lt k hk).1)
  obtain ⟨ao, cap, hv', _⟩ := own_cells hown'
  subst hv'
  have HK2 := hid (HK1.out.trans ((Kp.grown hgrow hown).trans (Kp.set (i := 1) (v := .slice ao (l.length + s.size) cap) hb2)))
  have HP : Hid (Lib.BuilderAt _ _ _ _ _ _ _) := hput
  clear hput hgrow hown hown' hbk
  go_wp2
  go_ret2
  exact ⟨rfl, HBld.out _ (.inr HP.out), hbel.setCell (p := ⟨b, 1, none⟩) hB _, HK2.out⟩

set_option maxHeartbeats 1000000 in
set_option maxRecDepth 100000 in
theorem string_bld (B b : Nat) (l : List UInt8) (w : World) (h : Bld w B b l) (h0 : l ≠ []) :
    Calls Try.prog 27 #[.pointer (some ⟨b, 0, none⟩)] w fun e w' => e = .returned (.string ⟨l.toArray⟩) ∧ Below B w w' := by
  obtain ⟨p, hB, v, hbk, hown, hne⟩ : ∃ p, Lib.BuilderAt 55 5 B b p (Lib.byteCells l) w := by
    rcases h with h | h <;> exact ⟨_, h⟩
  have hl0 : l.length ≠ 0 := by simpa using h0
  rw [Lib.byteCells_length] at hown
  obtain ⟨hlc, ⟨_, hz⟩ | ⟨g, cap, cur, hv, hbg, hg, hnc, hcm, hcs, htake⟩⟩ := id hown
  · exact absurd hz hl0
  subst hv
  have hbk' : w.drew.heap[b]? = some (.cells #[p, .slice (some ⟨g, 0, none⟩) l.length cap] 55 (0, 0)) := hbk
  have hg' : w.drew.heap[g]? = some (.cells cur 5 (0, 0)) := hg
  have c1 : w.drew.cell? ⟨b, 1, none⟩ = some (.slice (some ⟨g, 0, none⟩) l.length cap) := by rw [Lib.cell_of_heap hbk']; rfl
  have hSD : (Builtin.unsafeSliceData_ #[53] 70 #[.slice (some ⟨g, 0, none⟩) l.length cap]).run Try.prog w.drew = .ok (.pointer (some ⟨g, 0, none⟩)) w.drew := Lib.run_unsafeSliceData_row _ _ _ _ _ _ (by omega)
  have hUS : (Builtin.unsafeString_ #[70, 3] 9 #[.pointer (some ⟨g, 0, none⟩), .int .i64 l.length]).run Try.prog w.drew = .ok (.string ⟨l.toArray⟩) (w.drew.freeze ⟨g, 0, none⟩ l.length) := by
    refine Lib.run_unsafeString_row w.drew 70 3 9 5 Try.underlying70 cells5 g cur.size (by simp [World.shape?, hg']) l h0 (by omega) (by unfold maxLen at hcm; omega) ?_
    intro j x hx
    exact hown.cells (g := g) rfl j (.int .u8 x.toNat) (by simp [Lib.byteCells, hx])
  have hfin : Below B w (w.drew.freeze ⟨g, 0, none⟩ l.length) := Lib.below_freeze (Below.drew (Below.refl B w)) (p := ⟨g, 0, none⟩) hbg _
  have HB : Hid (Below B w (w.drew.freeze ⟨g, 0, none⟩ l.length)) := hfin
  clear hfin hown htake
  go_enter Try.func27, Try.ntmps27
  go_wp2
  go_region
  all_goals (go_wp2; go_ret; exact ⟨rfl, HB.out⟩)

theorem Bld.on {w w' : World} {B b : Nat} {l : List UInt8} (h : Bld w B b l) (hb : Below w.heap.size w w') : Bld w' B b l := by
  rcases h with ⟨hB, v, hbk, hown, hne⟩ | ⟨hB, v, hbk, hown, hne⟩
  · exact .inl ⟨hB, v, (hb.block b (lt_of_block hbk)).trans hbk, own_below hown hb, hne⟩
  · exact .inr ⟨hB, v, (hb.block b (lt_of_block hbk)).trans hbk, own_below hown hb, hne⟩
theorem Bld.made (w : World) (B : Nat) (hB : B ≤ w.heap.size) : Bld (w.alloc (.cells #[.pointer none, .slice none 0 0] 55)) B w.heap.size [] := .inl ⟨hB, .slice none 0 0, by { show (w.heap.push _)[w.heap.size]? = _; simp }, World.ownsRow_nil _ _ _ _, by simp [Value.ownBlock]⟩
end Go.Proofs.Ytjocbkhjbbpkjab

