/-
  The size of a list, and whether it is right: the program's and the document's.
-/
import Derived.Test.YtjcbaiohpdihoaaGreatDoorNumC
import Derived.Test.YtjcbaiohpdihoaaGreatDoorApp
import Derived.Lib.Builder
import Derived.Lib.AppendStr
import Derived.Lib.UnsafeStr
import Derived.Laws.Externs
import Derived.RegionTactic
import Derived.BigQuiet
import Derived.Test.YtjcbaiohpdihoaaGreatDoorRi
import Derived.Laws.Cover1
namespace Go.Proofs.YtjcbaiohpdihoaaGreatDoor.Lf
open Go.Proofs.YtjcbaiohpdihoaaGreatDoor.Nu
open Go.RowKit
set_option linter.unusedVariables false
set_option maxRecDepth 100000

theorem clone_in (s : ByteArray) (w : World) (hs : s.size ≤ 281474976710656) :
    Calls Tryz.prog 160 #[.string s] w fun e w' => e = .returned (.string s) ∧ Below w.heap.size w w' := by
  by_cases h0 : s.size = 0
  · have hz : s = ⟨#[]⟩ := ByteArray.ext (Array.eq_empty_of_size_eq_zero h0)
    subst hz
    go_enter Tryz.func160, Tryz.ntmps160
    go_wp2
    go_ret
    exact ⟨rfl, Below.refl _ _⟩
  · obtain ⟨M, hM, hmk⟩ := make_run s.size w hs
    obtain ⟨Y, hY, hcp⟩ := copy_run s s.size w M hM (Nat.le_refl _)
    simp only [Nat.sub_self, List.replicate_zero, List.append_nil] at hY
    have hne : s.data.toList ≠ [] := fun e => h0 (by rw [Lib.size_eq, e]; rfl)
    have hYs : Y.size = s.size := by rw [← Array.length_toList, hY, Lib.byteCells_length, ← Lib.size_eq]
    have hus := Lib.run_unsafeString_row (P := Tryz.prog) ((w.alloc (.cells M 5)).setRow w.heap.size Y) 240 3 9 5 Tryz.underlying240 cells5 w.heap.size Y.size (by unfold World.shape?; rw [row_own]) s.data.toList hne (by rw [← Lib.size_eq]; omega) (by rw [← Lib.size_eq]; omega)
      (fun j x hx => by rw [add_zero_off]; exact row_cell w M Y _ hY j x hx)
    rw [← Lib.size_eq] at hus
    clear hM hY hYs hne
    go_enter Tryz.func160, Tryz.ntmps160
    go_wp2
    go_ret
    exact ⟨rfl, Lib.below_freeze (row_below w M Y) (p := ⟨w.heap.size, 0, none⟩) (Nat.le_refl _) _⟩

theorem clone_any (s : ByteArray) (w : World) (hs : s.size ≤ 281474976710656) :
    Calls Tryz.prog 104 #[.string s] w fun e w' => e = .returned (.string s) ∧ Below w.heap.size w w' := by
  go_enter Tryz.func104, Tryz.ntmps104
  go_wp2_with (go_at_call 160; refine (clone_in s _ hs).mono ?_; rintro e w1 ⟨rfl, hb1⟩)
  go_ret
  exact ⟨rfl, hb1⟩

end Go.Proofs.YtjcbaiohpdihoaaGreatDoor.Lf

namespace Go.Proofs.YtjcbaiohpdihoaaGreatDoor.Lf
open Go.Proofs.YtjcbaiohpdihoaaGreatDoor.Nu
open Go.RowKit
set_option linter.unusedVariables false
set_option maxRecDepth 100000

theorem size66 : (Tryz.prog.info? 173).map (·.size) = some 2 := by kernel_rfl
theorem lies66 : liesAt Tryz.prog Tryz.prog.depth 173 (2 / Tryz.prog.cellsOf 173) 0 173 1 = true := by kernel_rfl
/-- blocks of entries stand -/
def Kp (w w' : World) : Prop := ∀ g cs, Blk w g cs 59 → Blk w' g cs 59
theorem Kp.refl (w : World) : Kp w w := fun _ _ h => h
theorem Kp.trans {a b c : World} (h : Kp a b) (k : Kp b c) : Kp a c := fun g cs x => k g cs (h g cs x)
theorem Kp.of_below {w w' : World} (h : Below w.heap.size w w') : Kp w w' := fun g cs x => x.on h x.lt
theorem Kp.set {w : World} {b i : Nat} {cs : Array Value} {v : Value} (hb : Blk w b cs 173) : Kp w (w.setCell ⟨b, i, none⟩ v) := fun g cs' x => x.other (fun e => by
  subst e
  have := x.symm.trans hb
  cases this) v
theorem Kp.grown {w w' : World} {B n : Nat} {v : Value} {xs : List Value} (hg : w.grownBy w' v.ownBlock) (hr : w.ownsRow B 5 1 v n xs) : Kp w w' := fun g cs x => x.kept hg (fun e => x.ne hr (by decide) e.symm rfl)
/-- a builder at block b that holds these bytes -/
def Bld (w : World) (B b : Nat) (l : List UInt8) : Prop := Lib.IsBuilder 173 5 B b (Lib.byteCells l) w

set_option maxHeartbeats 1000000 in
set_option maxRecDepth 100000 in
theorem copyCheck_bld (B b : Nat) (bs : List Value) (w : World) (h : Lib.IsBuilder 173 5 B b bs w) :
    Calls Tryz.prog 172 #[.pointer (some ⟨b, 0, none⟩)] w fun e w' => e = .returned (.tuple #[]) ∧ (Lib.BuilderAt 173 5 B b (.pointer (some ⟨b, 0, none⟩)) bs w' ∧ Below B w w' ∧ Kp w w') := by
  obtain ⟨j, hj, hjs⟩ := Option.map_eq_some_iff.1 size66
  rcases h with h | h
  · have h0 := h.cell0
    have hfz := h.frozen0
    have hsh := h.shape
    have hfin := h.used (.pointer (some ⟨b, 0, none⟩))
    have HKP : Hid (Kp w (w.setCell ⟨b, 0, none⟩ (.pointer (some ⟨b, 0, none⟩)))) := by obtain ⟨_, v9, hbk9, _⟩ := h; exact Kp.set hbk9
    have hbl : Below B w (w.setCell ⟨b, 0, none⟩ (.pointer (some ⟨b, 0, none⟩))) := (Below.refl B w).setCell (p := ⟨b, 0, none⟩) h.1 _
    have hto := Lib.run_to_unsafe (P := Tryz.prog) w ⟨b, 0, none⟩ Tryz.underlying170 Tryz.underlying198 hj (by rw [hjs]; decide) hsh (Nat.zero_lt_succ 1)
    have hfrom := Lib.run_from_unsafe (P := Tryz.prog) w ⟨b, 0, none⟩ Tryz.underlying198 Tryz.underlying170 hj hsh lies66
    have hno : (callFunc 226 #[.pointer (some ⟨b, 0, none⟩)]).run Tryz.prog w = .ok (.value (.pointer (some ⟨b, 0, none⟩))) w := by
      rw [run_callFunc_extern Tryz.func226 (by kernel_rfl) (by kernel_rfl) (by kernel_rfl) (e := Extern.AbiNoEscape.same) (by kernel_rfl), Lib.run_noEscape]
      rfl
    have HF : Hid (Lib.BuilderAt 173 5 B b (.pointer (some ⟨b, 0, none⟩)) bs (w.setCell ⟨b, 0, none⟩ (.pointer (some ⟨b, 0, none⟩)))) := hfin
    have HB : Hid (Below B w (w.setCell ⟨b, 0, none⟩ (.pointer (some ⟨b, 0, none⟩)))) := hbl
    clear hfin hbl h
    go_enter Tryz.func172, Tryz.ntmps172
    go_wp2
    go_end0
    exact ⟨rfl, HF.out, HB.out, HKP.out⟩
  · have h0 := h.cell0
    have hne := Lib.run_neq_ptr_same (P := Tryz.prog) w (⟨b, 0, none⟩ : Addr) Tryz.underlying170 hj
    have HF : Hid (Lib.BuilderAt 173 5 B b (.pointer (some ⟨b, 0, none⟩)) bs w) := h
    clear h
    go_enter Tryz.func172, Tryz.ntmps172
    go_wp2
    go_end0
    exact ⟨rfl, HF.out, Below.refl B _, Kp.refl _⟩

theorem BuilderAt.isLt {B b : Nat} {p : Value} {bs : List Value} {w : World} (h : Lib.BuilderAt 173 5 B b p bs w) : b < w.heap.size := h.lt

set_option maxHeartbeats 2000000 in
set_option maxRecDepth 100000 in
theorem writeString_bld (B b : Nat) (l : List UInt8) (s : ByteArray) (w : World) (h : Bld w B b l) (hlen : l.length + s.size ≤ 100000) (hBw : B ≤ w.heap.size) :
    Calls Tryz.prog 116 #[.pointer (some ⟨b, 0, none⟩), .string s] w fun e w' => e = .returned (.tuple #[.int .i64 s.size, .nilIface]) ∧ Bld w' B b (l ++ s.data.toList) ∧ Below B w w' ∧ Kp w w' := by
  obtain ⟨i0, hi, hz0, hz1, hz2⟩ := info_parts info5
  have hcc := copyCheck_bld B b (Lib.byteCells l) w h
  have hll : (Lib.byteCells l).length = l.length := Lib.byteCells_length l
  have HC : Hid (Lib.byteCells (l ++ s.data.toList) = Lib.byteCells l ++ Lib.strCells s) := by show _ = _; simp [Lib.byteCells, Lib.strCells]
  generalize Lib.byteCells l = bs at hcc hll HC
  clear h
  have Bld' : ∀ w', Lib.IsBuilder 173 5 B b (Lib.byteCells (l ++ s.data.toList)) w' → Bld w' B b (l ++ s.data.toList) := fun _ h => h
  rw [HC.out] at Bld'
  have HBld : Hid (∀ w', Lib.IsBuilder 173 5 B b (bs ++ Lib.strCells s) w' → Bld w' B b (l ++ s.data.toList)) := Bld'
  clear Bld' HC
  go_enter Tryz.func116, Tryz.ntmps116
  go_wp2_with (first | (go_at_call 172; refine hcc.mono ?_; rintro e w1 ⟨rfl, h1, hb1, hk1⟩; have HK1 := hid hk1; clear hk1; have hlt := h1.lt; obtain ⟨hB, v, hbk, hown, hne⟩ := h1; have c0 : w1.cell? ⟨b, 0, none⟩ = some (.pointer (some ⟨b, 0, none⟩)) := by { rw [Lib.cell_of_heap hbk]; rfl }; have c1 : w1.cell? ⟨b, 1, none⟩ = some v := by { rw [Lib.cell_of_heap hbk]; rfl }) | (at_builtin; refine Lib.wpList_append_own_string _ rfl _ _ 171 9 rfl B 5 i0 Tryz.underlying171 Tryz.underlying9 hi hz0 hz1 hz2 _ _ _ rfl hown s rfl ?c3 ?c4 ?c5 ?_))
  case c3 => unfold maxLen; omega
  case c4 => omega
  case c5 => have := hb1.size; omega
  intro v' w2 hown' hgrow _
  have hb2 : w2.heap[b]? = some (.cells #[.pointer (some ⟨b, 0, none⟩), v] 173 (0, 0)) := by
    rw [hgrow.block b hlt (fun e => hne e.symm)]
    exact hbk
  have d1 : w2.cell? ⟨b, 1, none⟩ = some v := by rw [Lib.cell_of_heap hb2]; rfl
  have f1 : w2.frozen? ⟨b, 1, none⟩ = false := Lib.frozen_of_heap hb2 1
  have hput := Lib.BuilderAt.put (T := 173) (e := 5) hB hb2 (bs' := bs ++ Lib.strCells s) (by simpa [Lib.strCells_length, hll] using hown') (by decide)
  have hbel : Below B w w2 := hb1.grown hgrow (by have := hb1.size; omega) (fun k hk => (hown.lt k hk).1)
  obtain ⟨ao, cap, hv', _⟩ := own_cells hown'
  subst hv'
  have HK2 := hid (HK1.out.trans ((Kp.grown hgrow hown).trans (Kp.set (i := 1) (v := .slice ao (l.length + s.size) cap) hb2)))
  have HP : Hid (Lib.BuilderAt _ _ _ _ _ _ _) := hput
  clear hput hgrow hown hown' hbk
  go_wp2
  go_ret2
  exact ⟨rfl, HBld.out _ (.inr HP.out), hbel.setCell (p := ⟨b, 1, none⟩) hB _, HK2.out⟩

set_option maxHeartbeats 1000000 in
set_option maxRecDepth 100000 in
theorem string_bld (B b : Nat) (l : List UInt8) (w : World) (h : Bld w B b l) (h0 : l ≠ []) :
    Calls Tryz.prog 118 #[.pointer (some ⟨b, 0, none⟩)] w fun e w' => e = .returned (.string ⟨l.toArray⟩) ∧ Below B w w' := by
  obtain ⟨p, hB, v, hbk, hown, hne⟩ : ∃ p, Lib.BuilderAt 173 5 B b p (Lib.byteCells l) w := by
    rcases h with h | h <;> exact ⟨_, h⟩
  have hl0 : l.length ≠ 0 := by simpa using h0
  rw [Lib.byteCells_length] at hown
  obtain ⟨hlc, ⟨_, hz⟩ | ⟨g, cap, cur, hv, hbg, hg, hnc, hcm, hcs, htake⟩⟩ := id hown
  · exact absurd hz hl0
  subst hv
  have hbk' : w.drew.heap[b]? = some (.cells #[p, .slice (some ⟨g, 0, none⟩) l.length cap] 173 (0, 0)) := hbk
  have hg' : w.drew.heap[g]? = some (.cells cur 5 (0, 0)) := hg
  have c1 : w.drew.cell? ⟨b, 1, none⟩ = some (.slice (some ⟨g, 0, none⟩) l.length cap) := by rw [Lib.cell_of_heap hbk']; rfl
  have hSD : (Builtin.unsafeSliceData_ #[171] 240 #[.slice (some ⟨g, 0, none⟩) l.length cap]).run Tryz.prog w.drew = .ok (.pointer (some ⟨g, 0, none⟩)) w.drew := Lib.run_unsafeSliceData_row _ _ _ _ _ _ (by omega)
  have hUS : (Builtin.unsafeString_ #[240, 3] 9 #[.pointer (some ⟨g, 0, none⟩), .int .i64 l.length]).run Tryz.prog w.drew = .ok (.string ⟨l.toArray⟩) (w.drew.freeze ⟨g, 0, none⟩ l.length) := by
    refine Lib.run_unsafeString_row w.drew 240 3 9 5 Tryz.underlying240 cells5 g cur.size (by simp [World.shape?, hg']) l h0 (by omega) (by unfold maxLen at hcm; omega) ?_
    intro j x hx
    exact hown.cells (g := g) rfl j (.int .u8 x.toNat) (by simp [Lib.byteCells, hx])
  have hfin : Below B w (w.drew.freeze ⟨g, 0, none⟩ l.length) := Lib.below_freeze (Below.drew (Below.refl B w)) (p := ⟨g, 0, none⟩) hbg _
  have HB : Hid (Below B w (w.drew.freeze ⟨g, 0, none⟩ l.length)) := hfin
  clear hfin hown htake
  go_enter Tryz.func118, Tryz.ntmps118
  go_wp2
  go_region
  all_goals (go_wp2; go_ret; exact ⟨rfl, HB.out⟩)

theorem Bld.on {w w' : World} {B b : Nat} {l : List UInt8} (h : Bld w B b l) (hb : Below w.heap.size w w') : Bld w' B b l := by
  rcases h with ⟨hB, v, hbk, hown, hne⟩ | ⟨hB, v, hbk, hown, hne⟩
  · exact .inl ⟨hB, v, (hb.block b (lt_of_block hbk)).trans hbk, own_below hown hb, hne⟩
  · exact .inr ⟨hB, v, (hb.block b (lt_of_block hbk)).trans hbk, own_below hown hb, hne⟩
theorem Bld.made (w : World) (B : Nat) (hB : B ≤ w.heap.size) : Bld (w.alloc (.cells #[.pointer none, .slice none 0 0] 173)) B w.heap.size [] := .inl ⟨hB, .slice none 0 0, by { show (w.heap.push _)[w.heap.size]? = _; simp }, World.ownsRow_nil _ _ _ _, by simp [Value.ownBlock]⟩
end Go.Proofs.YtjcbaiohpdihoaaGreatDoor.Lf

namespace Go.Proofs.YtjcbaiohpdihoaaGreatDoor.Lf
open Go.Proofs.YtjcbaiohpdihoaaGreatDoor.Nu
open Go.RowKit
set_option linter.unusedVariables false
set_option linter.unusedSimpArgs false
set_option maxRecDepth 100000

structure Ent where
  k : ByteArray
  v : ByteArray
/-- no text is greater than can be -/
def Sml (s : ByteArray) : Prop := s.size ≤ 140737488351232
/-- entries, as they stand in memory -/
def flatE : List Ent → List Value
  | [] => []
  | p :: r => .string p.k :: .string p.v :: flatE r
theorem flatE_length : ∀ L, (flatE L).length = L.length * 2
  | [] => rfl
  | c :: r => by simp only [flatE, List.length_cons, flatE_length r]; omega
theorem flatE_append : ∀ L M, flatE (L ++ M) = flatE L ++ flatE M
  | [], M => rfl
  | c :: r, M => by simp only [List.cons_append, flatE, flatE_append r M]
theorem flatE_even : ∀ (L : List Ent) (k : Nat), (flatE L)[k * 2]? = (L[k]?).map fun c => .string c.k
  | [], k => by simp [flatE]
  | c :: r, 0 => rfl
  | c :: r, k + 1 => by
    rw [show (k + 1) * 2 = k * 2 + 1 + 1 by omega]
    simp only [flatE, List.getElem?_cons_succ]
    exact flatE_even r k
theorem flatE_odd : ∀ (L : List Ent) (k : Nat), (flatE L)[k * 2 + 1]? = (L[k]?).map fun c => .string c.v
  | [], k => by simp [flatE]
  | c :: r, 0 => rfl
  | c :: r, k + 1 => by
    rw [show (k + 1) * 2 + 1 = k * 2 + 1 + 1 + 1 by omega]
    simp only [flatE, List.getElem?_cons_succ]
    exact flatE_odd r k
theorem flatE_one : ∀ L, ∀ u ∈ flatE L, u.oneCell' = true
  | [], u, h => by simp [flatE] at h
  | c :: r, u, h => by
    simp only [flatE, List.mem_cons] at h
    rcases h with rfl | rfl | h
    · rfl
    · rfl
    · exact flatE_one r u h
theorem flatE_set : ∀ (L : List Ent) (k : Nat) (x : Ent), ((flatE L).set (k * 2) (.string x.k)).set (k * 2 + 1) (.string x.v) = flatE (L.set k x)
  | [], k, x => by simp [flatE]
  | c :: r, 0, x => rfl
  | c :: r, k + 1, x => by
    rw [show (k + 1) * 2 + 1 = k * 2 + 1 + 1 + 1 by omega, show (k + 1) * 2 = k * 2 + 1 + 1 by omega]
    simp only [flatE, List.set_cons_succ]
    rw [flatE_set r k x]
/-- a row of entries of the call's own -/
def RowE (w : World) (B : Nat) (v : Value) (L : List Ent) : Prop := w.ownsRow B 59 2 v L.length (flatE L)
theorem RowE.form {w : World} {B : Nat} {v : Value} {L : List Ent} (h : RowE w B v L) : ∃ a c, v = .slice a L.length c := own_form h
theorem RowE.on {w w' : World} {B : Nat} {v : Value} {L : List Ent} (h : RowE w B v L) (hb : Below w.heap.size w w') : RowE w' B v L := own_below h hb
theorem RowE.base {w : World} {B B' : Nat} {v : Value} {L : List Ent} (h : RowE w B v L) (hB : B' ≤ B) : RowE w B' v L := own_base h hB
theorem RowE.nil (w : World) (B : Nat) : RowE w B (.slice none 0 0) [] := World.ownsRow_nil _ _ _ _
/-- entries as they lie in memory -/
def LiesE (w : World) (v : Value) (L : List Ent) : Prop :=
  ∃ (a : Option Addr) (cap : Nat), v = .slice a L.length cap ∧ L.length ≤ cap ∧ cap ≤ maxLen ∧ ∀ k x, L[k]? = some x → ∃ b off, a = some ⟨b, off, none⟩ ∧ b < w.heap.size ∧ w.cell? ⟨b, off + k * 2, none⟩ = some (.string x.k) ∧ w.cell? ⟨b, off + k * 2 + 1, none⟩ = some (.string x.v) ∧ Sml x.k ∧ Sml x.v
theorem LiesE.on {w w' : World} {v : Value} {L : List Ent} (h : LiesE w v L) (hb : Below w.heap.size w w') : LiesE w' v L := by
  obtain ⟨a, cap, h1, h2, h3, h4⟩ := h
  refine ⟨a, cap, h1, h2, h3, fun k p hp => ?_⟩
  obtain ⟨b, off, ha, hlt, c1, c2, r⟩ := h4 k p hp
  exact ⟨b, off, ha, Nat.lt_of_lt_of_le hlt hb.size, (hb.cell (p := ⟨b, off + k * 2, none⟩) hlt).trans c1, (hb.cell (p := ⟨b, off + k * 2 + 1, none⟩) hlt).trans c2, r⟩
theorem LiesE.form {w : World} {v : Value} {L : List Ent} (h : LiesE w v L) : ∃ a c, v = .slice a L.length c := by obtain ⟨a, c, h, _⟩ := h; exact ⟨a, c, h⟩
theorem LiesE.at {w : World} {a : Option Addr} {n c : Nat} {L : List Ent} (h : LiesE w (.slice a n c) L) {k : Nat} {x : Ent} (hk : L[k]? = some x) : ∃ b off, a = some ⟨b, off, none⟩ ∧ b < w.heap.size ∧ w.cell? ⟨b, off + k * 2, none⟩ = some (.string x.k) ∧ w.cell? ⟨b, off + k * 2 + 1, none⟩ = some (.string x.v) ∧ Sml x.k ∧ Sml x.v := by
  obtain ⟨a', c', h1, _, _, h4⟩ := h
  injection h1 with e1 _ _
  subst e1
  exact h4 k x hk
/-- all texts of a list can be -/
def SmlL (L : List Ent) : Prop := ∀ x ∈ L, Sml x.k ∧ Sml x.v
theorem LiesE.sml {w : World} {v : Value} {L : List Ent} (h : LiesE w v L) : SmlL L := by
  obtain ⟨a, cap, h1, h2, h3, h4⟩ := h
  intro x hx
  obtain ⟨k, hk⟩ := List.mem_iff_getElem?.1 hx
  obtain ⟨_, _, _, _, _, _, r⟩ := h4 k x hk
  exact r
theorem LiesE.len {w : World} {v : Value} {L : List Ent} (h : LiesE w v L) : L.length ≤ maxLen := by
  obtain ⟨a, c, h1, h2, h3, h4⟩ := h
  omega
theorem RowE.lies {w : World} {B : Nat} {v : Value} {L : List Ent} (h : RowE w B v L) (hf : SmlL L) : LiesE w v L := by
  obtain ⟨a, cap, e1, h1, h2, hcc⟩ := own_cells h
  refine ⟨a, cap, e1, h1, h2, fun k p hp => ?_⟩
  obtain ⟨g, hg, _, hlt, c0, _⟩ := hcc (k * 2) (.string p.k) (by rw [flatE_even, hp]; rfl)
  obtain ⟨g', hg', _, _, c1, _⟩ := hcc (k * 2 + 1) (.string p.v) (by rw [flatE_odd, hp]; rfl)
  subst hg
  cases hg'
  obtain ⟨f1, f2⟩ := hf p (List.mem_of_getElem? hp)
  refine ⟨g, 0, rfl, hlt, ?_, ?_, f1, f2⟩
  · rw [Nat.zero_add]; exact c0
  · rw [Nat.zero_add]; exact c1
/-- a part of a list -/
theorem LiesE.part {w : World} {b off n cap i m : Nat} {L M : List Ent} (h : LiesE w (.slice (some ⟨b, off, none⟩) n cap) L) (hd : M = (L.drop i).take m) (hi : i + m ≤ L.length) : LiesE w (.slice (some ⟨b, off + i * 2, none⟩) m (cap - i)) M := by
  obtain ⟨a, cap', hv, c1, c2, hc⟩ := h
  cases hv
  have hml : M.length = m := by rw [hd, List.length_take, List.length_drop]; omega
  refine ⟨some ⟨b, off + i * 2, none⟩, cap - i, by rw [hml], by omega, by omega, fun k c hk => ?_⟩
  have hk' : L[i + k]? = some c := by
    rw [hd, List.getElem?_take] at hk
    split at hk
    · rw [← List.getElem?_drop]; exact hk
    · cases hk
  obtain ⟨b', off', ha, hlt, d1, d2, r⟩ := hc _ c hk'
  cases ha
  refine ⟨b, off + i * 2, rfl, hlt, ?_, ?_, r⟩
  · rw [show off + i * 2 + k * 2 = off + (i + k) * 2 by omega]; exact d1
  · rw [show off + i * 2 + k * 2 + 1 = off + (i + k) * 2 + 1 by omega]; exact d2
theorem LiesE.empty {w : World} (a : Option Addr) (c : Nat) (hc : c ≤ maxLen) : LiesE w (.slice a 0 c) [] := ⟨a, c, rfl, Nat.zero_le _, hc, fun k x hk => by simp at hk⟩

theorem infoE : (Tryz.prog.info? 59).map (fun i => (i.zero, i.size, i.bytes)) = some (some (.agg #[.string ⟨#[]⟩, .string ⟨#[]⟩]), 2, 32) := by kernel_rfl

/-- append, of entries, to a row of the call's own -/
theorem wp_ents {o : Oper} {a : Act} {K : Act → World → Prop} {Q : Exit → Act → World → Prop} (W w0 : World) (s x : Operand)
    (ho : o.op = .call { callee := .builtin .append, args := #[s, x], argTypes := #[31, 31] }) (v : Value) (M : List Ent) (m : Nat) (hm : M.length = m) (hs : a.eval s = v) (hown : RowE W w0.heap.size v M) (hB : Below w0.heap.size w0 W)
    (ad : Addr) (N : List Ent) (k c : Nat) (hk : N.length = k) (hk0 : 0 < k) (hx : a.eval x = .slice (some ad) k c) (hc : ∀ j u, (flatE N)[j]? = some u → W.cell? (ad.add j) = some u) (hlen : m + k ≤ 4398046511000)
    (h : ∀ va vc w', RowE w' w0.heap.size (.slice va (m + k) vc) (M ++ N) → Below w0.heap.size w0 w' → W.grownBy w' v.ownBlock → K (a.put o.dst (.slice va (m + k) vc)) w') : o.wp Tryz.prog a W K Q := by
  obtain ⟨i0, hi, hz0, hz1, hz2⟩ := info_parts infoE
  subst hm
  subst hk
  refine wp_append_blk W s x 31 ho w0.heap.size 59 i0 (.agg #[.string ⟨#[]⟩, .string ⟨#[]⟩]) 2 32 Tryz.underlying31 hi hz0 hz1 hz2 rfl (by decide) v M.length (flatE M) hs hown ad N.length c (flatE N) hx (flatE_length N) hc (flatE_one N) hk0 (by unfold maxLen; omega) (by omega) hB.size ?_
  intro v' w' hown' hgrow _
  obtain ⟨va, vc, hv'⟩ := own_form hown'
  subst hv'
  refine h va vc w' ?_ (hB.grown hgrow hB.size (fun g hg => ((hown : W.ownsRow w0.heap.size 59 2 _ _ _).lt g hg).1)) hgrow
  unfold RowE
  rw [List.length_append, flatE_append]
  exact hown'
theorem wpList_ents {ops : Array Oper} {rest : List Oper} {o : Oper} {a : Act} {Q : Exit → Act → World → Prop} (W w0 : World) (hgd : o.guard = none) (s x : Operand)
    (ho : o.op = .call { callee := .builtin .append, args := #[s, x], argTypes := #[31, 31] }) (v : Value) (M : List Ent) (m : Nat) (hm : M.length = m) (hs : a.eval s = v) (hown : RowE W w0.heap.size v M) (hB : Below w0.heap.size w0 W)
    (ad : Addr) (N : List Ent) (k c : Nat) (hk : N.length = k) (hk0 : 0 < k) (hx : a.eval x = .slice (some ad) k c) (hc : ∀ j u, (flatE N)[j]? = some u → W.cell? (ad.add j) = some u) (hlen : m + k ≤ 4398046511000)
    (h : ∀ va vc w', RowE w' w0.heap.size (.slice va (m + k) vc) (M ++ N) → Below w0.heap.size w0 w' → W.grownBy w' v.ownBlock → wpList Tryz.prog ops Q rest (a.put o.dst (.slice va (m + k) vc)) w') : wpList Tryz.prog ops Q (o :: rest) a W :=
  wpList_plain hgd fun K hK => wp_ents W w0 s x ho v M m hm hs hown hB ad N k c hk hk0 hx hc hlen fun va vc w' h1 h2 h3 => hK _ _ (h va vc w' h1 h2 h3)
/-- the cells of a list that lies somewhere -/
theorem LiesE.flat {w : World} {b off n c : Nat} {L : List Ent} (h : LiesE w (.slice (some ⟨b, off, none⟩) n c) L) : ∀ j u, (flatE L)[j]? = some u → w.cell? ((⟨b, off, none⟩ : Addr).add j) = some u := by
  intro j u hj
  rw [add_plain]
  rcases Nat.mod_two_eq_zero_or_one j with hm | hm
  · obtain ⟨k, rfl⟩ : ∃ k, j = k * 2 := ⟨j / 2, by omega⟩
    rw [flatE_even] at hj
    obtain ⟨x, hx, rfl⟩ := Option.map_eq_some_iff.1 hj
    obtain ⟨b', off', e, _, c1, _⟩ := h.at hx
    cases e
    exact c1
  · obtain ⟨k, rfl⟩ : ∃ k, j = k * 2 + 1 := ⟨j / 2, by omega⟩
    rw [flatE_odd] at hj
    obtain ⟨x, hx, rfl⟩ := Option.map_eq_some_iff.1 hj
    obtain ⟨b', off', e, _, _, c1, _⟩ := h.at hx
    cases e
    exact c1

/-- keys in order -/
def lt (a b : ByteArray) : Bool := Op.bytesLess a.toList b.toList
theorem bl_self : ∀ x : List UInt8, Op.bytesLess x x = false
  | [] => rfl
  | a :: x => by
    have h : ¬ a < a := fun h => by rw [UInt8.lt_iff_toNat_lt] at h; omega
    simp [Op.bytesLess, bl_self x, h]
theorem bl_trans : ∀ {x y z : List UInt8}, Op.bytesLess x y = true → Op.bytesLess y z = true → Op.bytesLess x z = true
  | x, [], _, h, _ => by simp [Op.bytesLess] at h
  | _, _ :: _, [], _, k => by simp [Op.bytesLess] at k
  | [], _ :: _, _ :: _, _, _ => rfl
  | a :: x, b :: y, c :: z, h, k => by
    simp only [Op.bytesLess, Bool.or_eq_true, Bool.and_eq_true, decide_eq_true_eq, beq_iff_eq] at h k ⊢
    rcases h with h | ⟨rfl, h⟩
    · rcases k with k | ⟨rfl, k⟩
      · left; rw [UInt8.lt_iff_toNat_lt] at *; omega
      · exact .inl h
    · rcases k with k | ⟨rfl, k⟩
      · exact .inl k
      · exact .inr ⟨rfl, bl_trans h k⟩
theorem bl_total : ∀ x y : List UInt8, Op.bytesLess x y = true ∨ x = y ∨ Op.bytesLess y x = true
  | [], [] => .inr (.inl rfl)
  | [], _ :: _ => .inl rfl
  | _ :: _, [] => .inr (.inr rfl)
  | a :: x, b :: y => by
    simp only [Op.bytesLess, Bool.or_eq_true, Bool.and_eq_true, decide_eq_true_eq, beq_iff_eq, List.cons.injEq]
    by_cases h : a = b
    · subst h
      rcases bl_total x y with h | h | h
      · exact .inl (.inr ⟨rfl, h⟩)
      · exact .inr (.inl ⟨rfl, h⟩)
      · exact .inr (.inr (.inr ⟨rfl, h⟩))
    · by_cases h2 : a < b
      · exact .inl (.inl h2)
      · refine .inr (.inr (.inl ?_))
        rw [UInt8.lt_iff_toNat_lt] at *
        have : a.toNat ≠ b.toNat := fun e => h (UInt8.toNat_inj.1 e)
        omega
theorem eq_iff (a b : ByteArray) : (a.toList == b.toList) = decide (a = b) := by
  rw [Lib.toList_data, Lib.toList_data]
  by_cases h : a = b
  · subst h; simp
  · rw [decide_eq_false h, beq_eq_false_iff_ne]
    intro e
    exact h (ByteArray.ext (Array.toList_inj.1 e))
theorem lt_self (a : ByteArray) : lt a a = false := bl_self _
theorem lt_trans {a b c : ByteArray} (h : lt a b = true) (k : lt b c = true) : lt a c = true := bl_trans h k
theorem lt_total (a b : ByteArray) : lt a b = true ∨ a = b ∨ lt b a = true := by
  rcases bl_total a.toList b.toList with h | h | h
  · exact .inl h
  · rw [Lib.toList_data, Lib.toList_data] at h
    exact .inr (.inl (ByteArray.ext (Array.toList_inj.1 h)))
  · exact .inr (.inr h)
theorem lt_asymm {a b : ByteArray} (h : lt a b = true) : lt b a = false := by
  cases k : lt b a
  · rfl
  · have := lt_trans h k
    rw [lt_self] at this
    cases this
end Go.Proofs.YtjcbaiohpdihoaaGreatDoor.Lf

namespace Go.Proofs.YtjcbaiohpdihoaaGreatDoor.Lf
open Go.Proofs.YtjcbaiohpdihoaaGreatDoor.Nu
open Go.RowKit
set_option linter.unusedVariables false
set_option linter.unusedSimpArgs false
set_option maxRecDepth 100000

def Ent.sz (x : Ent) : Nat := 2 + x.k.size + x.v.size
def sumE : List Ent → Nat
  | [] => 0
  | x :: r => x.sz + sumE r
theorem sumE_append : ∀ L M, sumE (L ++ M) = sumE L + sumE M
  | [], M => by simp [sumE]
  | x :: r, M => by simp only [List.cons_append, sumE, sumE_append r M]; omega
theorem take_snoc {α : Type} {L : List α} {k : Nat} {p : α} (h : L[k]? = some p) : L.take (k + 1) = L.take k ++ [p] := by
  rw [List.take_add_one, h]; rfl
theorem drop_cons {α : Type} {L : List α} {k : Nat} {p : α} (h : L[k]? = some p) : L.drop k = p :: L.drop (k + 1) := by
  obtain ⟨hk, rfl⟩ := List.getElem?_eq_some_iff.1 h
  exact List.drop_eq_getElem_cons hk
theorem sumE_snoc {L : List Ent} {k : Nat} {x : Ent} (h : L[k]? = some x) : sumE (L.take (k + 1)) = sumE (L.take k) + x.sz := by
  rw [take_snoc h, sumE_append]; simp [sumE]
/-- a size, as an int tells it -/
def wr64 (n : Nat) : Int := IntKind.i64.wrap (n : Int)
theorem wr64_add (n m : Nat) : IntKind.i64.wrap (wr64 n + (m : Int)) = wr64 (n + m) := by
  unfold wr64
  rw [IntKind.wrap_i64, IntKind.wrap_i64, IntKind.wrap_i64]
  omega
theorem wr64_in {n : Nat} (h : n < 9223372036854775808) : wr64 n = (n : Int) := by
  unfold wr64
  rw [IntKind.wrap_i64]
  omega
theorem wr64_lo (n : Nat) : -9223372036854775808 ≤ wr64 n ∧ wr64 n ≤ 9223372036854775807 := by
  unfold wr64
  rw [IntKind.wrap_i64]
  omega
def szL (L : List Ent) : Int := wr64 (2 + sumE L)

theorem sizeOf_any (x : Ent) (h1 : Sml x.k) (h2 : Sml x.v) (w : World) : Calls Tryz.prog 190 #[.agg #[.string x.k, .string x.v]] w fun e w' => e = .returned (.int .i64 (x.sz : Nat)) ∧ Below w.heap.size w w' := by
  unfold Sml at h1 h2
  have e : ((x.sz : Nat) : Int) = 1 + (x.k.size : Int) + 1 + (x.v.size : Int) := by unfold Ent.sz; omega
  rw [e]
  generalize x.k = a at *
  generalize x.v = b at *
  have g1 : IntKind.i64.wrap (1 + (a.size : Int)) = 1 + (a.size : Int) := by rw [IntKind.wrap_i64]; omega
  have g2 : IntKind.i64.wrap (1 + (a.size : Int) + 1) = 1 + (a.size : Int) + 1 := by rw [IntKind.wrap_i64]; omega
  have g3 : IntKind.i64.wrap (1 + (a.size : Int) + 1 + (b.size : Int)) = 1 + (a.size : Int) + 1 + (b.size : Int) := by rw [IntKind.wrap_i64]; omega
  go_enter Tryz.func190, Tryz.ntmps190
  go_wp2_with fail
  go_ret
  exact ⟨rfl, (Below.refl _ _).alloc (Nat.le_refl _) _⟩

theorem size_any (w : World) (v : Value) (L : List Ent) (hl : LiesE w v L) : Calls Tryz.prog 129 #[v] w fun e w' => e = .returned (.int .i64 (szL L)) ∧ Below w.heap.size w w' := by
  obtain ⟨a, c, hv⟩ := hl.form
  subst hv
  have hlen := hl.len
  unfold maxLen at hlen
  have HL := hid hl
  have HE : Hid (L.take L.length = L) := List.take_length
  obtain ⟨m, hm⟩ : ∃ m, L.length = m := ⟨_, rfl⟩
  have HM := hid hm
  unfold szL
  rw [hm] at HL HE hlen ⊢
  clear hm hl
  go_enter Tryz.func129, Tryz.ntmps129
  go_wp2_with fail
  go_loopw [3, 8] (fun x i wr => ∃ j : Nat, j ≤ m ∧ i = .int .i64 (j : Nat) ∧ x = .int .i64 (wr64 (2 + sumE (L.take j))) ∧ Hid (Below w.heap.size w wr)) (fun _ i _ => m - (intOf i).toNat)
  case atStart => exact ⟨0, Nat.zero_le _, rfl, rfl, Below.refl _ _⟩
  case round =>
    obtain ⟨j, hj, rfl, rfl, HB⟩ := hrel
    by_cases hjm : j < m
    · have hji : (j : Int) < (m : Int) := by omega
      obtain ⟨x, hx⟩ : ∃ x, L[j]? = some x := ⟨_, List.getElem?_eq_getElem (by rw [HM.out]; exact hjm)⟩
      obtain ⟨b, off, e1, _, c1, c2, s1, s2⟩ := (HL.out.on HB.out).at hx
      subst e1
      have HS := hid (sumE_snoc hx)
      have hso : ∀ w1 : World, _ := fun w1 => sizeOf_any x s1 s2 w1
      have HA := hid (wr64_add (2 + sumE (L.take j)) x.sz)
      have HN : Hid (wr64 (2 + sumE (L.take j) + x.sz) = wr64 (2 + sumE (L.take (j + 1)))) := by show _ = _; rw [HS.out, Nat.add_assoc]
      rw [HN.out] at HA
      have ha := HA.out
      clear HA HN HS hx
      generalize wr64 (2 + sumE (L.take j)) = p at *
      obtain ⟨q, hq⟩ : ∃ q, wr64 (2 + sumE (L.take (j + 1))) = q := ⟨_, rfl⟩
      have HQ := hid hq
      rw [hq] at ha
      clear hq
      generalize x.sz = z at *
      generalize x.k = xk at *
      generalize x.v = xv at *
      go_wp2_with (go_at_call 190; refine (hso _).mono ?_; clear hso; rintro e w1 ⟨rfl, hb1⟩; have HB1 := hid ((HB.out.alloc HB.out.size (.cells #[.string xk, .string xv] 59)).trans (hb1.mono (by have := HB.out.size; simp; omega))); clear hb1)
      go_roundw
      case rel => exact ⟨j + 1, by omega, by go_num, by rw [HQ.out], HB1⟩
      case measure => simp [intOf]; omega
    · obtain rfl : j = m := by omega
      have hji : ¬ (j : Int) < (j : Int) := by omega
      rw [HE.out]
      go_wp2_with fail
      go_ret
      exact ⟨rfl, HB.out⟩
end Go.Proofs.YtjcbaiohpdihoaaGreatDoor.Lf
