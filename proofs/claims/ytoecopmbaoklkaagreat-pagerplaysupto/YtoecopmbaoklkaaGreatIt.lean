/-
  The blocks that settle a group, handed out one by one.
-/
import Derived.RangeFuncNested
import Derived.RangeFuncBound
import Derived.RangeFuncCalls
import Derived.RangeFuncLeaves
import Derived.Shelf.Abstract
import Derived.Shelf.RegionOpen
import Derived.OwnWalkIn
import Derived.TacticsInMore
import Derived.LoopNIn
import Derived.LoopIn
import Derived.Test.YtoecopmbaoklkaaGreatRh
import Derived.Test.YtoecopmbaoklkaaGreatRi
namespace Go.Proofs.YtoecopmbaoklkaaGreat
open Go.RowKit Go.Shelf

attribute [local go_sem] Oper.semAt_some
set_option linter.unusedVariables false
set_option linter.unusedSimpArgs false
set_option maxRecDepth 100000

/-- the blocks of the disk at k -/
def foot (k : Nat) (W : World) (g : Nat) : Prop := g = k ∨ (∃ v, W.cell? ⟨k, 0, none⟩ = some v ∧ v.ownBlock = some g) ∨ (∃ v, W.cell? ⟨k, 1, none⟩ = some v ∧ v.ownBlock = some g)
def footOk (k : Nat) (W : World) : Prop := ∀ g, foot k W g → g < W.heap.size
theorem foot_same {k : Nat} {W W' : World} (h : W'.heap[k]? = W.heap[k]?) (g : Nat) : foot k W' g ↔ foot k W g := by
  unfold foot
  rw [World.cell?_of_block (a := ⟨k, 0, none⟩) h, World.cell?_of_block (a := ⟨k, 1, none⟩) h]
theorem Dk.foot {W : World} {S : Nat → Prop} {k : Nat} {d : Ds} (h : Dk W S k d) : Dk W (foot k W) k d ∧ (∀ g, foot k W g → S g) ∧ footOk k W := by
  obtain ⟨h1, h2, h3, bv, lv, h4, h5, h6, h7, h8⟩ := h
  have c0 : W.cell? ⟨k, 0, none⟩ = some bv := h4.cell rfl
  have c1 : W.cell? ⟨k, 1, none⟩ = some lv := h4.cell rfl
  have hs : ∀ g, Go.Proofs.YtoecopmbaoklkaaGreat.foot k W g → S g := by
    intro g hg
    rcases hg with rfl | ⟨v, hv, hb⟩ | ⟨v, hv, hb⟩
    · exact h3
    · rw [c0] at hv; cases hv; exact h7 g hb
    · rw [c1] at hv; cases hv; exact h8 g hb
  exact ⟨⟨h1, fun j hj => h2 j (hs j hj), .inl rfl, bv, lv, h4, h5, h6, fun g hg => .inr (.inl ⟨bv, c0, hg⟩), fun g hg => .inr (.inr ⟨lv, c1, hg⟩)⟩, hs, fun g hg => h2 g (hs g hg)⟩
/-- cells outside the disk -/
def Pr (k : Nat) (W : World) (g : Nat) : Prop := (∃ o : Obj, W.heap[g]? = some o ∧ o.isCells = true) ∧ ¬ foot k W g
/-- such cells stand, and are outside the disk still -/
structure Kj (k : Nat) (W W' : World) : Prop where
  size : W.heap.size ≤ W'.heap.size
  keep : ∀ g, Pr k W g → W'.heap[g]? = W.heap[g]? ∧ ¬ foot k W' g
  ok : footOk k W → footOk k W'
theorem Kj.pr {k : Nat} {W W' : World} (h : Kj k W W') {g : Nat} (hp : Pr k W g) : Pr k W' g := by
  obtain ⟨⟨o, ho, hc⟩, _⟩ := id hp
  obtain ⟨h1, h2⟩ := h.keep g hp
  exact ⟨⟨o, h1.trans ho, hc⟩, h2⟩
theorem Kj.trans {k : Nat} {A B C : World} (h : Kj k A B) (h' : Kj k B C) : Kj k A C :=
  ⟨Nat.le_trans h.size h'.size, fun g hg => ⟨(h'.keep g (h.pr hg)).1.trans (h.keep g hg).1, (h'.keep g (h.pr hg)).2⟩, fun h0 => h'.ok (h.ok h0)⟩
theorem Kj.of_below {k : Nat} {W W' : World} (h : Below W.heap.size W W') (hk : k < W.heap.size) : Kj k W W' := by
  have hs := foot_same (h.block k hk)
  refine ⟨h.size, fun g hg => ?_, fun h0 g hg => Nat.lt_of_lt_of_le (h0 g ((hs g).1 hg)) h.size⟩
  obtain ⟨⟨o, ho, _⟩, hn⟩ := hg
  exact ⟨h.block g (lt_of_block ho), fun h' => hn ((hs g).1 h')⟩
theorem Kj.put {k : Nat} (W : World) (l : Nat) (o o' : Obj) (hl : k < l) (h : W.heap[l]? = some o) (hc : o.isCells = false) : Kj k W (W.putObj l o') := by
  have hs := foot_same (k := k) (W := W) (W' := W.putObj l o') (World.putObj_heap_other (by omega))
  have hz : (W.putObj l o').heap.size = W.heap.size := by simp [World.putObj]
  refine ⟨by rw [hz]; exact Nat.le_refl _, fun g hg => ?_, fun h0 g hg => by rw [hz]; exact h0 g ((hs g).1 hg)⟩
  obtain ⟨⟨o2, ho, h1⟩, hn⟩ := hg
  refine ⟨World.putObj_heap_other (fun e => ?_), fun h' => hn ((hs g).1 h')⟩
  subst e
  rw [h] at ho
  cases ho
  rw [hc] at h1
  cases h1
/-- a call that leaves all outside the disk alone -/
theorem Kj.of_keep {k : Nat} {W W' : World} {S' : Nat → Prop} {d' : Ds} (h : Keep (foot k W) W W') (hd : Dk W' S' k d') (hg : Grows (foot k W) S' W) : Kj k W W' := by
  obtain ⟨_, f2, f3⟩ := hd.foot
  refine ⟨h.size, fun g hp => ?_, fun _ => f3⟩
  obtain ⟨⟨o, ho, _⟩, hn⟩ := hp
  exact ⟨h.block g (lt_of_block ho) hn, fun h' => (hg g (f2 g h')).elim hn (fun h'' => by have := lt_of_block ho; omega)⟩
theorem cells_of_cell {W : World} {g i : Nat} {v : Value} (h : W.cell? ⟨g, i, none⟩ = some v) : ∃ o : Obj, W.heap[g]? = some o ∧ o.isCells = true := by
  have hlt := World.block_lt_of_cell? W _ h
  refine ⟨W.heap[g], Array.getElem?_eq_getElem hlt, ?_⟩
  unfold World.cell? at h
  simp only [Array.getElem?_eq_getElem hlt] at h
  cases ho : W.heap[g] <;> simp_all [Obj.isCells]
/-- what was outside the disk when the loop began, and what is new -/
theorem Pr.of_cell {k : Nat} {W : World} {g i : Nat} {v : Value} (h : W.cell? ⟨g, i, none⟩ = some v) (hn : ¬ foot k W g) : Pr k W g := ⟨cells_of_cell h, hn⟩

/-- a page, as it is handed on -/
def encP (p : Pg) : Array Value := #[.agg #[.int .i64 p.pl, .string p.data]]

attribute [local go_sem] Oper.semAt_some
set_option linter.unusedVariables false
set_option linter.unusedSimpArgs false
set_option maxRecDepth 100000

theorem grown_of_below {w w' : World} (h : Below w.heap.size w w') : w.grownBy w' none := ⟨h.os, h.tape, h.output, h.size, fun k hk _ => h.block k hk⟩
/-- a page's cells, where all outside the disk stands -/
theorem LiesO.kj {w0 w : World} {k : Nat} {a : Option Addr} {n c : Nat} {L : List Pg} (h : LiesO w0 (foot k w0) (.slice a n c) L) (hk : Kj k w0 w) {j : Nat} {p : Pg} (hj : L[j]? = some p) : ∃ b off, a = some ⟨b, off, none⟩ ∧ b < w.heap.size ∧ w.cell? ⟨b, off + j * 2, none⟩ = some (.int .i64 p.pl) ∧ w.cell? ⟨b, off + j * 2 + 1, none⟩ = some (.string p.data) := by
  obtain ⟨b, off, hab, hlt, hn, c0, c1, _⟩ := h.at hj
  have e := (hk.keep b (Pr.of_cell c0 hn)).1
  exact ⟨b, off, hab, Nat.lt_of_lt_of_le hlt hk.size, (World.cell?_of_block (a := ⟨b, off + j * 2, none⟩) e).trans c0, (World.cell?_of_block (a := ⟨b, off + j * 2 + 1, none⟩) e).trans c1⟩
theorem LiesO.kjs {w0 w : World} {k : Nat} {v : Value} {L : List Pg} (h : LiesO w0 (foot k w0) v L) (hk : Kj k w0 w) : LiesO w (foot k w) v L := by
  obtain ⟨a, cap, h1, h2, h3, h4⟩ := h
  refine ⟨a, cap, h1, h2, h3, fun j p hp => ?_⟩
  obtain ⟨b, off, ha, hlt, hs, c0, c1, r⟩ := h4 j p hp
  obtain ⟨e, hn⟩ := hk.keep b (Pr.of_cell c0 hs)
  exact ⟨b, off, ha, Nat.lt_of_lt_of_le hlt hk.size, hn, (World.cell?_of_block (a := ⟨b, off + j * 2, none⟩) e).trans c0, (World.cell?_of_block (a := ⟨b, off + j * 2 + 1, none⟩) e).trans c1, r⟩
theorem Blk.kj {w0 w : World} {k b : Nat} {cs : Array Value} {t : TypeId} (h : Blk w0 b cs t) (hn : ¬ foot k w0 b) (hk : Kj k w0 w) : Blk w b cs t := (hk.keep b ⟨⟨_, h, rfl⟩, hn⟩).1.trans h

set_option maxHeartbeats 4000000 in
theorem settled_stops (n : Nat) (hn : 1 ≤ n) (w0 : World) (k bl : Nat) (v : Value) (L : List Pg) (hbx : Blk w0 bl #[v] 35) (hbn : ¬ foot k w0 bl) (hl : LiesO w0 (foot k w0) v L) (hk : k < w0.heap.size) :
    SeqStopsK Fence.wide n Tryz.prog 109 #[.pointer (some ⟨bl, 0, none⟩)] encP (Kj k) (fun ys => ys = settledL L) (fun pre => ∃ j, pre = (settledL L).take j) (settledL L).length w0 := by
  intro l J Jx W hW hJ _ hY h0
  have hro : Fence.wide.round = none := rfl
  have HK0 := hid (Kj.of_below hW hk)
  obtain ⟨a, c, e1⟩ := hl.form
  subst e1
  have c0 := (hbx.on hW hbx.lt).cell (i := 0) (v := .slice a L.length c) rfl
  have hlen := hl.len
  unfold maxLen at hlen
  have HL := hid hl
  obtain ⟨N, hN⟩ : ∃ N, L.length = N := ⟨_, rfl⟩
  have HN := hid hN
  have HSL : Hid ((settledL L).length = N + 1) := by show _ = _; rw [settledL_len, hN]
  have HAT : Hid (∀ j p, L[j]? = some p → (settledL L)[j]? = some p) := fun j p h => by
    unfold settledL
    rw [List.getElem?_append_left (List.getElem?_eq_some_iff.1 h).1]
    exact h
  have HLA : Hid ((settledL L)[N]? = some ⟨1, Z⟩) := by
    show _ = _
    unfold settledL
    rw [List.getElem?_append_right (by omega), hN, Nat.sub_self]
    rfl
  have HBK : Hid (∀ w1, Calls Tryz.prog 110 #[.string ⟨#[]⟩] w1 fun e w' => e = .returned (.string Z) ∧ Below w1.heap.size w1 w') := fun w1 => block_any ⟨#[]⟩ (by decide) w1
  rw [hN] at hlen c0
  clear hl hN
  refine callsIn_of_wp Tryz.func109 rfl trivial ?_ hro
  simp only [Tryz.ntmps109, List.size_toArray, List.length_cons, List.length_nil, Nat.reduceAdd, Nat.reduceSub, Array.replicate_succ, Array.replicate_zero, List.push_toArray, List.append_toArray, List.nil_append, List.cons_append]
  gi_wp2
  gi_loopw [7] (fun i wr => ∃ j : Nat, j ≤ N ∧ i = .int .i64 (j : Nat) ∧ J ((settledL L).take j) wr ∧ Hid (Kj k w0 wr)) (fun i _ => N - (intOf i).toNat)
  case atStart => exact ⟨0, Nat.zero_le _, rfl, by simpa using h0, HK0⟩
  case round =>
    obtain ⟨j, hj, rfl, hJs, HK⟩ := hrel
    clear HK0
    by_cases hlt : j < N
    · have hji : (j : Int) < (N : Int) := by omega
      obtain ⟨p, hp⟩ : ∃ p, L[j]? = some p := ⟨_, List.getElem?_eq_getElem (by rw [HN.out]; exact hlt)⟩
      obtain ⟨b, off, hab, hblt, cp0, cp1⟩ := HL.out.kj HK.out hp
      subst hab
      have hpre := take_snoc (HAT.out j p hp)
      have hb := (Below.refl wr.heap.size wr).alloc (Nat.le_refl _) (.cells #[.int .i64 p.pl, .string p.data] 75)
      have HK2 := hid (HK.out.trans (Kj.of_below hb (Nat.lt_of_lt_of_le hk HK.out.size)))
      obtain ⟨fn, tmps, assign, body, hy, hR⟩ := hY _ p _ (hJ _ _ _ none hJs (grown_of_below hb) (fun r e => by cases e)) (by rw [List.length_take, HSL.out]; omega)
      unfold encP at hy
      rw [← hpre] at hR
      obtain ⟨pl, data⟩ := p
      simp only at cp0 cp1 hy
      clear hpre hp HK hb
      gi_wp2
      refine hR.mono ?_
      rintro e W3 (⟨rfl, hJ3, hk3⟩ | ⟨rfl, hJx3⟩)
      · gi_wp2
        go_roundw
        case rel => exact ⟨j + 1, by omega, by go_num, hJ3, HK2.out.trans hk3⟩
        case measure => (simp [intOf]; try omega)
      · gi_wp2
        refine bodyPost_ret (results_none rfl _ _ _) rfl ?_
        exact ⟨⟨_, rfl⟩, .inr ⟨_, ⟨j + 1, rfl⟩, hJx3⟩⟩
    · have hji : ¬ (j : Int) < (N : Int) := by omega
      obtain rfl : j = N := by omega
      have HPR := hid (take_snoc HLA.out)
      have HAL : Hid ((settledL L).take (j + 1) = settledL L) := List.take_of_length_le (by rw [HSL.out]; omega)
      gi_wp2_with (refine ⟨trivial, ?_⟩; gi_at_call 110; refine ((callsIn_wide (n := _)).2 (HBK.out _)).mono ?_; rintro e w1 ⟨rfl, hb1⟩; obtain ⟨fn, tmps, assign, body, hy, hR⟩ := hY _ ⟨1, Z⟩ w1 (hJ _ _ _ none hJs (grown_of_below hb1) (fun r e => by cases e)) (by rw [List.length_take, HSL.out]; omega); unfold encP at hy; simp only at hy; rw [← HPR.out, HAL.out] at hR)
      refine hR.mono ?_
      rintro e W3 (⟨rfl, hJ3, hk3⟩ | ⟨rfl, hJx3⟩)
      · gi_wp2
        go_end0
        first | exact ⟨⟨_, rfl⟩, .inl ⟨_, rfl, hJ3⟩⟩ | exact ⟨⟨_, rfl⟩, .inl hJ3⟩
      · gi_wp2
        go_end0
        exact ⟨⟨_, rfl⟩, .inr ⟨_, ⟨j + 1, HAL.out.symm⟩, hJx3⟩⟩

end Go.Proofs.YtoecopmbaoklkaaGreat
