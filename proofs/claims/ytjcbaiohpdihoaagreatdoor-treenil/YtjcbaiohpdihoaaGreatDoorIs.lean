/-
  The blocks by which a group is saved, handed out one by one.
-/
import Derived.RangeFuncNested
import Derived.RangeFuncBound
import Derived.RangeFuncCalls
import Derived.RangeFuncLeaves
import Derived.Shelf.Abstract
import Derived.Shelf.RegionOpen
import Derived.OwnWalkIn
import Derived.TacticsInMore
import Derived.LoopNIn
import Derived.LoopIn
import Derived.Test.YtjcbaiohpdihoaaGreatDoorHo
import Derived.Test.YtjcbaiohpdihoaaGreatDoorRi
namespace Go.Proofs.YtjcbaiohpdihoaaGreatDoor
open Go.RowKit Go.Shelf

attribute [local go_sem] Oper.semAt_some
set_option linter.unusedVariables false
set_option linter.unusedSimpArgs false
set_option maxRecDepth 100000

/-- the blocks of the disk at k -/
def foot (k : Nat) (W : World) (g : Nat) : Prop := g = k ∨ (∃ v, W.cell? ⟨k, 0, none⟩ = some v ∧ v.ownBlock = some g) ∨ (∃ v, W.cell? ⟨k, 1, none⟩ = some v ∧ v.ownBlock = some g)
def footOk (k : Nat) (W : World) : Prop := ∀ g, foot k W g → g < W.heap.size
theorem foot_same {k : Nat} {W W' : World} (h : W'.heap[k]? = W.heap[k]?) (g : Nat) : foot k W' g ↔ foot k W g := by
  unfold foot
  rw [World.cell?_of_block (a := ⟨k, 0, none⟩) h, World.cell?_of_block (a := ⟨k, 1, none⟩) h]
theorem Dk.foot {W : World} {S : Nat → Prop} {k : Nat} {d : Ds} (h : Dk W S k d) : Dk W (foot k W) k d ∧ (∀ g, foot k W g → S g) ∧ footOk k W := by
  obtain ⟨h1, h2, h3, bv, lv, h4, h5, h6, h7, h8⟩ := h
  have c0 : W.cell? ⟨k, 0, none⟩ = some bv := h4.cell rfl
  have c1 : W.cell? ⟨k, 1, none⟩ = some lv := h4.cell rfl
  have hs : ∀ g, Go.Proofs.YtjcbaiohpdihoaaGreatDoor.foot k W g → S g := by
    intro g hg
    rcases hg with rfl | ⟨v, hv, hb⟩ | ⟨v, hv, hb⟩
    · exact h3
    · rw [c0] at hv; cases hv; exact h7 g hb
    · rw [c1] at hv; cases hv; exact h8 g hb
  exact ⟨⟨h1, fun j hj => h2 j (hs j hj), .inl rfl, bv, lv, h4, h5, h6, fun g hg => .inr (.inl ⟨bv, c0, hg⟩), fun g hg => .inr (.inr ⟨lv, c1, hg⟩)⟩, hs, fun g hg => h2 g (hs g hg)⟩
/-- cells outside the disk -/
def Pr (k : Nat) (W : World) (g : Nat) : Prop := (∃ o : Obj, W.heap[g]? = some o ∧ o.isCells = true) ∧ ¬ foot k W g
/-- such cells stand, and are outside the disk still -/
structure Kj (k : Nat) (W W' : World) : Prop where
  size : W.heap.size ≤ W'.heap.size
  keep : ∀ g, Pr k W g → W'.heap[g]? = W.heap[g]? ∧ ¬ foot k W' g
  ok : footOk k W → footOk k W'
theorem Kj.pr {k : Nat} {W W' : World} (h : Kj k W W') {g : Nat} (hp : Pr k W g) : Pr k W' g := by
  obtain ⟨⟨o, ho, hc⟩, _⟩ := id hp
  obtain ⟨h1, h2⟩ := h.keep g hp
  exact ⟨⟨o, h1.trans ho, hc⟩, h2⟩
theorem Kj.trans {k : Nat} {A B C : World} (h : Kj k A B) (h' : Kj k B C) : Kj k A C :=
  ⟨Nat.le_trans h.size h'.size, fun g hg => ⟨(h'.keep g (h.pr hg)).1.trans (h.keep g hg).1, (h'.keep g (h.pr hg)).2⟩, fun h0 => h'.ok (h.ok h0)⟩
theorem Kj.of_below {k : Nat} {W W' : World} (h : Below W.heap.size W W') (hk : k < W.heap.size) : Kj k W W' := by
  have hs := foot_same (h.block k hk)
  refine ⟨h.size, fun g hg => ?_, fun h0 g hg => Nat.lt_of_lt_of_le (h0 g ((hs g).1 hg)) h.size⟩
  obtain ⟨⟨o, ho, _⟩, hn⟩ := hg
  exact ⟨h.block g (lt_of_block ho), fun h' => hn ((hs g).1 h')⟩
theorem Kj.put {k : Nat} (W : World) (l : Nat) (o o' : Obj) (hl : k < l) (h : W.heap[l]? = some o) (hc : o.isCells = false) : Kj k W (W.putObj l o') := by
  have hs := foot_same (k := k) (W := W) (W' := W.putObj l o') (World.putObj_heap_other (by omega))
  have hz : (W.putObj l o').heap.size = W.heap.size := by simp [World.putObj]
  refine ⟨by rw [hz]; exact Nat.le_refl _, fun g hg => ?_, fun h0 g hg => by rw [hz]; exact h0 g ((hs g).1 hg)⟩
  obtain ⟨⟨o2, ho, h1⟩, hn⟩ := hg
  refine ⟨World.putObj_heap_other (fun e => ?_), fun h' => hn ((hs g).1 h')⟩
  subst e
  rw [h] at ho
  cases ho
  rw [hc] at h1
  cases h1
/-- a call that leaves all outside the disk alone -/
theorem Kj.of_keep {k : Nat} {W W' : World} {S' : Nat → Prop} {d' : Ds} (h : Keep (foot k W) W W') (hd : Dk W' S' k d') (hg : Grows (foot k W) S' W) : Kj k W W' := by
  obtain ⟨_, f2, f3⟩ := hd.foot
  refine ⟨h.size, fun g hp => ?_, fun _ => f3⟩
  obtain ⟨⟨o, ho, _⟩, hn⟩ := hp
  exact ⟨h.block g (lt_of_block ho) hn, fun h' => (hg g (f2 g h')).elim hn (fun h'' => by have := lt_of_block ho; omega)⟩
theorem cells_of_cell {W : World} {g i : Nat} {v : Value} (h : W.cell? ⟨g, i, none⟩ = some v) : ∃ o : Obj, W.heap[g]? = some o ∧ o.isCells = true := by
  have hlt := World.block_lt_of_cell? W _ h
  refine ⟨W.heap[g], Array.getElem?_eq_getElem hlt, ?_⟩
  unfold World.cell? at h
  simp only [Array.getElem?_eq_getElem hlt] at h
  cases ho : W.heap[g] <;> simp_all [Obj.isCells]
/-- what was outside the disk when the loop began, and what is new -/
theorem Pr.of_cell {k : Nat} {W : World} {g i : Nat} {v : Value} (h : W.cell? ⟨g, i, none⟩ = some v) (hn : ¬ foot k W g) : Pr k W g := ⟨cells_of_cell h, hn⟩

/-- a page, as it is handed on -/
def encP (p : Pg) : Array Value := #[.agg #[.int .i64 p.pl, .string p.data]]

attribute [local go_sem] Oper.semAt_some
set_option linter.unusedVariables false
set_option linter.unusedSimpArgs false
set_option maxRecDepth 100000

theorem grown_of_below {w w' : World} (h : Below w.heap.size w w') : w.grownBy w' none := ⟨h.os, h.tape, h.output, h.size, fun k hk _ => h.block k hk⟩
/-- a page's cells, where all outside the disk stands -/
theorem LiesO.kj {w0 w : World} {k : Nat} {a : Option Addr} {n c : Nat} {L : List Pg} (h : LiesO w0 (foot k w0) (.slice a n c) L) (hk : Kj k w0 w) {j : Nat} {p : Pg} (hj : L[j]? = some p) : ∃ b off, a = some ⟨b, off, none⟩ ∧ b < w.heap.size ∧ w.cell? ⟨b, off + j * 2, none⟩ = some (.int .i64 p.pl) ∧ w.cell? ⟨b, off + j * 2 + 1, none⟩ = some (.string p.data) := by
  obtain ⟨b, off, hab, hlt, hn, c0, c1, _⟩ := h.at hj
  have e := (hk.keep b (Pr.of_cell c0 hn)).1
  exact ⟨b, off, hab, Nat.lt_of_lt_of_le hlt hk.size, (World.cell?_of_block (a := ⟨b, off + j * 2, none⟩) e).trans c0, (World.cell?_of_block (a := ⟨b, off + j * 2 + 1, none⟩) e).trans c1⟩
theorem LiesO.kjs {w0 w : World} {k : Nat} {v : Value} {L : List Pg} (h : LiesO w0 (foot k w0) v L) (hk : Kj k w0 w) : LiesO w (foot k w) v L := by
  obtain ⟨a, cap, h1, h2, h3, h4⟩ := h
  refine ⟨a, cap, h1, h2, h3, fun j p hp => ?_⟩
  obtain ⟨b, off, ha, hlt, hs, c0, c1, r⟩ := h4 j p hp
  obtain ⟨e, hn⟩ := hk.keep b (Pr.of_cell c0 hs)
  exact ⟨b, off, ha, Nat.lt_of_lt_of_le hlt hk.size, hn, (World.cell?_of_block (a := ⟨b, off + j * 2, none⟩) e).trans c0, (World.cell?_of_block (a := ⟨b, off + j * 2 + 1, none⟩) e).trans c1, r⟩
theorem Blk.kj {w0 w : World} {k b : Nat} {cs : Array Value} {t : TypeId} (h : Blk w0 b cs t) (hn : ¬ foot k w0 b) (hk : Kj k w0 w) : Blk w b cs t := (hk.keep b ⟨⟨_, h, rfl⟩, hn⟩).1.trans h

set_option maxHeartbeats 4000000 in
theorem settled_stops (n : Nat) (hn : 1 ≤ n) (w0 : World) (k bl : Nat) (v : Value) (L : List Pg) (hbx : Blk w0 bl #[v] 106) (hbn : ¬ foot k w0 bl) (hl : LiesO w0 (foot k w0) v L) (hk : k < w0.heap.size) :
    SeqStopsK Fence.wide n Tryz.prog 186 #[.pointer (some ⟨bl, 0, none⟩)] encP (Kj k) (fun ys => ys = settledL L) (fun pre => ∃ j, pre = (settledL L).take j) (settledL L).length w0 := by
  intro l J Jx W hW hJ _ hY h0
  have hro : Fence.wide.round = none := rfl
  have HK0 := hid (Kj.of_below hW hk)
  obtain ⟨a, c, e1⟩ := hl.form
  subst e1
  have c0 := (hbx.on hW hbx.lt).cell (i := 0) (v := .slice a L.length c) rfl
  have hlen := hl.len
  unfold maxLen at hlen
  have HL := hid hl
  obtain ⟨N, hN⟩ : ∃ N, L.length = N := ⟨_, rfl⟩
  have HN := hid hN
  have HSL : Hid ((settledL L).length = N + 1) := by show _ = _; rw [settledL_len, hN]
  have HAT : Hid (∀ j p, L[j]? = some p → (settledL L)[j]? = some p) := fun j p h => by
    unfold settledL
    rw [List.getElem?_append_left (List.getElem?_eq_some_iff.1 h).1]
    exact h
  have HLA : Hid ((settledL L)[N]? = some ⟨1, Z⟩) := by
    show _ = _
    unfold settledL
    rw [List.getElem?_append_right (by omega), hN, Nat.sub_self]
    rfl
  have HBK : Hid (∀ w1, Calls Tryz.prog 187 #[.string ⟨#[]⟩] w1 fun e w' => e = .returned (.string Z) ∧ Below w1.heap.size w1 w') := fun w1 => block_any ⟨#[]⟩ (by decide) w1
  rw [hN] at hlen c0
  clear hl hN
  refine callsIn_of_wp Tryz.func186 rfl trivial ?_ hro
  simp only [Tryz.ntmps186, List.size_toArray, List.length_cons, List.length_nil, Nat.reduceAdd, Nat.reduceSub, Array.replicate_succ, Array.replicate_zero, List.push_toArray, List.append_toArray, List.nil_append, List.cons_append]
  gi_wp2
  gi_loopw [7] (fun i wr => ∃ j : Nat, j ≤ N ∧ i = .int .i64 (j : Nat) ∧ J ((settledL L).take j) wr ∧ Hid (Kj k w0 wr)) (fun i _ => N - (intOf i).toNat)
  case atStart => exact ⟨0, Nat.zero_le _, rfl, by simpa using h0, HK0⟩
  case round =>
    obtain ⟨j, hj, rfl, hJs, HK⟩ := hrel
    clear HK0
    by_cases hlt : j < N
    · have hji : (j : Int) < (N : Int) := by omega
      obtain ⟨p, hp⟩ : ∃ p, L[j]? = some p := ⟨_, List.getElem?_eq_getElem (by rw [HN.out]; exact hlt)⟩
      obtain ⟨b, off, hab, hblt, cp0, cp1⟩ := HL.out.kj HK.out hp
      subst hab
      have hpre := take_snoc (HAT.out j p hp)
      have hb := (Below.refl wr.heap.size wr).alloc (Nat.le_refl _) (.cells #[.int .i64 p.pl, .string p.data] 110)
      have HK2 := hid (HK.out.trans (Kj.of_below hb (Nat.lt_of_lt_of_le hk HK.out.size)))
      obtain ⟨fn, tmps, assign, body, hy, hR⟩ := hY _ p _ (hJ _ _ _ none hJs (grown_of_below hb) (fun r e => by cases e)) (by rw [List.length_take, HSL.out]; omega)
      unfold encP at hy
      rw [← hpre] at hR
      obtain ⟨pl, data⟩ := p
      simp only at cp0 cp1 hy
      clear hpre hp HK hb
      gi_wp2
      refine hR.mono ?_
      rintro e W3 (⟨rfl, hJ3, hk3⟩ | ⟨rfl, hJx3⟩)
      · gi_wp2
        go_roundw
        case rel => exact ⟨j + 1, by omega, by go_num, hJ3, HK2.out.trans hk3⟩
        case measure => (simp [intOf]; try omega)
      · gi_wp2
        refine bodyPost_ret (results_none rfl _ _ _) rfl ?_
        exact ⟨⟨_, rfl⟩, .inr ⟨_, ⟨j + 1, rfl⟩, hJx3⟩⟩
    · have hji : ¬ (j : Int) < (N : Int) := by omega
      obtain rfl : j = N := by omega
      have HPR := hid (take_snoc HLA.out)
      have HAL : Hid ((settledL L).take (j + 1) = settledL L) := List.take_of_length_le (by rw [HSL.out]; omega)
      gi_wp2_with (refine ⟨trivial, ?_⟩; gi_at_call 187; refine ((callsIn_wide (n := _)).2 (HBK.out _)).mono ?_; rintro e w1 ⟨rfl, hb1⟩; obtain ⟨fn, tmps, assign, body, hy, hR⟩ := hY _ ⟨1, Z⟩ w1 (hJ _ _ _ none hJs (grown_of_below hb1) (fun r e => by cases e)) (by rw [List.length_take, HSL.out]; omega); unfold encP at hy; simp only at hy; rw [← HPR.out, HAL.out] at hR)
      refine hR.mono ?_
      rintro e W3 (⟨rfl, hJ3, hk3⟩ | ⟨rfl, hJx3⟩)
      · gi_wp2
        go_end0
        first | exact ⟨⟨_, rfl⟩, .inl ⟨_, rfl, hJ3⟩⟩ | exact ⟨⟨_, rfl⟩, .inl hJ3⟩
      · gi_wp2
        go_end0
        exact ⟨⟨_, rfl⟩, .inr ⟨_, ⟨j + 1, HAL.out.symm⟩, hJx3⟩⟩

attribute [local go_sem] Oper.semAt_some
set_option linter.unusedVariables false
set_option linter.unusedSimpArgs false
set_option maxRecDepth 100000

theorem row_same' {w w' : World} {B : Nat} {e : TypeId} {size : Nat} {v : Value} {n : Nat} {xs : List Value} (h : w.ownsRow B e size v n xs) (hs : ∀ g, v.ownBlock = some g → w'.heap[g]? = w.heap[g]?) : w'.ownsRow B e size v n xs := by
  refine ⟨h.1, ?_⟩
  rcases h.2 with hn | ⟨g, cap, cur, rfl, hB, hg, rest⟩
  · exact .inl hn
  · exact .inr ⟨g, cap, cur, rfl, hB, (hs g rfl).trans hg, rest⟩
/-- a new row is outside the disk -/
theorem row_pr {k : Nat} {wr w1 : World} {v : Value} {L : List ByteArray} (hr : RowS w1 wr.heap.size v L) (hb : Below wr.heap.size wr w1) (hk : k < wr.heap.size) (hfo : footOk k wr) : ∀ g, v.ownBlock = some g → Pr k w1 g := by
  intro g hg
  have hlo := ((hr : w1.ownsRow wr.heap.size 9 1 v _ _).lt g hg).1
  rcases (hr : w1.ownsRow wr.heap.size 9 1 v _ _).2 with ⟨e, _⟩ | ⟨g', cap, cur, e, _, hgg, _⟩
  · rw [e] at hg; simp [Value.ownBlock] at hg
  · rw [e] at hg
    simp [Value.ownBlock] at hg
    subst hg
    refine ⟨⟨_, hgg, rfl⟩, fun hf => ?_⟩
    have h2 := hfo g' ((foot_same (hb.block k hk) g').1 hf)
    omega
theorem saved_copy {n : Nat} {L : List Pg} {j : Nat} {p : Pg} (h : L[j]? = some p) : (savedL n L)[j]? = some ⟨((2 + lb (pgs n) + j : Nat) : Int), p.data⟩ := by
  have hj := (List.getElem?_eq_some_iff.1 h).1
  unfold savedL copiesL
  rw [List.getElem?_append_left (by rw [List.length_append, enumP_len, enumP_len, List.length_map]; omega), List.getElem?_append_left (by rw [enumP_len, List.length_map]; exact hj)]
  exact enumP_at (by rw [List.getElem?_map, h]; rfl)
theorem saved_row {n : Nat} {L : List Pg} {j : Nat} {s : ByteArray} (h : (rows L)[j]? = some s) : (savedL n L)[L.length + j]? = some ⟨((2 + j : Nat) : Int), s⟩ := by
  have hj := (List.getElem?_eq_some_iff.1 h).1
  unfold savedL copiesL
  rw [List.getElem?_append_left (by rw [List.length_append, enumP_len, enumP_len, List.length_map]; omega), List.getElem?_append_right (by rw [enumP_len, List.length_map]; omega), enumP_len, List.length_map, Nat.add_sub_cancel_left]
  exact enumP_at h
theorem saved_head (n : Nat) (L : List Pg) : (savedL n L)[L.length + (rows L).length]? = some ⟨1, hdB (rows L) L⟩ := by
  unfold savedL copiesL
  rw [List.getElem?_append_right (by rw [List.length_append, enumP_len, enumP_len, List.length_map]; omega), List.length_append, enumP_len, enumP_len, List.length_map, Nat.sub_self]
  rfl

set_option maxHeartbeats 8000000 in
theorem saved_stops (n : Nat) (hn : 1 ≤ n) (w0 : World) (k bl bm : Nat) (v : Value) (L : List Pg) (D : Nat) (hD1 : 64 ≤ D) (hD2 : D ≤ 2048) (hbx : Blk w0 bl #[v] 106) (hbn : ¬ foot k w0 bl) (hmx : Blk w0 bm #[.int .i64 (pgs D : Nat)] 3) (hmn : ¬ foot k w0 bm) (hl : LiesO w0 (foot k w0) v L) (hk : k < w0.heap.size) (hfo : footOk k w0) (hN : L.length ≤ 2048) (hp : ∀ p ∈ L, 0 ≤ p.pl ∧ p.pl < 65536) :
    SeqStopsK Fence.wide n Tryz.prog 249 #[.pointer (some ⟨bl, 0, none⟩), .pointer (some ⟨bm, 0, none⟩)] encP (Kj k) (fun ys => ys = savedL D L) (fun pre => ∃ j, pre = (savedL D L).take j) (savedL D L).length w0 := by
  intro l J Jx W hW hJ _ hY h0
  have hro : Fence.wide.round = none := rfl
  have HK0 := hid (Kj.of_below hW hk)
  obtain ⟨a, c, e1⟩ := hl.form
  subst e1
  have HL := hid hl
  have HBX := hid hbx
  have HMX := hid hmx
  have HLL : Hid (∀ w1, Kj k w0 w1 → Calls Tryz.prog 183 #[.slice a L.length c] w1 fun e w' => ∃ v', e = .returned v' ∧ RowS w' w1.heap.size v' (rows L) ∧ Below w1.heap.size w1 w') := fun w1 h => listOf_any w1 (foot k w1) _ L (hl.kjs h) (by omega) hp
  have HHD : Hid (∀ w1 B u, Kj k w0 w1 → RowS w1 B u (rows L) → Calls Tryz.prog 184 #[u, .slice a L.length c] w1 fun e w' => e = .returned (.string (hdB (rows L) L)) ∧ Below w1.heap.size w1 w') := fun w1 B u h hu => headOf_any w1 (foot k w1) B u _ (rows L) L hu (hl.kjs h) (by omega) (by rw [rows_len]; unfold lb; omega) (fun s hs => rows_size hs)
  have HAT : Hid (∀ (j : Nat) (p : Pg), L[j]? = some p → (savedL D L)[j]? = some (⟨((2 + lb (pgs D) + j : Nat) : Int), p.data⟩ : Pg)) := fun j p h => saved_copy h
  have HAR : Hid (∀ (j : Nat) (s : ByteArray), (rows L)[j]? = some s → (savedL D L)[L.length + j]? = some (⟨((2 + j : Nat) : Int), s⟩ : Pg)) := fun j s h => saved_row h
  have HAH := hid (saved_head D L)
  have HRL : Hid (∀ (j : Nat), j < (rows L).length → ∃ s, (rows L)[j]? = some s ∧ s.size = 256) := fun j h => ⟨_, List.getElem?_eq_getElem h, rows_size (List.getElem_mem h)⟩
  have hpg := pgs_hi hD2
  have hcp : ∀ w1, _ := fun w1 => copiesAt_any (pgs D) (by omega) w1
  have hcb : 2 + lb (pgs D) ≤ 2000 := by unfold lb; omega
  have HSL : Hid ((savedL D L).length = L.length + (rows L).length + 1) := by show _ = _; rw [savedL_len, rows_len]
  have hMb : (rows L).length ≤ 100 := by rw [rows_len]; unfold lb; omega
  obtain ⟨M, hM⟩ : ∃ M, (rows L).length = M := ⟨_, rfl⟩
  have HM := hid hM
  rw [hM] at HSL HAH HRL hMb
  obtain ⟨N, hNN⟩ : ∃ N, L.length = N := ⟨_, rfl⟩
  have HN := hid hNN
  rw [hNN] at hN HSL HAR HAH HLL HHD hbx
  obtain ⟨q, hq⟩ : ∃ q, pgs D = q := ⟨_, rfl⟩
  rw [hq] at hcp HAT HMX hpg hcb
  obtain ⟨y, hyy⟩ : ∃ y, 2 + lb q = y := ⟨_, rfl⟩
  rw [hyy] at hcp HAT hcb
  have c0 := (hbx.on hW hbx.lt).cell (i := 0) (v := .slice a N c) rfl
  rw [hNN] at HBX
  clear hl hNN hM hq hyy hbx hmx hp
  refine callsIn_of_wp Tryz.func249 rfl trivial ?_ hro
  simp only [Tryz.ntmps249, List.size_toArray, List.length_cons, List.length_nil, Nat.reduceAdd, Nat.reduceSub, Array.replicate_succ, Array.replicate_zero, List.push_toArray, List.append_toArray, List.nil_append, List.cons_append]
  gi_wp2
  gi_loopw [11] (fun i wr => ∃ j : Nat, j ≤ N ∧ i = .int .i64 (j : Nat) ∧ J ((savedL D L).take j) wr ∧ Hid (Kj k w0 wr)) (fun i _ => N - (intOf i).toNat)
  case atStart => exact ⟨0, Nat.zero_le _, rfl, by simpa using h0, HK0⟩
  case round =>
    obtain ⟨j, hj, rfl, hJs, HK⟩ := hrel
    clear HK0
    by_cases hlt : j < N
    · have hji : (j : Int) < (N : Int) := by omega
      obtain ⟨p, hp⟩ : ∃ p, L[j]? = some p := ⟨_, List.getElem?_eq_getElem (by rw [HN.out]; exact hlt)⟩
      obtain ⟨b, off, hab, hblt, cp0, cp1⟩ := HL.out.kj HK.out hp
      subst hab
      have hpre := take_snoc (HAT.out j p hp)
      have hb : Below wr.heap.size wr (wr.alloc (.cells #[.int .i64 p.pl, .string p.data] 110)).drew := ((Below.refl wr.heap.size wr).alloc (Nat.le_refl _) _).drew
      have HK2 := hid (HK.out.trans (Kj.of_below hb (Nat.lt_of_lt_of_le hk HK.out.size)))
      obtain ⟨fn, tmps, assign, body, hy, hR⟩ := hY _ ⟨((y + j : Nat) : Int), p.data⟩ _ (hJ _ _ _ none hJs (grown_of_below hb) (fun r e => by cases e)) (by rw [List.length_take, HSL.out]; omega)
      unfold encP at hy
      rw [← hpre] at hR
      have hX := Blk.made wr #[.int .i64 p.pl, .string p.data] 110
      have HSW : (wr.alloc (.cells #[.int .i64 p.pl, .string p.data] 110)).drew.cell? ⟨bm, 0, none⟩ = some (.int .i64 (q : Nat)) ∧ (wr.alloc (.cells #[.int .i64 p.pl, .string p.data] 110)).drew.cell? ⟨wr.heap.size, 1, none⟩ = some (.string p.data) := ⟨(HMX.out.kj hmn HK2.out).cell rfl, hX.cell rfl⟩
      obtain ⟨pl, data⟩ := p
      simp only [Int.natCast_add] at cp0 cp1 hy HSW
      have HRR := hid hR
      have hyj : IntKind.i64.wrap ((y : Int) + (j : Int)) = (y : Int) + (j : Int) := by rw [IntKind.wrap_i64]; omega
      clear hpre hp HK hb hX hR
      gi_wp2
      refine wpIn_region_m (fun w' => w'.cell? ⟨bm, 0, none⟩ = some (.int .i64 (q : Nat)) ∧ w'.cell? ⟨wr.heap.size, 1, none⟩ = some (.string data)) 8 (by kernel_rfl) ?_
      refine wpAnyInM_pick [8, 9] (i := 0) (some 16) (v := ?vz1) hro rfl rfl (by kernel_rfl) (by kernel_rfl) (by kernel_rfl) (by kernel_rfl) (fun _ _ _ h => h) ⟨Or.inl ⟨by rfl, ?hz1⟩, fun _ => rfl⟩ HSW ?rz1
      case hz1 => intro w hSw; go_simp; try with_reducible rfl
      try simp only [Act.put, List.setIfInBounds_toArray, List.set_cons_zero, List.set_cons_succ]
      refine wpAnyInM_pick [2, 8, 9] (i := 1) (some 17) (v := ?vz2) hro rfl rfl (by kernel_rfl) (by kernel_rfl) (by kernel_rfl) (by kernel_rfl) (fun _ _ _ h => h) ⟨Or.inl ⟨by rfl, ?hz2⟩, fun _ => rfl⟩ HSW ?rz2
      case hz2 => intro w hSw; go_simp; try with_reducible rfl
      try simp only [Act.put, List.setIfInBounds_toArray, List.set_cons_zero, List.set_cons_succ]
      refine wpAnyInM_pick [4, 7, 8, 9] (i := 3) (some 19) (v := ?vz3) hro rfl rfl (by kernel_rfl) (by kernel_rfl) (by kernel_rfl) (by kernel_rfl) (fun _ _ _ h => h) ⟨Or.inl ⟨by rfl, ?hz3⟩, fun _ => rfl⟩ HSW ?rz3
      case hz3 => intro w hSw; go_simp; try with_reducible rfl
      try simp only [Act.put, List.setIfInBounds_toArray, List.set_cons_zero, List.set_cons_succ]
      refine wpAnyInM_pick [6, 7, 8, 9] (i := 5) (some 21) (v := ?vz4) hro rfl rfl (by kernel_rfl) (by kernel_rfl) (by kernel_rfl) (by kernel_rfl) (fun _ _ _ h => h) ⟨Or.inl ⟨by rfl, ?hz4⟩, fun _ => rfl⟩ HSW ?rz4
      case hz4 => intro w hSw; go_simp; try with_reducible rfl
      try simp only [Act.put, List.setIfInBounds_toArray, List.set_cons_zero, List.set_cons_succ]
      refine wpAnyInM_pick [7, 8, 9] (i := 6) (some 22) (v := ?vz5) hro rfl rfl (by kernel_rfl) (by kernel_rfl) (by kernel_rfl) (by kernel_rfl) (fun _ _ _ h => h) ⟨Or.inl ⟨by rfl, ?hz5⟩, fun _ => rfl⟩ HSW ?rz5
      case hz5 => intro w hSw; go_simp; try with_reducible rfl
      try simp only [Act.put, List.setIfInBounds_toArray, List.set_cons_zero, List.set_cons_succ]
      refine wpAnyInM_one (i := 2) (by kernel_rfl) rfl (fun K hK => ?_)
      go_simp
      refine ⟨trivial, ?_⟩
      gi_at_call 179
      refine ((callsIn_wide (n := _)).2 (hcp _)).mono ?_
      rintro e w2 ⟨rfl, rfl⟩
      gi_wp2_with fail
      refine hK _ _ (fun _ => HSW) ?_
      clear hK K
      try simp only [Act.put, List.setIfInBounds_toArray, List.set_cons_zero, List.set_cons_succ]
      refine wpAnyInM_pick [7, 8, 9] (i := 4) (some 20) (v := ?vz6) hro rfl rfl (by kernel_rfl) (by kernel_rfl) (by kernel_rfl) (by kernel_rfl) (fun _ _ _ h => h) ⟨Or.inl ⟨by rfl, ?hz6⟩, fun _ => rfl⟩ HSW ?rz6
      case hz6 => intro w hSw; go_simp; try with_reducible rfl
      try simp only [Act.put, List.setIfInBounds_toArray, List.set_cons_zero, List.set_cons_succ]
      refine wpAnyInM_pick [8, 9] (i := 7) (some 23) (v := ?vz7) hro rfl rfl (by kernel_rfl) (by kernel_rfl) (by kernel_rfl) (by kernel_rfl) (fun _ _ _ h => h) ⟨Or.inl ⟨by rfl, ?hz7⟩, fun _ => rfl⟩ HSW ?rz7
      case hz7 => intro w hSw; go_simp; try with_reducible rfl
      try simp only [Act.put, List.setIfInBounds_toArray, List.set_cons_zero, List.set_cons_succ]
      refine wpAnyInM_one (i := 8) (by kernel_rfl) rfl (fun K hK => ?_)
      go_simp
      refine HRR.out.mono ?_
      clear hy HSW HRR
      rintro e W3 (⟨rfl, hJ3, hk3⟩ | ⟨rfl, hJx3⟩)
      · gi_wp2_with fail
        refine hK _ _ (fun h => absurd h (by decide)) ?_
        clear hK K
        try simp only [Act.put, List.setIfInBounds_toArray, List.set_cons_zero, List.set_cons_succ]
        refine wpAnyInM_one (i := 9) (by kernel_rfl) rfl (fun K hK => ?_)
        go_simp
        refine hK _ _ (fun h => absurd h (by decide)) ?_
        clear hK K
        refine wpAnyInM_done (by kernel_rfl) ?_ _
        try simp only [Act.put, List.setIfInBounds_toArray, List.set_cons_zero, List.set_cons_succ]
        gi_wp2
        go_roundw
        case rel => exact ⟨j + 1, by omega, by go_num, hJ3, HK2.out.trans hk3⟩
        case measure => (simp [intOf]; try omega)
      · gi_wp2_with fail
        refine hK _ _ (fun h => absurd h (by decide)) ?_
        clear hK K
        try simp only [Act.put, List.setIfInBounds_toArray, List.set_cons_zero, List.set_cons_succ]
        refine wpAnyInM_one (i := 9) (by kernel_rfl) rfl (fun K hK => ?_)
        go_simp
        refine hK _ _ (fun h => absurd h (by decide)) ?_
        clear hK K
        refine wpAnyInM_done (by kernel_rfl) ?_ _
        try simp only [Act.put, List.setIfInBounds_toArray, List.set_cons_zero, List.set_cons_succ]
        gi_wp2
        refine bodyPost_ret (results_none rfl _ _ _) rfl ?_
        exact ⟨⟨_, rfl⟩, .inr ⟨_, ⟨j + 1, rfl⟩, hJx3⟩⟩
    · have hji : ¬ (j : Int) < (N : Int) := by omega
      obtain rfl : j = N := by omega
      have cB : wr.cell? ⟨bl, 0, none⟩ = some (.slice a j c) := (HBX.out.kj hbn HK.out).cell rfl
      gi_wp2_with (refine ⟨trivial, ?_⟩; gi_at_call 183; refine ((callsIn_wide (n := _)).2 (HLL.out _ HK.out)).mono ?_; rintro e w1 ⟨v1, rfl, hr1, hb1⟩; have HK1 := hid (HK.out.trans (Kj.of_below hb1 (Nat.lt_of_lt_of_le hk HK.out.size))); have hJ1 := hJ _ _ _ none hJs (grown_of_below hb1) (fun r e => by cases e); have HR1 : Hid (RowS w1 0 v1 (rows L)) := own_base hr1 (Nat.zero_le _); obtain ⟨ra, rc, hrv⟩ := hr1.form; have HFO := hid (row_pr hr1 hb1 (Nat.lt_of_lt_of_le hk HK.out.size) (HK.out.ok hfo)); rw [HM.out] at hrv; subst hrv; clear hr1 hb1 hJs)
      gi_loopw [31] (fun i wr => ∃ t : Nat, t ≤ M ∧ i = .int .i64 (t : Nat) ∧ J ((savedL D L).take (j + t)) wr ∧ Hid (Kj k w1 wr)) (fun i _ => M - (intOf i).toNat)
      case atStart => exact ⟨0, Nat.zero_le _, rfl, hJ1, ⟨Nat.le_refl _, fun g hg => ⟨rfl, hg.2⟩, fun h => h⟩⟩
      case round =>
        obtain ⟨t, ht, rfl, hJt, HKt⟩ := hrel
        have HRt : Hid (RowS wr 0 (.slice ra M rc) (rows L)) := row_same' HR1.out (fun g hg => (HKt.out.keep g (HFO.out g hg)).1)
        clear hJ1
        by_cases htl : t < M
        · have hti : (t : Int) < (M : Int) := by omega
          obtain ⟨s, hs, _⟩ := HRL.out t htl
          obtain ⟨g, x1, _, _⟩ := row_some HRt.out (by rw [HM.out]; omega)
          subst x1
          have c1 := (HRt.out.at hs).1
          have hpre := take_snoc (HAR.out t s hs)
          obtain ⟨fn, tmps, assign, body, hy, hR⟩ := hY _ ⟨((2 + t : Nat) : Int), s⟩ _ hJt (by rw [List.length_take, HSL.out]; omega)
          unfold encP at hy
          rw [← hpre] at hR
          simp only at hy
          rw [show ((2 + t : Nat) : Int) = 2 + (t : Int) by omega] at hy
          clear hpre hs
          gi_wp2
          refine hR.mono ?_
          rintro e W3 (⟨rfl, hJ3, hk3⟩ | ⟨rfl, hJx3⟩)
          · gi_wp2
            go_roundw
            case rel => exact ⟨t + 1, by omega, by go_num, hJ3, HKt.out.trans hk3⟩
            case measure => (simp [intOf]; try omega)
          · gi_wp2
            refine bodyPost_ret (results_none rfl _ _ _) rfl ?_
            exact ⟨⟨_, rfl⟩, .inr ⟨_, ⟨j + t + 1, rfl⟩, hJx3⟩⟩
        · have hti : ¬ (t : Int) < (M : Int) := by omega
          obtain rfl : t = M := by omega
          have HKw := hid (HK1.out.trans HKt.out)
          have cB2 : wr.cell? ⟨bl, 0, none⟩ = some (.slice a j c) := (HBX.out.kj hbn HKw.out).cell rfl
          have HPR := hid (take_snoc HAH.out)
          have HAL : Hid ((savedL D L).take (j + t + 1) = savedL D L) := List.take_of_length_le (by rw [HSL.out]; omega)
          have hhd := HHD.out wr _ _ HKw.out HRt.out
          generalize hdB (rows L) L = hd at hhd HPR
          gi_wp2_with (refine ⟨trivial, ?_⟩; gi_at_call 184; refine ((callsIn_wide (n := _)).2 hhd).mono ?_; clear hhd; rintro e w2 ⟨rfl, hb2⟩; obtain ⟨fn, tmps, assign, body, hy, hR⟩ := hY _ ⟨1, hd⟩ w2 (hJ _ _ _ none hJt (grown_of_below hb2) (fun r e => by cases e)) (by rw [List.length_take, HSL.out]; omega); unfold encP at hy; simp only at hy; rw [← HPR.out, HAL.out] at hR)
          refine hR.mono ?_
          rintro e W3 (⟨rfl, hJ3, hk3⟩ | ⟨rfl, hJx3⟩)
          · gi_wp2
            go_end0
            first | exact ⟨⟨_, rfl⟩, .inl ⟨_, rfl, hJ3⟩⟩ | exact ⟨⟨_, rfl⟩, .inl hJ3⟩
          · gi_wp2
            go_end0
            exact ⟨⟨_, rfl⟩, .inr ⟨_, ⟨j + t + 1, HAL.out.symm⟩, hJx3⟩⟩

end Go.Proofs.YtjcbaiohpdihoaaGreatDoor
