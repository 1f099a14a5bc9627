/-
  What the journal reads of a disk: blocks one behind the other, the pages that the list tells.
-/
import Derived.Test.YtjcbaiohpdihoaaGreatDoorIs
namespace Go.Proofs.YtjcbaiohpdihoaaGreatDoor
open Go.RowKit Go.Shelf

attribute [local go_sem] Oper.semAt_some
set_option linter.unusedVariables false
set_option linter.unusedSimpArgs false
set_option maxRecDepth 100000

theorem Dk.foot_cells {W : World} {S : Nat → Prop} {k : Nat} {d : Ds} (h : Dk W S k d) {g : Nat} (hg : Go.Proofs.YtjcbaiohpdihoaaGreatDoor.foot k W g) : ∃ o : Obj, W.heap[g]? = some o ∧ o.isCells = true := by
  obtain ⟨h1, h2, h3, bv, lv, h4, h5, h6, h7, h8⟩ := h
  have c0 : W.cell? ⟨k, 0, none⟩ = some bv := h4.cell rfl
  have c1 : W.cell? ⟨k, 1, none⟩ = some lv := h4.cell rfl
  rcases hg with rfl | ⟨v, hv, hb⟩ | ⟨v, hv, hb⟩
  · exact ⟨_, h4, rfl⟩
  · rw [c0] at hv
    cases hv
    rcases (h5 : W.ownsRow 0 9 1 bv _ _).2 with ⟨e, _⟩ | ⟨g', cap, cur, e, _, hgg, _⟩
    · rw [e] at hb; simp [Value.ownBlock] at hb
    · rw [e] at hb; simp [Value.ownBlock] at hb; subst hb; exact ⟨_, hgg, rfl⟩
  · rw [c1] at hv
    cases hv
    rcases (h6 : W.ownsRow 0 110 2 lv _ _).2 with ⟨e, _⟩ | ⟨g', cap, cur, e, _, hgg, _⟩
    · rw [e] at hb; simp [Value.ownBlock] at hb
    · rw [e] at hb; simp [Value.ownBlock] at hb; subst hb; exact ⟨_, hgg, rfl⟩
/-- a disk where some block that is no cells is turned -/
theorem Dk.turned {A B : World} {S : Nat → Prop} {k : Nat} {d : Ds} {row : Option Nat} (h : Dk A S k d) (hg : A.grownBy B row) (hr : ∀ r, row = some r → ∃ o : Obj, A.heap[r]? = some o ∧ o.isCells = false) : Dk B S k d := by
  obtain ⟨h1, h2, h3, bv, lv, h4, h5, h6, h7, h8⟩ := h
  have hne : ∀ (j : Nat) cs t, A.heap[j]? = some (Obj.cells cs t (0, 0)) → B.heap[j]? = A.heap[j]? := fun j cs t hj => hg.block j (lt_of_block hj) (fun e => by
    obtain ⟨o, ho, hc⟩ := hr j e.symm
    rw [hj] at ho; cases ho; cases hc)
  refine ⟨h1, fun j hj => Nat.lt_of_lt_of_le (h2 j hj) hg.size, h3, bv, lv, (hne k _ _ h4).trans h4, row_same' h5 (fun g hgv => ?_), row_same' h6 (fun g hgv => ?_), h7, h8⟩
  · rcases (h5 : A.ownsRow 0 9 1 bv _ _).2 with ⟨e, _⟩ | ⟨g', cap, cur, e, _, hgg, _⟩
    · rw [e] at hgv; simp [Value.ownBlock] at hgv
    · rw [e] at hgv; simp [Value.ownBlock] at hgv; subst hgv; exact hne _ _ _ hgg
  · rcases (h6 : A.ownsRow 0 110 2 lv _ _).2 with ⟨e, _⟩ | ⟨g', cap, cur, e, _, hgg, _⟩
    · rw [e] at hgv; simp [Value.ownBlock] at hgv
    · rw [e] at hgv; simp [Value.ownBlock] at hgv; subst hgv; exact hne _ _ _ hgg
theorem Keep.turned {S : Nat → Prop} {w A B : World} {row : Option Nat} (h : Keep S w A) (hg : A.grownBy B row) (hr : ∀ r, row = some r → w.heap.size ≤ r) : Keep S w B :=
  ⟨hg.os.trans h.os, hg.tape.trans h.tape, hg.output.trans h.output, Nat.le_trans h.size hg.size, fun j hj hn => (hg.block j (Nat.lt_of_lt_of_le hj h.size) (fun e => by have := hr j e.symm; omega)).trans (h.block j hj hn)⟩
theorem Keep.others {k : Nat} {W W' : World} {S : Nat → Prop} {d : Ds} (hd : Dk W S k d) (h : Keep (foot k W) W W') : KeepsOthers W W' := ⟨h.size, fun j o hj hc => (h.block j (lt_of_block hj) (fun hf => by
  obtain ⟨o', ho', hc'⟩ := hd.foot_cells hf
  rw [hj] at ho'; cases ho'; rw [hc] at hc'; cases hc')).trans hj⟩
theorem Ds.wrs_snoc {d : Ds} {pre : List Pg} (h : (d.wrs pre).1 = 0) (x : Pg) : d.wrs (pre ++ [x]) = ((d.wrs pre).2.wrE x.pl x.data, (d.wrs pre).2.wr x.pl x.data) := by
  rw [Ds.wrs_append, if_pos h, Ds.wrs_cons]
  split
  · rename_i h0; rw [h0]; rfl
  · rfl
theorem Ds.wrs_stop {d : Ds} {L : List Pg} {j : Nat} (h : ¬ (d.wrs (L.take j)).1 = 0) : d.wrs L = d.wrs (L.take j) := by
  conv => lhs; rw [← List.take_append_drop j L]
  rw [Ds.wrs_append, if_neg h]

/-- so many writes can be kept in mind -/
def Fit (n : Nat) : Prop := n * 24 ≤ 140737488355328
theorem Fit.le {a b : Nat} (h3 : Fit b) (h : a ≤ b) : Fit a := by unfold Fit at *; exact Nat.le_trans (Nat.mul_le_mul_right 24 h) h3
/-- between two writes -/
structure Wm (w : World) (S : Nat → Prop) (k : Nat) (d : Ds) (W : World) : Prop where
  disk : ∃ S', Dk W S' k d ∧ Grows S S' w
  keep : Keep S w W
theorem Wm.turned {w A B : World} {S : Nat → Prop} {k : Nat} {d : Ds} {row : Option Nat} (h : Wm w S k d A) (hg : A.grownBy B row) (hr : ∀ r, row = some r → w.heap.size ≤ r ∧ ∃ o : Obj, A.heap[r]? = some o ∧ o.isCells = false) : Wm w S k d B := by
  obtain ⟨S', h1, h2⟩ := h.disk
  exact ⟨⟨S', h1.turned hg (fun r e => (hr r e).2), h2⟩, h.keep.turned hg (fun r e => (hr r e).1)⟩
theorem Wm.on {w A B : World} {S : Nat → Prop} {k : Nat} {d : Ds} (h : Wm w S k d A) (hb : Below A.heap.size A B) : Wm w S k d B := h.turned (grown_of_below hb) (fun r e => by cases e)
theorem Wm.step {w A B : World} {S S' : Nat → Prop} {k : Nat} {d d' : Ds} (h : Wm w S k d A) (hd : Dk B S' k d') (hk : Keep (foot k A) A B) (hg : Grows (foot k A) S' A) : Wm w S k d' B := by
  obtain ⟨S1, h1, h2⟩ := h.disk
  obtain ⟨_, f2, _⟩ := h1.foot
  refine ⟨⟨S', hd, fun j hj => ?_⟩, h.keep.trans hk (fun j hj hf => ?_)⟩
  · rcases hg j hj with h' | h'
    · exact h2 j (f2 j h')
    · exact .inr (Nat.le_trans h.keep.size h')
  · rcases h2 j (f2 j hf) with h' | h'
    · exact h'
    · omega
/-- a block of another type is outside the disk -/
theorem Dk.box_out {W : World} {S : Nat → Prop} {k : Nat} {d : Ds} (h1 : Dk W S k d) {b : Nat} {cs : Array Value} {t : TypeId} (hb : Blk W b cs t) (ht : t ≠ 178 ∧ t ≠ 9 ∧ t ≠ 110) : ¬ Go.Proofs.YtjcbaiohpdihoaaGreatDoor.foot k W b := by
  intro hf
  obtain ⟨g1, g2, g3, bv, lv, g4, g5, g6, g7, g8⟩ := h1
  rcases hf with rfl | ⟨v, hv, hbb⟩ | ⟨v, hv, hbb⟩
  · unfold Blk at g4 hb
    rw [g4] at hb
    simp only [Option.some.injEq, Obj.cells.injEq] at hb
    exact ht.1 hb.2.1.symm
  · rw [show W.cell? ⟨k, 0, none⟩ = some bv from g4.cell rfl] at hv
    cases hv
    exact hb.ne g5 ht.2.1 hbb rfl
  · rw [show W.cell? ⟨k, 1, none⟩ = some lv from g4.cell rfl] at hv
    cases hv
    exact hb.ne g6 ht.2.2 hbb rfl
theorem Wm.set {w W : World} {S : Nat → Prop} {k : Nat} {d : Ds} (h : Wm w S k d W) {b : Nat} {cs : Array Value} {t : TypeId} (hb : Blk W b cs t) (ht : t = 26) (hw : w.heap.size ≤ b) (v : Value) : Wm w S k d (W.setCell ⟨b, 0, none⟩ v) := by
  subst ht
  obtain ⟨S1, h1, h2⟩ := h.disk
  obtain ⟨f1, f2, _⟩ := h1.foot
  have hn : ¬ foot k W b := h1.box_out hb (by decide)
  have hk : Keep (fun j => j = b) W (W.setCell ⟨b, 0, none⟩ v) := Keep.set (S := fun j => j = b) W rfl 0 v
  refine ⟨⟨foot k W, hk.dk f1 (fun j hj e => hn (e ▸ hj)), fun j hj => h2 j (f2 j hj)⟩, ?_⟩
  exact h.keep.trans hk (fun j hj e => by subst e; omega)

attribute [local go_sem] Oper.semAt_some
set_option linter.unusedVariables false
set_option linter.unusedSimpArgs false
set_option maxRecDepth 100000

theorem zero32 (W : World) : (binOp .neq 26 (.int .i64 0) (.int .i64 0)).run Tryz.prog W = .ok (.bool false) W := by kernel_rfl

set_option maxHeartbeats 8000000 in
theorem writes_any (gf : Nat) (lb : Array Value) (eg : ∀ args w, (callFunc gf args).run Tryz.prog w = .ok (.enter gf args) w) (L : List Pg) (w : World) (S : Nat → Prop) (k : Nat) (d : Ds) (hd : Dk w S k d) (hz : Fit (d.lg.length + L.length + 1))
    (hseq : ∀ w1, Below w.heap.size w w1 → SeqStopsK Fence.wide 2 Tryz.prog gf lb encP (Kj k) (fun ys => ys = L) (fun pre => ∃ j, pre = L.take j) L.length w1) :
    Calls Tryz.prog 121 #[.pointer (some ⟨k, 0, none⟩), .func (.func gf) #[] lb] w fun e w' => e = .returned (.int .i64 ((d.wrs L).1 : Nat)) ∧ Wm w S k (d.wrs L).2 w' := by
  refine (callsIn_wide (n := 3)).1 ?_
  have h1 : 1 ≤ 3 := by omega
  have hro : Fence.wide.round = none := rfl
  have hkl : k < w.heap.size := hd.2.1 k hd.2.2.1
  have HD := hid hd
  have HZ := hid hz
  clear hd hz
  refine callsIn_of_wp_marks Tryz.func121 rfl trivial ?_ hro
  simp only [Tryz.ntmps121, List.size_toArray, List.length_cons, List.length_nil, Nat.reduceAdd, Nat.reduceSub, Array.replicate_succ, Array.replicate_zero, List.push_toArray, List.append_toArray, List.nil_append, List.cons_append]
  gi_wp2_with fail
  have bD := (Boxed.new w 69 (.pointer (some ⟨k, 0, none⟩))).alloc (.cells #[.int .i64 0] 26)
  have bR := Boxed.new (w.alloc (.cells #[.pointer (some ⟨k, 0, none⟩)] 69)) 26 (.int .i64 0)
  simp only [World.size_alloc] at bD bR
  have hB0 : Below w.heap.size w ((w.alloc (.cells #[.pointer (some ⟨k, 0, none⟩)] 69)).alloc (.cells #[.int .i64 0] 26)) := Below.alloc (Below.alloc (Below.refl _ w) (Nat.le_refl _) _) (by simp) _
  have hsz : ((w.alloc (.cells #[.pointer (some ⟨k, 0, none⟩)] 69)).alloc (.cells #[.int .i64 0] 26)).heap.size = w.heap.size + 2 := by simp
  obtain ⟨W0, hW0⟩ : ∃ W0, ((w.alloc (.cells #[.pointer (some ⟨k, 0, none⟩)] 69)).alloc (.cells #[.int .i64 0] 26)) = W0 := ⟨_, rfl⟩
  rw [hW0] at hB0 hsz bD bR ⊢
  clear hW0
  have hWm0 : Wm w S k d W0 := ⟨⟨S, HD.out.on hB0, Grows.refl _ _⟩, Keep.of_below hB0⟩
  refine wpIn_rangeFunc_ownH hro h1 (gf := gf) (lb := lb) rfl trivial eg
    (hseq W0 hB0)
    (fun h h' => h.trans h') (fun W l o o' hl h h2 h3 => Kj.put W l o o' (by omega) h h2) (Below.refl _ _) (fun _ => rfl)
    (fun pre W => (d.wrs pre).1 = 0 ∧ Wm w S k (d.wrs pre).2 W ∧ Boxed W w.heap.size 69 (.pointer (some ⟨k, 0, none⟩)) ∧ Boxed W (w.heap.size + 1) 26 (.int .i64 0) ∧ W0.heap.size ≤ W.heap.size)
    (fun c pre W => c = .ret ∧ ¬ (d.wrs pre).1 = 0 ∧ Wm w S k (d.wrs pre).2 W ∧ Boxed W (w.heap.size + 1) 26 (.int .i64 ((d.wrs pre).1 : Nat)) ∧ W0.heap.size ≤ W.heap.size)
    (fun s X Y row hs hg hr => by
      obtain ⟨i0, i1, i2, i3, i4⟩ := hs
      exact ⟨i0, i1.turned hg (fun r e => ⟨by have := (hr r e).1; omega, (hr r e).2⟩), boxed_own _ _ (fun (_ : Unit) => Value.pointer (some ⟨k, 0, none⟩)) () X Y row i2 hg (fun r e => (hr r e).2), boxed_own _ _ (fun (_ : Unit) => Value.int .i64 0) () X Y row i3 hg (fun r e => (hr r e).2), Nat.le_trans i4 hg.size⟩)
    (fun c s X Y row hs hg hr => by
      obtain ⟨i0, i1, i2, i3, i4⟩ := hs
      exact ⟨i0, i1, i2.turned hg (fun r e => ⟨by have := (hr r e).1; omega, (hr r e).2⟩), boxed_own _ _ (fun (_ : Unit) => Value.int .i64 ((d.wrs s).1 : Nat)) () X Y row i3 hg (fun r e => (hr r e).2), Nat.le_trans i4 hg.size⟩)
    ⟨rfl, hWm0, bD, bR, Nat.le_refl _⟩
    (fun x a' W => ∃ Bx, w.heap.size + 1 < Bx ∧ Blk W Bx #[.int .i64 x.pl, .string x.data] 110 ∧ a' = { tmps := #[.pointer (some ⟨k, 0, none⟩), .func (.func gf) #[] lb, .pointer (some ⟨w.heap.size, 0, none⟩), undef, .pointer (some ⟨w.heap.size + 1, 0, none⟩), .pointer (some ⟨Bx, 0, none⟩), undef, .func (.func gf) #[] lb, .agg #[.int .i64 x.pl, .string x.data], undef, undef, undef, undef, undef, undef, undef, undef, undef], defers := [] })
    (fun x a' _ X Y row hs hg hr => by obtain ⟨Bx, h1, h2, h3⟩ := hs; exact ⟨Bx, h1, (hg.block Bx h2.lt (fun e => by obtain ⟨o, ho, hc⟩ := (hr Bx e.symm).2; rw [show X.heap[Bx]? = _ from h2] at ho; cases ho; cases hc)).trans h2, h3⟩)
    ?assign ?body ?done ?stop
  case assign =>
    rintro l pre x W K ⟨i0, i1, i2, i3, i4⟩ hK
    unfold encP
    gi_wp2
    have hb := (Below.refl W.heap.size W).alloc (Nat.le_refl _) (.cells #[.int .i64 x.pl, .string x.data] 110)
    exact hK _ _ ((KeepsOthers.alloc _ _).from _) (Kj.of_below hb (by omega)) ⟨i0, i1.on hb, i2.alloc _, i3.alloc _, by simp; omega⟩ ⟨W.heap.size, by omega, Blk.made W _ 110, rfl⟩
  case body =>
    rintro l pre x a' W hl ⟨rr, hrr⟩ ⟨i0, i1, i2, i3, i4⟩ ⟨Bx, hBx, bX, rfl⟩ hlt
    obtain ⟨S1, hd1, hg1⟩ := i1.disk
    obtain ⟨f1, _, _⟩ := hd1.foot
    have hlg := Ds.wrs_lg pre d
    have hwr := write_any x.pl x.data W (foot k W) k (d.wrs pre).2 f1 (HZ.out.le (show (d.wrs pre).2.lg.length + 1 ≤ _ by omega))
    have x0 := bX.cell (i := 0) (v := .int .i64 x.pl) rfl
    have x1 := bX.cell (i := 1) (v := .string x.data) rfl
    have d0 := i2.cell
    have HSN := hid (Ds.wrs_snoc i0 x)
    have HI1 := hid i1
    have HF1 := hid f1
    have HI3 := hid i3
    have HB2 := hid i2
    have c3 := i3.cell
    have f3 := i3.frozen
    obtain ⟨d1, hd1e⟩ : ∃ d1, (d.wrs pre).2 = d1 := ⟨_, rfl⟩
    rw [hd1e] at hwr HSN HI1 HF1
    obtain ⟨pl, data⟩ := x
    obtain ⟨e1, he1⟩ : ∃ e1, d1.wrE pl data = e1 := ⟨_, rfl⟩
    have hwr2 : Calls Tryz.prog 185 #[.pointer (some ⟨k, 0, none⟩), .int .i64 pl, .string data] W fun e w' => e = .returned (.int .i64 (e1 : Nat)) ∧ ∃ S', Dk w' S' k (d1.wr pl data) ∧ Keep (foot k W) W w' ∧ Grows (foot k W) S' W := by rw [← he1]; exact hwr
    have HSN2 : Hid (d.wrs (pre ++ [⟨pl, data⟩]) = (e1, d1.wr pl data)) := by rw [← he1]; exact HSN.out
    have x0' : W.cell? ⟨Bx, 0, none⟩ = some (.int .i64 pl) := x0
    have x1' : W.cell? ⟨Bx, 1, none⟩ = some (.string data) := x1
    clear hlg hd1 hg1 f1 i1 i0 hwr HSN he1 hd1e x0 x1 i2 i3 bX
    have oD : ¬ foot k W w.heap.size := HF1.out.box_out (show Blk W w.heap.size _ 69 from HB2.out) (by decide)
    have oR : ¬ foot k W (w.heap.size + 1) := HF1.out.box_out (show Blk W (w.heap.size + 1) _ 26 from HI3.out) (by decide)
    have HOD := hid oD
    have HOR := hid oR
    clear oD oR c3 f3
    by_cases h0 : e1 = 0
    · subst h0
      gi_wp2_with (refine ⟨trivial, ?_⟩; gi_at_call 185; refine (CallsIn.inRound l ((callsIn_wide (n := _)).2 hwr2)).mono ?_; rintro e w3 ⟨rfl, S3, hd3, hk3, hg3⟩)
      exact ⟨(Keep.others HF1.out hk3).from _, Kj.of_keep hk3 hd3 hg3, by rw [HSN2.out], by rw [HSN2.out]; exact HI1.out.step hd3 hk3 hg3, (hk3.block _ HB2.out.lt HOD.out).trans HB2.out, (hk3.block _ HI3.out.lt HOR.out).trans HI3.out, Nat.le_trans i4 hk3.size⟩
    · have h0i : ((e1 : Int) != 0) = true := by simp; omega
      gi_wp2_with (refine ⟨trivial, ?_⟩; gi_at_call 185; refine (CallsIn.inRound l ((callsIn_wide (n := _)).2 hwr2)).mono ?_; rintro e w3 ⟨rfl, S3, hd3, hk3, hg3⟩; have n3 : Boxed w3 (w.heap.size + 1) 26 (.int .i64 0) := (hk3.block _ HI3.out.lt HOR.out).trans HI3.out; have c3 := n3.cell; have f3 := n3.frozen)
      have HW3 := HI1.out.step hd3 hk3 hg3
      refine ⟨((Keep.others HF1.out hk3).trans (KeepsOthers.setCell _ _ _)).from _, rfl, by rw [HSN2.out]; exact h0, ?_, ?_, ?_⟩
      · rw [HSN2.out]
        exact HW3.set (show Blk w3 (w.heap.size + 1) _ 26 from n3) rfl (by omega) _
      · rw [HSN2.out]
        exact n3.set _
      · have := hk3.size
        simp [World.setCell]
        omega
  case done =>
    rintro D ys W hD rfl ⟨i0, i1, i2, i3, i4⟩ hK
    have c1 := i3.cell
    have f1 := i3.frozen
    have HI0 := hid i0
    have z1 : Boxed (W.setCell ⟨w.heap.size + 1, 0, none⟩ (.int .i64 0)) (w.heap.size + 1) 26 (.int .i64 0) := i3.set _
    have hZ := i1.set (show Blk W (w.heap.size + 1) _ 26 from i3) rfl (by omega) (.int .i64 0)
    have hK' := (KeepsOthers.setCell W ⟨w.heap.size + 1, 0, none⟩ (.int .i64 0)).same D _ hK rfl
    have HZ1 := hid hZ
    clear i0 i1 hZ
    gi_wp2
    generalize W.setCell ⟨w.heap.size + 1, 0, none⟩ (.int .i64 0) = WZ at z1 HZ1 hK' ⊢
    refine ⟨by simp, .inl ⟨_, _, rfl, run_takeDeferred hK', ?_⟩⟩
    have rw1 : ∀ r, some D = some r → ∃ o : Obj, WZ.heap[r]? = some o ∧ o.isCells = false := fun r e => by cases e; exact ⟨_, hK', rfl⟩
    have q1 := (boxed_own _ _ (fun (_ : Unit) => Value.int .i64 0) () WZ _ (some D) z1 (grownBy_putObj' _ D (.deferred none)) rw1).cell
    refine ⟨.int .i64 0, ?_, by rw [HI0.out]; rfl, HZ1.out.turned (grownBy_putObj' _ D (.deferred none)) (fun r e => ⟨by cases e; omega, rw1 r e⟩)⟩
    simp [results, Tryz.results121, go_sem, q1]
  case stop =>
    rintro D c pre W hD ⟨j, hj⟩ ⟨rfl, i0, i1, i2, i3⟩ hK
    have HE : Hid (d.wrs L = d.wrs pre) := by rw [hj] at i0 ⊢; exact Ds.wrs_stop i0
    have HI1 := hid i1
    obtain ⟨ev, hev⟩ : ∃ ev, (d.wrs pre).1 = ev := ⟨_, rfl⟩
    have HEV := hid hev
    rw [hev] at i2
    clear hj i0 i1 hev
    gi_wp2
    refine ⟨by simp, .inl ⟨_, _, rfl, run_takeDeferred hK, ?_⟩⟩
    have rw1 : ∀ r, some D = some r → ∃ o : Obj, W.heap[r]? = some o ∧ o.isCells = false := fun r e => by cases e; exact ⟨_, hK, rfl⟩
    have q1 := (boxed_own _ _ (fun (_ : Unit) => Value.int .i64 (ev : Nat)) () W _ (some D) i2 (grownBy_putObj' _ D (.deferred none)) rw1).cell
    refine ⟨.int .i64 (ev : Nat), ?_, by rw [HE.out, HEV.out], by rw [HE.out]; exact HI1.out.turned (grownBy_putObj' _ D (.deferred none)) (fun r e => ⟨by cases e; omega, rw1 r e⟩)⟩
    simp [results, Tryz.results121, go_sem, q1]

end Go.Proofs.YtjcbaiohpdihoaaGreatDoor

namespace Go.Proofs.YtjcbaiohpdihoaaGreatDoor
open Go.RowKit Go.Shelf
set_option linter.unusedVariables false
set_option linter.unusedSimpArgs false
set_option maxRecDepth 100000

theorem Wm.trans {w A B : World} {S S1 : Nat → Prop} {k : Nat} {d2 : Ds} (hg : Grows S S1 w) (hk : Keep S w A) (h : Wm A S1 k d2 B) : Wm w S k d2 B := by
  obtain ⟨S', h1, h2⟩ := h.disk
  refine ⟨⟨S', h1, fun j hj => ?_⟩, hk.trans h.keep (fun j hj h' => (hg j h').elim id (fun h'' => by omega))⟩
  rcases h2 j hj with h' | h'
  · exact hg j h'
  · exact .inr (Nat.le_trans hk.size h')
theorem Wm.base {w A B : World} {S : Nat → Prop} {k : Nat} {d2 : Ds} (hb : Below w.heap.size w A) (h : Wm A S k d2 B) : Wm w S k d2 B := Wm.trans (Grows.refl S w) (Keep.of_below hb) h
theorem Wm.refl {w : World} {S : Nat → Prop} {k : Nat} {d : Ds} (h : Dk w S k d) : Wm w S k d w := ⟨⟨S, h, Grows.refl _ _⟩, Keep.refl _ _⟩

theorem saved_any (m : Nat) (a : Option Addr) (n c : Nat) (w : World) : Calls Tryz.prog 224 #[.int .i64 (m : Nat), .slice a n c] w fun e w' => e = .returned (.func (.func 249) #[] #[.pointer (some ⟨w.heap.size + 1, 0, none⟩), .pointer (some ⟨w.heap.size, 0, none⟩)]) ∧ (w.alloc (.cells #[.int .i64 (m : Nat)] 3)).alloc (.cells #[.slice a n c] 106) = w' := by
  go_enter Tryz.func224, Tryz.ntmps224
  go_wp2_with fail
  go_ret
  exact ⟨by simp, rfl⟩
theorem settled_any (a : Option Addr) (n c : Nat) (w : World) : Calls Tryz.prog 122 #[.slice a n c] w fun e w' => e = .returned (.func (.func 186) #[] #[.pointer (some ⟨w.heap.size, 0, none⟩)]) ∧ w.alloc (.cells #[.slice a n c] 106) = w' := by
  go_enter Tryz.func122, Tryz.ntmps122
  go_wp2_with fail
  go_ret
  exact ⟨by simp, rfl⟩

/-- a group's blocks are saved -/
theorem save_any (w : World) (S : Nat → Prop) (k : Nat) (d : Ds) (hd : Dk w S k d) (a : Option Addr) (c : Nat) (L : List Pg) (hl : LiesO w S (.slice a L.length c) L) (hn : L.length ≤ 1100) (hp : ∀ p ∈ L, 0 ≤ p.pl ∧ p.pl < 65536) (hz : Fit (d.lg.length + 5000)) :
    Calls Tryz.prog 121 #[.pointer (some ⟨k, 0, none⟩), .func (.func 249) #[] #[.pointer (some ⟨w.heap.size + 1, 0, none⟩), .pointer (some ⟨w.heap.size, 0, none⟩)]] ((w.alloc (.cells #[.int .i64 (pgs d.bs.length : Nat)] 3)).alloc (.cells #[.slice a L.length c] 106)) fun e w' => e = .returned (.int .i64 ((d.wrs (savedL d.bs.length L)).1 : Nat)) ∧ Wm w S k (d.wrs (savedL d.bs.length L)).2 w' := by
  have hlo := hd.1.lo
  have hhi := hd.1.hi
  have hb : Below w.heap.size w ((w.alloc (.cells #[.int .i64 (pgs d.bs.length : Nat)] 3)).alloc (.cells #[.slice a L.length c] 106)) := ((Below.refl _ w).alloc (Nat.le_refl _) _).alloc (by simp) _
  have bM := (Blk.made w #[.int .i64 (pgs d.bs.length : Nat)] 3).alloc (.cells #[.slice a L.length c] 106)
  have bL := Blk.made (w.alloc (.cells #[.int .i64 (pgs d.bs.length : Nat)] 3)) #[.slice a L.length c] 106
  simp only [World.size_alloc] at bL
  generalize ((w.alloc (.cells #[.int .i64 (pgs d.bs.length : Nat)] 3)).alloc (.cells #[.slice a L.length c] 106)) = w1 at hb bM bL ⊢
  have hlen := savedL_len d.bs.length L
  have hlb : lb L.length ≤ 100 := by unfold lb; omega
  have hd1 := hd.on hb
  refine (writes_any 249 _ (enters_of Tryz.func249 (by kernel_rfl) rfl) (savedL d.bs.length L) w1 S k d hd1 (hz.le (by rw [hlen]; omega)) (fun w2 hb2 => ?_)).mono fun e w' h => ⟨h.1, h.2.base hb⟩
  have hd2 := hd1.on hb2
  obtain ⟨f1, f2, f3⟩ := hd2.foot
  have bM2 := bM.on hb2 bM.lt
  have bL2 := bL.on hb2 bL.lt
  refine saved_stops 2 (by omega) w2 k (w.heap.size + 1) w.heap.size _ L d.bs.length hlo hhi bL2 (hd2.box_out bL2 (by decide)) bM2 (hd2.box_out bM2 (by decide)) (((hl.on hb).on hb2).out (fun j _ h => f2 j h)) ?_ f3 (by omega) hp
  exact Nat.lt_of_lt_of_le (hd1.2.1 k hd1.2.2.1) hb2.size

/-- a group's blocks are settled -/
theorem settle_any (w : World) (S : Nat → Prop) (k : Nat) (d : Ds) (hd : Dk w S k d) (a : Option Addr) (c : Nat) (L : List Pg) (hl : LiesO w S (.slice a L.length c) L) (hn : L.length ≤ 1100) (hz : Fit (d.lg.length + 1500)) :
    Calls Tryz.prog 121 #[.pointer (some ⟨k, 0, none⟩), .func (.func 186) #[] #[.pointer (some ⟨w.heap.size, 0, none⟩)]] (w.alloc (.cells #[.slice a L.length c] 106)) fun e w' => e = .returned (.int .i64 ((d.wrs (settledL L)).1 : Nat)) ∧ Wm w S k (d.wrs (settledL L)).2 w' := by
  have hb : Below w.heap.size w (w.alloc (.cells #[.slice a L.length c] 106)) := (Below.refl _ w).alloc (Nat.le_refl _) _
  have bL := Blk.made w #[.slice a L.length c] 106
  generalize (w.alloc (.cells #[.slice a L.length c] 106)) = w1 at hb bL ⊢
  have hlen := settledL_len L
  have hd1 := hd.on hb
  refine (writes_any 186 _ (enters_of Tryz.func186 (by kernel_rfl) rfl) (settledL L) w1 S k d hd1 (hz.le (by rw [hlen]; omega)) (fun w2 hb2 => ?_)).mono fun e w' h => ⟨h.1, h.2.base hb⟩
  have hd2 := hd1.on hb2
  obtain ⟨f1, f2, f3⟩ := hd2.foot
  have bL2 := bL.on hb2 bL.lt
  refine settled_stops 2 (by omega) w2 k w.heap.size _ L bL2 (hd2.box_out bL2 (by decide)) (((hl.on hb).on hb2).out (fun j _ h => f2 j h)) ?_
  exact Nat.lt_of_lt_of_le (hd1.2.1 k hd1.2.2.1) hb2.size

theorem commit_nil (v : Value) (a : Option Addr) (n c : Nat) (hv : v = .slice a n c) (w : World) : Calls Tryz.prog 163 #[.pointer none, v] w fun e w' => e = .returned (.int .i64 18) ∧ w = w' := by
  subst hv
  go_enter Tryz.func163, Tryz.ntmps163
  go_wp2_with fail
  go_ret
  exact ⟨rfl, rfl⟩

theorem cmt_lg (d : Ds) (L : List Pg) : (cmt d L).2.lg.length ≤ d.lg.length + 2 * L.length + lb L.length + 2 := by
  unfold cmt
  split
  · split
    · show d.lg.length ≤ _; omega
    · have := Ds.wrs_lg (savedL d.bs.length L ++ settledL L) d
      rw [List.length_append, savedL_len, settledL_len] at this
      omega
  · show d.lg.length ≤ _; omega

set_option maxHeartbeats 4000000 in
theorem commit_any (w : World) (S : Nat → Prop) (k : Nat) (d : Ds) (hd : Dk w S k d) (v : Value) (L : List Pg) (hl : LiesO w S v L) (hz : Fit (d.lg.length + 5000)) :
    Calls Tryz.prog 163 #[.pointer (some ⟨k, 0, none⟩), v] w fun e w' => e = .returned (.int .i64 ((cmt d L).1 : Nat)) ∧ Wm w S k (cmt d L).2 w' := by
  have hlo := hd.1.lo
  have hhi := hd.1.hi
  have hln := len_any w S k d hd
  have hck := check_any d.bs.length hlo hhi w S v L hl
  obtain ⟨a, c, e1⟩ := hl.form
  subst e1
  have hlm := hl.len
  unfold maxLen at hlm
  have HD := hid hd
  have HL := hid hl
  have HZ := hid hz
  by_cases hc : ck d.bs.length L = 0
  · rw [hc] at hck
    by_cases h0 : L = []
    · subst h0
      have HE : Hid (cmt d [] = (0, d)) := by show _ = _; unfold cmt; rw [if_pos hc, if_pos rfl]
      rw [HE.out]
      clear hc hl hd hlm hz
      generalize d.bs.length = n at *
      go_enter Tryz.func163, Tryz.ntmps163
      go_wp2_with (first
        | (go_at_call 84; refine hln.mono ?_; rintro e w1 ⟨rfl, rfl⟩)
        | (go_at_call 181; refine hck.mono ?_; clear hck; rintro e w1 ⟨rfl, hb1⟩))
      go_ret
      exact ⟨rfl, (Wm.refl HD.out).on hb1⟩
    · have hN0 : 0 < L.length := by cases L with | nil => exact absurd rfl h0 | cons _ _ => simp
      obtain ⟨hcl, hck2⟩ : L.length ≤ pgs d.bs.length ∧ ckL d.bs.length [] L = 0 := by
        unfold ck at hc
        split at hc
        · cases hc
        · exact ⟨by omega, hc⟩
      have hb1 := pgs_hi hhi
      have hp : ∀ p ∈ L, 0 ≤ p.pl ∧ p.pl < 65536 := fun p hp => by
        have := isPg_lt hlo ((ckL_zero hck2).1 p hp).1
        omega
      have HE : Hid (cmt d L = if (d.wrs (savedL d.bs.length L)).1 = 0 then (d.wrs (savedL d.bs.length L)).2.wrs (settledL L) else d.wrs (savedL d.bs.length L)) := by
        show _ = _
        unfold cmt
        rw [if_pos hc, if_neg h0, Ds.wrs_append]
      have hpg : ∀ w1, _ := fun w1 => pages_any d.bs.length hlo hhi w1
      have hsv : ∀ w1, Below w.heap.size w w1 → _ := fun w1 hb => save_any w1 S k d (HD.out.on hb) a c L (HL.out.on hb) (by omega) hp HZ.out
      have hlg1 := Ds.wrs_lg (savedL d.bs.length L) d
      have hlb : lb L.length ≤ 100 := by unfold lb; omega
      rw [savedL_len] at hlg1
      have HST : Hid (∀ w1 d1, d1 = (d.wrs (savedL d.bs.length L)).2 → Wm w S k d1 w1 → Calls Tryz.prog 121 #[.pointer (some ⟨k, 0, none⟩), .func (.func 186) #[] #[.pointer (some ⟨w1.heap.size, 0, none⟩)]] (w1.alloc (.cells #[.slice a L.length c] 106)) fun e w' => e = .returned (.int .i64 ((d1.wrs (settledL L)).1 : Nat)) ∧ Wm w S k (d1.wrs (settledL L)).2 w') := fun w1 d1 he h => by
        obtain ⟨S1, h1, h2⟩ := h.disk
        refine (settle_any w1 S1 k d1 h1 a c L (HL.out.keep h.keep h2) (by omega) ?_).mono fun e w' hh => ⟨hh.1, Wm.trans h2 h.keep hh.2⟩
        exact HZ.out.le (by subst he; omega)
      rw [HE.out]
      clear hc hl hd hck2 hcl hz hp HE hlg1 hlb
      obtain ⟨N, hN⟩ : ∃ N, L.length = N := ⟨_, rfl⟩
      rw [hN] at hck hN0 hsv HST hlm ⊢
      have hN0b : ((N : Int) == 0) = false := by simp; omega
      clear hN0
      have hln2 : ∀ w1, Below w.heap.size w w1 → _ := fun w1 hb => len_any w1 S k d (HD.out.on hb)
      obtain ⟨r, hr⟩ : ∃ r, d.wrs (savedL d.bs.length L) = r := ⟨_, rfl⟩
      rw [hr] at hsv HST ⊢
      obtain ⟨q, hq⟩ : ∃ q, pgs d.bs.length = q := ⟨_, rfl⟩
      rw [hq] at hpg hsv
      clear hr hq h0 hN HL
      generalize d.bs.length = n at *
      by_cases hr0 : r.1 = 0
      · rw [if_pos hr0]
        have hst : ∀ w1, Wm w S k r.2 w1 → _ := fun w1 h => HST.out w1 r.2 rfl h
        rw [hr0] at hsv
        clear hr0 HST
        generalize r.2 = d1 at *
        go_enter Tryz.func163, Tryz.ntmps163
        go_wp2_with (first
          | (go_at_call 84; refine hln.mono ?_; clear hln; rintro e w1 ⟨rfl, rfl⟩)
          | (go_at_call 181; refine hck.mono ?_; clear hck; rintro e w1 ⟨rfl, hb1⟩; have HB1 := hid hb1; clear hb1)
          | (go_at_call 84; refine (hln2 _ HB1.out).mono ?_; clear hln2; rintro e w2 ⟨rfl, rfl⟩)
          | (go_at_call 175; refine (hpg _).mono ?_; clear hpg; rintro e w2 ⟨rfl, rfl⟩)
          | (go_at_call 224; refine (saved_any q a N c _).mono ?_; rintro e w2 ⟨rfl, rfl⟩)
          | (go_at_call 121; refine (hsv _ HB1.out).mono ?_; clear hsv; rintro e w3 ⟨rfl, h3⟩; have H3 := hid (h3.base HB1.out); clear h3)
          | (go_at_call 122; refine (settled_any a N c _).mono ?_; rintro e w4 ⟨rfl, rfl⟩)
          | (go_at_call 121; refine (hst _ H3.out).mono ?_; clear hst; rintro e w5 ⟨rfl, h5⟩))
        go_ret
        exact ⟨rfl, h5⟩
      · rw [if_neg hr0]
        clear HST
        obtain ⟨re, rd⟩ := r
        simp only at hsv hr0 ⊢
        have hrn : ((re : Int) != 0) = true := by simp; omega
        have hrz : ¬ (re : Int) = 0 := by omega
        go_enter Tryz.func163, Tryz.ntmps163
        go_wp2_with (first
          | (go_at_call 84; refine hln.mono ?_; clear hln; rintro e w1 ⟨rfl, rfl⟩)
          | (go_at_call 181; refine hck.mono ?_; clear hck; rintro e w1 ⟨rfl, hb1⟩; have HB1 := hid hb1; clear hb1)
          | (go_at_call 84; refine (hln2 _ HB1.out).mono ?_; clear hln2; rintro e w2 ⟨rfl, rfl⟩)
          | (go_at_call 175; refine (hpg _).mono ?_; clear hpg; rintro e w2 ⟨rfl, rfl⟩)
          | (go_at_call 224; refine (saved_any q a N c _).mono ?_; rintro e w2 ⟨rfl, rfl⟩)
          | (go_at_call 121; refine (hsv _ HB1.out).mono ?_; clear hsv; rintro e w3 ⟨rfl, h3⟩; have H3 := hid (h3.base HB1.out); clear h3))
        go_ret
        exact ⟨rfl, H3.out⟩
  · have HE : Hid (cmt d L = (ck d.bs.length L, d)) := by show _ = _; unfold cmt; rw [if_neg hc]
    rw [HE.out]
    obtain ⟨x, hx⟩ : ∃ x, ck d.bs.length L = x := ⟨_, rfl⟩
    rw [hx] at hc hck ⊢
    have hxn : ((x : Int) != 0) = true := by simp; omega
    have hxz : ¬ (x : Int) = 0 := by omega
    clear hl hd hx hz HL
    generalize d.bs.length = n at *
    generalize L.length = N at *
    go_enter Tryz.func163, Tryz.ntmps163
    go_wp2_with (first
      | (go_at_call 84; refine hln.mono ?_; rintro e w1 ⟨rfl, rfl⟩)
      | (go_at_call 181; refine hck.mono ?_; clear hck; rintro e w1 ⟨rfl, hb1⟩))
    go_ret
    exact ⟨rfl, (Wm.refl HD.out).on hb1⟩

theorem cutB_snoc {bs : List ByteArray} {a k : Nat} {s : ByteArray} (h : bs[a + k]? = some s) : cutB bs a (k + 1) = cutB bs a k ++ [s] := by
  unfold cutB
  exact take_snoc (by rw [List.getElem?_drop]; exact h)
theorem Ds.rd_in {d : Ds} (h : d.dn = false) {n : Nat} {s : ByteArray} (hs : d.bs[n]? = some s) : d.rdE (n : Int) = 0 ∧ d.rdS (n : Int) = s := by
  have hlt := (List.getElem?_eq_some_iff.1 hs).1
  have h0 : d.rdE (n : Int) = 0 := Ds.rdE_in h (by unfold Ds.out; omega)
  refine ⟨h0, ?_⟩
  unfold Ds.rdS
  rw [if_pos h0, Int.toNat_natCast, List.getD_eq_getElem?_getD, hs]
  rfl

set_option maxHeartbeats 4000000 in
theorem jread_any (w : World) (S : Nat → Prop) (k : Nat) (d : Ds) (hd : Dk w S k d) (hdn : d.dn = false) (a c : Nat) (hac : a + c ≤ d.bs.length) :
    Calls Tryz.prog 177 #[.pointer (some ⟨k, 0, none⟩), .int .i64 (a : Nat), .int .i64 (c : Nat)] w fun e w' => ∃ v', e = .returned (.tuple #[v', .int .i64 0]) ∧ RowS w' w.heap.size v' (cutB d.bs a c) ∧ Below w.heap.size w w' := by
  obtain ⟨i0, hi, hz0, hz1, hz2⟩ := info_parts info9
  have hhi := hd.1.hi
  have HD := hid hd
  have HDN := hid hdn
  have HAC := hid hac
  clear hd hdn
  have hab : a ≤ 2048 := by omega
  have hcb : c ≤ 2048 := by omega
  have HCL : Hid (∀ j, j ≤ c → (cutB d.bs a j).length = j) := fun j hj => cutB_len (by omega)
  clear hac hhi
  go_enter Tryz.func177, Tryz.ntmps177
  go_wp2_with fail
  go_loopw [8, 13] (fun x i wr => ∃ (j : Nat) (ba : Option Addr) (bc : Nat), j ≤ c ∧ i = .int .i64 (j : Nat) ∧ x = .slice ba j bc ∧ Hid (RowS wr w.heap.size (.slice ba j bc) (cutB d.bs a j)) ∧ Hid (Below w.heap.size w wr)) (fun _ i _ => c - (intOf i).toNat)
  case atStart => exact ⟨0, none, 0, Nat.zero_le _, rfl, rfl, World.ownsRow_nil _ _ _ _, Below.refl _ w⟩
  case round =>
    obtain ⟨j, ba, bc, hj, rfl, rfl, HR, HB⟩ := hrel
    by_cases hlt : j < c
    · have hji : (j : Int) < (c : Int) := by omega
      obtain ⟨s, hs⟩ : ∃ s, d.bs[a + j]? = some s := ⟨_, List.getElem?_eq_getElem (by have := HAC.out; omega)⟩
      have hrd := read_any ((a + j : Nat) : Int) wr S k d (HD.out.on HB.out)
      rw [(Ds.rd_in HDN.out hs).1, (Ds.rd_in HDN.out hs).2] at hrd
      rw [show ((a + j : Nat) : Int) = (a : Int) + (j : Int) by omega] at hrd
      have HSN := hid (cutB_snoc hs)
      have HL := hid (HCL.out j hj)
      clear hs
      go_wp2_with (first
        | (go_at_call 119; refine hrd.mono ?_; clear hrd; rintro e w1 ⟨rfl, hb1⟩; have HR1 := hid (HR.out.on hb1); have HB1 := hid (HB.out.trans (hb1.mono HB.out.size)); clear hb1)
        | (at_builtin; refine wpList_append_blk _ rfl (.tmp 27) (.tmp 29) 84 rfl w.heap.size 9 i0 (.string ⟨#[]⟩) 1 16 Tryz.underlying84 hi hz0 hz1 hz2 rfl (by decide) _ j (flatS (cutB d.bs a j)) rfl (by have h := HR1.out.alloc (.cells #[.string s] 9); rw [HL.out] at h; exact h) ⟨w1.heap.size, 0, none⟩ 1 1 [.string s] rfl rfl (cells_one w1 _ 9) ?c2 (by decide) ?c3 ?c4 ?c5 ?_))
      case c2 => intro u hu; simp at hu; subst hu; rfl
      case c3 => unfold maxLen; omega
      case c4 => omega
      case c5 => have := HB1.out.size; simp; omega
      intro v' w2 hown' hgrow hmv
      have HB2 := hid ((HB1.out.alloc HB1.out.size (.cells #[.string s] 9)).grown hgrow (by have := HB1.out.size; simp; omega) (fun g hg => by have h := HR1.out; exact ((h : w1.ownsRow w.heap.size 9 1 _ _ _).lt g hg).1))
      have HR2 : Hid (RowS w2 w.heap.size v' (cutB d.bs a (j + 1))) := by
        unfold RowS
        rw [HSN.out, flatS_append, List.length_append, HL.out]
        exact hown'
      obtain ⟨va, vc, hv'⟩ := own_form hown'
      subst hv'
      clear hown' hgrow hmv HR1 HB1 HR HB
      go_wp2_with fail
      go_roundw
      case rel => exact ⟨j + 1, va, vc, by omega, by go_num, rfl, HR2, HB2⟩
      case measure => simp [intOf]; omega
    · have hji : ¬ (j : Int) < (c : Int) := by omega
      obtain rfl : j = c := by omega
      go_wp2_with fail
      go_ret2
      exact ⟨_, rfl, HR.out, HB.out⟩

theorem info54 : (Tryz.prog.info? 110).map (fun i => (i.zero, i.size, i.bytes)) = some (some (.agg #[.int .i64 0, .string ⟨#[]⟩]), 2, 24) := by kernel_rfl
theorem grpL_snoc {lst cps : List ByteArray} {k : Nat} {s : ByteArray} (h : cps[k]? = some s) : grpL lst (cps.take (k + 1)) = grpL lst (cps.take k) ++ [⟨((numAt lst k : Nat) : Int), s⟩] := by
  have hk := (List.getElem?_eq_some_iff.1 h).1
  unfold grpL
  rw [take_snoc h, List.mapIdx_append, List.length_take, Nat.min_eq_left (by omega)]
  simp

set_option maxHeartbeats 4000000 in
theorem groupOf_any (w : World) (B B' : Nat) (u v : Value) (lst cps : List ByteArray) (hu : RowS w B u lst) (hv : RowS w B' v cps) (hl : cps.length ≤ 128 * lst.length) (hc : cps.length ≤ 2048) (hs : ∀ s ∈ lst, s.size = 256) :
    Calls Tryz.prog 180 #[u, v] w fun e w' => ∃ v', e = .returned v' ∧ RowP w' w.heap.size v' (grpL lst cps) ∧ Below w.heap.size w w' := by
  obtain ⟨i0, hi, hz0, hz1, hz2⟩ := info_parts info54
  obtain ⟨a, c, e1⟩ := hu.form
  obtain ⟨a', c', e2⟩ := hv.form
  subst e1
  subst e2
  have HU := hid hu
  have HV := hid hv
  have HS := hid hs
  obtain ⟨N, hN⟩ : ∃ N, cps.length = N := ⟨_, rfl⟩
  have HN := hid hN
  obtain ⟨M, hM⟩ : ∃ M, lst.length = M := ⟨_, rfl⟩
  have HM := hid hM
  rw [hN] at hl hc
  rw [hM] at hl
  rw [hN, hM]
  have HGL : Hid (∀ j, j ≤ N → (grpL lst (cps.take j)).length = j) := fun j hj => by rw [grpL_len, List.length_take]; omega
  clear hu hv hs hN hM
  go_enter Tryz.func180, Tryz.ntmps180
  go_wp2_with fail
  go_loopw [5, 10] (fun x i wr => ∃ (j : Nat) (ba : Option Addr) (bc : Nat), j ≤ N ∧ i = .int .i64 (j : Nat) ∧ x = .slice ba j bc ∧ Hid (RowP wr w.heap.size (.slice ba j bc) (grpL lst (cps.take j))) ∧ Hid (Below w.heap.size w wr)) (fun _ i _ => N - (intOf i).toNat)
  case atStart => exact ⟨0, none, 0, Nat.zero_le _, rfl, rfl, World.ownsRow_nil _ _ _ _, Below.refl _ w⟩
  case round =>
    obtain ⟨j, ba, bc, hj, rfl, rfl, HR, HB⟩ := hrel
    by_cases hlt : j < N
    · have hji : (j : Int) < (N : Int) := by omega
      obtain ⟨s, hsj⟩ : ∃ s, cps[j]? = some s := ⟨_, List.getElem?_eq_getElem (by rw [HN.out]; exact hlt)⟩
      obtain ⟨q, hq⟩ : ∃ q, j / 128 = q := ⟨_, rfl⟩
      have hqM : q < M := by omega
      obtain ⟨t, htq⟩ : ∃ t, lst[q]? = some t := ⟨_, List.getElem?_eq_getElem (by rw [HM.out]; exact hqM)⟩
      obtain ⟨g, x1, _, hgl⟩ := row_some HU.out (by rw [HM.out]; omega)
      subst x1
      obtain ⟨g', x2, _, hgl'⟩ := row_some HV.out (by rw [HN.out]; omega)
      subst x2
      have ct : wr.cell? ⟨g, q, none⟩ = some (.string t) := (HB.out.cell (p := ⟨g, q, none⟩) hgl).trans (HU.out.at htq).1
      have cs : wr.cell? ⟨g', j, none⟩ = some (.string s) := (HB.out.cell (p := ⟨g', j, none⟩) hgl').trans (HV.out.at hsj).1
      have hqi : (j : Int) / 128 = (q : Int) := by omega
      obtain ⟨r, hr⟩ : ∃ r, j % 128 * 2 = r := ⟨_, rfl⟩
      have hri : (j : Int) % 128 * 2 = (r : Int) := by omega
      have htz : t.size = 256 := HS.out t (List.mem_of_getElem? htq)
      have hgt : ∀ w1, _ := fun w1 => get_any t r (by rw [htz]; decide) (by omega) w1
      have HNA : Hid (numAt lst j = Nu.val (Nu.sub t r 2)) := by
        show _ = _
        unfold numAt Nu.sub
        rw [hq, hr, List.getD_eq_getElem?_getD, htq]
        rfl
      have HSN := hid (grpL_snoc (lst := lst) hsj)
      rw [HNA.out] at HSN
      have HL := hid (HGL.out j hj)
      generalize Nu.val (Nu.sub t r 2) = x at hgt HSN
      clear hsj htq hq hr HNA
      go_wp2_with (first
        | (go_at_call 228; refine (hgt _).mono ?_; clear hgt; rintro e w1 ⟨rfl, rfl⟩)
        | (at_builtin; refine wpList_append_blk _ rfl (.tmp 15) (.tmp 27) 106 rfl w.heap.size 110 i0 (.agg #[.int .i64 0, .string ⟨#[]⟩]) 2 24 Tryz.underlying106 hi hz0 hz1 hz2 rfl (by decide) _ j (flatP (grpL lst (cps.take j))) rfl (by have h := HR.out.alloc (.cells #[.int .i64 (x : Nat), .string s] 110); rw [HL.out] at h; exact h) ⟨wr.heap.size, 0, none⟩ 1 1 [.int .i64 (x : Nat), .string s] rfl rfl (cells_two wr _ _ 110) ?c2 (by decide) ?c3 ?c4 ?c5 ?_))
      case c2 => intro u hu; simp at hu; rcases hu with rfl | rfl <;> rfl
      case c3 => unfold maxLen; omega
      case c4 => omega
      case c5 => have := HB.out.size; simp; omega
      intro v' w2 hown' hgrow hmv
      have HB2 := hid ((HB.out.alloc HB.out.size (.cells #[.int .i64 (x : Nat), .string s] 110)).grown hgrow (by have := HB.out.size; simp; omega) (fun g hg => by have h := HR.out; exact ((h : wr.ownsRow w.heap.size 110 2 _ _ _).lt g hg).1))
      have HR2 : Hid (RowP w2 w.heap.size v' (grpL lst (cps.take (j + 1)))) := by
        unfold RowP
        rw [HSN.out, flatP_append, List.length_append, HL.out]
        exact hown'
      obtain ⟨va, vc, hv'⟩ := own_form hown'
      subst hv'
      clear hown' hgrow hmv HR HB ct cs
      go_wp2_with fail
      go_roundw
      case rel => exact ⟨j + 1, va, vc, by omega, by go_num, rfl, HR2, HB2⟩
      case measure => simp [intOf]; omega
    · have hji : ¬ (j : Int) < (N : Int) := by omega
      obtain rfl : j = N := by omega
      rw [List.take_of_length_le (by rw [HN.out]; omega)] at HR
      go_wp2_with fail
      go_ret
      exact ⟨_, rfl, HR.out, HB.out⟩

end Go.Proofs.YtjcbaiohpdihoaaGreatDoor
