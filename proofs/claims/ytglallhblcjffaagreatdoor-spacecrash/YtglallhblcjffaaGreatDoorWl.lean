/-
  What the journal's write does with blocks that are handed out one by one.
-/
import Derived.Test.YtglallhblcjffaaGreatDoorIs
namespace Go.Proofs.YtglallhblcjffaaGreatDoor
open Go.RowKit Go.Shelf

attribute [local go_sem] Oper.semAt_some
set_option linter.unusedVariables false
set_option linter.unusedSimpArgs false
set_option maxRecDepth 100000

theorem Dk.foot_cells {W : World} {S : Nat → Prop} {k : Nat} {d : Ds} (h : Dk W S k d) {g : Nat} (hg : Go.Proofs.YtglallhblcjffaaGreatDoor.foot k W g) : ∃ o : Obj, W.heap[g]? = some o ∧ o.isCells = true := by
  obtain ⟨h1, h2, h3, bv, lv, h4, h5, h6, h7, h8⟩ := h
  have c0 : W.cell? ⟨k, 0, none⟩ = some bv := h4.cell rfl
  have c1 : W.cell? ⟨k, 1, none⟩ = some lv := h4.cell rfl
  rcases hg with rfl | ⟨v, hv, hb⟩ | ⟨v, hv, hb⟩
  · exact ⟨_, h4, rfl⟩
  · rw [c0] at hv
    cases hv
    rcases (h5 : W.ownsRow 0 9 1 bv _ _).2 with ⟨e, _⟩ | ⟨g', cap, cur, e, _, hgg, _⟩
    · rw [e] at hb; simp [Value.ownBlock] at hb
    · rw [e] at hb; simp [Value.ownBlock] at hb; subst hb; exact ⟨_, hgg, rfl⟩
  · rw [c1] at hv
    cases hv
    rcases (h6 : W.ownsRow 0 101 2 lv _ _).2 with ⟨e, _⟩ | ⟨g', cap, cur, e, _, hgg, _⟩
    · rw [e] at hb; simp [Value.ownBlock] at hb
    · rw [e] at hb; simp [Value.ownBlock] at hb; subst hb; exact ⟨_, hgg, rfl⟩
/-- a disk where some block that is no cells is turned -/
theorem Dk.turned {A B : World} {S : Nat → Prop} {k : Nat} {d : Ds} {row : Option Nat} (h : Dk A S k d) (hg : A.grownBy B row) (hr : ∀ r, row = some r → ∃ o : Obj, A.heap[r]? = some o ∧ o.isCells = false) : Dk B S k d := by
  obtain ⟨h1, h2, h3, bv, lv, h4, h5, h6, h7, h8⟩ := h
  have hne : ∀ (j : Nat) cs t, A.heap[j]? = some (Obj.cells cs t (0, 0)) → B.heap[j]? = A.heap[j]? := fun j cs t hj => hg.block j (lt_of_block hj) (fun e => by
    obtain ⟨o, ho, hc⟩ := hr j e.symm
    rw [hj] at ho; cases ho; cases hc)
  refine ⟨h1, fun j hj => Nat.lt_of_lt_of_le (h2 j hj) hg.size, h3, bv, lv, (hne k _ _ h4).trans h4, row_same' h5 (fun g hgv => ?_), row_same' h6 (fun g hgv => ?_), h7, h8⟩
  · rcases (h5 : A.ownsRow 0 9 1 bv _ _).2 with ⟨e, _⟩ | ⟨g', cap, cur, e, _, hgg, _⟩
    · rw [e] at hgv; simp [Value.ownBlock] at hgv
    · rw [e] at hgv; simp [Value.ownBlock] at hgv; subst hgv; exact hne _ _ _ hgg
  · rcases (h6 : A.ownsRow 0 101 2 lv _ _).2 with ⟨e, _⟩ | ⟨g', cap, cur, e, _, hgg, _⟩
    · rw [e] at hgv; simp [Value.ownBlock] at hgv
    · rw [e] at hgv; simp [Value.ownBlock] at hgv; subst hgv; exact hne _ _ _ hgg
theorem Keep.turned {S : Nat → Prop} {w A B : World} {row : Option Nat} (h : Keep S w A) (hg : A.grownBy B row) (hr : ∀ r, row = some r → w.heap.size ≤ r) : Keep S w B :=
  ⟨hg.os.trans h.os, hg.tape.trans h.tape, hg.output.trans h.output, Nat.le_trans h.size hg.size, fun j hj hn => (hg.block j (Nat.lt_of_lt_of_le hj h.size) (fun e => by have := hr j e.symm; omega)).trans (h.block j hj hn)⟩
theorem Keep.others {k : Nat} {W W' : World} {S : Nat → Prop} {d : Ds} (hd : Dk W S k d) (h : Keep (foot k W) W W') : KeepsOthers W W' := ⟨h.size, fun j o hj hc => (h.block j (lt_of_block hj) (fun hf => by
  obtain ⟨o', ho', hc'⟩ := hd.foot_cells hf
  rw [hj] at ho'; cases ho'; rw [hc] at hc'; cases hc')).trans hj⟩
theorem Ds.wrs_snoc {d : Ds} {pre : List Pg} (h : (d.wrs pre).1 = 0) (x : Pg) : d.wrs (pre ++ [x]) = ((d.wrs pre).2.wrE x.pl x.data, (d.wrs pre).2.wr x.pl x.data) := by
  rw [Ds.wrs_append, if_pos h, Ds.wrs_cons]
  split
  · rename_i h0; rw [h0]; rfl
  · rfl
theorem Ds.wrs_stop {d : Ds} {L : List Pg} {j : Nat} (h : ¬ (d.wrs (L.take j)).1 = 0) : d.wrs L = d.wrs (L.take j) := by
  conv => lhs; rw [← List.take_append_drop j L]
  rw [Ds.wrs_append, if_neg h]

/-- so many writes can be kept in mind -/
def Fit (n : Nat) : Prop := n * 24 ≤ 140737488355328
theorem Fit.le {a b : Nat} (h3 : Fit b) (h : a ≤ b) : Fit a := by unfold Fit at *; exact Nat.le_trans (Nat.mul_le_mul_right 24 h) h3
/-- between two writes -/
structure Wm (w : World) (S : Nat → Prop) (k : Nat) (d : Ds) (W : World) : Prop where
  disk : ∃ S', Dk W S' k d ∧ Grows S S' w
  keep : Keep S w W
theorem Wm.turned {w A B : World} {S : Nat → Prop} {k : Nat} {d : Ds} {row : Option Nat} (h : Wm w S k d A) (hg : A.grownBy B row) (hr : ∀ r, row = some r → w.heap.size ≤ r ∧ ∃ o : Obj, A.heap[r]? = some o ∧ o.isCells = false) : Wm w S k d B := by
  obtain ⟨S', h1, h2⟩ := h.disk
  exact ⟨⟨S', h1.turned hg (fun r e => (hr r e).2), h2⟩, h.keep.turned hg (fun r e => (hr r e).1)⟩
theorem Wm.on {w A B : World} {S : Nat → Prop} {k : Nat} {d : Ds} (h : Wm w S k d A) (hb : Below A.heap.size A B) : Wm w S k d B := h.turned (grown_of_below hb) (fun r e => by cases e)
theorem Wm.step {w A B : World} {S S' : Nat → Prop} {k : Nat} {d d' : Ds} (h : Wm w S k d A) (hd : Dk B S' k d') (hk : Keep (foot k A) A B) (hg : Grows (foot k A) S' A) : Wm w S k d' B := by
  obtain ⟨S1, h1, h2⟩ := h.disk
  obtain ⟨_, f2, _⟩ := h1.foot
  refine ⟨⟨S', hd, fun j hj => ?_⟩, h.keep.trans hk (fun j hj hf => ?_)⟩
  · rcases hg j hj with h' | h'
    · exact h2 j (f2 j h')
    · exact .inr (Nat.le_trans h.keep.size h')
  · rcases h2 j (f2 j hf) with h' | h'
    · exact h'
    · omega
/-- a block of another type is outside the disk -/
theorem Dk.box_out {W : World} {S : Nat → Prop} {k : Nat} {d : Ds} (h1 : Dk W S k d) {b : Nat} {cs : Array Value} {t : TypeId} (hb : Blk W b cs t) (ht : t ≠ 87 ∧ t ≠ 9 ∧ t ≠ 101) : ¬ Go.Proofs.YtglallhblcjffaaGreatDoor.foot k W b := by
  intro hf
  obtain ⟨g1, g2, g3, bv, lv, g4, g5, g6, g7, g8⟩ := h1
  rcases hf with rfl | ⟨v, hv, hbb⟩ | ⟨v, hv, hbb⟩
  · unfold Blk at g4 hb
    rw [g4] at hb
    simp only [Option.some.injEq, Obj.cells.injEq] at hb
    exact ht.1 hb.2.1.symm
  · rw [show W.cell? ⟨k, 0, none⟩ = some bv from g4.cell rfl] at hv
    cases hv
    exact hb.ne g5 ht.2.1 hbb rfl
  · rw [show W.cell? ⟨k, 1, none⟩ = some lv from g4.cell rfl] at hv
    cases hv
    exact hb.ne g6 ht.2.2 hbb rfl
theorem Wm.set {w W : World} {S : Nat → Prop} {k : Nat} {d : Ds} (h : Wm w S k d W) {b : Nat} {cs : Array Value} {t : TypeId} (hb : Blk W b cs t) (ht : t = 35) (hw : w.heap.size ≤ b) (v : Value) : Wm w S k d (W.setCell ⟨b, 0, none⟩ v) := by
  subst ht
  obtain ⟨S1, h1, h2⟩ := h.disk
  obtain ⟨f1, f2, _⟩ := h1.foot
  have hn : ¬ foot k W b := h1.box_out hb (by decide)
  have hk : Keep (fun j => j = b) W (W.setCell ⟨b, 0, none⟩ v) := Keep.set (S := fun j => j = b) W rfl 0 v
  refine ⟨⟨foot k W, hk.dk f1 (fun j hj e => hn (e ▸ hj)), fun j hj => h2 j (f2 j hj)⟩, ?_⟩
  exact h.keep.trans hk (fun j hj e => by subst e; omega)

attribute [local go_sem] Oper.semAt_some
set_option linter.unusedVariables false
set_option linter.unusedSimpArgs false
set_option maxRecDepth 100000

theorem zero32 (W : World) : (binOp .neq 35 (.int .i64 0) (.int .i64 0)).run Tryz.prog W = .ok (.bool false) W := by kernel_rfl

set_option maxHeartbeats 8000000 in
theorem writes_any (gf : Nat) (lb : Array Value) (eg : ∀ args w, (callFunc gf args).run Tryz.prog w = .ok (.enter gf args) w) (L : List Pg) (w : World) (S : Nat → Prop) (k : Nat) (d : Ds) (hd : Dk w S k d) (hz : Fit (d.lg.length + L.length + 1))
    (hseq : ∀ w1, Below w.heap.size w w1 → SeqStopsK Fence.wide 2 Tryz.prog gf lb encP (Kj k) (fun ys => ys = L) (fun pre => ∃ j, pre = L.take j) L.length w1) :
    Calls Tryz.prog 65 #[.pointer (some ⟨k, 0, none⟩), .func (.func gf) #[] lb] w fun e w' => e = .returned (.int .i64 ((d.wrs L).1 : Nat)) ∧ Wm w S k (d.wrs L).2 w' := by
  refine (callsIn_wide (n := 3)).1 ?_
  have h1 : 1 ≤ 3 := by omega
  have hro : Fence.wide.round = none := rfl
  have hkl : k < w.heap.size := hd.2.1 k hd.2.2.1
  have HD := hid hd
  have HZ := hid hz
  clear hd hz
  refine callsIn_of_wp_marks Tryz.func65 rfl trivial ?_ hro
  simp only [Tryz.ntmps65, List.size_toArray, List.length_cons, List.length_nil, Nat.reduceAdd, Nat.reduceSub, Array.replicate_succ, Array.replicate_zero, List.push_toArray, List.append_toArray, List.nil_append, List.cons_append]
  gi_wp2_with fail
  have bD := (Boxed.new w 30 (.pointer (some ⟨k, 0, none⟩))).alloc (.cells #[.int .i64 0] 35)
  have bR := Boxed.new (w.alloc (.cells #[.pointer (some ⟨k, 0, none⟩)] 30)) 35 (.int .i64 0)
  simp only [World.size_alloc] at bD bR
  have hB0 : Below w.heap.size w ((w.alloc (.cells #[.pointer (some ⟨k, 0, none⟩)] 30)).alloc (.cells #[.int .i64 0] 35)) := Below.alloc (Below.alloc (Below.refl _ w) (Nat.le_refl _) _) (by simp) _
  have hsz : ((w.alloc (.cells #[.pointer (some ⟨k, 0, none⟩)] 30)).alloc (.cells #[.int .i64 0] 35)).heap.size = w.heap.size + 2 := by simp
  obtain ⟨W0, hW0⟩ : ∃ W0, ((w.alloc (.cells #[.pointer (some ⟨k, 0, none⟩)] 30)).alloc (.cells #[.int .i64 0] 35)) = W0 := ⟨_, rfl⟩
  rw [hW0] at hB0 hsz bD bR ⊢
  clear hW0
  have hWm0 : Wm w S k d W0 := ⟨⟨S, HD.out.on hB0, Grows.refl _ _⟩, Keep.of_below hB0⟩
  refine wpIn_rangeFunc_ownH hro h1 (gf := gf) (lb := lb) rfl trivial eg
    (hseq W0 hB0)
    (fun h h' => h.trans h') (fun W l o o' hl h h2 h3 => Kj.put W l o o' (by omega) h h2) (Below.refl _ _) (fun _ => rfl)
    (fun pre W => (d.wrs pre).1 = 0 ∧ Wm w S k (d.wrs pre).2 W ∧ Boxed W w.heap.size 30 (.pointer (some ⟨k, 0, none⟩)) ∧ Boxed W (w.heap.size + 1) 35 (.int .i64 0) ∧ W0.heap.size ≤ W.heap.size)
    (fun c pre W => c = .ret ∧ ¬ (d.wrs pre).1 = 0 ∧ Wm w S k (d.wrs pre).2 W ∧ Boxed W (w.heap.size + 1) 35 (.int .i64 ((d.wrs pre).1 : Nat)) ∧ W0.heap.size ≤ W.heap.size)
    (fun s X Y row hs hg hr => by
      obtain ⟨i0, i1, i2, i3, i4⟩ := hs
      exact ⟨i0, i1.turned hg (fun r e => ⟨by have := (hr r e).1; omega, (hr r e).2⟩), boxed_own _ _ (fun (_ : Unit) => Value.pointer (some ⟨k, 0, none⟩)) () X Y row i2 hg (fun r e => (hr r e).2), boxed_own _ _ (fun (_ : Unit) => Value.int .i64 0) () X Y row i3 hg (fun r e => (hr r e).2), Nat.le_trans i4 hg.size⟩)
    (fun c s X Y row hs hg hr => by
      obtain ⟨i0, i1, i2, i3, i4⟩ := hs
      exact ⟨i0, i1, i2.turned hg (fun r e => ⟨by have := (hr r e).1; omega, (hr r e).2⟩), boxed_own _ _ (fun (_ : Unit) => Value.int .i64 ((d.wrs s).1 : Nat)) () X Y row i3 hg (fun r e => (hr r e).2), Nat.le_trans i4 hg.size⟩)
    ⟨rfl, hWm0, bD, bR, Nat.le_refl _⟩
    (fun x a' W => ∃ Bx, w.heap.size + 1 < Bx ∧ Blk W Bx #[.int .i64 x.pl, .string x.data] 101 ∧ a' = { tmps := #[.pointer (some ⟨k, 0, none⟩), .func (.func gf) #[] lb, .pointer (some ⟨w.heap.size, 0, none⟩), undef, .pointer (some ⟨w.heap.size + 1, 0, none⟩), .pointer (some ⟨Bx, 0, none⟩), undef, .func (.func gf) #[] lb, .agg #[.int .i64 x.pl, .string x.data], undef, undef, undef, undef, undef, undef, undef, undef, undef], defers := [] })
    (fun x a' _ X Y row hs hg hr => by obtain ⟨Bx, h1, h2, h3⟩ := hs; exact ⟨Bx, h1, (hg.block Bx h2.lt (fun e => by obtain ⟨o, ho, hc⟩ := (hr Bx e.symm).2; rw [show X.heap[Bx]? = _ from h2] at ho; cases ho; cases hc)).trans h2, h3⟩)
    ?assign ?body ?done ?stop
  case assign =>
    rintro l pre x W K ⟨i0, i1, i2, i3, i4⟩ hK
    unfold encP
    gi_wp2
    have hb := (Below.refl W.heap.size W).alloc (Nat.le_refl _) (.cells #[.int .i64 x.pl, .string x.data] 101)
    exact hK _ _ ((KeepsOthers.alloc _ _).from _) (Kj.of_below hb (by omega)) ⟨i0, i1.on hb, i2.alloc _, i3.alloc _, by simp; omega⟩ ⟨W.heap.size, by omega, Blk.made W _ 101, rfl⟩
  case body =>
    rintro l pre x a' W hl ⟨rr, hrr⟩ ⟨i0, i1, i2, i3, i4⟩ ⟨Bx, hBx, bX, rfl⟩ hlt
    obtain ⟨S1, hd1, hg1⟩ := i1.disk
    obtain ⟨f1, _, _⟩ := hd1.foot
    have hlg := Ds.wrs_lg pre d
    have hwr := write_any x.pl x.data W (foot k W) k (d.wrs pre).2 f1 (HZ.out.le (show (d.wrs pre).2.lg.length + 1 ≤ _ by omega))
    have x0 := bX.cell (i := 0) (v := .int .i64 x.pl) rfl
    have x1 := bX.cell (i := 1) (v := .string x.data) rfl
    have d0 := i2.cell
    have HSN := hid (Ds.wrs_snoc i0 x)
    have HI1 := hid i1
    have HF1 := hid f1
    have HI3 := hid i3
    have HB2 := hid i2
    have c3 := i3.cell
    have f3 := i3.frozen
    obtain ⟨d1, hd1e⟩ : ∃ d1, (d.wrs pre).2 = d1 := ⟨_, rfl⟩
    rw [hd1e] at hwr HSN HI1 HF1
    obtain ⟨pl, data⟩ := x
    obtain ⟨e1, he1⟩ : ∃ e1, d1.wrE pl data = e1 := ⟨_, rfl⟩
    have hwr2 : Calls Tryz.prog 107 #[.pointer (some ⟨k, 0, none⟩), .int .i64 pl, .string data] W fun e w' => e = .returned (.int .i64 (e1 : Nat)) ∧ ∃ S', Dk w' S' k (d1.wr pl data) ∧ Keep (foot k W) W w' ∧ Grows (foot k W) S' W := by rw [← he1]; exact hwr
    have HSN2 : Hid (d.wrs (pre ++ [⟨pl, data⟩]) = (e1, d1.wr pl data)) := by rw [← he1]; exact HSN.out
    have x0' : W.cell? ⟨Bx, 0, none⟩ = some (.int .i64 pl) := x0
    have x1' : W.cell? ⟨Bx, 1, none⟩ = some (.string data) := x1
    clear hlg hd1 hg1 f1 i1 i0 hwr HSN he1 hd1e x0 x1 i2 i3 bX
    have oD : ¬ foot k W w.heap.size := HF1.out.box_out (show Blk W w.heap.size _ 30 from HB2.out) (by decide)
    have oR : ¬ foot k W (w.heap.size + 1) := HF1.out.box_out (show Blk W (w.heap.size + 1) _ 35 from HI3.out) (by decide)
    have HOD := hid oD
    have HOR := hid oR
    clear oD oR c3 f3
    by_cases h0 : e1 = 0
    · subst h0
      gi_wp2_with (refine ⟨trivial, ?_⟩; gi_at_call 107; refine (CallsIn.inRound l ((callsIn_wide (n := _)).2 hwr2)).mono ?_; rintro e w3 ⟨rfl, S3, hd3, hk3, hg3⟩)
      exact ⟨(Keep.others HF1.out hk3).from _, Kj.of_keep hk3 hd3 hg3, by rw [HSN2.out], by rw [HSN2.out]; exact HI1.out.step hd3 hk3 hg3, (hk3.block _ HB2.out.lt HOD.out).trans HB2.out, (hk3.block _ HI3.out.lt HOR.out).trans HI3.out, Nat.le_trans i4 hk3.size⟩
    · have h0i : ((e1 : Int) != 0) = true := by simp; omega
      gi_wp2_with (refine ⟨trivial, ?_⟩; gi_at_call 107; refine (CallsIn.inRound l ((callsIn_wide (n := _)).2 hwr2)).mono ?_; rintro e w3 ⟨rfl, S3, hd3, hk3, hg3⟩; have n3 : Boxed w3 (w.heap.size + 1) 35 (.int .i64 0) := (hk3.block _ HI3.out.lt HOR.out).trans HI3.out; have c3 := n3.cell; have f3 := n3.frozen)
      have HW3 := HI1.out.step hd3 hk3 hg3
      refine ⟨((Keep.others HF1.out hk3).trans (KeepsOthers.setCell _ _ _)).from _, rfl, by rw [HSN2.out]; exact h0, ?_, ?_, ?_⟩
      · rw [HSN2.out]
        exact HW3.set (show Blk w3 (w.heap.size + 1) _ 35 from n3) rfl (by omega) _
      · rw [HSN2.out]
        exact n3.set _
      · have := hk3.size
        simp [World.setCell]
        omega
  case done =>
    rintro D ys W hD rfl ⟨i0, i1, i2, i3, i4⟩ hK
    have c1 := i3.cell
    have f1 := i3.frozen
    have HI0 := hid i0
    have z1 : Boxed (W.setCell ⟨w.heap.size + 1, 0, none⟩ (.int .i64 0)) (w.heap.size + 1) 35 (.int .i64 0) := i3.set _
    have hZ := i1.set (show Blk W (w.heap.size + 1) _ 35 from i3) rfl (by omega) (.int .i64 0)
    have hK' := (KeepsOthers.setCell W ⟨w.heap.size + 1, 0, none⟩ (.int .i64 0)).same D _ hK rfl
    have HZ1 := hid hZ
    clear i0 i1 hZ
    gi_wp2
    generalize W.setCell ⟨w.heap.size + 1, 0, none⟩ (.int .i64 0) = WZ at z1 HZ1 hK' ⊢
    refine ⟨by simp, .inl ⟨_, _, rfl, run_takeDeferred hK', ?_⟩⟩
    have rw1 : ∀ r, some D = some r → ∃ o : Obj, WZ.heap[r]? = some o ∧ o.isCells = false := fun r e => by cases e; exact ⟨_, hK', rfl⟩
    have q1 := (boxed_own _ _ (fun (_ : Unit) => Value.int .i64 0) () WZ _ (some D) z1 (grownBy_putObj' _ D (.deferred none)) rw1).cell
    refine ⟨.int .i64 0, ?_, by rw [HI0.out]; rfl, HZ1.out.turned (grownBy_putObj' _ D (.deferred none)) (fun r e => ⟨by cases e; omega, rw1 r e⟩)⟩
    simp [results, Tryz.results65, go_sem, q1]
  case stop =>
    rintro D c pre W hD ⟨j, hj⟩ ⟨rfl, i0, i1, i2, i3⟩ hK
    have HE : Hid (d.wrs L = d.wrs pre) := by rw [hj] at i0 ⊢; exact Ds.wrs_stop i0
    have HI1 := hid i1
    obtain ⟨ev, hev⟩ : ∃ ev, (d.wrs pre).1 = ev := ⟨_, rfl⟩
    have HEV := hid hev
    rw [hev] at i2
    clear hj i0 i1 hev
    gi_wp2
    refine ⟨by simp, .inl ⟨_, _, rfl, run_takeDeferred hK, ?_⟩⟩
    have rw1 : ∀ r, some D = some r → ∃ o : Obj, W.heap[r]? = some o ∧ o.isCells = false := fun r e => by cases e; exact ⟨_, hK, rfl⟩
    have q1 := (boxed_own _ _ (fun (_ : Unit) => Value.int .i64 (ev : Nat)) () W _ (some D) i2 (grownBy_putObj' _ D (.deferred none)) rw1).cell
    refine ⟨.int .i64 (ev : Nat), ?_, by rw [HE.out, HEV.out], by rw [HE.out]; exact HI1.out.turned (grownBy_putObj' _ D (.deferred none)) (fun r e => ⟨by cases e; omega, rw1 r e⟩)⟩
    simp [results, Tryz.results65, go_sem, q1]

end Go.Proofs.YtglallhblcjffaaGreatDoor
