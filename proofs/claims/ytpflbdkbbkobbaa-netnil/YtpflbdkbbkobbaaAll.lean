/-
  What the net's All answers.
-/
import Derived.Test.YtpflbdkbbkobbaaFirst
namespace Go.Proofs.Ytpflbdkbbkobbaa
open Go.RowKit Go.Maps Go.Shelf
attribute [local go_sem] Oper.semAt_some
set_option linter.unusedVariables false
set_option maxRecDepth 100000
set_option linter.unusedSimpArgs false

def idsV (l : List Int) : List Value := l.map (Value.int .i64)
theorem idsV_append (l m : List Int) : idsV (l ++ m) = idsV l ++ idsV m := by simp [idsV]
/-- ids = append(ids, id) -/
theorem wpListIn_id {F : Fence} {n : Nat} (w : World) {ops : Array Oper} {rest : List Oper} {o : Oper} {a : Act} {Q : Exit → Act → World → Prop} (hg : o.guard = none) (s x : Operand)
    (hop : o.op = Op.call { callee := Callee.builtin Builtin.append, args := #[s, x], argTypes := #[43, 43] }) (B : Nat) (v : Value) (l : List Int) (i : Int) (hs : a.eval s = v) (hown : w.ownsRow B 3 1 v l.length (idsV l)) (hn : l.length ≤ 1000) (hB : B ≤ w.heap.size)
    (ad : Addr) (hx : a.eval x = .slice (some ad) 1 1) (hc : w.cell? ad = some (.int .i64 i)) (had : ad = ⟨ad.block, ad.off, none⟩)
    (h : ∀ v' w', w'.ownsRow B 3 1 v' (l ++ [i]).length (idsV (l ++ [i])) → w.grownBy w' v.ownBlock → (v'.ownBlock = v.ownBlock ∨ ∃ g, v'.ownBlock = some g ∧ w.heap.size ≤ g) → wpListIn F n Try.prog ops Q rest (a.put o.dst v') w') : wpListIn F n Try.prog ops Q (o :: rest) a w := by
  obtain ⟨i0, hi, hz0, hz1, hz2⟩ := info_parts info3
  have hnews : ∀ j x, [Value.int .i64 i][j]? = some x → w.cell? (ad.add j) = some x := by
    intro j x hj
    match j, hj with
    | 0, hj =>
      simp at hj; subst hj
      rw [had, add_plain]
      rw [had] at hc
      exact hc
  have h1 : ∀ x ∈ [Value.int .i64 i], x.oneCell' = true := by simp [Value.oneCell']
  refine wpListIn_plain hg fun K hK' => ?_
  obtain ⟨v', w', hrun, r1, r2, r3⟩ := run_append_own (P := Try.prog) w B 43 o.type 3 i0 (.int .i64 0) 1 8 Try.underlying43 hi hz0 hz1 hz2 rfl (by decide) v l.length (idsV l) hown ad 1 1 [.int .i64 i] rfl hnews h1 (by unfold maxLen; omega) (by omega) hB
  have hb := app_block hi hz0 hz1 hz2 hown (by omega) hnews h1 hrun
  unfold Oper.wpIn
  refine ⟨?_, ?_⟩
  · simp [Oper.about, hop, resolve, Target.leads, Sem.run_pure]
  · rw [Oper.semAt_plain F _ _ (by rw [hop]; intro c hc'; cases hc')]
    simp [execOp, hop, resolve, invoke, builtin, hs, hx, hrun, Result.andThen]
    refine hK' _ _ (h v' w' ?_ r2 hb)
    rw [idsV_append, List.length_append]
    exact r1

/-- what is guarded in the rounds of All: blocks of cells but the list and its box -/
def PrA (b5 : Nat) (W : World) (g : Nat) : Prop := (∃ cur t, W.heap[g]? = some (.cells cur t (0, 0))) ∧ g ≠ b5 ∧ ∀ v, W.cell? ⟨b5, 0, none⟩ = some v → v.ownBlock ≠ some g
def KpA (n₀ b5 : Nat) (W W' : World) : Prop := (∀ g, g < n₀ → some g ≠ some b5 → W'.heap[g]? = W.heap[g]?) ∧ ∀ g, PrA b5 W g → W'.heap[g]? = W.heap[g]? ∧ PrA b5 W' g
theorem keepsA {w0 : World} {b5 : Nat} (h : Boxed w0 b5 43 (.slice none 0 0)) : Keeps w0 (some b5) (KpA w0.heap.size b5) (PrA b5) :=
  ⟨fun h => h.1, fun h hp => h.2 _ hp, fun {W g cur t} hb hg hc => ⟨⟨_, _, hc⟩, fun e => by have := h.lt; omega, fun v hv => by
    have := (hb.cell (p := ⟨b5, 0, none⟩) h.lt).trans h.cell
    rw [this] at hv; cases hv; simp [Value.ownBlock]⟩⟩
theorem KpA.trans {n₀ b5 : Nat} {A B C : World} (h : KpA n₀ b5 A B) (k : KpA n₀ b5 B C) : KpA n₀ b5 A C :=
  ⟨fun g hg he => (k.1 g hg he).trans (h.1 g hg he), fun g hp => by
    obtain ⟨h1, h2⟩ := h.2 g hp
    obtain ⟨h3, h4⟩ := k.2 g h2
    exact ⟨h3.trans h1, h4⟩⟩
theorem KpA.of {n₀ b5 : Nat} {W W' : World} (h : Below W.heap.size W W') (hn : n₀ ≤ W.heap.size) (hb : b5 < W.heap.size) : KpA n₀ b5 W W' :=
  ⟨fun g hg _ => h.block g (by omega), fun g hp => by
    obtain ⟨⟨cur, t, h1⟩, h2, h3⟩ := hp
    have h4 := h.block g (lt_of_block h1)
    refine ⟨h4, ⟨cur, t, h4.trans h1⟩, h2, fun v hv => h3 v ?_⟩
    rw [← h.cell (p := ⟨b5, 0, none⟩) hb]; exact hv⟩
/-- the list grows by one -/
theorem KpA.more {n₀ b5 : Nat} {W w5 : World} {v v' : Value} {o : Obj} {B n : Nat} {xs : List Value} (hbx : Boxed W b5 43 v) (hn : n₀ ≤ W.heap.size) (hrow : W.ownsRow B 3 1 v n xs) (hB : ∀ g, v.ownBlock = some g → n₀ ≤ g) (hg : (W.alloc o).grownBy w5 v.ownBlock) (hf : v'.ownBlock = v.ownBlock ∨ ∃ g, v'.ownBlock = some g ∧ (W.alloc o).heap.size ≤ g) :
    KpA n₀ b5 W (w5.setCell ⟨b5, 0, none⟩ v') := by
  have hb5 : Boxed w5 b5 43 v := (hg.block b5 (by simp; have := hbx.lt; omega) (fun e => by
    obtain ⟨_, cur, h2⟩ := row_at hrow e.symm
    rw [show W.heap[b5]? = _ from hbx] at h2; cases h2)).trans (hbx.alloc o)
  have hbz := hb5.set v'
  have hold : ∀ g, g < W.heap.size → v.ownBlock ≠ some g → g ≠ b5 → (w5.setCell ⟨b5, 0, none⟩ v').heap[g]? = W.heap[g]? := fun g h1 h2 h3 =>
    (Below.heap_setCell _ _ _ _ h3).trans ((hg.block g (by simp; omega) (fun e => h2 e.symm)).trans (Below.heap_alloc W o g h1))
  refine ⟨fun g hg' he => hold g (by omega) (fun e => by have := hB g e; omega) (fun e => he (by rw [e])), fun g hp => ?_⟩
  obtain ⟨⟨cur, t, h1⟩, h2, h3⟩ := hp
  have h4 := hold g (lt_of_block h1) (h3 v hbx.cell) h2
  refine ⟨h4, ⟨cur, t, h4.trans h1⟩, h2, fun u hu => ?_⟩
  rw [hbz.cell] at hu
  cases hu
  intro e
  rcases hf with hf | ⟨g', hf, hl⟩
  · exact h3 v hbx.cell (hf ▸ e)
  · rw [hf] at e; cases e
    simp at hl
    have := lt_of_block h1
    omega

theorem all_more {w W0 W w3 w5 : World} {L : List Int} {i : Int} {va : Option Addr} {vc : Nat} {v' tv : Value} (i1 : Boxed W (w.heap.size + 1) 43 (.slice va L.length vc)) (i4 : Boxed W w.heap.size 24 tv) (i5 : W0.heap.size ≤ W.heap.size) (hB1 : Below w.heap.size w W) (hb3 : Below W.heap.size W w3) (n2 : w3.ownsRow W0.heap.size 3 1 (.slice va L.length vc) L.length (idsV L)) (hsz : W0.heap.size = w.heap.size + 4)
    (hg : (w3.alloc (.cells #[.int .i64 i] 3)).grownBy w5 (Value.slice va L.length vc).ownBlock) (hrow : w5.ownsRow W0.heap.size 3 1 v' (L ++ [i]).length (idsV (L ++ [i]))) (hf : v'.ownBlock = (Value.slice va L.length vc).ownBlock ∨ ∃ g, v'.ownBlock = some g ∧ (w3.alloc (.cells #[.int .i64 i] 3)).heap.size ≤ g) :
    ∃ na nc, v' = .slice na (L.length + 1) nc ∧ w5.cell? ⟨w.heap.size + 1, 0, none⟩ = some (.slice va L.length vc) ∧ w5.frozen? ⟨w.heap.size + 1, 0, none⟩ = false ∧
      (KeepsOthers W (w5.setCell ⟨w.heap.size + 1, 0, none⟩ v') ∧ KpA W0.heap.size (w.heap.size + 1) W (w5.setCell ⟨w.heap.size + 1, 0, none⟩ v') ∧ Boxed (w5.setCell ⟨w.heap.size + 1, 0, none⟩ v') (w.heap.size + 1) 43 v' ∧ (w5.setCell ⟨w.heap.size + 1, 0, none⟩ v').ownsRow W0.heap.size 3 1 v' (L ++ [i]).length (idsV (L ++ [i])) ∧ Boxed (w5.setCell ⟨w.heap.size + 1, 0, none⟩ v') w.heap.size 24 tv ∧ W0.heap.size ≤ (w5.setCell ⟨w.heap.size + 1, 0, none⟩ v').heap.size ∧ Below w.heap.size w (w5.setCell ⟨w.heap.size + 1, 0, none⟩ v')) := by
  have hs3 := hb3.size
  have hs1 := hB1.size
  obtain ⟨na, nc, hnv, _⟩ := own_cells hrow
  rw [List.length_append, List.length_singleton] at hnv
  have n1 : Boxed w3 (w.heap.size + 1) 43 (.slice va L.length vc) := (hb3.block _ i1.lt).trans i1
  have n5 : Boxed w5 (w.heap.size + 1) 43 (.slice va L.length vc) := (hg.block _ (by simp; have := n1.lt; omega) (fun e => by
    obtain ⟨_, cur, h2⟩ := row_at n2 e.symm
    rw [show w3.heap[w.heap.size + 1]? = _ from n1] at h2; cases h2)).trans (n1.alloc _)
  have n4 : Boxed w5 w.heap.size 24 tv := (hg.block _ (by simp; have := i4.lt; omega) (fun e => by
    obtain ⟨h0, _⟩ := row_at n2 e.symm
    omega)).trans (Boxed.alloc (show Boxed w3 w.heap.size 24 tv from (hb3.block _ i4.lt).trans i4) _)
  refine ⟨na, nc, hnv, n5.cell, n5.frozen, ?_, ?_, n5.set _, ?_, n4.other (by omega) _, ?_, ?_⟩
  · exact ((others_of hb3).trans (KeepsOthers.alloc _ _)).trans ((KeepsOthers.of_grownBy hg (fun j o e ho => by
      obtain ⟨_, cur, h2⟩ := row_at (n2.alloc (.cells #[.int .i64 i] 3)) e
      rw [h2] at ho; cases ho; rfl)).trans (KeepsOthers.setCell _ _ _))
  · exact (KpA.of hb3 i5 i1.lt).trans (KpA.more n1 (Nat.le_trans i5 hs3) n2 (fun g hg' => (row_at n2 hg').1) hg hf)
  · refine row_same hrow fun g hg' => Below.heap_setCell _ _ _ _ ?_
    intro (e : g = w.heap.size + 1)
    obtain ⟨h0, _⟩ := row_at hrow hg'
    omega
  · have h1 := hg.size
    have h2 : (w5.setCell ⟨w.heap.size + 1, 0, none⟩ v').heap.size = w5.heap.size := by simp [World.setCell]
    rw [h2]
    simp at h1
    omega
  · exact (((hB1.trans (hb3.mono hB1.size)).alloc (Nat.le_trans hB1.size hs3) _).grown hg (by simp; omega) (fun k hk => by have := (row_at n2 hk).1; omega)).setCell (p := ⟨w.heap.size + 1, 0, none⟩) (by simp) _

/-- the IDs of those that fit -/
def all1 (rs : List Rl) (t : List Cl) (l : List (Fin rs.length)) : List Int := (l.filter fun x => (mt (rs.get x).l t).isSome).map fun x => (rs.get x).id
theorem all1_snoc (rs : List Rl) (t : List Cl) (l : List (Fin rs.length)) (x : Fin rs.length) : all1 rs t (l ++ [x]) = all1 rs t l ++ (if (mt (rs.get x).l t).isSome then [(rs.get x).id] else []) := by
  unfold all1
  rw [List.filter_append, List.map_append]
  congr 1
  cases h : (mt (rs.get x).l t).isSome
  · rw [List.filter_cons_of_neg (by rw [h]; decide)]; rfl
  · rw [List.filter_cons_of_pos (p := fun x => (mt (rs.get x).l t).isSome) h]; rfl
theorem all1_len (rs : List Rl) (t : List Cl) (l : List (Fin rs.length)) : (all1 rs t l).length ≤ l.length := by
  unfold all1; rw [List.length_map]; exact List.length_filter_le _ _
theorem plcsC_len (rs : List Rl) (t : List Cl) : (plcsC rs t).length ≤ rs.length := by
  unfold plcsC
  split
  · unfold plcs; exact Nat.le_trans (List.length_filter_le _ _) (by simp)
  · simp

set_option maxHeartbeats 8000000 in
theorem all_walk (w : World) (B nb : Nat) (rs : List Rl) (h64 : rs.length ≤ 64) (hok : RsOk rs) (hnet : NetAt w B nb rs) (tv : Value) (t : List Cl) (ht : Lies w tv t) :
    Calls Try.prog 16 #[.pointer (some ⟨nb, 0, none⟩), tv] w fun e w' => ∃ v, e = .returned v ∧ w'.ownsRow w.heap.size 3 1 v (all1 rs t (plcsC rs t)).length (idsV (all1 rs t (plcsC rs t))) ∧ Below w.heap.size w w' := by
  refine (callsIn_wide (n := 3)).1 ?_
  have h1 : 1 ≤ 3 := by omega
  have hro : Fence.wide.round = none := rfl
  have HT := hid ht
  obtain ⟨ta, tc, htv, _⟩ := ht
  subst htv
  have hpl := plcsC_len rs t
  refine callsIn_of_wp_marks Try.func16 rfl trivial ?_ hro
  simp only [Try.ntmps16, List.size_toArray, List.length_cons, List.length_nil, Nat.reduceAdd, Nat.reduceSub, Array.replicate_succ, Array.replicate_zero, List.push_toArray, List.append_toArray, List.nil_append, List.cons_append]
  gi_wp2_with (refine ⟨trivial, ?_⟩; gi_at_call 28; refine ((callsIn_wide (n := _)).2 (mayFit_any _ _ _ _ _)).mono ?_; rintro e w' ⟨rfl, rfl⟩)
  have bT := (((Boxed.new w 24 (.slice ta t.length tc)).alloc (.cells #[.slice none 0 0] 43)).alloc (.cells #[.pointer (some ⟨nb, 0, none⟩)] 26)).alloc (.cells #[.slice ta t.length tc] 24)
  have bI := ((Boxed.new (w.alloc (.cells #[.slice ta t.length tc] 24)) 43 (.slice none 0 0)).alloc (.cells #[.pointer (some ⟨nb, 0, none⟩)] 26)).alloc (.cells #[.slice ta t.length tc] 24)
  have bN := (Boxed.new ((w.alloc (.cells #[.slice ta t.length tc] 24)).alloc (.cells #[.slice none 0 0] 43)) 26 (.pointer (some ⟨nb, 0, none⟩))).alloc (.cells #[.slice ta t.length tc] 24)
  have bU := Boxed.new (((w.alloc (.cells #[.slice ta t.length tc] 24)).alloc (.cells #[.slice none 0 0] 43)).alloc (.cells #[.pointer (some ⟨nb, 0, none⟩)] 26)) 24 (.slice ta t.length tc)
  simp only [World.size_alloc] at bT bI bN bU
  have hB0 : Below w.heap.size w ((((w.alloc (.cells #[.slice ta t.length tc] 24)).alloc (.cells #[.slice none 0 0] 43)).alloc (.cells #[.pointer (some ⟨nb, 0, none⟩)] 26)).alloc (.cells #[.slice ta t.length tc] 24)) := by
    refine Below.alloc (Below.alloc (Below.alloc (Below.alloc (Below.refl _ w) (Nat.le_refl _) _) ?_ _) ?_ _) ?_ _ <;> simp <;> omega
  have hsz : ((((w.alloc (.cells #[.slice ta t.length tc] 24)).alloc (.cells #[.slice none 0 0] 43)).alloc (.cells #[.pointer (some ⟨nb, 0, none⟩)] 26)).alloc (.cells #[.slice ta t.length tc] 24)).heap.size = w.heap.size + 4 := by simp
  obtain ⟨sv, mx, T, hTr, hPp, hSd⟩ := hnet.on (w' := w) (Below.refl _ _)
  obtain ⟨a, cap, la, lc, hsv, hc1, hc2, hSF⟩ := hSd.take
  obtain ⟨W0, hW0⟩ : ∃ W0, ((((w.alloc (.cells #[.slice ta t.length tc] 24)).alloc (.cells #[.slice none 0 0] 43)).alloc (.cells #[.pointer (some ⟨nb, 0, none⟩)] 26)).alloc (.cells #[.slice ta t.length tc] 24)) = W0 := ⟨_, rfl⟩
  rw [hW0] at hB0 hsz bT bI bN bU ⊢
  clear hW0
  have hTr0 := hTr.hi' (w' := W0) fun g _ hg => hB0.block g hg
  have hSF0 := hSF.on hB0
  have HSF := hid hSF
  have HOK := hid hok
  have hnbl : nb < w.heap.size := by
    obtain ⟨d0, q1, q2⟩ := hTr.root
    have := (hTr.at' [] d0 q1).blk.lt
    omega
  have hal : ∀ g o c, a = some ⟨g, o, c⟩ → some g ≠ some (w.heap.size + 1) := fun g o c e => by
    intro e2
    have e3 := Option.some.inj e2
    by_cases hr0 : rs.length = 0
    · obtain ⟨ps, q1, q2, q3⟩ := hSd
      rw [hsv, e] at q2
      have := lt_of_block (row_at q2 rfl).2.choose_spec
      simp only at this
      omega
    · obtain ⟨g', q1, q2, _⟩ := hSF.cells ⟨0, by omega⟩
      rw [e] at q1
      cases q1
      omega
  have hfine : ∀ x : Fin rs.length, Fine (rs.get x).l := fun x c hc => by
    obtain ⟨_, z1, _⟩ := chk_zero (HOK.out (rs.get x) (List.get_mem rs x))
    have h1 := name_len (cellsErr_zero.1 (check_zero z1).2.1 c hc)
    have h2 := cellErr_ar (cellsErr_zero.1 (check_zero z1).2.1 c hc)
    omega
  have HFI := hid hfine
  refine wpIn_rangeFunc_ownH hro h1 (gf := 50) (lb := #[.pointer (some ⟨w.heap.size + 1 + 1, 0, none⟩), .pointer (some ⟨w.heap.size + 1 + 1 + 1, 0, none⟩)]) rfl trivial (enters_of Try.func50 (by kernel_rfl) rfl)
    (may_stops 2 (by omega) W0 B nb (w.heap.size + 1 + 1) (w.heap.size + 1 + 1 + 1) rs h64 sv mx T hTr0 hPp a cap hsv ⟨hc1, hc2⟩ la lc hSF0 (.slice ta t.length tc) t (HT.out.on hB0) bN bU (some (w.heap.size + 1)) ⟨by simp, by simp; omega, hal⟩ (KpA W0.heap.size (w.heap.size + 1)) (PrA (w.heap.size + 1)) (keepsA bI))
    (fun h k => h.trans k) (fun W l o o' hl h h2 h3 => ⟨fun g hg _ => World.putObj_heap_other (by omega), fun g hp => by
      obtain ⟨⟨cur, ty, q1⟩, q2, q3⟩ := hp
      have q4 : (W.putObj l o').heap[g]? = W.heap[g]? := World.putObj_heap_other (fun e => by subst e; rw [h] at q1; cases q1; cases h2)
      refine ⟨q4, ⟨cur, ty, q4.trans q1⟩, q2, fun v hv => q3 v ?_⟩
      rw [← World.cell?_of_block (a := ⟨(w.heap.size + 1), 0, none⟩) (show (W.putObj l o').heap[(w.heap.size + 1)]? = W.heap[(w.heap.size + 1)]? from World.putObj_heap_other (by omega))]
      exact hv⟩) (Below.refl _ _) (fun _ => rfl)
    (fun pre W => (∃ (va : Option Addr) (vc : Nat), Boxed W (w.heap.size + 1) 43 (.slice va (all1 rs t pre).length vc) ∧ W.ownsRow W0.heap.size 3 1 (.slice va (all1 rs t pre).length vc) (all1 rs t pre).length (idsV (all1 rs t pre)) ∧ Boxed W w.heap.size 24 (.slice ta t.length tc) ∧ W0.heap.size ≤ W.heap.size) ∧ Below w.heap.size w W)
    (fun c pre W => False)
    (OwnFrom.and (Own.from (fun s X Y row hs hg hr => by
      obtain ⟨va, vc, h1, h2, h4, h5⟩ := hs
      exact ⟨va, vc, boxed_own _ _ (fun (_ : Unit) => Value.slice va (all1 rs t s).length vc) () X Y row h1 hg hr, Owns.from h2 hg hr, boxed_own _ _ (fun (_ : Unit) => Value.slice ta t.length tc) () X Y row h4 hg hr, Nat.le_trans h5 hg.size⟩) _) (ownFrom_below (Nat.le_refl _) (by omega)))
    (fun c s X Y row hs hg hr => hs)
    ⟨⟨none, 0, bI, World.ownsRow_nil _ _ _ _, bT, Nat.le_refl _⟩, hB0⟩
    (fun x a' W => ∃ Bx, w.heap.size + 3 < Bx ∧ Blk W Bx #[.int .i64 (rs.get x).id, .slice (la x) (rs.get x).l.length (lc x)] 64 ∧ a' = { tmps := #[.pointer (some ⟨nb, 0, none⟩), .slice ta t.length tc, undef, .pointer (some ⟨w.heap.size, 0, none⟩), .slice none 0 0, .pointer (some ⟨w.heap.size + 1, 0, none⟩), .pointer (some ⟨Bx, 0, none⟩), undef, undef, undef, .pointer (some ⟨nb, 0, none⟩), .slice ta t.length tc, .func (.func 50) #[] #[.pointer (some ⟨w.heap.size + 1 + 1, 0, none⟩), .pointer (some ⟨w.heap.size + 1 + 1 + 1, 0, none⟩)], .agg #[.int .i64 (rs.get x).id, .slice (la x) (rs.get x).l.length (lc x)], undef, undef, undef, undef, undef, undef, undef, undef, undef, undef, undef, undef, undef, undef, undef], defers := [] })
    (fun x a' _ X Y row hs hg hr => by obtain ⟨Bx, h1, h2, h3⟩ := hs; exact ⟨Bx, h1, (hg.block Bx h2.lt (fun e => by obtain ⟨o, ho, hc⟩ := (hr Bx e.symm).2; rw [show X.heap[Bx]? = _ from h2] at ho; cases ho; cases hc)).trans h2, h3⟩)
    ?assign ?body ?done ?stop
  case assign =>
    rintro l pre x W K ⟨⟨va, vc, i1, i2, i4, i5⟩, hB1⟩ hK
    unfold elS
    gi_wp2
    exact hK _ _ ((KeepsOthers.alloc _ _).from _) (KpA.of ((Below.refl _ W).alloc (Nat.le_refl _) _) i5 i1.lt) ⟨⟨va, vc, i1.alloc _, i2.alloc _, i4.alloc _, by simp; omega⟩, hB1.alloc hB1.size _⟩ ⟨W.heap.size, by omega, Blk.made W _ 64, rfl⟩
  case body =>
    rintro l pre x a' W hl ⟨rr, hrr⟩ ⟨⟨va, vc, i1, i2, i4, i5⟩, hB1⟩ ⟨Bx, hBx, bX, rfl⟩ hlt
    have hmt := match_any W (.slice (la x) (rs.get x).l.length (lc x)) (.slice ta t.length tc) (rs.get x).l t (Owns.lies (own_below (HSF.out.lefts x) hB1) (HFI.out x)) (HT.out.on hB1)
    have x0 := bX.cell (i := 0) (v := .int .i64 (rs.get x).id) rfl
    have x1 := bX.cell (i := 1) (v := .slice (la x) (rs.get x).l.length (lc x)) rfl
    have t0 := i4.cell
    have hsn := all1_snoc rs t pre x
    have hal1 := all1_len rs t pre
    obtain ⟨r, hr⟩ : ∃ r, rs.get x = r := ⟨_, rfl⟩
    rw [hr] at hmt x0 x1 bX hsn ⊢
    clear hr
    obtain ⟨L, hL⟩ : ∃ L, all1 rs t pre = L := ⟨_, rfl⟩
    rw [hL] at i1 i2 hsn hal1
    have HSN := hid hsn
    clear hL hsn
    cases hm : mt r.l t with
    | none =>
      rw [hm] at hmt HSN
      gi_wp2_with (refine ⟨trivial, ?_⟩; gi_at_call 29; refine ((callsIn_wide (n := _)).2 hmt).mono ?_; rintro e w3 ⟨v3, rfl, ho3, hb3⟩)
      have e : all1 rs t (pre ++ [x]) = L := by rw [HSN.out]; simp
      refine ⟨(others_of hb3).from _, KpA.of hb3 i5 i1.lt, ⟨va, vc, ?_, ?_, (hb3.block _ i4.lt).trans i4, Nat.le_trans i5 hb3.size⟩, hB1.trans (hb3.mono hB1.size)⟩
      · rw [e]; exact (hb3.block _ i1.lt).trans i1
      · rw [e]; exact own_below i2 hb3
    | some bs =>
      rw [hm] at hmt HSN
      gi_wp2_with (first
        | (refine ⟨trivial, ?_⟩; gi_at_call 29; refine ((callsIn_wide (n := _)).2 hmt).mono ?_; rintro e w3 ⟨v3, rfl, ho3, hb3⟩; have hs3 := hb3.size; obtain ⟨ba, bc, hbv, _⟩ := ho3.form; clear ho3; subst hbv; have n1 : Boxed w3 (w.heap.size + 1) 43 _ := (hb3.block _ i1.lt).trans i1; have c1 := n1.cell; have n2 := own_below i2 hb3; have xx := (bX.on hb3 bX.lt).cell (i := 0) (v := .int .i64 r.id) rfl; have hA := (Blk.made w3 #[.int .i64 r.id] 3).cell (i := 0) (v := .int .i64 r.id) rfl)
        | (gi_at_builtin; refine wpListIn_id _ rfl _ _ rfl W0.heap.size (.slice va L.length vc) L r.id rfl (n2.alloc _) (by omega) (by simp; omega) ⟨w3.heap.size, 0, none⟩ rfl hA rfl ?_; intro v' w5 hrow hg hf; obtain ⟨na, nc, hnv, c5, f5, hz1⟩ := all_more i1 i4 i5 hB1 hb3 n2 hsz hg hrow hf; have HZ1 := hid hz1; clear hrow hg hf c1 hz1; subst hnv))
      have e : all1 rs t (pre ++ [x]) = L ++ [r.id] := by rw [HSN.out]; rfl
      obtain ⟨z1, z2, z3, z4, z5, z6, z7⟩ := HZ1.out
      refine ⟨z1.from _, z2, ⟨na, nc, ?_, ?_, z5, z6⟩, z7⟩
      · rw [e, List.length_append]; exact z3
      · have el : (L ++ [r.id]).length = L.length + 1 := by rw [List.length_append]; rfl
        rw [e, el]
        rw [el] at z4
        exact z4
  case done =>
    rintro D ys W hD rfl ⟨⟨va, vc, i1, i2, i4, i5⟩, hB1⟩ hK
    have c1 := i1.cell
    obtain ⟨L, hL⟩ : ∃ L, all1 rs t (plcsC rs t) = L := ⟨_, rfl⟩
    rw [hL] at i1 i2 c1
    have HL := hid hL
    clear hL
    gi_wp2
    refine ⟨by simp, .inl ⟨_, _, rfl, run_takeDeferred hK, ?_⟩⟩
    have rw1 : ∀ r, some D = some r → ∃ o : Obj, W.heap[r]? = some o ∧ o.isCells = false := fun r e => by cases e; exact ⟨_, hK, rfl⟩
    refine ⟨.slice va L.length vc, ?_, ⟨_, rfl, ?_, hB1.trans (belowK_b (w := w) (Nat.le_refl _) W D _ _ (by omega) hK rfl rfl)⟩⟩
    · simp [results, Try.results16, go_sem]
    · rw [HL.out]
      exact own_base (Owns.from i2 (grownBy_putObj' _ D (.deferred none)) rw1) hB0.size
  case stop => rintro D c pre W hD _ h; exact h.elim

end Go.Proofs.Ytpflbdkbbkobbaa
