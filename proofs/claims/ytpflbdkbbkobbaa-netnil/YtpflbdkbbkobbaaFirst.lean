/-
  What the net's First answers.
-/
import Derived.Test.YtpflbdkbbkobbaaIter1
namespace Go.Proofs.Ytpflbdkbbkobbaa
open Go.RowKit Go.Maps Go.Shelf
attribute [local go_sem] Oper.semAt_some
set_option linter.unusedVariables false
set_option maxRecDepth 100000
set_option linter.unusedSimpArgs false

theorem mayFit_any (w : World) (nv : Option Addr) (ta : Option Addr) (tn tc : Nat) :
    Calls Try.prog 28 #[.pointer nv, .slice ta tn tc] w fun e w' => e = .returned (.func (.func 50) #[] #[.pointer (some ⟨w.heap.size, 0, none⟩), .pointer (some ⟨w.heap.size + 1, 0, none⟩)]) ∧ w' = (w.alloc (.cells #[.pointer nv] 26)).alloc (.cells #[.slice ta tn tc] 24) := by
  go_enter Try.func28, Try.ntmps28
  go_wp2_with fail
  go_ret
  exact ⟨by simp, rfl⟩

/-- the rounds of First leave all blocks of cells alone -/
def KpF (n₀ : Nat) (W W' : World) : Prop := Below n₀ W W' ∧ ∀ (g : Nat) cur t, W.heap[g]? = some (.cells cur t (0, 0)) → W'.heap[g]? = some (.cells cur t (0, 0))
def PrF (W : World) (g : Nat) : Prop := ∃ cur t, W.heap[g]? = some (.cells cur t (0, 0))
theorem keepsF (w0 : World) : Keeps w0 none (KpF w0.heap.size) PrF :=
  ⟨fun h g hg _ => h.1.block g hg, fun h hp => by
    obtain ⟨cur, t, h1⟩ := hp
    have h2 := h.2 _ cur t h1
    exact ⟨h2.trans h1.symm, cur, t, h2⟩, fun _ _ h => ⟨_, _, h⟩⟩
theorem KpF.of {n₀ : Nat} {W W' : World} (h : Below W.heap.size W W') (hn : n₀ ≤ W.heap.size) : KpF n₀ W W' := ⟨h.mono hn, fun g cur t hg => (h.block g (lt_of_block hg)).trans hg⟩
theorem KpF.trans {n₀ : Nat} {A B C : World} (h : KpF n₀ A B) (k : KpF n₀ B C) : KpF n₀ A C := ⟨h.1.trans k.1, fun g cur t hg => k.2 g cur t (h.2 g cur t hg)⟩
theorem others_of {W W' : World} (h : Below W.heap.size W W') : KeepsOthers W W' := ⟨h.size, fun k o hk _ => (h.block k (lt_of_block hk)).trans hk⟩
theorem Owns.from {w w' : World} {B : Nat} {e : TypeId} {size : Nat} {v : Value} {n : Nat} {xs : List Value} {row : Option Nat} (h : w.ownsRow B e size v n xs) (hg : w.grownBy w' row) (hr : ∀ r, row = some r → ∃ o : Obj, w.heap[r]? = some o ∧ o.isCells = false) : w'.ownsRow B e size v n xs :=
  row_same h fun g hgg => by
    obtain ⟨_, cur, h2⟩ := row_at h hgg
    refine hg.block g (lt_of_block h2) (fun e => ?_)
    obtain ⟨o, ho, hc⟩ := hr g e.symm
    rw [h2] at ho; cases ho; cases hc
theorem OwnsB.from {w w' : World} {B : Nat} {v : Value} {l : List Bd} {row : Option Nat} (h : OwnsB w B v l) (hg : w.grownBy w' row) (hr : ∀ r, row = some r → ∃ o : Obj, w.heap[r]? = some o ∧ o.isCells = false) : OwnsB w' B v l := by
  obtain ⟨ps, h0, h1, h2⟩ := h
  refine ⟨ps, h0, Owns.from h1 hg hr, fun j l hj => ?_⟩
  obtain ⟨x, hx, ho⟩ := h2 j l hj
  exact ⟨x, hx, Owns.from ho hg hr⟩
theorem OwnsB.same {w w' : World} {B : Nat} {v : Value} {l : List Bd} (h : OwnsB w B v l) (hs : ∀ g cur t, t = 53 ∨ t = 51 → B ≤ g → w.heap[g]? = some (.cells cur t (0, 0)) → w'.heap[g]? = w.heap[g]?) : OwnsB w' B v l := by
  obtain ⟨ps, h0, h1, h2⟩ := h
  refine ⟨ps, h0, row_same h1 fun g hg => by obtain ⟨hb, c, h3⟩ := row_at h1 hg; exact hs g c _ (.inl rfl) hb h3, fun j l hj => ?_⟩
  obtain ⟨x, hx, ho⟩ := h2 j l hj
  exact ⟨x, hx, row_same ho fun g hg => by obtain ⟨hb, c, h3⟩ := row_at ho hg; exact hs g c _ (.inr rfl) hb h3⟩

/-- the first that fits -/
def fst1 (rs : List Rl) (t : List Cl) : List (Fin rs.length) → Option (Int × List Bd)
  | [] => none
  | x :: r => match mt (rs.get x).l t with | some b => some ((rs.get x).id, b) | none => fst1 rs t r
theorem fst1_none {rs : List Rl} {t : List Cl} : ∀ {l : List (Fin rs.length)}, (∀ x ∈ l, mt (rs.get x).l t = none) → fst1 rs t l = none
  | [], _ => rfl
  | x :: r, h => by unfold fst1; rw [h x (by simp)]; exact fst1_none fun y hy => h y (by simp [hy])
theorem fst1_some {rs : List Rl} {t : List Cl} {x : Fin rs.length} {b : List Bd} : ∀ {p r : List (Fin rs.length)}, (∀ y ∈ p, mt (rs.get y).l t = none) → mt (rs.get x).l t = some b → fst1 rs t (p ++ x :: r) = some ((rs.get x).id, b)
  | [], r, _, h => by show fst1 rs t (x :: r) = _; unfold fst1; rw [h]
  | y :: p, r, hp, h => by
    show fst1 rs t (y :: (p ++ x :: r)) = _
    unfold fst1
    rw [hp y (by simp)]
    exact fst1_some (fun z hz => hp z (by simp [hz])) h

/-- what First leaves -/
def Fstd (w : World) (o : Option (Int × List Bd)) (e : Ending) (w' : World) : Prop :=
  Below w.heap.size w w' ∧ ((o = none ∧ e = .returned (.tuple #[.int .i64 0, .slice none 0 0, .bool false])) ∨ ∃ id bs bv, o = some (id, bs) ∧ e = .returned (.tuple #[.int .i64 id, bv, .bool true]) ∧ OwnsB w' w.heap.size bv bs)

set_option maxHeartbeats 8000000 in
theorem first_walk (w : World) (B nb : Nat) (rs : List Rl) (h64 : rs.length ≤ 64) (hok : RsOk rs) (hnet : NetAt w B nb rs) (tv : Value) (t : List Cl) (ht : Lies w tv t) :
    Calls Try.prog 11 #[.pointer (some ⟨nb, 0, none⟩), tv] w fun e w' => Fstd w (fst1 rs t (plcsC rs t)) e w' := by
  refine (callsIn_wide (n := 3)).1 ?_
  have h1 : 1 ≤ 3 := by omega
  have hro : Fence.wide.round = none := rfl
  have HT := hid ht
  obtain ⟨ta, tc, htv, _⟩ := ht
  subst htv
  refine callsIn_of_wp_marks Try.func11 rfl trivial ?_ hro
  simp only [Try.ntmps11, List.size_toArray, List.length_cons, List.length_nil, Nat.reduceAdd, Nat.reduceSub, Array.replicate_succ, Array.replicate_zero, List.push_toArray, List.append_toArray, List.nil_append, List.cons_append]
  gi_wp2_with (refine ⟨trivial, ?_⟩; gi_at_call 28; refine ((callsIn_wide (n := _)).2 (mayFit_any _ _ _ _ _)).mono ?_; rintro e w' ⟨rfl, rfl⟩)
  have bT := (((((Boxed.new w 24 (.slice ta t.length tc)).alloc (.cells #[.int .i64 0] 3)).alloc (.cells #[.slice none 0 0] 32)).alloc (.cells #[.bool false] 4)).alloc (.cells #[.pointer (some ⟨nb, 0, none⟩)] 26)).alloc (.cells #[.slice ta t.length tc] 24)
  have bI := ((((Boxed.new (w.alloc (.cells #[.slice ta t.length tc] 24)) 3 (.int .i64 0)).alloc (.cells #[.slice none 0 0] 32)).alloc (.cells #[.bool false] 4)).alloc (.cells #[.pointer (some ⟨nb, 0, none⟩)] 26)).alloc (.cells #[.slice ta t.length tc] 24)
  have bB := (((Boxed.new ((w.alloc (.cells #[.slice ta t.length tc] 24)).alloc (.cells #[.int .i64 0] 3)) 32 (.slice none 0 0)).alloc (.cells #[.bool false] 4)).alloc (.cells #[.pointer (some ⟨nb, 0, none⟩)] 26)).alloc (.cells #[.slice ta t.length tc] 24)
  have bK := ((Boxed.new (((w.alloc (.cells #[.slice ta t.length tc] 24)).alloc (.cells #[.int .i64 0] 3)).alloc (.cells #[.slice none 0 0] 32)) 4 (.bool false)).alloc (.cells #[.pointer (some ⟨nb, 0, none⟩)] 26)).alloc (.cells #[.slice ta t.length tc] 24)
  have bN := (Boxed.new ((((w.alloc (.cells #[.slice ta t.length tc] 24)).alloc (.cells #[.int .i64 0] 3)).alloc (.cells #[.slice none 0 0] 32)).alloc (.cells #[.bool false] 4)) 26 (.pointer (some ⟨nb, 0, none⟩))).alloc (.cells #[.slice ta t.length tc] 24)
  have bU := Boxed.new (((((w.alloc (.cells #[.slice ta t.length tc] 24)).alloc (.cells #[.int .i64 0] 3)).alloc (.cells #[.slice none 0 0] 32)).alloc (.cells #[.bool false] 4)).alloc (.cells #[.pointer (some ⟨nb, 0, none⟩)] 26)) 24 (.slice ta t.length tc)
  simp only [World.size_alloc] at bT bI bB bK bN bU
  have hB0 : Below w.heap.size w ((((((w.alloc (.cells #[.slice ta t.length tc] 24)).alloc (.cells #[.int .i64 0] 3)).alloc (.cells #[.slice none 0 0] 32)).alloc (.cells #[.bool false] 4)).alloc (.cells #[.pointer (some ⟨nb, 0, none⟩)] 26)).alloc (.cells #[.slice ta t.length tc] 24)) := by
    refine Below.alloc (Below.alloc (Below.alloc (Below.alloc (Below.alloc (Below.alloc (Below.refl _ w) (Nat.le_refl _) _) ?_ _) ?_ _) ?_ _) ?_ _) ?_ _ <;> simp <;> omega
  have hsz : ((((((w.alloc (.cells #[.slice ta t.length tc] 24)).alloc (.cells #[.int .i64 0] 3)).alloc (.cells #[.slice none 0 0] 32)).alloc (.cells #[.bool false] 4)).alloc (.cells #[.pointer (some ⟨nb, 0, none⟩)] 26)).alloc (.cells #[.slice ta t.length tc] 24)).heap.size = w.heap.size + 6 := by simp
  obtain ⟨sv, mx, T, hTr, hPp, hSd⟩ := hnet.on (w' := w) (Below.refl _ _)
  obtain ⟨a, cap, la, lc, hsv, hc1, hc2, hSF⟩ := hSd.take
  obtain ⟨W0, hW0⟩ : ∃ W0, ((((((w.alloc (.cells #[.slice ta t.length tc] 24)).alloc (.cells #[.int .i64 0] 3)).alloc (.cells #[.slice none 0 0] 32)).alloc (.cells #[.bool false] 4)).alloc (.cells #[.pointer (some ⟨nb, 0, none⟩)] 26)).alloc (.cells #[.slice ta t.length tc] 24)) = W0 := ⟨_, rfl⟩
  rw [hW0] at hB0 hsz bT bI bB bK bN bU ⊢
  clear hW0
  have hTr0 := hTr.hi' (w' := W0) fun g _ hg => hB0.block g hg
  have hSF0 := hSF.on hB0
  have HSF := hid hSF
  have HOK := hid hok
  have hfine : ∀ x : Fin rs.length, Fine (rs.get x).l := fun x c hc => by
    obtain ⟨_, z1, _⟩ := chk_zero (HOK.out (rs.get x) (List.get_mem rs x))
    have h1 := name_len (cellsErr_zero.1 (check_zero z1).2.1 c hc)
    have h2 := cellErr_ar (cellsErr_zero.1 (check_zero z1).2.1 c hc)
    omega
  have HFI := hid hfine
  refine wpIn_rangeFunc_ownH hro h1 (gf := 50) (lb := #[.pointer (some ⟨w.heap.size + 1 + 1 + 1 + 1, 0, none⟩), .pointer (some ⟨w.heap.size + 1 + 1 + 1 + 1 + 1, 0, none⟩)]) rfl trivial (enters_of Try.func50 (by kernel_rfl) rfl)
    (may_stops 2 (by omega) W0 B nb (w.heap.size + 1 + 1 + 1 + 1) (w.heap.size + 1 + 1 + 1 + 1 + 1) rs h64 sv mx T hTr0 hPp a cap hsv ⟨hc1, hc2⟩ la lc hSF0 (.slice ta t.length tc) t (HT.out.on hB0) bN bU none ⟨by simp, by simp, by simp⟩ (KpF W0.heap.size) PrF (keepsF W0))
    (fun h k => h.trans k) (fun W l o o' hl h h2 h3 => ⟨belowK_b (Nat.le_refl _) W l o o' hl h h2 h3, fun g cur t hg => (World.putObj_heap_other (fun e => by subst e; rw [h] at hg; cases hg; cases h2)).trans hg⟩) (Below.refl _ _) (fun _ => rfl)
    (fun pre W => ((∀ x ∈ pre, mt (rs.get x).l t = none) ∧ Boxed W (w.heap.size + 1) 3 (.int .i64 0) ∧ Boxed W (w.heap.size + 1 + 1) 32 (.slice none 0 0) ∧ Boxed W (w.heap.size + 1 + 1 + 1) 4 (.bool false) ∧ Boxed W w.heap.size 24 (.slice ta t.length tc) ∧ W0.heap.size ≤ W.heap.size) ∧ Below w.heap.size w W)
    (fun c pre W => (c = .ret ∧ ∃ p x bs ba bc, pre = p ++ [x] ∧ (∀ y ∈ p, mt (rs.get y).l t = none) ∧ mt (rs.get x).l t = some bs ∧ OwnsB W w.heap.size (.slice ba bs.length bc) bs ∧ Boxed W (w.heap.size + 1) 3 (.int .i64 (rs.get x).id) ∧ Boxed W (w.heap.size + 1 + 1) 32 (.slice ba bs.length bc) ∧ Boxed W (w.heap.size + 1 + 1 + 1) 4 (.bool true)) ∧ Below w.heap.size w W)
    (OwnFrom.and (Own.from (fun s X Y row hs hg hr => by
      obtain ⟨h0, h1, h2, h3, h4, h5⟩ := hs
      exact ⟨h0, boxed_own _ _ (fun (_ : Unit) => Value.int .i64 0) () X Y row h1 hg hr, boxed_own _ _ (fun (_ : Unit) => Value.slice none 0 0) () X Y row h2 hg hr, boxed_own _ _ (fun (_ : Unit) => Value.bool false) () X Y row h3 hg hr, boxed_own _ _ (fun (_ : Unit) => Value.slice ta t.length tc) () X Y row h4 hg hr, Nat.le_trans h5 hg.size⟩) _) (ownFrom_below (Nat.le_refl _) (by omega)))
    (fun c => OwnFrom.and (Own.from (fun s X Y row hs hg hr => by
      obtain ⟨h0, p, x, bs, ba, bc, h1, h2, h3, h4, h5, h6, h7⟩ := hs
      exact ⟨h0, p, x, bs, ba, bc, h1, h2, h3, h4.from hg hr, boxed_own _ _ (fun (_ : Unit) => Value.int .i64 (rs.get x).id) () X Y row h5 hg hr, boxed_own _ _ (fun (_ : Unit) => Value.slice ba bs.length bc) () X Y row h6 hg hr, boxed_own _ _ (fun (_ : Unit) => Value.bool true) () X Y row h7 hg hr⟩) _) (ownFrom_below (Nat.le_refl _) (by omega)))
    ⟨⟨by simp, bI, bB, bK, bT, Nat.le_refl _⟩, hB0⟩
    (fun x a' W => ∃ Bx, w.heap.size + 5 < Bx ∧ Blk W Bx #[.int .i64 (rs.get x).id, .slice (la x) (rs.get x).l.length (lc x)] 64 ∧ a' = { tmps := #[.pointer (some ⟨nb, 0, none⟩), .slice ta t.length tc, undef, .pointer (some ⟨w.heap.size, 0, none⟩), .pointer (some ⟨w.heap.size + 1, 0, none⟩), .pointer (some ⟨w.heap.size + 1 + 1, 0, none⟩), .pointer (some ⟨w.heap.size + 1 + 1 + 1, 0, none⟩), .pointer (some ⟨Bx, 0, none⟩), undef, undef, undef, .pointer (some ⟨nb, 0, none⟩), .slice ta t.length tc, .func (.func 50) #[] #[.pointer (some ⟨w.heap.size + 1 + 1 + 1 + 1, 0, none⟩), .pointer (some ⟨w.heap.size + 1 + 1 + 1 + 1 + 1, 0, none⟩)], .agg #[.int .i64 (rs.get x).id, .slice (la x) (rs.get x).l.length (lc x)], undef, undef, undef, undef, undef, undef, undef, undef, undef, undef, undef, undef], defers := [] })
    (fun x a' _ X Y row hs hg hr => by obtain ⟨Bx, h1, h2, h3⟩ := hs; exact ⟨Bx, h1, (hg.block Bx h2.lt (fun e => by obtain ⟨o, ho, hc⟩ := (hr Bx e.symm).2; rw [show X.heap[Bx]? = _ from h2] at ho; cases ho; cases hc)).trans h2, h3⟩)
    ?assign ?body ?done ?stop
  case assign =>
    rintro l pre x W K ⟨⟨i0, i1, i2, i3, i4, i5⟩, hB1⟩ hK
    unfold elS
    gi_wp2
    exact hK _ _ ((KeepsOthers.alloc _ _).from _) (KpF.of ((Below.refl _ W).alloc (Nat.le_refl _) _) i5) ⟨⟨i0, i1.alloc _, i2.alloc _, i3.alloc _, i4.alloc _, by simp; omega⟩, hB1.alloc hB1.size _⟩ ⟨W.heap.size, by omega, Blk.made W _ 64, rfl⟩
  case body =>
    rintro l pre x a' W hl ⟨rr, hrr⟩ ⟨⟨i0, i1, i2, i3, i4, i5⟩, hB1⟩ ⟨Bx, hBx, bX, rfl⟩ hlt
    have hmt := match_any W (.slice (la x) (rs.get x).l.length (lc x)) (.slice ta t.length tc) (rs.get x).l t (Owns.lies (own_below (HSF.out.lefts x) hB1) (HFI.out x)) (HT.out.on hB1)
    have x0 := bX.cell (i := 0) (v := .int .i64 (rs.get x).id) rfl
    have x1 := bX.cell (i := 1) (v := .slice (la x) (rs.get x).l.length (lc x)) rfl
    have t0 := i4.cell
    have c1 := i1.cell
    have f1 := i1.frozen
    have hpre : ∀ y ∈ pre ++ [x], mt (rs.get x).l t = none → mt (rs.get y).l t = none := fun y hy hn => by
      rcases List.mem_append.1 hy with h | h
      · exact i0 y h
      · simp at h; subst h; exact hn
    have HPRE := hid hpre
    have HI0 := hid i0
    clear hpre i0
    obtain ⟨r, hr⟩ : ∃ r, rs.get x = r := ⟨_, rfl⟩
    have HRX := hid hr
    rw [hr] at hmt x0 x1 bX ⊢
    clear hr
    cases hm : mt r.l t with
    | none =>
      rw [hm] at hmt
      gi_wp2_with (refine ⟨trivial, ?_⟩; gi_at_call 29; refine ((callsIn_wide (n := _)).2 hmt).mono ?_; rintro e w3 ⟨v3, rfl, ho3, hb3⟩)
      exact ⟨(others_of hb3).from _, KpF.of hb3 i5, ⟨fun y hy => HPRE.out y hy (by rw [HRX.out]; exact hm), (hb3.block _ i1.lt).trans i1, (hb3.block _ i2.lt).trans i2, (hb3.block _ i3.lt).trans i3, (hb3.block _ i4.lt).trans i4, Nat.le_trans i5 hb3.size⟩, hB1.trans (hb3.mono hB1.size)⟩
    | some bs =>
      rw [hm] at hmt
      clear c1 f1
      gi_wp2_with (refine ⟨trivial, ?_⟩; gi_at_call 29; refine ((callsIn_wide (n := _)).2 hmt).mono ?_; rintro e w3 ⟨v3, rfl, ho3, hb3⟩; have HO3 := hid ho3; obtain ⟨ba, bc, hbv, _⟩ := ho3.form; clear ho3; have n1 : Boxed w3 (w.heap.size + 1) 3 _ := (hb3.block _ i1.lt).trans i1; have n2 : Boxed w3 (w.heap.size + 1 + 1) 32 _ := (hb3.block _ i2.lt).trans i2; have n3 : Boxed w3 (w.heap.size + 1 + 1 + 1) 4 _ := (hb3.block _ i3.lt).trans i3; have xx := (bX.on hb3 bX.lt).cell (i := 0) (v := .int .i64 r.id) rfl; have c1 := n1.cell; have f1 := n1.frozen; have m2 := n2.other (B' := w.heap.size + 1) (by omega) (.int .i64 r.id); have c2 := m2.cell; have f2 := m2.frozen; simp only [Option.getD_some] at hbv HO3; subst hbv; have m3 := (n3.other (B' := w.heap.size + 1) (by omega) (.int .i64 r.id)).other (B' := w.heap.size + 1 + 1) (by omega) (.slice ba bs.length bc); have c3 := m3.cell; have f3 := m3.frozen)
      refine ⟨?_, ⟨rfl, pre, x, bs, ba, bc, rfl, HI0.out, by rw [HRX.out]; exact hm, ?_, ?_, ?_, ?_⟩, ?_⟩
      · exact (((others_of hb3).trans (KeepsOthers.setCell _ _ _)).trans ((KeepsOthers.setCell _ _ _).trans (KeepsOthers.setCell _ _ _))).from _
      · refine (OwnsB.same HO3.out fun g cur ty hty hg h3 => ?_).base hB1.size
        have g1 := i3.lt
        exact (Below.heap_setCell _ _ _ _ (by simp; omega)).trans ((Below.heap_setCell _ _ _ _ (by simp; omega)).trans (Below.heap_setCell _ _ _ _ (by simp; omega)))
      · rw [HRX.out]; exact ((n1.set _).other (by omega) _).other (by omega) _
      · exact (m2.set _).other (by omega) _
      · exact m3.set _
      · exact ((((hB1.trans (hb3.mono hB1.size)).setCell (by simp) _).setCell (by simp; omega) _).setCell (by simp; omega) _)
  case done =>
    rintro D ys W hD rfl ⟨⟨i0, i1, i2, i3, i4, i5⟩, hB1⟩ hK
    have c1 := i1.cell
    have f1 := i1.frozen
    have m2 := i2.other (B' := w.heap.size + 1) (by omega) (.int .i64 0)
    have c2 := m2.cell
    have f2 := m2.frozen
    have m3 := (i3.other (B' := w.heap.size + 1) (by omega) (.int .i64 0)).other (B' := w.heap.size + 1 + 1) (by omega) (.slice none 0 0)
    have c3 := m3.cell
    have f3 := m3.frozen
    have HN := hid (fst1_none i0)
    clear i0
    have z1 : Boxed (((W.setCell ⟨w.heap.size + 1, 0, none⟩ (.int .i64 0)).setCell ⟨w.heap.size + 1 + 1, 0, none⟩ (.slice none 0 0)).setCell ⟨w.heap.size + 1 + 1 + 1, 0, none⟩ (.bool false)) (w.heap.size + 1) 3 (.int .i64 0) := ((i1.set _).other (by omega) _).other (by omega) _
    have z2 : Boxed (((W.setCell ⟨w.heap.size + 1, 0, none⟩ (.int .i64 0)).setCell ⟨w.heap.size + 1 + 1, 0, none⟩ (.slice none 0 0)).setCell ⟨w.heap.size + 1 + 1 + 1, 0, none⟩ (.bool false)) (w.heap.size + 1 + 1) 32 (.slice none 0 0) := (m2.set _).other (by omega) _
    have z3 : Boxed (((W.setCell ⟨w.heap.size + 1, 0, none⟩ (.int .i64 0)).setCell ⟨w.heap.size + 1 + 1, 0, none⟩ (.slice none 0 0)).setCell ⟨w.heap.size + 1 + 1 + 1, 0, none⟩ (.bool false)) (w.heap.size + 1 + 1 + 1) 4 (.bool false) := m3.set _
    have hZ : Below w.heap.size w (((W.setCell ⟨w.heap.size + 1, 0, none⟩ (.int .i64 0)).setCell ⟨w.heap.size + 1 + 1, 0, none⟩ (.slice none 0 0)).setCell ⟨w.heap.size + 1 + 1 + 1, 0, none⟩ (.bool false)) := ((hB1.setCell (p := ⟨w.heap.size + 1, 0, none⟩) (by simp) _).setCell (p := ⟨w.heap.size + 1 + 1, 0, none⟩) (by simp; omega) _).setCell (p := ⟨w.heap.size + 1 + 1 + 1, 0, none⟩) (by simp; omega) _
    have hK' := (((KeepsOthers.setCell W ⟨w.heap.size + 1, 0, none⟩ (.int .i64 0)).trans (KeepsOthers.setCell _ ⟨w.heap.size + 1 + 1, 0, none⟩ (.slice none 0 0))).trans (KeepsOthers.setCell _ ⟨w.heap.size + 1 + 1 + 1, 0, none⟩ (.bool false))).same D _ hK rfl
    gi_wp2
    generalize (((W.setCell ⟨w.heap.size + 1, 0, none⟩ (.int .i64 0)).setCell ⟨w.heap.size + 1 + 1, 0, none⟩ (.slice none 0 0)).setCell ⟨w.heap.size + 1 + 1 + 1, 0, none⟩ (.bool false)) = WZ at z1 z2 z3 hZ hK' ⊢
    refine ⟨by simp, .inl ⟨_, _, rfl, run_takeDeferred hK', ?_⟩⟩
    have rw1 : ∀ r, some D = some r → ∃ o : Obj, WZ.heap[r]? = some o ∧ o.isCells = false := fun r e => by cases e; exact ⟨_, hK', rfl⟩
    have q1 := (boxed_own _ _ (fun (_ : Unit) => Value.int .i64 0) () WZ _ (some D) z1 (grownBy_putObj' _ D (.deferred none)) rw1).cell
    have q2 := (boxed_own _ _ (fun (_ : Unit) => Value.slice none 0 0) () WZ _ (some D) z2 (grownBy_putObj' _ D (.deferred none)) rw1).cell
    have q3 := (boxed_own _ _ (fun (_ : Unit) => Value.bool false) () WZ _ (some D) z3 (grownBy_putObj' _ D (.deferred none)) rw1).cell
    refine ⟨.tuple #[.int .i64 0, .slice none 0 0, .bool false], ?_, hZ.trans (belowK_b (w := w) (Nat.le_refl _) WZ D _ _ (by omega) hK' rfl rfl), .inl ⟨HN.out, rfl⟩⟩
    simp [results, Try.results11, go_sem, q1, q2, q3]
  case stop =>
    rintro D c pre W hD ⟨k, hk⟩ ⟨⟨rfl, p, x, bs, ba, bc, rfl, i0, hm, hO, i1, i2, i3⟩, hB⟩ hK
    have HF : Hid (fst1 rs t (plcsC rs t) = some ((rs.get x).id, bs)) := by
      show _ = _
      have e : plcsC rs t = p ++ x :: (plcsC rs t).drop k := by
        conv => lhs; rw [← List.take_append_drop k (plcsC rs t), ← hk]
        simp
      rw [e]
      exact fst1_some i0 hm
    have HO := hid hO
    obtain ⟨iv, hiv⟩ : ∃ iv, (rs.get x).id = iv := ⟨_, rfl⟩
    rw [hiv] at HF i1
    clear hk i0 hm hO hiv
    gi_wp2
    refine ⟨by simp, .inl ⟨_, _, rfl, run_takeDeferred hK, ?_⟩⟩
    have rw1 : ∀ r, some D = some r → ∃ o : Obj, W.heap[r]? = some o ∧ o.isCells = false := fun r e => by cases e; exact ⟨_, hK, rfl⟩
    have q1 := (boxed_own _ _ (fun (_ : Unit) => Value.int .i64 iv) () W _ (some D) i1 (grownBy_putObj' _ D (.deferred none)) rw1).cell
    have q2 := (boxed_own _ _ (fun (_ : Unit) => Value.slice ba bs.length bc) () W _ (some D) i2 (grownBy_putObj' _ D (.deferred none)) rw1).cell
    have q3 := (boxed_own _ _ (fun (_ : Unit) => Value.bool true) () W _ (some D) i3 (grownBy_putObj' _ D (.deferred none)) rw1).cell
    refine ⟨.tuple #[.int .i64 iv, .slice ba bs.length bc, .bool true], ?_, hB.trans (belowK_b (w := w) (Nat.le_refl _) W D _ _ (by omega) hK rfl rfl), .inr ⟨iv, bs, _, HF.out, rfl, HO.out.from (grownBy_putObj' _ D (.deferred none)) rw1⟩⟩
    simp [results, Try.results11, go_sem, q1, q2, q3]

end Go.Proofs.Ytpflbdkbbkobbaa
