/-
  A range over a function whose iterator writes memory of its own between two rounds.
  The caller's word speaks of blocks that it names (V); the iterator's of others (S, then T).
-/
import Derived.RangeFuncNested
import Derived.Test.YtjcbaiohpdihoaaGreatDoorTf
namespace Go.Proofs.YtjcbaiohpdihoaaGreatDoor
open Go.RowKit Go.Maps
set_option linter.unusedVariables false
set_option linter.unusedSimpArgs false

/-- what is said of the blocks V alone -/
def Loc {β : Type} (I : (Nat → Prop) → β → World → Prop) : Prop := ∀ V s A B T, I V s A → Keep T A B → (∀ j, V j → ¬ T j) → I V s B
/-- V's blocks lie in memory -/
def Lt {β : Type} (I : (Nat → Prop) → β → World → Prop) : Prop := ∀ V s A, I V s A → ∀ j, V j → j < A.heap.size
/-- how a round ends for the iterator -/
def Rnd {β : Type} (Q Qx : (Nat → Prop) → β → World → Prop) (V : Nat → Prop) (xs : β) (W : World) (e : Ending) (W' : World) : Prop :=
  ∃ V', Keep V W W' ∧ Grows V V' W ∧ ((e = .returned (.bool true) ∧ Q V' xs W') ∨ (e = .returned (.bool false) ∧ Qx V' xs W'))
/-- yield, told the members of L in turn -/
def Yields {α : Type} (l : Nat) (encs : α → Array Value) (L : List α) (Q Qx : (Nat → Prop) → List α → World → Prop) : Prop :=
  ∀ n V pre x W, Q V pre W → pre ++ [x] <+: L → YieldAt Fence.wide n Tryz.prog l (encs x) W (Rnd Q Qx V (pre ++ [x]) W)
/-- how an iterator ends -/
def Itd {α : Type} (L : List α) (Out : World → (Nat → Prop) → Prop) (S V : Nat → Prop) (Q Qx : (Nat → Prop) → List α → World → Prop) (W W' : World) : Prop :=
  ∃ T V', Out W' T ∧ Grows S T W ∧ Grows V V' W ∧ Keep (fun j => S j ∨ V j) W W' ∧ (∀ j, V' j → ¬ T j) ∧ (Q V' L W' ∨ ∃ pre, pre <+: L ∧ Qx V' pre W')
/-- an iterator's contract -/
def SeqW {α : Type} (g : Nat) (lb : Array Value) (encs : α → Array Value) (L : List α) (Out : World → (Nat → Prop) → Prop) (S V : Nat → Prop) (w : World) : Prop :=
  ∀ l Q Qx V0 W, Below w.heap.size w W → (∀ j, V0 j → V j ∨ w.heap.size ≤ j) → Loc Q → Loc Qx → Lt Q → Lt Qx → Yields l encs L Q Qx → Q V0 [] W →
    Calls Tryz.prog g (#[.func (.yield l) #[] #[]] ++ lb) W fun e W' => (∃ v, e = .returned v) ∧ Itd L Out S V0 Q Qx W W'

/-- how a round's body ends -/
def endP {α : Type} (I : (Nat → Prop) → List α → World → Prop) (Ix : Code → (Nat → Prop) → List α → World → Prop) (V : Nat → Prop) (xs : List α) (W : World) : Exit → Act → World → Prop
  | .normal, _, W' => ∃ V', Keep V W W' ∧ Grows V V' W ∧ I V' xs W'
  | .ret, _, W' => ∃ V', Keep V W W' ∧ Grows V V' W ∧ Ix .ret V' xs W'
  | .exit id, _, W' => ∃ V', Keep V W W' ∧ Grows V V' W ∧ Ix (.exit id) V' xs W'
  | .goto t, _, W' => ∃ V', Keep V W W' ∧ Grows V V' W ∧ Ix (.goto t) V' xs W'
  | .panic _, _, _ => False
  | .outgrown, _, _ => False

theorem Keep.obj {W : World} {l : Nat} (o : Obj) : Keep (fun j => j = l) W (W.putObj l o) := Keep.grown (grownBy_putObj' W l o) (fun k e => by cases e; rfl)
theorem Grows.with {V V' : Nat → Prop} {W : World} (h : Grows V V' W) (a b : Nat) : Grows (fun j => V j ∨ j = a ∨ j = b) (fun j => V' j ∨ j = a ∨ j = b) W := fun j hj => by
  rcases hj with hj | hj
  · rcases h j hj with h | h
    · exact .inl (.inl h)
    · exact .inr h
  · exact .inl (.inr hj)

section
variable {α : Type} {n gf : Nat} {gop : Operand} {ps : Array Tmp} {assign body : Code} {Qp : Exit → Act → World → Prop} {a : Act} {w : World} {lb : Array Value}
  {encs : α → Array Value} {L : List α} {Out : World → (Nat → Prop) → Prop} {S V : Nat → Prop}

/-- the caller's word beside the loop's own two blocks -/
def Two {β : Type} (D : Nat) (o : Obj) (I : (Nat → Prop) → β → World → Prop) (V0 : Nat → Prop) (pre : β) (W : World) : Prop :=
  ∃ V, (V0 = fun j => V j ∨ j = D ∨ j = D + 1) ∧ ¬ V D ∧ ¬ V (D + 1) ∧ I V pre W ∧ W.heap[D + 1]? = some o ∧ W.heap[D]? = some (.deferred (some []))
theorem Two.loc {β : Type} {D : Nat} {o : Obj} {I : (Nat → Prop) → β → World → Prop} (h : Loc I) : Loc (Two D o I) := by
  rintro V0 s A B T ⟨V, rfl, h1, h2, hi, h3, h4⟩ hk hn
  exact ⟨V, rfl, h1, h2, h V s A B T hi hk (fun j hj => hn j (.inl hj)), (hk.block _ (Array.getElem?_eq_some_iff.1 h3).1 (hn _ (.inr (.inr rfl)))).trans h3, (hk.block _ (Array.getElem?_eq_some_iff.1 h4).1 (hn _ (.inr (.inl rfl)))).trans h4⟩
theorem Two.lt {β : Type} {D : Nat} {o : Obj} {I : (Nat → Prop) → β → World → Prop} (h : Lt I) : Lt (Two D o I) := by
  rintro V0 s A ⟨V, rfl, h1, h2, hi, h3, h4⟩ j hj
  rcases hj with hj | rfl | rfl
  · exact h V s A hi j hj
  · exact (Array.getElem?_eq_some_iff.1 h4).1
  · exact (Array.getElem?_eq_some_iff.1 h3).1

set_option maxHeartbeats 1000000 in
theorem range_w (h1 : 1 ≤ n) (hg : a.eval gop = .func (.func gf) #[] lb) (eg : ∀ args w, (callFunc gf args).run Tryz.prog w = .ok (.enter gf args) w) (hps : ∀ x, (encs x).size = ps.size)
    (hO : ∀ A B T X, Out A T → Keep X A B → (∀ j, T j → ¬ X j) → Out B T) (hV : ∀ j, V j → j < w.heap.size) (hseq : SeqW gf lb encs L Out S V w)
    (I : (Nat → Prop) → List α → World → Prop) (I1 : α → Act → (Nat → Prop) → List α → World → Prop) (Ix : Code → (Nat → Prop) → List α → World → Prop)
    (hI : Loc I) (hI1 : ∀ x a', Loc (I1 x a')) (hIx : ∀ c, Loc (Ix c)) (tI : Lt I) (tI1 : ∀ x a', Lt (I1 x a')) (tIx : ∀ c, Lt (Ix c)) (h0 : I V [] w)
    (hassign : ∀ m l V pre x W K, I V pre W → pre ++ [x] <+: L → (∀ a' W' V', Keep V W W' → Grows V V' W → I1 x a' V' pre W' → K a' W') →
      assign.wpIn (Fence.wide.inRound l) m Tryz.prog (Exit.then K (fun _ _ _ => False)) { tmps := (ps.zip (encs x)).foldl (fun t (p, v) => t.setIfInBounds p v) a.tmps, defers := [] } W)
    (hbody : ∀ m l V pre x a' W, I1 x a' V pre W → pre ++ [x] <+: L → body.wpIn (Fence.wide.inRound l) m Tryz.prog (endP I Ix V (pre ++ [x]) W) a' W)
    (hdone : ∀ D V' T W', w.heap.size ≤ D → (¬ T D ∧ ¬ V' D) → I V' L W' → Out W' T → (∀ j, V' j → ¬ T j) → Grows S T w → Grows V V' w → Keep (fun j => S j ∨ V j) w W' → W'.heap[D]? = some (.deferred (some [])) → Qp .normal { a with defers := { target := .collected D, args := #[] } :: a.defers } W')
    (hstop : ∀ D V' T W' c pre, w.heap.size ≤ D → (¬ T D ∧ ¬ V' D) → pre <+: L → Ix c V' pre W' → Out W' T → (∀ j, V' j → ¬ T j) → Grows S T w → Grows V V' w → Keep (fun j => S j ∨ V j) w W' → W'.heap[D]? = some (.deferred (some [])) → c.wpIn Fence.wide n Tryz.prog Qp { a with defers := { target := .collected D, args := #[] } :: a.defers } W') :
    (Code.rangeFunc gop ps assign body).wpIn Fence.wide n Tryz.prog Qp a w := by
  refine wpIn_rangeFunc ?_
  intro fn _
  obtain ⟨rec, hrec⟩ : ∃ rec : LoopState → Option Code → Loop, rec = fun st pe => { state := st, pending := pe, fn, tmps := a.tmps, params := ps, assign, body, defers := w.heap.size } := ⟨_, rfl⟩
  obtain ⟨D, hD⟩ : ∃ D, D = w.heap.size := ⟨_, rfl⟩
  obtain ⟨W1, hW1⟩ : ∃ W1, (w.alloc (.deferred (some []))).alloc (.loop (rec .ready none)) = W1 := ⟨_, rfl⟩
  have hb1 : Below w.heap.size w W1 := by
    rw [← hW1]; exact ((Below.refl _ w).alloc (Nat.le_refl _) _).alloc (by simp) _
  have hL1 : W1.heap[D + 1]? = some (.loop (rec .ready none)) := by
    rw [← hW1, hD]; have := World.alloc_heap_new (w.alloc (.deferred (some []))) (.loop (rec .ready none)); rwa [World.size_alloc] at this
  have hK1 : W1.heap[D]? = some (.deferred (some [])) := by
    rw [← hW1, hD]; exact (Below.heap_alloc _ _ _ (by simp)).trans (World.alloc_heap_new w _)
  have hs1 : W1.heap.size = D + 2 := by rw [← hW1, hD]; simp
  have hVD : ∀ j, V j → j ≠ D ∧ j ≠ D + 1 := fun j hj => by have := hV j hj; omega
  refine ⟨D + 1, [{ target := .collected D, args := #[] }], W1, { target := .fn (.func gf) lb, args := #[.func (.yield (D + 1)) #[] #[]] }, W1, gf,
    #[.func (.yield (D + 1)) #[] #[]] ++ lb, W1, ?_, ?_, fun f' _ => trivial, ?_, fun _ => h1, callsIn_wide.2 ?_⟩
  · rw [← hW1, hrec, hD]; exact run_enterLoop_outer _ _ _ _ _
  · simp only [resolve, hg]
    simp [go_sem]
  · simp [invoke, go_sem, eg]
  · have hJ : Two D (.loop (rec .ready none)) I (fun j => V j ∨ j = D ∨ j = D + 1) [] W1 :=
      ⟨V, rfl, fun h => (hVD _ h).1 rfl, fun h => (hVD _ h).2 rfl, hI V [] w W1 (fun _ => False) h0 (Keep.of_below hb1) (fun _ _ h => h), hL1, hK1⟩
    refine (hseq (D + 1) (Two D (.loop (rec .ready none)) I) (fun V0 pre W => ∃ c, Two D (.loop (rec .done (some c))) (Ix c) V0 pre W) (fun j => V j ∨ j = D ∨ j = D + 1) W1 hb1
      (fun j hj => by rcases hj with h | h | h; exact .inl h; all_goals (right; omega)) (Two.loc hI) ?_ (Two.lt tI) ?_ ?_ hJ).mono ?_
    · rintro V0 s A B T ⟨c, h⟩ hk hn; exact ⟨c, Two.loc (hIx c) V0 s A B T h hk hn⟩
    · rintro V0 s A ⟨c, h⟩; exact Two.lt (tIx c) V0 s A h
    · -- one round
      rintro m V0 pre x W ⟨Vw, rfl, d1, d2, hi, hl, hk⟩ hpre
      have hlt : D + 1 < W.heap.size := (Array.getElem?_eq_some_iff.1 hl).1
      have hy := run_yield (P := Tryz.prog) (args := encs x) hl (by rw [hrec]; exact hps x)
      rw [hrec] at hy
      refine ⟨fn, _, assign, body, hy, roundIn_of_wpIn trivial (hassign m (D + 1) Vw pre x W _ hi hpre ?_)⟩
      clear hy
      intro a' Wa Va hka hga hi1
      have dl : ¬ Va (D + 1) := fun h => by rcases hga _ h with h | h; exact d2 h; omega
      have dd : ¬ Va D := fun h => by rcases hga _ h with h | h; exact d1 h; omega
      have hla := (hka.block _ hlt d2).trans hl
      have hda := (hka.block _ (by omega) d1).trans hk
      have hlta : D + 1 < Wa.heap.size := Nat.lt_of_lt_of_le hlt hka.size
      refine ⟨_, run_beginRound hla (by rw [hrec]), ?_⟩
      obtain ⟨Wb, hWb⟩ : ∃ Wb, Wb = Wa.putObj (D + 1) (.loop { rec .ready none with state := .busy }) := ⟨_, rfl⟩
      rw [← hWb]
      have hkb : Keep (fun j => j = D + 1) Wa Wb := by rw [hWb]; exact Keep.obj _
      have hlb : Wb.heap[D + 1]? = some (.loop { rec .ready none with state := .busy }) := by rw [hWb]; exact World.putObj_heap_same hlta
      have hdb : Wb.heap[D]? = some (.deferred (some [])) := (hkb.block _ (by omega) (by omega)).trans hda
      have hi2 : I1 x a' Va pre Wb := hI1 x a' Va pre Wa Wb _ hi1 hkb (fun j hj e => dl (e ▸ hj))
      refine wpIn_mono (hbody m (D + 1) Va pre x a' Wb hi2 hpre) ?_
      have fin : ∀ (jump : Option Code) (W3 : World) (V3 : Nat → Prop), Keep Va Wb W3 → Grows Va V3 Wb →
          (Instr.endRound (D + 1) jump).run Tryz.prog W3 = .ok (.bool jump.isNone) (W3.putObj (D + 1) (.loop (rec (if jump.isNone then .ready else .done) jump))) ∧
          Keep (fun j => j = D + 1) W3 (W3.putObj (D + 1) (.loop (rec (if jump.isNone then .ready else .done) jump))) ∧
          (W3.putObj (D + 1) (.loop (rec (if jump.isNone then .ready else .done) jump))).heap[D + 1]? = some (.loop (rec (if jump.isNone then .ready else .done) jump)) ∧
          (W3.putObj (D + 1) (.loop (rec (if jump.isNone then .ready else .done) jump))).heap[D]? = some (.deferred (some [])) ∧
          (¬ V3 D ∧ ¬ V3 (D + 1)) ∧ Keep (fun j => Vw j ∨ j = D ∨ j = D + 1) W (W3.putObj (D + 1) (.loop (rec (if jump.isNone then .ready else .done) jump))) ∧ Grows (fun j => Vw j ∨ j = D ∨ j = D + 1) (fun j => V3 j ∨ j = D ∨ j = D + 1) W := fun jump W3 V3 k3 g3 => by
        have hsb := hkb.size
        have hs3 := k3.size
        have hl3 := (k3.block _ (by omega) dl).trans hlb
        have hd3 := (k3.block _ (by omega) dd).trans hdb
        have hr := run_endRound (P := Tryz.prog) jump hl3
        rw [hrec] at hr ⊢
        have hk4 : Keep (fun j => j = D + 1) W3 (W3.putObj (D + 1) (.loop ((fun st pe => ({ state := st, pending := pe, fn, tmps := a.tmps, params := ps, assign, body, defers := w.heap.size } : Loop)) (if jump.isNone then .ready else .done) jump))) := Keep.obj _
        refine ⟨hr, hk4, World.putObj_heap_same (by omega), (World.putObj_heap_other (by omega)).trans hd3, ⟨fun h => by rcases g3 _ h with h | h; exact dd h; omega, fun h => by rcases g3 _ h with h | h; exact dl h; omega⟩, ?_, ?_⟩
        · refine (((hka.mono (S' := fun j => Vw j ∨ j = D ∨ j = D + 1) (fun j _ h => .inl h)).trans hkb (fun j _ h => .inr (.inr h))).trans k3 (fun j hj h => ?_)).trans hk4 (fun j _ h => .inr (.inr h))
          rcases hga j h with h | h
          · exact .inl h
          · omega
        · refine Grows.with (fun j hj => ?_) D (D + 1)
          rcases g3 j hj with h | h
          · exact hga j h
          · exact .inr (Nat.le_trans hka.size (Nat.le_trans hsb h))
      rintro e a3 W3 hp
      cases e with
      | normal =>
        obtain ⟨V3, k3, g3, i3⟩ := hp
        obtain ⟨hr, hk4, hl4, hd4, ⟨n1, n2⟩, hk5, hg5⟩ := fin none W3 V3 k3 g3
        exact ⟨_, _, hr, _, hk5, hg5, .inl ⟨rfl, V3, rfl, n1, n2, hI V3 _ W3 _ _ i3 hk4 (fun j hj e => n2 (e ▸ hj)), hl4, hd4⟩⟩
      | ret =>
        obtain ⟨V3, k3, g3, i3⟩ := hp
        obtain ⟨hr, hk4, hl4, hd4, ⟨n1, n2⟩, hk5, hg5⟩ := fin (some .ret) W3 V3 k3 g3
        exact ⟨_, _, hr, _, hk5, hg5, .inr ⟨rfl, .ret, V3, rfl, n1, n2, hIx _ V3 _ W3 _ _ i3 hk4 (fun j hj e => n2 (e ▸ hj)), hl4, hd4⟩⟩
      | exit id =>
        obtain ⟨V3, k3, g3, i3⟩ := hp
        obtain ⟨hr, hk4, hl4, hd4, ⟨n1, n2⟩, hk5, hg5⟩ := fin (some (.exit id)) W3 V3 k3 g3
        exact ⟨_, _, hr, _, hk5, hg5, .inr ⟨rfl, .exit id, V3, rfl, n1, n2, hIx _ V3 _ W3 _ _ i3 hk4 (fun j hj e => n2 (e ▸ hj)), hl4, hd4⟩⟩
      | goto t =>
        obtain ⟨V3, k3, g3, i3⟩ := hp
        obtain ⟨hr, hk4, hl4, hd4, ⟨n1, n2⟩, hk5, hg5⟩ := fin (some (.goto t)) W3 V3 k3 g3
        exact ⟨_, _, hr, _, hk5, hg5, .inr ⟨rfl, .goto t, V3, rfl, n1, n2, hIx _ V3 _ W3 _ _ i3 hk4 (fun j hj e => n2 (e ▸ hj)), hl4, hd4⟩⟩
      | panic ch => exact hp.elim
      | outgrown => exact hp.elim
    · -- behind the iterator
      have clo : ∀ (T : Nat → Prop) (V0 Vw : Nat → Prop) (W2 : World) (o : Obj), V0 = (fun j => Vw j ∨ j = D ∨ j = D + 1) → ¬ Vw D → ¬ Vw (D + 1) → D + 1 < W2.heap.size → W2.heap[D]? = some (.deferred (some [])) → Out W2 T → Grows S T W1 → Grows (fun j => V j ∨ j = D ∨ j = D + 1) V0 W1 → Keep (fun j => S j ∨ V j ∨ j = D ∨ j = D + 1) W1 W2 → (∀ j, V0 j → ¬ T j) →
          Keep (fun j => j = D + 1) W2 (W2.putObj (D + 1) o) ∧ (W2.putObj (D + 1) o).heap[D]? = some (.deferred (some [])) ∧ Out (W2.putObj (D + 1) o) T ∧ (∀ j, Vw j → ¬ T j) ∧ Grows S T w ∧ Grows V Vw w ∧ Keep (fun j => S j ∨ V j) w (W2.putObj (D + 1) o) := by
        rintro T V0 Vw W2 o rfl n1 n2 hl hd hO2 hgS hgV hkp hdis
        have hk : Keep (fun j => j = D + 1) W2 (W2.putObj (D + 1) o) := Keep.obj o
        refine ⟨hk, (World.putObj_heap_other (by omega)).trans hd, hO W2 _ T _ hO2 hk (fun j hj e => hdis j (.inr (.inr e)) hj), fun j hj => hdis j (.inl hj), fun j hj => ?_, fun j hj => ?_, ?_⟩
        · rcases hgS j hj with h | h
          · exact .inl h
          · right; omega
        · rcases hgV j (.inl hj) with (h | h) | h
          · exact .inl h
          · rcases h with rfl | rfl
            · exact (n1 hj).elim
            · exact (n2 hj).elim
          · right; omega
        · refine (((Keep.of_below (S := fun j => S j ∨ V j) hb1).trans hkp (fun j hj h => ?_))).trans hk (fun j hj h => ?_)
          · rcases h with h | h | h | h
            · exact .inl h
            · exact .inr h
            · omega
            · omega
          · omega
      rintro e W2 ⟨⟨v, rfl⟩, T, V0, hO2, hgS, hgV, hkp, hdis, (⟨Vw, hV0, n1, n2, hi, hl, hk⟩ | ⟨pre, hpre, c, Vw, hV0, n1, n2, hi, hl, hk⟩)⟩
      · obtain ⟨k1, k2, k3, k4, k5, k6, k7⟩ := clo T V0 Vw W2 (.loop { rec .ready none with state := .exhausted }) hV0 n1 n2 (Array.getElem?_eq_some_iff.1 hl).1 hk hO2 hgS hgV hkp hdis
        have hr := run_endLoop (P := Tryz.prog) hl (by rw [hrec]; simp)
        refine ⟨none, _, hr.trans (congrArg (fun x => Result.ok x _) (show (rec .ready none).pending = none from by rw [hrec])), ?_⟩
        exact hdone D Vw T _ (by omega) ⟨hdis D (by rw [hV0]; exact .inr (.inl rfl)), n1⟩ (hI Vw L W2 _ _ hi k1 (fun j hj e => n2 (e ▸ hj))) k3 k4 k5 k6 k7 k2
      · obtain ⟨k1, k2, k3, k4, k5, k6, k7⟩ := clo T V0 Vw W2 (.loop { rec .done (some c) with state := .exhausted }) hV0 n1 n2 (Array.getElem?_eq_some_iff.1 hl).1 hk hO2 hgS hgV hkp hdis
        have hr := run_endLoop (P := Tryz.prog) hl (by rw [hrec]; simp)
        refine ⟨some c, _, hr.trans (congrArg (fun x => Result.ok x _) (show (rec .done (some c)).pending = some c from by rw [hrec])), ?_⟩
        exact hstop D Vw T _ c pre (by omega) ⟨hdis D (by rw [hV0]; exact .inr (.inl rfl)), n1⟩ hpre (hIx c Vw pre W2 _ _ hi k1 (fun j hj e => n2 (e ▸ hj))) k3 k4 k5 k6 k7 k2
end

end Go.Proofs.YtjcbaiohpdihoaaGreatDoor

