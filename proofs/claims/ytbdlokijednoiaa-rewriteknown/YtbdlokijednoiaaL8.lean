/-
  What the program's leavesOne answers: a loop over slices.Backward.
-/
import Derived.RangeFuncNested
import Derived.RangeFuncBound
import Derived.RangeFuncCalls
import Derived.RangeFuncLeaves
import Derived.Shelf.Abstract
import Derived.Shelf.RegionOpen
import Derived.OwnWalkIn
import Derived.TacticsInMore
import Derived.LoopNIn
import Derived.LoopIn
import Derived.Test.YtbdlokijednoiaaQ8
namespace Go.Proofs.Ytbdlokijednoiaa
open Go.RowKit Go.Shelf
attribute [local go_sem] Oper.semAt_some
set_option linter.unusedVariables false
set_option linter.unusedSimpArgs false
set_option maxRecDepth 100000

/-- an op as it is handed to a loop: its place, and its cells -/
structure El where
  i : Int
  k : Int
  c : Cl
  a : Option Addr
  n : Nat
  cap : Nat
def elV (x : El) : Array Value := #[.int .i64 x.i, .agg #[.int .i64 x.k, .string x.c.nm, .int .i64 x.c.ar, .slice x.a x.n x.cap]]
/-- the ops, as a slice that lies below n₀ holds them -/
def Els (n₀ : Nat) (W : World) (a : Option Addr) (es : List El) : Prop :=
  ∀ (j : Nat) e, es[j]? = some e → ∃ g off, a = some ⟨g, off, none⟩ ∧ g < n₀ ∧ e.i = (j : Int) ∧ W.cell? ⟨g, off + j * 4, none⟩ = some (.int .i64 e.k) ∧ W.cell? ⟨g, off + j * 4 + 1, none⟩ = some (.string e.c.nm) ∧ W.cell? ⟨g, off + j * 4 + 2, none⟩ = some (.int .i64 e.c.ar) ∧ W.cell? ⟨g, off + j * 4 + 3, none⟩ = some (.slice e.a e.n e.cap)
theorem Els.below {n₀ : Nat} {W W' : World} {a : Option Addr} {es : List El} (h : Els n₀ W a es) (hb : Below n₀ W W') : Els n₀ W' a es := fun j e hj => by
  obtain ⟨g, off, ha, hg, h1, h2, h3, h4, h5⟩ := h j e hj
  exact ⟨g, off, ha, hg, h1, (hb.cell (p := ⟨g, off + j * 4, none⟩) hg).trans h2, (hb.cell (p := ⟨g, off + j * 4 + 1, none⟩) hg).trans h3, (hb.cell (p := ⟨g, off + j * 4 + 2, none⟩) hg).trans h4, (hb.cell (p := ⟨g, off + j * 4 + 3, none⟩) hg).trans h5⟩

/-- what a round keeps: old memory, and the iterator's own variable -/
def KpB (n₀ Bs : Nat) (W W' : World) : Prop := Below n₀ W W' ∧ W'.heap[Bs]? = W.heap[Bs]?

set_option maxHeartbeats 2000000 in
theorem back1_in (F : Fence) (n : Nat) (h8 : F.fn 82) (hro : F.round = none) (hn : 1 ≤ n) (l Bs n₀ cap : Nat) (a : Option Addr) (es : List El) (hm : es.length ≤ cap ∧ cap ≤ maxLen) (J Jx : List El → World → Prop)
    (hY : ∀ pre x W, J pre W → pre.length < es.length → YieldAt F (n - 1) Try.prog l (elV x) W fun e W' =>
      (e = .returned (.bool true) ∧ J (pre ++ [x]) W' ∧ KpB n₀ Bs W W') ∨ (e = .returned (.bool false) ∧ Jx (pre ++ [x]) W'))
    (W : World) (hBs : W.cell? ⟨Bs, 0, none⟩ = some (.slice a es.length cap)) (hc : Els n₀ W a es) (h0 : J [] W) :
    CallsIn F n Try.prog 82 #[.func (.yield l) #[] #[], .pointer (some ⟨Bs, 0, none⟩)] W fun e W' => (∃ v, e = .returned v) ∧
      ((∃ ys, ys = es.reverse ∧ J ys W') ∨ (∃ pre, (∃ k, pre = es.reverse.take k) ∧ Jx pre W')) := by
  have hlm : es.length ≤ 9223372036854775807 := by unfold maxLen at hm; omega
  have hcap := hm.1
  refine callsIn_of_wp Try.func82 rfl h8 ?_ hro
  simp only [Try.ntmps82, List.size_toArray, List.length_cons, List.length_nil, Nat.reduceAdd, Nat.reduceSub, Array.replicate_succ, Array.replicate_zero, List.push_toArray, List.append_toArray, List.nil_append, List.cons_append]
  gi_wp2
  gi_loopw [3] (fun i wr => ∃ (k : Nat) (m : Int), m + k + 1 = es.length ∧ -1 ≤ m ∧ i = .int .i64 m ∧ J (es.reverse.take k) wr ∧ KpB n₀ Bs W wr)
    (fun i _ => (intOf i + 1).toNat)
  case atStart => exact ⟨0, (es.length : Int) - 1, by omega, by omega, by simp, by simpa using h0, Below.refl _ _, rfl⟩
  case round =>
    obtain ⟨k, m, hkm, hm1, rfl, hJs, hnx⟩ := hrel
    have hB2 : wr.cell? ⟨Bs, 0, none⟩ = some (.slice a es.length cap) := (World.cell?_of_block (a := ⟨Bs, 0, none⟩) hnx.2).trans hBs
    by_cases hlt : 0 ≤ m
    · obtain ⟨j, rfl⟩ : ∃ j : Nat, m = (j : Int) := ⟨m.toNat, by omega⟩
      have hjl : j < es.length := by omega
      have hji : (j : Int) < (es.length : Int) := by omega
      obtain ⟨x, hx⟩ : ∃ x, es[j]? = some x := ⟨es[j], List.getElem?_eq_getElem hjl⟩
      have hpre : es.reverse.take k ++ [x] = es.reverse.take (k + 1) := by
        rw [List.take_add_one, List.getElem?_reverse (by omega), show es.length - 1 - k = j by omega, hx]
        rfl
      obtain ⟨g, off, rfl, hg, hxi, c0, c1, c2, c3⟩ := hc.below hnx.1 j x hx
      obtain ⟨fn, tmps, assign, body, hy, hR⟩ := hY _ x wr hJs (by rw [List.length_take, List.length_reverse]; omega)
      unfold elV at hy
      rw [hxi] at hy
      gi_wp2
      refine hR.mono ?_
      rintro e W3 (⟨rfl, hJ3, hk3⟩ | ⟨rfl, hJx3⟩)
      · rw [hpre] at hJ3
        gi_wp2
        go_roundw
        case rel => exact ⟨k + 1, (j : Int) - 1, by omega, by omega, by simp, hJ3, hnx.1.trans hk3.1, hk3.2.trans hnx.2⟩
        case measure => (simp [intOf]; try omega)
      · rw [hpre] at hJx3
        gi_wp2
        refine bodyPost_ret (results_none rfl _ _ _) rfl ?_
        exact ⟨⟨_, rfl⟩, .inr ⟨_, ⟨k + 1, rfl⟩, hJx3⟩⟩
    · have hmm : m = -1 := by omega
      subst hmm
      rw [List.take_of_length_le (by rw [List.length_reverse]; omega)] at hJs
      gi_wp2
      go_end0
      first | exact ⟨⟨_, rfl⟩, .inl ⟨_, rfl, hJs⟩⟩ | exact ⟨⟨_, rfl⟩, .inl hJs⟩

theorem back_in (F : Fence) (n : Nat) (h6 : F.fn 71) (hro : F.round = none) (a : Option Addr) (len cap : Nat) (w : World) :
    CallsIn F n Try.prog 71 #[.slice a len cap] w fun e w' => e = .returned (.func (.func 82) #[] #[.pointer (some ⟨w.heap.size, 0, none⟩)]) ∧ w' = w.alloc (.cells #[.slice a len cap] 37) := by
  refine callsIn_of_wp Try.func71 rfl h6 ?_ hro
  simp only [Try.ntmps71, List.size_toArray, List.length_cons, List.length_nil, Nat.reduceAdd, Nat.reduceSub, Array.replicate_succ, Array.replicate_zero, List.push_toArray, List.append_toArray, List.nil_append, List.cons_append]
  gi_wp2
  go_ret
  exact ⟨rfl, rfl⟩

theorem back_stops (F : Fence) (n : Nat) (h8 : F.fn 82) (hro : F.round = none) (hn : 1 ≤ n) (Bs n₀ cap : Nat) (a : Option Addr) (es : List El) (hm : es.length ≤ cap ∧ cap ≤ maxLen) (w : World) (hBs0 : Bs < w.heap.size) (hn₀ : n₀ ≤ w.heap.size)
    (hBs : w.cell? ⟨Bs, 0, none⟩ = some (.slice a es.length cap)) (hc : Els n₀ w a es) :
    SeqStopsK F n Try.prog 82 #[.pointer (some ⟨Bs, 0, none⟩)] elV (KpB n₀ Bs) (fun ys => ys = es.reverse) (fun pre => ∃ k, pre = es.reverse.take k) es.length w := fun l J Jx W hW _ _ hY h0 =>
  back1_in F n h8 hro hn l Bs n₀ cap a es hm J Jx hY W ((hW.cell (p := ⟨Bs, 0, none⟩) hBs0).trans hBs) (hc.below (hW.mono hn₀)) h0

/-- how the count goes -/
def cw : List El → Int → Option Int
  | [], c => some c
  | x :: r, c => if c < x.c.ar then none else cw r (wrap64 (c + wrap64 (1 - x.c.ar)))
theorem cw_app : ∀ (p q : List El) (c : Int), cw (p ++ q) c = (cw p c).bind (cw q)
  | [], q, c => rfl
  | x :: p, q, c => by
    simp only [List.cons_append, cw]
    split
    · rfl
    · exact cw_app p q _
theorem cw_take {es : List El} {c : Int} {k : Nat} (h : cw (es.take k) c = none) : cw es c = none := by
  rw [← List.take_append_drop k es, cw_app, h]
  rfl

set_option maxHeartbeats 4000000 in
theorem leaves_any (w : World) (a : Option Addr) (cap : Nat) (es : List El) (hm : es.length ≤ cap ∧ cap ≤ maxLen) (hc : Els w.heap.size w a es) (va : Option Addr) (vn vc : Nat) (st : Int) (ha : Option Addr) (hn hcap : Nat) :
    Calls Try.prog 45 #[.agg #[.slice a es.length cap, .slice va vn vc, .int .i64 st, .slice ha hn hcap]] w fun e w' => e = .returned (.bool (decide (cw es.reverse (vn : Int) = some 1))) ∧ Below w.heap.size w w' := by
  refine (callsIn_wide (n := 3)).1 ?_
  have h1 : 1 ≤ 3 := by omega
  have hro : Fence.wide.round = none := rfl
  refine callsIn_of_wp_marks Try.func45 rfl trivial ?_ hro
  simp only [Try.ntmps45, List.size_toArray, List.length_cons, List.length_nil, Nat.reduceAdd, Nat.reduceSub, Array.replicate_succ, Array.replicate_zero, List.push_toArray, List.append_toArray, List.nil_append, List.cons_append]
  gi_wp2_with (refine ⟨trivial, ?_⟩; gi_at_call 71; refine (back_in Fence.wide 2 trivial hro _ _ _ _).mono ?_; rintro e w' ⟨rfl, rfl⟩)
  have hB0 : Below w.heap.size w ((((w.alloc (.cells #[.slice a es.length cap, .slice va vn vc, .int .i64 st, .slice ha hn hcap] 39)).alloc (.cells #[.bool false] 4)).alloc (.cells #[.int .i64 (vn : Int)] 3)).alloc (.cells #[.slice a es.length cap] 37)) := ((((Below.refl _ w).alloc (Nat.le_refl _) _).alloc (by simp) _).alloc (by simp; omega) _).alloc (by simp; omega) _
  have hsz : ((((w.alloc (.cells #[.slice a es.length cap, .slice va vn vc, .int .i64 st, .slice ha hn hcap] 39)).alloc (.cells #[.bool false] 4)).alloc (.cells #[.int .i64 (vn : Int)] 3)).alloc (.cells #[.slice a es.length cap] 37)).heap.size = w.heap.size + 4 := by simp
  have bR := (((Boxed.new (w.alloc (.cells #[.slice a es.length cap, .slice va vn vc, .int .i64 st, .slice ha hn hcap] 39)) 4 (.bool false)).alloc (.cells #[.int .i64 (vn : Int)] 3)).alloc (.cells #[.slice a es.length cap] 37))
  have bC := (Boxed.new ((w.alloc (.cells #[.slice a es.length cap, .slice va vn vc, .int .i64 st, .slice ha hn hcap] 39)).alloc (.cells #[.bool false] 4)) 3 (.int .i64 (vn : Int))).alloc (.cells #[.slice a es.length cap] 37)
  have bN := Boxed.new (((w.alloc (.cells #[.slice a es.length cap, .slice va vn vc, .int .i64 st, .slice ha hn hcap] 39)).alloc (.cells #[.bool false] 4)).alloc (.cells #[.int .i64 (vn : Int)] 3)) 37 (.slice a es.length cap)
  simp only [World.size_alloc] at bR bC bN
  obtain ⟨W0, hW0⟩ : ∃ W0, ((((w.alloc (.cells #[.slice a es.length cap, .slice va vn vc, .int .i64 st, .slice ha hn hcap] 39)).alloc (.cells #[.bool false] 4)).alloc (.cells #[.int .i64 (vn : Int)] 3)).alloc (.cells #[.slice a es.length cap] 37)) = W0 := ⟨_, rfl⟩
  rw [hW0] at hB0 hsz bR bC bN ⊢
  clear hW0
  refine wpIn_rangeFunc_ownH hro h1 (gf := 82) (lb := #[.pointer (some ⟨w.heap.size + 1 + 1 + 1, 0, none⟩)]) rfl trivial (enters_of Try.func82 (by kernel_rfl) rfl)
    (back_stops Fence.wide 2 trivial hro (by omega) (w.heap.size + 1 + 1 + 1) w.heap.size cap a es hm W0 (by omega) (by omega) bN.cell (hc.below hB0)) (fun h k => ⟨h.1.trans k.1, k.2.trans h.2⟩) (fun W l o o' hl h h2 h3 => ⟨belowK_b (by omega) W l o o' hl h h2 h3, World.putObj_heap_other (by omega)⟩) (Below.refl _ _) (fun _ => rfl)
    (fun pre W => (∃ c, cw pre (vn : Int) = some c ∧ Boxed W (w.heap.size + 1) 4 (.bool false) ∧ Boxed W (w.heap.size + 1 + 1) 3 (.int .i64 c) ∧ Boxed W (w.heap.size + 1 + 1 + 1) 37 (.slice a es.length cap)) ∧ Below w.heap.size w W)
    (fun c pre W => (c = .ret ∧ cw pre (vn : Int) = none ∧ Boxed W (w.heap.size + 1) 4 (.bool false)) ∧ Below w.heap.size w W)
    (OwnFrom.and (Own.from (fun s X Y row hs hg hr => by
      obtain ⟨c, h1, h2, h3, h4⟩ := hs
      exact ⟨c, h1, boxed_own _ _ (fun (_ : Unit) => Value.bool false) () X Y row h2 hg hr, boxed_own _ _ (fun (_ : Unit) => Value.int .i64 c) () X Y row h3 hg hr, boxed_own _ _ (fun (_ : Unit) => Value.slice a es.length cap) () X Y row h4 hg hr⟩) _) (ownFrom_below (Nat.le_refl _) (by omega)))
    (fun c => OwnFrom.and (Own.from (fun s X Y row hs hg hr => ⟨hs.1, hs.2.1, boxed_own _ _ (fun (_ : Unit) => Value.bool false) () X Y row hs.2.2 hg hr⟩) _) (ownFrom_below (Nat.le_refl _) (by omega)))
    ⟨⟨(vn : Int), rfl, bR, bC, bN⟩, hB0⟩
    (fun x a' W => ∃ Bx, w.heap.size + 1 + 1 < Bx ∧ W.cell? ⟨Bx, 2, none⟩ = some (.int .i64 x.c.ar) ∧ a' = { tmps := #[.agg #[.slice a es.length cap, .slice va vn vc, .int .i64 st, .slice ha hn hcap], .pointer (some ⟨w.heap.size, 0, none⟩), .pointer (some ⟨w.heap.size + 1, 0, none⟩), .pointer (some ⟨w.heap.size + 1 + 1, 0, none⟩), undef, .pointer (some ⟨Bx, 0, none⟩), .pointer (some ⟨w.heap.size, 1, none⟩), .slice va vn vc, .int .i64 (vn : Int), .pointer (some ⟨w.heap.size, 0, none⟩), .slice a es.length cap, .func (.func 82) #[] #[.pointer (some ⟨w.heap.size + 1 + 1 + 1, 0, none⟩)], .int .i64 x.i, .agg #[.int .i64 x.k, .string x.c.nm, .int .i64 x.c.ar, .slice x.a x.n x.cap], undef, undef, undef, undef, undef, undef, undef, undef, undef, undef, undef, undef, undef], defers := [] })
    (fun x a' _ X Y row hs hg hr => by obtain ⟨Bx, h1, h2, h3⟩ := hs; exact ⟨Bx, h1, cell_kept h2 hg (fun r e => (hr r e).2), h3⟩)
    ?assign ?body ?done ?stop
  case assign =>
    rintro l pre x W K ⟨⟨c, hcw, b1, b2, b3⟩, hB1⟩ hK
    unfold elV
    gi_wp2
    exact hK _ _ ((KeepsOthers.alloc _ _).from _) ⟨(Below.refl _ W).alloc hB1.size _, (b3.alloc _).trans b3.symm⟩ ⟨⟨c, hcw, b1.alloc _, b2.alloc _, b3.alloc _⟩, hB1.alloc hB1.size _⟩ ⟨W.heap.size, b2.lt, (Blk.made W _ 51).cell rfl, rfl⟩
  case body =>
    rintro l pre x a' W hl ⟨r, hr⟩ ⟨⟨c, hcw, b1, b2, b3⟩, hB1⟩ ⟨Bx, hBx, bX, rfl⟩ hlt
    have c1 := b1.cell
    have f1 := b1.frozen
    have c2 := b2.cell
    have f2 := b2.frozen
    by_cases hlx : c < x.c.ar
    · have hN : cw (pre ++ [x]) (vn : Int) = none := by rw [cw_app, hcw]; simp [cw, hlx]
      gi_wp2
      exact ⟨(KeepsOthers.setCell _ _ _).from _, ⟨rfl, hN, b1.set _⟩, hB1.setCell (p := ⟨w.heap.size + 1, 0, none⟩) (by simp) _⟩
    · have hN : cw (pre ++ [x]) (vn : Int) = some (wrap64 (c + wrap64 (1 - x.c.ar))) := by rw [cw_app, hcw]; simp [cw, hlx]
      gi_wp2
      exact ⟨(KeepsOthers.setCell _ _ _).from _, ⟨(Below.refl _ W).setCell (p := ⟨w.heap.size + 1 + 1, 0, none⟩) (by simp; omega) _, (b3.other (by omega) _).trans b3.symm⟩, ⟨_, hN, b1.other (by omega) _, b2.set _, b3.other (by omega) _⟩, hB1.setCell (p := ⟨w.heap.size + 1 + 1, 0, none⟩) (by simp; omega) _⟩
  case done =>
    rintro D ys W hD rfl ⟨⟨c, hcw, b1, b2, b3⟩, hB1⟩ hK
    have c1 := b1.cell
    have f1 := b1.frozen
    have c2 := b2.cell
    have HFIN : Hid ((c == 1) = decide (cw es.reverse (vn : Int) = some 1)) := by
      show _ = _
      rw [hcw, Bool.eq_iff_iff, beq_iff_eq, decide_eq_true_eq]
      constructor
      · intro h; rw [h]
      · intro h; injection h
    gi_wp2
    have hq : decide (c = 1) = (c == 1) := rfl
    try rw [hq]
    have hfin := HFIN.out
    clear hq HFIN
    generalize (c == 1) = dd at hfin ⊢
    have hK' := (KeepsOthers.setCell W ⟨w.heap.size + 1, 0, none⟩ (.bool dd)).same D _ hK rfl
    refine ⟨by simp, .inl ⟨_, _, rfl, run_takeDeferred hK', ?_⟩⟩
    have hc5 := cell_kept (World.cell?_setCell_same' W ⟨w.heap.size + 1, 0, none⟩ (.bool dd) (by rw [c1]; rfl)) (grownBy_putObj' _ D (.deferred none)) (fun r e => by cases e; exact ⟨_, hK', rfl⟩)
    refine ⟨.bool dd, ?_, by rw [hfin], (hB1.setCell (p := ⟨w.heap.size + 1, 0, none⟩) (by simp) _).trans (belowK_b (w := w) (Nat.le_refl _) _ D _ _ (by omega) hK' rfl rfl)⟩
    simp [results, Try.results45, go_sem, hc5]
  case stop =>
    rintro D c pre W hD ⟨k, rfl⟩ ⟨⟨rfl, hcw, b1⟩, hB⟩ hK
    gi_wp2
    refine ⟨by simp, .inl ⟨_, _, rfl, run_takeDeferred hK, ?_⟩⟩
    have hc5 := cell_kept b1.cell (grownBy_putObj' _ D (.deferred none)) (fun r e => by cases e; exact ⟨_, hK, rfl⟩)
    refine ⟨.bool false, ?_, by rw [cw_take hcw]; rfl, hB.trans (belowK_b (w := w) (Nat.le_refl _) W D _ _ (by omega) hK rfl rfl)⟩
    simp [results, Try.results45, go_sem, hc5]

end Go.Proofs.Ytbdlokijednoiaa
