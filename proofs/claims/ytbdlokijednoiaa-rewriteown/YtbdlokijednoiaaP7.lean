/-
  What the run's node is: a cell, and the last values behind it.
-/
import Derived.Test.YtbdlokijednoiaaI7
import Derived.Test.YtbdlokijednoiaaReg7
import Derived.Laws.AppendOwnNone
namespace Go.Proofs.Ytbdlokijednoiaa
open Go.RowKit
set_option linter.unusedVariables false
set_option linter.unusedSimpArgs false
set_option maxRecDepth 100000
set_option maxHeartbeats 4000000 in

/-- a run under way, as it lies in memory -/
structure Rn (B : Nat) (w : World) (p : Nat) (ov vv hv rv tv : Value) (ops : List Opr) (vals : List (List Cl)) (st : Int) (heads : List ByteArray) (fu : Int) : Prop where
  blk : Blk w p #[ov, vv, .int .i64 st, hv, rv, .int .i64 fu, tv] 68
  ops : OpsV (VL B w) w B ov ops
  vals : ValsV (VL B w) w B vv vals
  heads : OwnsS w B hv heads
  low : B ≤ p
theorem Rn.on {B : Nat} {w w' : World} {p : Nat} {ov vv hv rv tv : Value} {ops : List Opr} {vals : List (List Cl)} {st : Int} {heads : List ByteArray} {fu : Int} (h : Rn B w p ov vv hv rv tv ops vals st heads fu) (hb : Below w.heap.size w w') : Rn B w' p ov vv hv rv tv ops vals st heads fu := by
  have hk : K7 B w w' := K7.of hb (Nat.le_trans h.low (Nat.le_of_lt h.blk.lt))
  exact ⟨h.blk.on hb h.blk.lt, h.ops.on hb (fun x l hx => hx.on hk), h.vals.on hb (fun x l hx => hx.on hk), own_below h.heads hb, h.low⟩
/-- a cell of the run's block is written anew -/
theorem Rn.set {B : Nat} {w : World} {p : Nat} {ov vv hv rv tv : Value} {ops : List Opr} {vals : List (List Cl)} {st : Int} {heads : List ByteArray} {fu : Int} (h : Rn B w p ov vv hv rv tv ops vals st heads fu) (i : Nat) (u : Value) {ov' vv' hv' : Value} {st' fu' : Int}
    (he : (#[ov, vv, .int .i64 st, hv, rv, .int .i64 fu, tv] : Array Value).setIfInBounds i u = #[ov', vv', .int .i64 st', hv', rv, .int .i64 fu', tv])
    {ops' : List Opr} {vals' : List (List Cl)} {heads' : List ByteArray} (ho : OpsV (VL B w) w B ov' ops') (hv2 : ValsV (VL B w) w B vv' vals') (hh : OwnsS w B hv' heads') :
    Rn B (w.setCell ⟨p, i, none⟩ u) p ov' vv' hv' rv tv ops' vals' st' heads' fu' ∧ K7 B w (w.setCell ⟨p, i, none⟩ u) := by
  have hk : K7 B w (w.setCell ⟨p, i, none⟩ u) := K7.blk h.blk (by decide) h.low u
  have hg := set_grown w p i u
  refine ⟨⟨?_, ?_, ?_, row_blk hh h.blk (by decide) hg, h.low⟩, hk⟩
  · have := h.blk.set i u
    rw [he] at this
    exact this
  · obtain ⟨os, h0, h1, h2⟩ := ho
    refine ⟨os, h0, row_blk h1 h.blk (by decide) hg, fun j o hj => ?_⟩
    obtain ⟨x, hx, hc, hxv⟩ := h2 j o hj
    exact ⟨x, hx, hc, hxv.on hk⟩
  · obtain ⟨vs, h1, h2⟩ := hv2
    refine ⟨vs, row_blk h1 h.blk (by decide) hg, fun j o hj => ?_⟩
    obtain ⟨x, hx, hc, hxv⟩ := h2 j o hj
    exact ⟨x, hx, hc, hxv.on hk⟩
theorem OpsV.take {V : Value → List Cl → Prop} {w : World} {B : Nat} {a : Option Addr} {n c : Nat} {ops : List Opr} (h : OpsV V w B (.slice a n c) ops) (m : Nat) (hm : m ≤ ops.length) : OpsV V w B (.slice a m c) (ops.take m) := by
  obtain ⟨os, h0, h1, h2⟩ := h
  have hn : n = ops.length := by obtain ⟨a', c', hv, _⟩ := own_cells h1; cases hv; rfl
  subst hn
  have := own_take h1 hm
  rw [flatO_take] at this
  refine ⟨os.take m, by rw [List.length_take, List.length_take, h0], by rw [List.length_take, Nat.min_eq_left hm]; exact this, fun i o hi => ?_⟩
  rw [List.getElem?_take] at hi
  split at hi
  · rename_i him
    obtain ⟨x, hx, hc, hv⟩ := h2 i o hi
    exact ⟨x, by rw [List.getElem?_take, if_pos him]; exact hx, hc, hv⟩
  · cases hi
theorem ValsV.take {V : Value → List Cl → Prop} {w : World} {B : Nat} {a : Option Addr} {n c : Nat} {K : List (List Cl)} (h : ValsV V w B (.slice a n c) K) (m : Nat) (hm : m ≤ K.length) : ValsV V w B (.slice a m c) (K.take m) := by
  obtain ⟨vs, h1, h2⟩ := h
  have hn : n = K.length := by obtain ⟨a', c', hv, _⟩ := own_cells h1; cases hv; rfl
  subst hn
  have := own_take h1 hm
  rw [Nat.mul_one] at this
  refine ⟨vs.take m, by rw [List.length_take, Nat.min_eq_left hm]; exact this, fun i o hi => ?_⟩
  rw [List.getElem?_take] at hi
  split at hi
  · rename_i him
    obtain ⟨x, hx, hc, hv⟩ := h2 i o hi
    exact ⟨x, by rw [List.getElem?_take, if_pos him]; exact hx, hc, hv⟩
  · cases hi

theorem wrap_nat (n : Nat) (h : n ≤ 9223372036854775807) : IntKind.i64.wrap (n : Int) = n := by
  have e : (n : Int) % (2 ^ IntKind.i64.bits : Int) = n := Int.emod_eq_of_lt (by omega) (by show (n : Int) < 18446744073709551616; omega)
  unfold IntKind.wrap
  simp only [e]
  rw [if_neg]
  simp only [Bool.and_eq_true, decide_eq_true_eq, not_and]
  intro _
  show ¬ (n : Int) ≥ 9223372036854775808
  omega

set_option maxHeartbeats 4000000 in
/-- the last op is taken away, and the last values -/
theorem done_any (B : Nat) (w : World) (p : Nat) (ov vv hv rv tv : Value) (ops : List Opr) (vals : List (List Cl)) (st : Int) (heads : List ByteArray) (fu : Int) (h : Rn B w p ov vv hv rv tv ops vals st heads fu) (ar : Nat) (h1 : 1 ≤ ops.length) (h2 : ar ≤ vals.length) :
    Calls Try.prog 49 #[.pointer (some ⟨p, 0, none⟩), .int .i64 (ar : Nat)] w fun e w' => e = .returned (.tuple #[]) ∧ (∃ oa oc va vc, ov = .slice oa ops.length oc ∧ vv = .slice va vals.length vc ∧ Rn B w' p (.slice oa (ops.length - 1) oc) (.slice va (vals.length - ar) vc) hv rv tv (ops.take (ops.length - 1)) (vals.take (vals.length - ar)) st heads fu) ∧ K7 B w w' ∧ (∀ k, k ≠ p → w'.heap[k]? = w.heap[k]?) ∧ w.heap.size ≤ w'.heap.size := by
  obtain ⟨oa, oc, hov⟩ := h.ops.form
  obtain ⟨va, vc, hvv⟩ := h.vals.form
  subst hov
  subst hvv
  have ol : ops.length ≤ oc ∧ oc ≤ maxLen := by
    obtain ⟨_, _, hr, _⟩ := h.ops
    obtain ⟨_, _, e, q1, q2, _⟩ := own_cells hr
    cases e; exact ⟨q1, q2⟩
  have vl : vals.length ≤ vc ∧ vc ≤ maxLen := by
    obtain ⟨_, hr, _⟩ := h.vals
    obtain ⟨_, _, e, q1, q2, _⟩ := own_cells hr
    cases e; exact ⟨q1, q2⟩
  unfold maxLen at ol vl
  obtain ⟨ol1, ol2⟩ := ol
  obtain ⟨vl1, vl2⟩ := vl
  have HR : Hid (Rn B w.drew p (.slice oa ops.length oc) (.slice va vals.length vc) hv rv tv ops vals st heads fu) := ⟨h.blk, h.ops, h.vals, h.heads, h.low⟩
  have c0 : w.drew.cell? ⟨p, 0, none⟩ = some (.slice oa ops.length oc) := h.blk.cell rfl
  have f0 : w.drew.frozen? ⟨p, 0, none⟩ = false := h.blk.free 0
  have e1 : ((ops.length : Int) - 1) = ((ops.length - 1 : Nat) : Int) := by omega
  have e2 : ((vals.length : Int) - (ar : Int)) = ((vals.length - ar : Nat) : Int) := by omega
  have b1 : ops.length - 1 ≤ oc := by omega
  have b2 : vals.length - ar ≤ vc := by omega
  have b3 : ((ops.length - 1 : Nat) : Int) ≤ (oc : Int) := by omega
  have b4 : ((vals.length - ar : Nat) : Int) ≤ (vc : Int) := by omega
  have W1 := wrap_nat (ops.length - 1) (by omega)
  have W2 := wrap_nat (vals.length - ar) (by omega)
  clear h
  go_enter Try.func49, Try.ntmps49
  go_wp2_with fail
  refine wp_region_m (fun w' => w'.cell? ⟨p, 0, none⟩ = some (.slice oa ops.length oc)) 17 (by kernel_rfl) ?_
  have HKD : Hid (K7 B w w.drew) := ⟨(Below.refl B w).drew, fun _ _ _ h _ => h⟩
  have HUD : Hid ((∀ k, k ≠ p → w.drew.heap[k]? = w.heap[k]?) ∧ w.heap.size ≤ w.drew.heap.size) := ⟨fun _ _ => rfl, Nat.le_refl _⟩
  generalize w.drew = wd at c0 f0 HR HKD HUD ⊢
  refine wpAnyM_pick (i := 0) (some 4) (v := ?vz1) rfl rfl (by kernel_rfl) (by kernel_rfl) (by kernel_rfl) (by kernel_rfl) (fun _ _ _ h => h) (Or.inl ⟨by rfl, ?hz1⟩) c0 ?rz1
  case hz1 => intro w hSw; go_simp; try with_reducible rfl
  try simp only [Act.put, List.setIfInBounds_toArray, List.set_cons_zero, List.set_cons_succ]
  refine wpAnyM_pick (i := 1) (some 5) (v := ?vz2) rfl rfl (by kernel_rfl) (by kernel_rfl) (by kernel_rfl) (by kernel_rfl) (fun _ _ _ h => h) (Or.inl ⟨by rfl, ?hz2⟩) c0 ?rz2
  case hz2 => intro w hSw; go_simp; try with_reducible rfl
  try simp only [Act.put, List.setIfInBounds_toArray, List.set_cons_zero, List.set_cons_succ]
  refine wpAnyM_pick (i := 2) (some 6) (v := ?vz3) rfl rfl (by kernel_rfl) (by kernel_rfl) (by kernel_rfl) (by kernel_rfl) (fun _ _ _ h => h) (Or.inl ⟨by rfl, ?hz3⟩) c0 ?rz3
  case hz3 => intro w hSw; go_simp; try with_reducible rfl
  try simp only [Act.put, List.setIfInBounds_toArray, List.set_cons_zero, List.set_cons_succ]
  refine wpAnyM_pick (i := 3) (some 7) (v := ?vz4) rfl rfl (by kernel_rfl) (by kernel_rfl) (by kernel_rfl) (by kernel_rfl) (fun _ _ _ h => h) (Or.inl ⟨by rfl, ?hz4⟩) c0 ?rz4
  case hz4 => intro w hSw; go_simp; try with_reducible rfl
  try simp only [Act.put, List.setIfInBounds_toArray, List.set_cons_zero, List.set_cons_succ]
  refine wpAnyM_pick (i := 4) (some 8) (v := ?vz5) rfl rfl (by kernel_rfl) (by kernel_rfl) (by kernel_rfl) (by kernel_rfl) (fun _ _ _ h => h) (Or.inl ⟨by rfl, ?hz5⟩) c0 ?rz5
  case hz5 => intro w hSw; go_simp; try with_reducible rfl
  try simp only [Act.put, List.setIfInBounds_toArray, List.set_cons_zero, List.set_cons_succ]
  refine wpAnyM_pick (i := 5) (some 9) (v := ?vz6) rfl rfl (by kernel_rfl) (by kernel_rfl) (by kernel_rfl) (by kernel_rfl) (fun _ _ _ h => h) (Or.inl ⟨by rfl, ?hz6⟩) c0 ?rz6
  case hz6 => intro w hSw; go_simp; try with_reducible rfl
  try simp only [Act.put, List.setIfInBounds_toArray, List.set_cons_zero, List.set_cons_succ]
  refine wpAnyM_pick (i := 6) (some 10) (v := ?vz7) rfl rfl (by kernel_rfl) (by kernel_rfl) (by kernel_rfl) (by kernel_rfl) (fun _ _ _ h => h) (Or.inl ⟨by rfl, ?hz7⟩) c0 ?rz7
  case hz7 => intro w hSw; go_simp; try with_reducible rfl
  try simp only [Act.put, List.setIfInBounds_toArray, List.set_cons_zero, List.set_cons_succ]
  refine wpAnyM_pick (i := 7) (some 11) (v := ?vz8) rfl rfl (by kernel_rfl) (by kernel_rfl) (by kernel_rfl) (by kernel_rfl) (fun _ _ _ h => h) (Or.inl ⟨by rfl, ?hz8⟩) c0 ?rz8
  case hz8 => intro w hSw; go_simp; try with_reducible rfl
  try simp only [Act.put, List.setIfInBounds_toArray, List.set_cons_zero, List.set_cons_succ]
  refine wpAnyM_pick (i := 8) (some 12) (v := ?vz9) rfl rfl (by kernel_rfl) (by kernel_rfl) (by kernel_rfl) (by kernel_rfl) (fun _ _ _ h => h) (Or.inl ⟨by rfl, ?hz9⟩) c0 ?rz9
  case hz9 => intro w hSw; go_simp; try with_reducible rfl
  try simp only [Act.put, List.setIfInBounds_toArray, List.set_cons_zero, List.set_cons_succ]
  refine wpAnyM_pick (i := 9) (some 13) (v := ?vz10) rfl rfl (by kernel_rfl) (by kernel_rfl) (by kernel_rfl) (by kernel_rfl) (fun _ _ _ h => h) (Or.inl ⟨by rfl, ?hz10⟩) c0 ?rz10
  case hz10 => intro w hSw; go_simp; try with_reducible rfl
  try simp only [Act.put, List.setIfInBounds_toArray, List.set_cons_zero, List.set_cons_succ]
  refine wpAnyM_pick (i := 10) (some 14) (v := ?vz11) rfl rfl (by kernel_rfl) (by kernel_rfl) (by kernel_rfl) (by kernel_rfl) (fun _ _ _ h => h) (Or.inl ⟨by rfl, ?hz11⟩) c0 ?rz11
  case hz11 => intro w hSw; go_simp; try with_reducible rfl
  try simp only [Act.put, List.setIfInBounds_toArray, List.set_cons_zero, List.set_cons_succ]
  refine wpAnyM_pick (i := 11) (some 15) (v := ?vz12) rfl rfl (by kernel_rfl) (by kernel_rfl) (by kernel_rfl) (by kernel_rfl) (fun _ _ _ h => h) (Or.inl ⟨by rfl, ?hz12⟩) c0 ?rz12
  case hz12 => intro w hSw; go_simp; try with_reducible rfl
  try simp only [Act.put, List.setIfInBounds_toArray, List.set_cons_zero, List.set_cons_succ]
  refine wpAnyM_pick (i := 12) (some 16) (v := ?vz13) rfl rfl (by kernel_rfl) (by kernel_rfl) (by kernel_rfl) (by kernel_rfl) (fun _ _ _ h => h) (Or.inl ⟨by rfl, ?hz13⟩) c0 ?rz13
  case hz13 => intro w hSw; go_simp; try with_reducible rfl
  try simp only [Act.put, List.setIfInBounds_toArray, List.set_cons_zero, List.set_cons_succ]
  refine wpAnyM_pick (i := 13) (some 17) (v := ?vz14) rfl rfl (by kernel_rfl) (by kernel_rfl) (by kernel_rfl) (by kernel_rfl) (fun _ _ _ h => h) (Or.inl ⟨by rfl, ?hz14⟩) c0 ?rz14
  case hz14 => intro w hSw; go_simp; try with_reducible rfl
  try simp only [Act.put, List.setIfInBounds_toArray, List.set_cons_zero, List.set_cons_succ]
  refine wpAnyM_one (i := 14) (by kernel_rfl) rfl (fun K hK => ?_)
  go_simp
  refine hK.out _ _ (fun _ => c0) ?_
  clear hK K
  try simp only [Act.put, List.setIfInBounds_toArray, List.set_cons_zero, List.set_cons_succ]
  refine wpAnyM_one (i := 15) (by kernel_rfl) rfl (fun K hK => ?_)
  go_simp
  refine hK.out _ _ (fun _ => c0) ?_
  clear hK K
  try simp only [Act.put, List.setIfInBounds_toArray, List.set_cons_zero, List.set_cons_succ]
  refine wpAnyM_one (i := 16) (by kernel_rfl) rfl (fun K hK => ?_)
  go_simp
  refine hK.out _ _ (fun _ => c0) ?_
  clear hK K
  try simp only [Act.put, List.setIfInBounds_toArray, List.set_cons_zero, List.set_cons_succ]
  refine wpAnyM_one (i := 17) (by kernel_rfl) rfl (fun K hK => ?_)
  obtain ⟨hR1, hK1⟩ := HR.out.set 0 (.slice oa (ops.length - 1) oc) (ov' := .slice oa (ops.length - 1) oc) (vv' := .slice va vals.length vc) (hv' := hv) (st' := st) (fu' := fu) rfl (HR.out.ops.take (ops.length - 1) (by omega)) HR.out.vals HR.out.heads
  have HR1 : Hid (Rn B (wd.setCell ⟨p, 0, none⟩ (.slice oa (ops.length - 1) oc)) p (.slice oa (ops.length - 1) oc) (.slice va vals.length vc) hv rv tv (ops.take (ops.length - 1)) vals st heads fu) := hR1
  have HK1 : Hid (K7 B w (wd.setCell ⟨p, 0, none⟩ (.slice oa (ops.length - 1) oc))) := HKD.out.trans hK1
  have HU1 : Hid ((∀ k, k ≠ p → (wd.setCell ⟨p, 0, none⟩ (.slice oa (ops.length - 1) oc)).heap[k]? = w.heap[k]?) ∧ w.heap.size ≤ (wd.setCell ⟨p, 0, none⟩ (.slice oa (ops.length - 1) oc)).heap.size) := ⟨fun k hk => (Below.heap_setCell _ _ _ _ hk).trans (HUD.out.1 k hk), by simp [World.setCell]; exact HUD.out.2⟩
  clear hR1 hK1
  go_simp
  refine hK.out _ _ (fun h => absurd h (by decide)) ?_
  clear hK K
  refine wpAnyM_done (by kernel_rfl) ?_ _
  try simp only [Act.put, List.setIfInBounds_toArray, List.set_cons_zero, List.set_cons_succ]
  clear c0 f0 HR
  generalize wd.setCell ⟨p, 0, none⟩ (.slice oa (ops.length - 1) oc) = w1 at HR1 HK1 HU1 ⊢
  have HR2 : Hid (Rn B w1.drew p (.slice oa (ops.length - 1) oc) (.slice va vals.length vc) hv rv tv (ops.take (ops.length - 1)) vals st heads fu) := ⟨HR1.out.blk, HR1.out.ops, HR1.out.vals, HR1.out.heads, HR1.out.low⟩
  have c1 : w1.drew.cell? ⟨p, 1, none⟩ = some (.slice va vals.length vc) := HR1.out.blk.cell rfl
  have f1 : w1.drew.frozen? ⟨p, 1, none⟩ = false := HR1.out.blk.free 1
  clear HR1
  go_wp2_with fail
  refine wp_region_m (fun w' => w'.cell? ⟨p, 1, none⟩ = some (.slice va vals.length vc)) 18 (by kernel_rfl) ?_
  have HUE : Hid ((∀ k, k ≠ p → w1.drew.heap[k]? = w.heap[k]?) ∧ w.heap.size ≤ w1.drew.heap.size) := HU1.out
  have HKE : Hid (K7 B w w1.drew) := HK1.out.trans ⟨(Below.refl B w1).drew, fun _ _ _ h _ => h⟩
  generalize w1.drew = we at c1 f1 HR2 HKE HUE ⊢
  refine wpAnyM_pick (i := 0) (some 21) (v := ?vz18) rfl rfl (by kernel_rfl) (by kernel_rfl) (by kernel_rfl) (by kernel_rfl) (fun _ _ _ h => h) (Or.inl ⟨by rfl, ?hz18⟩) c1 ?rz18
  case hz18 => intro w hSw; go_simp; try with_reducible rfl
  try simp only [Act.put, List.setIfInBounds_toArray, List.set_cons_zero, List.set_cons_succ]
  refine wpAnyM_pick (i := 1) (some 22) (v := ?vz19) rfl rfl (by kernel_rfl) (by kernel_rfl) (by kernel_rfl) (by kernel_rfl) (fun _ _ _ h => h) (Or.inl ⟨by rfl, ?hz19⟩) c1 ?rz19
  case hz19 => intro w hSw; go_simp; try with_reducible rfl
  try simp only [Act.put, List.setIfInBounds_toArray, List.set_cons_zero, List.set_cons_succ]
  refine wpAnyM_pick (i := 2) (some 23) (v := ?vz20) rfl rfl (by kernel_rfl) (by kernel_rfl) (by kernel_rfl) (by kernel_rfl) (fun _ _ _ h => h) (Or.inl ⟨by rfl, ?hz20⟩) c1 ?rz20
  case hz20 => intro w hSw; go_simp; try with_reducible rfl
  try simp only [Act.put, List.setIfInBounds_toArray, List.set_cons_zero, List.set_cons_succ]
  refine wpAnyM_pick (i := 3) (some 24) (v := ?vz21) rfl rfl (by kernel_rfl) (by kernel_rfl) (by kernel_rfl) (by kernel_rfl) (fun _ _ _ h => h) (Or.inl ⟨by rfl, ?hz21⟩) c1 ?rz21
  case hz21 => intro w hSw; go_simp; try with_reducible rfl
  try simp only [Act.put, List.setIfInBounds_toArray, List.set_cons_zero, List.set_cons_succ]
  refine wpAnyM_pick (i := 4) (some 25) (v := ?vz22) rfl rfl (by kernel_rfl) (by kernel_rfl) (by kernel_rfl) (by kernel_rfl) (fun _ _ _ h => h) (Or.inl ⟨by rfl, ?hz22⟩) c1 ?rz22
  case hz22 => intro w hSw; go_simp; try with_reducible rfl
  try simp only [Act.put, List.setIfInBounds_toArray, List.set_cons_zero, List.set_cons_succ]
  refine wpAnyM_pick (i := 5) (some 26) (v := ?vz23) rfl rfl (by kernel_rfl) (by kernel_rfl) (by kernel_rfl) (by kernel_rfl) (fun _ _ _ h => h) (Or.inl ⟨by rfl, ?hz23⟩) c1 ?rz23
  case hz23 => intro w hSw; go_simp; try with_reducible rfl
  try simp only [Act.put, List.setIfInBounds_toArray, List.set_cons_zero, List.set_cons_succ]
  refine wpAnyM_pick (i := 6) (some 27) (v := ?vz24) rfl rfl (by kernel_rfl) (by kernel_rfl) (by kernel_rfl) (by kernel_rfl) (fun _ _ _ h => h) (Or.inl ⟨by rfl, ?hz24⟩) c1 ?rz24
  case hz24 => intro w hSw; go_simp; try with_reducible rfl
  try simp only [Act.put, List.setIfInBounds_toArray, List.set_cons_zero, List.set_cons_succ]
  refine wpAnyM_pick (i := 7) (some 28) (v := ?vz25) rfl rfl (by kernel_rfl) (by kernel_rfl) (by kernel_rfl) (by kernel_rfl) (fun _ _ _ h => h) (Or.inl ⟨by rfl, ?hz25⟩) c1 ?rz25
  case hz25 => intro w hSw; go_simp; try with_reducible rfl
  try simp only [Act.put, List.setIfInBounds_toArray, List.set_cons_zero, List.set_cons_succ]
  refine wpAnyM_pick (i := 8) (some 29) (v := ?vz26) rfl rfl (by kernel_rfl) (by kernel_rfl) (by kernel_rfl) (by kernel_rfl) (fun _ _ _ h => h) (Or.inl ⟨by rfl, ?hz26⟩) c1 ?rz26
  case hz26 => intro w hSw; go_simp; try with_reducible rfl
  try simp only [Act.put, List.setIfInBounds_toArray, List.set_cons_zero, List.set_cons_succ]
  refine wpAnyM_pick (i := 9) (some 30) (v := ?vz27) rfl rfl (by kernel_rfl) (by kernel_rfl) (by kernel_rfl) (by kernel_rfl) (fun _ _ _ h => h) (Or.inl ⟨by rfl, ?hz27⟩) c1 ?rz27
  case hz27 => intro w hSw; go_simp; try with_reducible rfl
  try simp only [Act.put, List.setIfInBounds_toArray, List.set_cons_zero, List.set_cons_succ]
  refine wpAnyM_pick (i := 10) (some 31) (v := ?vz28) rfl rfl (by kernel_rfl) (by kernel_rfl) (by kernel_rfl) (by kernel_rfl) (fun _ _ _ h => h) (Or.inl ⟨by rfl, ?hz28⟩) c1 ?rz28
  case hz28 => intro w hSw; go_simp; try with_reducible rfl
  try simp only [Act.put, List.setIfInBounds_toArray, List.set_cons_zero, List.set_cons_succ]
  refine wpAnyM_pick (i := 11) (some 32) (v := ?vz29) rfl rfl (by kernel_rfl) (by kernel_rfl) (by kernel_rfl) (by kernel_rfl) (fun _ _ _ h => h) (Or.inl ⟨by rfl, ?hz29⟩) c1 ?rz29
  case hz29 => intro w hSw; go_simp; try with_reducible rfl
  try simp only [Act.put, List.setIfInBounds_toArray, List.set_cons_zero, List.set_cons_succ]
  refine wpAnyM_pick (i := 12) (some 33) (v := ?vz30) rfl rfl (by kernel_rfl) (by kernel_rfl) (by kernel_rfl) (by kernel_rfl) (fun _ _ _ h => h) (Or.inl ⟨by rfl, ?hz30⟩) c1 ?rz30
  case hz30 => intro w hSw; go_simp; try with_reducible rfl
  try simp only [Act.put, List.setIfInBounds_toArray, List.set_cons_zero, List.set_cons_succ]
  refine wpAnyM_pick (i := 13) (some 34) (v := ?vz31) rfl rfl (by kernel_rfl) (by kernel_rfl) (by kernel_rfl) (by kernel_rfl) (fun _ _ _ h => h) (Or.inl ⟨by rfl, ?hz31⟩) c1 ?rz31
  case hz31 => intro w hSw; go_simp; try with_reducible rfl
  try simp only [Act.put, List.setIfInBounds_toArray, List.set_cons_zero, List.set_cons_succ]
  refine wpAnyM_pick (i := 14) (some 35) (v := ?vz32) rfl rfl (by kernel_rfl) (by kernel_rfl) (by kernel_rfl) (by kernel_rfl) (fun _ _ _ h => h) (Or.inl ⟨by rfl, ?hz32⟩) c1 ?rz32
  case hz32 => intro w hSw; go_simp; try with_reducible rfl
  try simp only [Act.put, List.setIfInBounds_toArray, List.set_cons_zero, List.set_cons_succ]
  refine wpAnyM_one (i := 15) (by kernel_rfl) rfl (fun K hK => ?_)
  go_simp
  refine hK.out _ _ (fun _ => c1) ?_
  clear hK K
  try simp only [Act.put, List.setIfInBounds_toArray, List.set_cons_zero, List.set_cons_succ]
  refine wpAnyM_one (i := 16) (by kernel_rfl) rfl (fun K hK => ?_)
  go_simp
  refine hK.out _ _ (fun _ => c1) ?_
  clear hK K
  try simp only [Act.put, List.setIfInBounds_toArray, List.set_cons_zero, List.set_cons_succ]
  refine wpAnyM_one (i := 17) (by kernel_rfl) rfl (fun K hK => ?_)
  go_simp
  refine hK.out _ _ (fun _ => c1) ?_
  clear hK K
  try simp only [Act.put, List.setIfInBounds_toArray, List.set_cons_zero, List.set_cons_succ]
  refine wpAnyM_one (i := 18) (by kernel_rfl) rfl (fun K hK => ?_)
  obtain ⟨hR3, hK3⟩ := HR2.out.set 1 (.slice va (vals.length - ar) vc) (ov' := .slice oa (ops.length - 1) oc) (vv' := .slice va (vals.length - ar) vc) (hv' := hv) (st' := st) (fu' := fu) rfl HR2.out.ops (HR2.out.vals.take (vals.length - ar) (by omega)) HR2.out.heads
  have HR3 : Hid (Rn B (we.setCell ⟨p, 1, none⟩ (.slice va (vals.length - ar) vc)) p (.slice oa (ops.length - 1) oc) (.slice va (vals.length - ar) vc) hv rv tv (ops.take (ops.length - 1)) (vals.take (vals.length - ar)) st heads fu) := hR3
  have HK3 : Hid (K7 B w (we.setCell ⟨p, 1, none⟩ (.slice va (vals.length - ar) vc))) := HKE.out.trans hK3
  have HU3 : Hid ((∀ k, k ≠ p → (we.setCell ⟨p, 1, none⟩ (.slice va (vals.length - ar) vc)).heap[k]? = w.heap[k]?) ∧ w.heap.size ≤ (we.setCell ⟨p, 1, none⟩ (.slice va (vals.length - ar) vc)).heap.size) := ⟨fun k hk => (Below.heap_setCell _ _ _ _ hk).trans (HUE.out.1 k hk), by simp [World.setCell]; exact HUE.out.2⟩
  clear hR3 hK3
  go_simp
  refine hK.out _ _ (fun h => absurd h (by decide)) ?_
  clear hK K
  refine wpAnyM_done (by kernel_rfl) ?_ _
  try simp only [Act.put, List.setIfInBounds_toArray, List.set_cons_zero, List.set_cons_succ]
  go_wp2_with fail
  go_end0
  exact ⟨rfl, ⟨oa, oc, va, vc, rfl, rfl, HR3.out⟩, HK3.out, HU3.out.1, HU3.out.2⟩

theorem OpsV.apartK {w w' : World} {B B' : Nat} {v v' : Value} {ops : List Opr} {e : TypeId} {size n : Nat} {xs : List Value} (h : OpsV (VL B w) w B v ops) (hr : w.ownsRow B' e size v' n xs) (he : 51 ≠ e) (hk : K7 B w w') (hg : w.grownBy w' v'.ownBlock) : OpsV (VL B w') w' B v ops := by
  obtain ⟨os, h0, h1, h2⟩ := h
  refine ⟨os, h0, own_apart7 h1 hr he hg, fun i o hi => ?_⟩
  obtain ⟨x, hx, hc, hv⟩ := h2 i o hi
  exact ⟨x, hx, hc, hv.on hk⟩
theorem ValsV.apartK {w w' : World} {B B' : Nat} {v v' : Value} {K : List (List Cl)} {e : TypeId} {size n : Nat} {xs : List Value} (h : ValsV (VL B w) w B v K) (hr : w.ownsRow B' e size v' n xs) (he : 24 ≠ e) (hk : K7 B w w') (hg : w.grownBy w' v'.ownBlock) : ValsV (VL B w') w' B v K := by
  obtain ⟨os, h1, h2⟩ := h
  refine ⟨os, own_apart7 h1 hr he hg, fun i o hi => ?_⟩
  obtain ⟨x, hx, hc, hv⟩ := h2 i o hi
  exact ⟨x, hx, hc, hv.on hk⟩
/-- a cell of the run's block is written anew, the rows being told -/
theorem Rn.put {B : Nat} {w : World} {p : Nat} {ov vv hv rv tv : Value} {st fu : Int} (hb : Blk w p #[ov, vv, .int .i64 st, hv, rv, .int .i64 fu, tv] 68) (low : B ≤ p) (i : Nat) (u : Value) {ov' vv' hv' : Value} {st' fu' : Int}
    (he : (#[ov, vv, .int .i64 st, hv, rv, .int .i64 fu, tv] : Array Value).setIfInBounds i u = #[ov', vv', .int .i64 st', hv', rv, .int .i64 fu', tv])
    {ops' : List Opr} {vals' : List (List Cl)} {heads' : List ByteArray} (ho : OpsV (VL B w) w B ov' ops') (hv2 : ValsV (VL B w) w B vv' vals') (hh : OwnsS w B hv' heads') :
    Rn B (w.setCell ⟨p, i, none⟩ u) p ov' vv' hv' rv tv ops' vals' st' heads' fu' ∧ K7 B w (w.setCell ⟨p, i, none⟩ u) := by
  have hk : K7 B w (w.setCell ⟨p, i, none⟩ u) := K7.blk hb (by decide) low u
  have hg := set_grown w p i u
  refine ⟨⟨?_, ?_, ?_, row_blk hh hb (by decide) hg, low⟩, hk⟩
  · have := hb.set i u
    rw [he] at this
    exact this
  · obtain ⟨os, h0, h1, h2⟩ := ho
    refine ⟨os, h0, row_blk h1 hb (by decide) hg, fun j o hj => ?_⟩
    obtain ⟨x, hx, hc, hxv⟩ := h2 j o hj
    exact ⟨x, hx, hc, hxv.on hk⟩
  · obtain ⟨vs, h1, h2⟩ := hv2
    refine ⟨vs, row_blk h1 hb (by decide) hg, fun j o hj => ?_⟩
    obtain ⟨x, hx, hc, hxv⟩ := h2 j o hj
    exact ⟨x, hx, hc, hxv.on hk⟩

set_option maxHeartbeats 4000000 in
theorem put_run (B : Nat) (w : World) (p : Nat) (ov vv hv rv tv : Value) (ops : List Opr) (vals : List (List Cl)) (st : Int) (heads : List ByteArray) (fu : Int) (h : Rn B w p ov vv hv rv tv ops vals st heads fu) (x : Value) (L : List Cl) (hx : VL B w x L) (lim : ((vals.length + 1) + (vals.length + 1) / 4 + 192) * 24 ≤ 281474976710656) :
    Calls Try.prog 50 #[.pointer (some ⟨p, 0, none⟩), x] w fun e w' => e = .returned (.tuple #[]) ∧ (∃ vv', Rn B w' p ov vv' hv rv tv ops (vals ++ [L]) st heads fu) ∧ K7 B w w' ∧ (∀ k, k < w.heap.size → k ≠ p → (∀ g, vv.ownBlock = some g → k ≠ g) → w'.heap[k]? = w.heap[k]?) ∧ w.heap.size ≤ w'.heap.size := by
  obtain ⟨i1, hi1, hy0, hy1, hy2⟩ := info_parts info23
  have HLIM : Hid (((vals.length + 1) + (vals.length + 1) / 4 + 192) * 24 ≤ 281474976710656) := lim
  have hBw : B ≤ w.heap.size := Nat.le_trans h.low (Nat.le_of_lt h.blk.lt)
  have HR : Hid (Rn B w p ov vv hv rv tv ops vals st heads fu) := h
  have HX : Hid (VL B w x L) := hx
  obtain ⟨xa, xc, hxv, _⟩ := hx.1
  subst hxv
  obtain ⟨vs, hrow, hel⟩ := h.vals
  have HEL : Hid (∀ (i : Nat) l, vals[i]? = some l → ∃ x, vs[i]? = some x ∧ x.oneCell' = true ∧ VL B w x l) := hel
  obtain ⟨va, vc, hvv, vl1, vl2, _⟩ := own_cells hrow
  subst hvv
  unfold maxLen at vl2
  have c1 := h.blk.cell (i := 1) rfl
  have hpl := h.blk.lt
  have hlow := h.low
  have hml : vals.length + 1 ≤ maxLen := by
    unfold maxLen
    have : (vals.length + 1) * 24 ≤ 281474976710656 := Nat.le_trans (Nat.mul_le_mul_right _ (by omega)) lim
    omega
  clear h hx hel lim
  go_enter Try.func50, Try.ntmps50
  go_wp2_with (at_builtin; refine wpList_append_own_wide _ rfl _ _ 25 rfl B 24 i1 (.slice none 0 0) 1 24 Try.underlying25 hi1 hy0 hy1 hy2 rfl (by decide) _ vals.length vs rfl (hrow.alloc _) ⟨w.heap.size, 0, none⟩ 1 1 [.slice xa L.length xc] rfl rfl (one_cell w _ _) ?e1 hml HLIM.out ?e4 ?_)
  case e1 => intro u hu; simp at hu; subst hu; rfl
  case e4 => simp; omega
  intro v' w6 hown' hgrow _
  have hb1 : Below w.heap.size w (w.alloc (.cells #[.slice xa L.length xc] 24)) := (Below.refl _ _).alloc (Nat.le_refl _) _
  have hk0 : K7 B w (w.alloc (.cells #[.slice xa L.length xc] 24)) := K7.of hb1 hBw
  have hk1 : K7 B (w.alloc (.cells #[.slice xa L.length xc] 24)) w6 := K7.row (hrow.alloc _) (by decide) (by simp; omega) hgrow
  have hR1 := HR.out.on hb1
  have hb6 : Blk w6 p #[ov, .slice va vals.length vc, .int .i64 st, hv, rv, .int .i64 fu, tv] 68 := blk_row hR1.blk (hrow.alloc _) (by decide) hgrow
  have ho6 : OpsV (VL B w6) w6 B ov ops := hR1.ops.apartK (hrow.alloc _) (by decide) hk1 hgrow
  have hh6 : OwnsS w6 B hv heads := own_apart7 hR1.heads (hrow.alloc _) (by decide) hgrow
  have hv6 : ValsV (VL B w6) w6 B v' (vals ++ [L]) := ValsV.more (ns := [.slice xa L.length xc]) (N := [L]) (row_len hrow) HEL.out (fun i o hi => by
    obtain ⟨rfl, rfl⟩ := one_get hi
    exact ⟨_, rfl, rfl, (HX.out.on hk0).on hk1⟩) hown' (fun x l hx => (hx.on hk0).on hk1)
  obtain ⟨na, nc, hnv, _⟩ := own_cells hown'
  subst hnv
  obtain ⟨hR7, hk7⟩ := Rn.put hb6 hlow 1 (.slice na (vals.length + 1) nc) (ov' := ov) (vv' := .slice na (vals.length + 1) nc) (hv' := hv) (st' := st) (fu' := fu) rfl ho6 hv6 hh6
  have f1 := hb6.free 1
  have c6 := hb6.cell (i := 1) rfl
  have HZ : Hid (Rn B (w6.setCell ⟨p, 1, none⟩ (.slice na (vals.length + 1) nc)) p ov (.slice na (vals.length + 1) nc) hv rv tv ops (vals ++ [L]) st heads fu ∧ K7 B w (w6.setCell ⟨p, 1, none⟩ (.slice na (vals.length + 1) nc))) := ⟨hR7, (hk0.trans hk1).trans hk7⟩
  have HU : Hid ((∀ k, k < w.heap.size → k ≠ p → (∀ g, (Value.slice va vals.length vc).ownBlock = some g → k ≠ g) → (w6.setCell ⟨p, 1, none⟩ (.slice na (vals.length + 1) nc)).heap[k]? = w.heap[k]?) ∧ w.heap.size ≤ (w6.setCell ⟨p, 1, none⟩ (.slice na (vals.length + 1) nc)).heap.size) := by
    have hsz := hgrow.size
    simp at hsz
    refine ⟨fun k hk hkp hkg => (Below.heap_setCell _ _ _ _ hkp).trans ((hgrow.block k (by simp; omega) (fun e => hkg k e.symm rfl)).trans (heap_alloc_old w _ hk)), ?_⟩
    simp [World.setCell]
    omega
  clear hR7 hk7 hv6 hh6 ho6 hb6 hR1 hk1 hk0 hb1 hgrow hown'
  go_wp2_with fail
  go_end0
  exact ⟨rfl, ⟨_, HZ.out.1⟩, HZ.out.2, HU.out.1, HU.out.2⟩

/-- a row with room for n cells -/
theorem grow_any (w : World) (n : Nat) (h0 : 0 < n) (hn : n ≤ 1000) :
    Calls Try.prog 88 #[.slice none 0 0, .int .i64 (n : Nat)] w fun e w' => ∃ v, e = .returned v ∧ Owns w' w.heap.size v [] ∧ Below w.heap.size w w' := by
  obtain ⟨i0, hi, hz0, hz1, hz2⟩ := info_parts info59
  refine (Any8.slices_Grow_grow Try.lays8_4 i0 (.agg #[.string ⟨#[]⟩, .int .i64 0]) hi hz0 (by rw [hz1]; decide) none 0 0 n [] w (Nat.le_refl _) (by omega) (by rw [hz2]; omega) (by omega) (by simp) (fun _ => rfl) (fun a h => by cases h)).mono ?_
  rintro e w' ⟨rfl, rfl⟩
  have hge := grownCap_ge w (0 + n) 0 49
  refine ⟨_, rfl, ?_, (Below.refl _ w).drew.alloc (Nat.le_refl _) _⟩
  exact World.ownsRow_made w.drew _ _ (Nat.le_refl _) (grownCap_le_maxLen _ _ _ _ (by unfold maxLen; omega)) (by
    simp only [Array.size_append, size_zeroCells, List.size_toArray, List.length_nil, Value.cells]
    show _ = grownCap w (0 + n) 0 49 * 2
    show 0 + (0 + n - 0) * 2 + (grownCap w (0 + n) 0 49 - (0 + n)) * 2 = _
    omega)

theorem flat_take {K : List (List Cl)} {k : Nat} {l : List Cl} (h : K[k]? = some l) : (K.take (k + 1)).flatten = (K.take k).flatten ++ l := by
  rw [List.take_add_one, h, List.flatten_append]
  simp
theorem flat_take_le {K : List (List Cl)} (k : Nat) : (K.take k).flatten.length ≤ K.flatten.length := by
  have : K.flatten = (K.take k).flatten ++ (K.drop k).flatten := by rw [← List.flatten_append, List.take_append_drop]
  rw [this, List.length_append]
  omega

set_option maxHeartbeats 4000000 in
theorem concat_any (w : World) (v : Value) (K : List (List Cl)) (hv : LiesT w v K) (h0 : 0 < K.flatten.length) (hn : K.flatten.length ≤ 1000) (hne : ∀ l ∈ K, l ≠ []) :
    Calls Try.prog 83 #[v] w fun e w' => ∃ v', e = .returned v' ∧ Owns w' w.heap.size v' K.flatten ∧ Below w.heap.size w w' := by
  obtain ⟨i0, hi, hz0, hz1, hz2⟩ := info_parts info59
  have HV : Hid (LiesT w v K) := hv
  have HNE : Hid (∀ l ∈ K, l ≠ []) := hne
  have hgr := fun w => grow_any w K.flatten.length h0 hn
  obtain ⟨N, hN⟩ : ∃ N, K.flatten.length = N := ⟨_, rfl⟩
  have HN : Hid (K.flatten.length = N) := hN
  rw [hN] at hgr h0 hn
  obtain ⟨a, c, rfl, hl1, hl2, _⟩ := hv
  have hlm : K.length ≤ 9223372036854775807 := by unfold maxLen at hl2; omega
  clear hne hN
  go_enter Try.func83, Try.ntmps83
  go_wp2_with fail
  go_loop [3, 11] (fun s i => ∃ k : Nat, k ≤ K.length ∧ i = .int .i64 (k : Nat) ∧ s = .int .i64 ((K.take k).flatten.length : Nat)) (fun _ i => K.length - (intOf i).toNat)
  case atStart => exact ⟨0, Nat.zero_le _, rfl, rfl⟩
  case round =>
    obtain ⟨k, hk, rfl, rfl⟩ := hrel
    have htk := flat_take_le (K := K) k
    rw [HN.out] at htk
    by_cases hlt : k < K.length
    · obtain ⟨l, hl⟩ : ∃ l, K[k]? = some l := ⟨K[k], List.getElem?_eq_getElem hlt⟩
      obtain ⟨g, off, x, rfl, hgl, c0, hlx⟩ := HV.out.at hl
      obtain ⟨xa, xc, rfl, _⟩ := hlx
      have hki : (k : Int) < (K.length : Int) := by omega
      have HT : Hid ((K.take (k + 1)).flatten.length = (K.take k).flatten.length + l.length) := by show _ = _; rw [flat_take hl, List.length_append]
      have htk2 := flat_take_le (K := K) (k + 1)
      rw [HN.out, HT.out] at htk2
      generalize (K.take k).flatten.length = m at HT htk htk2
      clear hl
      go_wp2_with fail
      go_round
      case rel => exact ⟨k + 1, by omega, by go_num, by rw [HT.out]; go_num⟩
      case measure => simp [intOf]; omega
    · have hki : ¬ (k : Int) < (K.length : Int) := by omega
      have hK : K.take k = K := List.take_of_length_le (by omega)
      rw [hK, HN.out]
      clear htk hK
      go_wp2_with (go_at_call 88; refine (hgr _).mono ?_; rintro e w1 ⟨v1, rfl, ho1, hb1⟩; have HO1 : Hid (Owns w1 w.heap.size v1 []) := ho1; obtain ⟨va, vc, hvv, _⟩ := own_cells ho1; subst hvv; clear ho1)
      have HB1 : Hid (Below w.heap.size w w1) := hb1
      clear hb1
      go_loopw [6, 27] (fun o i wr => ∃ k : Nat, k ≤ K.length ∧ i = .int .i64 (k : Nat) ∧ Owns wr w.heap.size o (K.take k).flatten ∧ Below w.heap.size w wr) (fun _ i _ => K.length - (intOf i).toNat)
      case atStart => exact ⟨0, Nat.zero_le _, rfl, HO1.out, HB1.out⟩
      case round =>
        clear HO1 HB1
        revert wr
        intro wo hrel
        obtain ⟨k, hk, rfl, hO, hb⟩ := hrel
        have hbs := hb.size
        have htk := flat_take_le (K := K) k
        rw [HN.out] at htk
        by_cases hlt : k < K.length
        · obtain ⟨l, hl⟩ : ∃ l, K[k]? = some l := ⟨K[k], List.getElem?_eq_getElem hlt⟩
          obtain ⟨g, off, x, rfl, hgl, c0, hlx⟩ := HV.out.at hl
          have d0 := (hb.cell (p := ⟨g, off + k, none⟩) hgl).trans c0
          have hlx2 := hlx.on hb
          obtain ⟨xa, xc, hxv, _, _, _, HCX⟩ := hlx2
          subst hxv
          have hln := HNE.out l (List.mem_of_getElem? hl)
          obtain ⟨ad, hxa⟩ : ∃ ad, xa = some ad := by
            cases xa with
            | some ad => exact ⟨ad, rfl⟩
            | none => exact absurd HCX.nil_or hln
          subst hxa
          have HSRC : Hid (∀ j u, (flatC l)[j]? = some u → wo.cell? (ad.add j) = some u) := HCX.src
          have hki : (k : Int) < (K.length : Int) := by omega
          have HT : Hid ((K.take (k + 1)).flatten = (K.take k).flatten ++ l) := flat_take hl
          have htk2 := flat_take_le (K := K) (k + 1)
          rw [HN.out, HT.out, List.length_append] at htk2
          obtain ⟨D, hD⟩ : ∃ D, (K.take k).flatten = D := ⟨_, rfl⟩
          rw [hD] at hO HT htk2 htk
          obtain ⟨ma, mc, hmv, _⟩ := own_cells hO
          subst hmv
          have hrow : wo.ownsRow w.heap.size 49 2 (.slice ma D.length mc) D.length (flatC D) := hO
          clear hl hD hlx HCX c0 hO
          go_wp2_with (at_builtin; refine wpList_append_own _ rfl _ _ 24 rfl w.heap.size 49 i0 (.agg #[.string ⟨#[]⟩, .int .i64 0]) 2 24 Try.underlying24 hi hz0 hz1 hz2 rfl (by decide) _ D.length (flatC D) rfl hrow ad l.length xc (flatC l) rfl (flatC_length l) HSRC.out (flatC_one l) ?q1 ?q2 hbs ?_)
          case q1 => unfold maxLen; omega
          case q2 => omega
          intro v' w6 hown' hgrow _
          have hO6 : Owns w6 w.heap.size v' (D ++ l) := by
            show World.ownsRow _ _ _ _ _ _ _
            rw [List.length_append, flatC_append]
            exact hown'
          have hb6 : Below w.heap.size w w6 := hb.grown hgrow hbs (fun k hk => (hrow.lt k hk).1)
          clear hown' hgrow hrow
          go_wp2_with fail
          go_roundw
          case rel => exact ⟨k + 1, by omega, by go_num, by rw [HT.out]; exact hO6, hb6⟩
          case measure => simp [intOf]; omega
        · have hki : ¬ (k : Int) < (K.length : Int) := by omega
          have HT : Hid ((K.take k).flatten = K.flatten) := by show _ = _; rw [List.take_of_length_le (by omega)]
          go_wp2_with fail
          go_ret
          exact ⟨_, rfl, by rw [← HT.out]; exact hO, hb⟩

theorem node_any (B : Nat) (w : World) (p : Nat) (ov vv hv rv tv : Value) (ops : List Opr) (vals : List (List Cl)) (st : Int) (heads : List ByteArray) (fu : Int) (h : Rn B w p ov vv hv rv tv ops vals st heads fu) (c : Cl) (h0 : 0 ≤ c.ar) (h4 : c.ar ≤ 4) (hn : c.nm.size ≤ 8) (har : c.ar.toNat ≤ vals.length) (hg : ∀ v ∈ vals, grd v = true) :
    Calls Try.prog 72 #[.pointer (some ⟨p, 0, none⟩), .agg #[.string c.nm, .int .i64 c.ar]] w fun e w' => ∃ v', e = .returned v' ∧ Owns w' w.heap.size v' (node c vals) ∧ Below w.heap.size w w' := by
  obtain ⟨i1, hi1, hy0, hy1, hy2⟩ := info_parts info23
  have HR : Hid (Rn B w p ov vv hv rv tv ops vals st heads fu) := h
  obtain ⟨va, vc, hvv⟩ := h.vals.form
  subst hvv
  have vl : vals.length ≤ vc ∧ vc ≤ maxLen := by
    obtain ⟨_, hr, _⟩ := h.vals
    obtain ⟨_, _, e, q1, q2, _⟩ := own_cells hr
    cases e; exact ⟨q1, q2⟩
  unfold maxLen at vl
  obtain ⟨vl1, vl2⟩ := vl
  obtain ⟨cnm, car⟩ := c
  simp only at h0 h4 hn har
  obtain ⟨ar, rfl⟩ : ∃ ar : Nat, car = (ar : Int) := ⟨car.toNat, by omega⟩
  simp only [Int.toNat_natCast] at har
  have har4 : ar ≤ 4 := by omega
  -- the terms that are put together
  obtain ⟨KS, hKS⟩ : ∃ KS, vals.drop (vals.length - ar) = KS := ⟨_, rfl⟩
  have hKl : KS.length = ar := by rw [← hKS, List.length_drop]; omega
  have HNODE : Hid (([[(⟨cnm, (ar : Int)⟩ : Cl)]] ++ KS).flatten = node ⟨cnm, (ar : Int)⟩ vals) := by
    show _ = _
    unfold node
    simp only [Int.toNat_natCast]
    rw [hKS]
    rfl
  have hKg : ∀ l ∈ KS, grd l = true := fun l hl => hg l (by rw [← hKS] at hl; exact List.mem_of_mem_drop hl)
  have HKN : Hid (∀ l ∈ [[(⟨cnm, (ar : Int)⟩ : Cl)]] ++ KS, l ≠ ([] : List Cl)) := fun l hl => by
    rcases List.mem_append.1 hl with hl | hl
    · simp at hl; rw [hl]; simp
    · intro e
      have := (grd_iff.1 (hKg l hl)).1
      rw [e] at this
      cases (check_zero this).2.2
  have HKL : Hid (0 < ([[(⟨cnm, (ar : Int)⟩ : Cl)]] ++ KS).flatten.length ∧ ([[(⟨cnm, (ar : Int)⟩ : Cl)]] ++ KS).flatten.length ≤ 1000) := by
    refine ⟨by simp, ?_⟩
    have key : ∀ (K : List (List Cl)), (∀ l ∈ K, l.length ≤ 64) → K.flatten.length ≤ 64 * K.length := by
      intro K
      induction K with
      | nil => intro _; simp
      | cons l r ih =>
        intro hl
        have h1 := ih (fun m hm => hl m (by simp [hm]))
        have h2 := hl l (by simp)
        simp only [List.flatten_cons, List.length_append, List.length_cons]
        omega
    have := key ([[(⟨cnm, (ar : Int)⟩ : Cl)]] ++ KS) (fun l hl => by
      rcases List.mem_append.1 hl with hl | hl
      · simp at hl; rw [hl]; simp
      · exact (check_zero (grd_iff.1 (hKg l hl)).1).1)
    rw [List.length_append] at this
    simp only [List.length_cons, List.length_nil] at this
    omega
  have hb0 : Below w.heap.size w (w.alloc (.cells #[.string cnm, .int .i64 (ar : Int)] 49)) := (Below.refl _ w).alloc (Nat.le_refl _) _
  have HX : Hid (Blk (w.alloc (.cells #[.string cnm, .int .i64 (ar : Int)] 49)) w.heap.size #[.string cnm, .int .i64 (ar : Int)] 49) := Blk.made _ _ _
  have HB0 : Hid (Below w.heap.size w (w.alloc (.cells #[.string cnm, .int .i64 (ar : Int)] 49))) := hb0
  have HR1 : Hid (Rn B (w.alloc (.cells #[.string cnm, .int .i64 (ar : Int)] 49)) p ov (.slice va vals.length vc) hv rv tv ops vals st heads fu) := h.on hb0
  have hlow := h.low
  have hsub : ((vals.length : Int) - (ar : Int)) = ((vals.length - ar : Nat) : Int) := by omega
  have hW := wrap_nat (vals.length - ar) (by omega)
  have b1 : ((vals.length - ar : Nat) : Int) ≤ (vals.length : Int) := by omega
  have b2 : vals.length - ar ≤ vals.length := by omega
  have b3 : vals.length - (vals.length - ar) = ar := by omega
  clear h hb0 hKg hg
  generalize node ⟨cnm, (ar : Int)⟩ vals = ND at HNODE ⊢
  go_enter Try.func72, Try.ntmps72
  go_wp2_with fail
  have c1 := HR1.out.blk.cell (i := 1) rfl
  have x0 := HX.out.cell (i := 0) rfl
  have x1 := HX.out.cell (i := 1) rfl
  generalize w.alloc (.cells #[.string cnm, .int .i64 (ar : Int)] 49) = w1 at HX HB0 HR1 c1 x0 x1 ⊢
  go_quiet (fail)
  -- where the kids lie
  obtain ⟨vs, hrow, hel⟩ := HR1.out.vals
  have hvs := row_len hrow
  have HKIDS : Hid (∀ (i : Nat) l, KS[i]? = some l → ∃ x, (vs.drop (vals.length - ar))[i]? = some x ∧ x.oneCell' = true ∧ VL B w1 x l) := fun i l hi => by
    rw [← hKS, List.getElem?_drop] at hi
    obtain ⟨x, hx, hc, hv⟩ := hel _ l hi
    exact ⟨x, by rw [List.getElem?_drop]; exact hx, hc, hv⟩
  have hkv : (vs.drop (vals.length - ar)).length = ar := by rw [List.length_drop]; omega
  have HSRC : Hid (∀ ad, (if vc = vals.length - ar then va else Option.map (fun x => x.add (vals.length - ar)) va) = some ad → ∀ j u, (vs.drop (vals.length - ar))[j]? = some u → w1.cell? (ad.add j) = some u) := fun ad had j u hu => by
    have hj := (List.getElem?_eq_some_iff.1 hu).1
    rw [hkv] at hj
    rw [if_neg (by omega)] at had
    rw [List.getElem?_drop] at hu
    obtain ⟨a', c', e, _, _, hc⟩ := own_cells hrow
    cases e
    obtain ⟨g', e, _, _, hh⟩ := hc _ u hu
    cases e
    simp only [Option.map_some, Option.some.injEq] at had
    subst had
    rw [Addr.add_lit, Addr.add_lit]
    simpa using hh
  have hone : ∀ u ∈ vs.drop (vals.length - ar), u.oneCell' = true := fun u hu => by
    obtain ⟨j, hj⟩ := List.getElem?_of_mem hu
    have hjl := (List.getElem?_eq_some_iff.1 hj).1
    rw [hkv] at hjl
    obtain ⟨x, hx, hc, _⟩ := HKIDS.out j KS[j] (List.getElem?_eq_getElem (by omega))
    rw [hj] at hx
    cases hx
    exact hc
  have HKA : Hid ((if vc = vals.length - ar then va else Option.map (fun x => x.add (vals.length - ar)) va) = none → ar = 0 ∧ vc - (vals.length - ar) = 0) := fun hn => by
    have hva : va = none := by
      split at hn
      · exact hn
      · simpa using hn
    subst hva
    rcases hrow.2 with ⟨e, _⟩ | ⟨g, cap, cur, e, _⟩
    · injection e with _ e2 e3
      exact ⟨by omega, by omega⟩
    · cases e
  generalize (if vc = vals.length - ar then va else Option.map (fun x => x.add (vals.length - ar)) va) = KA at HSRC HKA ⊢
  generalize hkvs : vs.drop (vals.length - ar) = kvs at HKIDS hkv HSRC hone
  have y0 : (w1.drewN nq).cell? ⟨w.heap.size, 0, none⟩ = some (.string cnm) := x0
  have y1 : (w1.drewN nq).cell? ⟨w.heap.size, 1, none⟩ = some (.int .i64 (ar : Int)) := x1
  have hbd : Below w.heap.size w (w1.drewN nq) := HB0.out.trans ((below_drewN _ _).mono HB0.out.size)
  have hkd : K7 B w1 (w1.drewN nq) := K7.of (below_drewN _ _) (Nat.le_trans hlow (Nat.le_of_lt HR1.out.blk.lt))
  have HKID2 : Hid (∀ (i : Nat) l, KS[i]? = some l → ∃ x, kvs[i]? = some x ∧ x.oneCell' = true ∧ VL B (w1.drewN nq) x l) := fun i l hi => by
    obtain ⟨x, h1, h2, h3⟩ := HKIDS.out i l hi
    exact ⟨x, h1, h2, h3.on hkd⟩
  have HSRC2 : Hid (∀ ad, KA = some ad → ∀ j u, kvs[j]? = some u → (w1.drewN nq).cell? (ad.add j) = some u) := HSRC.out
  have hBw : B ≤ w.heap.size := Nat.le_trans hlow (Nat.le_of_lt HR.out.blk.lt)
  clear c1 x0 x1 hrow hel hvs hkvs HKIDS HSRC HR1 HX hkd HB0
  generalize w1.drewN nq = w2 at y0 y1 hbd HKID2 HSRC2 ⊢
  -- the two blocks that are made
  have hs2 := hbd.size
  have hown1 : Owns (w2.alloc (.cells #[.string cnm, .int .i64 (ar : Int)] 49)) w.heap.size (.slice (some ⟨w2.heap.size, 0, none⟩) 1 1) [⟨cnm, (ar : Int)⟩] := own_base (own_lit w2 [⟨cnm, (ar : Int)⟩] (by unfold maxLen; simp)) hs2
  have hb3 : Below w2.heap.size w2 (w2.alloc (.cells #[.string cnm, .int .i64 (ar : Int)] 49)) := (Below.refl _ _).alloc (Nat.le_refl _) _
  generalize hw3 : w2.alloc (.cells #[.string cnm, .int .i64 (ar : Int)] 49) = w3 at hown1 hb3
  have hrow3 : (w3.alloc (.cells #[.slice (some ⟨w2.heap.size, 0, none⟩) 1 1] 24)).ownsRow w.heap.size 24 1 (.slice (some ⟨w3.heap.size, 0, none⟩) 1 1) 1 [.slice (some ⟨w2.heap.size, 0, none⟩) 1 1] := ⟨rfl, .inr ⟨w3.heap.size, 1, #[.slice (some ⟨w2.heap.size, 0, none⟩) 1 1], rfl, Nat.le_trans hs2 hb3.size, heap_alloc_new w3 _, Nat.le_refl _, by decide, rfl, rfl⟩⟩
  have hb4 : Below w3.heap.size w3 (w3.alloc (.cells #[.slice (some ⟨w2.heap.size, 0, none⟩) 1 1] 24)) := (Below.refl _ _).alloc (Nat.le_refl _) _
  subst hw3
  have HK4 : Hid (K7 B w2 ((w2.alloc (.cells #[.string cnm, .int .i64 (ar : Int)] 49)).alloc (.cells #[.slice (some ⟨w2.heap.size, 0, none⟩) 1 1] 24))) := K7.of ((Below.refl _ w2).alloc (Nat.le_refl _) _ |>.alloc (by simp) _) (Nat.le_trans hBw hs2)
  have HV4 : Hid (VL B ((w2.alloc (.cells #[.string cnm, .int .i64 (ar : Int)] 49)).alloc (.cells #[.slice (some ⟨w2.heap.size, 0, none⟩) 1 1] 24)) (.slice (some ⟨w2.heap.size, 0, none⟩) 1 1) [⟨cnm, (ar : Int)⟩]) := VL.own (own_below hown1 hb4) (fine_small (fun c hc => by simp at hc; subst hc; exact ⟨hn, h0, h4⟩))
  have HB4 : Hid (Below w.heap.size w ((w2.alloc (.cells #[.string cnm, .int .i64 (ar : Int)] 49)).alloc (.cells #[.slice (some ⟨w2.heap.size, 0, none⟩) 1 1] 24))) := (hbd.alloc hs2 _).alloc (by simp; omega) _
  have HR4 : Hid (((w2.alloc (.cells #[.string cnm, .int .i64 (ar : Int)] 49)).alloc (.cells #[.slice (some ⟨w2.heap.size, 0, none⟩) 1 1] 24)).ownsRow w.heap.size 24 1 (.slice (some ⟨w2.heap.size + 1, 0, none⟩) 1 1) 1 [.slice (some ⟨w2.heap.size, 0, none⟩) 1 1]) := by show World.ownsRow _ _ _ _ _ _ _; simpa using hrow3
  have HSR4 : Hid (∀ ad, KA = some ad → ∀ j u, kvs[j]? = some u → ((w2.alloc (.cells #[.string cnm, .int .i64 (ar : Int)] 49)).alloc (.cells #[.slice (some ⟨w2.heap.size, 0, none⟩) 1 1] 24)).cell? (ad.add j) = some u) := fun ad had j u hu => Lib.cell?_alloc_some _ (Lib.cell?_alloc_some _ (HSRC2.out ad had j u hu))
  have hs4 := HB4.out.size
  have HTAIL : Hid (∀ w6 v6, w6.ownsRow w.heap.size 24 1 v6 (1 + ar) ([.slice (some ⟨w2.heap.size, 0, none⟩) 1 1] ++ kvs) → K7 B ((w2.alloc (.cells #[.string cnm, .int .i64 (ar : Int)] 49)).alloc (.cells #[.slice (some ⟨w2.heap.size, 0, none⟩) 1 1] 24)) w6 → LiesT w6 v6 ([[(⟨cnm, (ar : Int)⟩ : Cl)]] ++ KS)) := fun w6 v6 hr hk => by
    have : ValsV (VL B w6) w6 w.heap.size v6 ([[(⟨cnm, (ar : Int)⟩ : Cl)]] ++ KS) := ValsV.more (K := [[(⟨cnm, (ar : Int)⟩ : Cl)]]) (vs := [.slice (some ⟨w2.heap.size, 0, none⟩) 1 1]) (ns := kvs) rfl (fun i l hi => by
      obtain ⟨rfl, rfl⟩ := one_get hi
      exact ⟨_, rfl, rfl, HV4.out⟩) (fun i l hi => by
      obtain ⟨x, h1, h2, h3⟩ := HKID2.out i l hi
      exact ⟨x, h1, h2, (h3.on HK4.out).on hk⟩) (by rw [hKl]; exact hr) (fun x l (hx : VL B _ x l) => hx.on hk)
    exact this.lies (fun x l hx => hx.1)
  clear hrow3 hb4 hown1 hb3 hbd hKS
  cases KA with
  | none =>
    obtain ⟨har0, hcz⟩ := HKA.out rfl
    rw [hcz]
    subst har0
    have hk0 : kvs = [] := List.eq_nil_of_length_eq_zero hkv
    subst hk0
    have hcc := concat_any _ _ _ (HTAIL.out _ _ HR4.out (K7.refl _ _)) HKL.out.1 HKL.out.2 HKN.out
    rw [HNODE.out] at hcc
    have hb6 := HB4.out
    have hs6 := hb6.size
    have HB6 : Hid (Below w.heap.size w _) := hb6
    clear hb6
    go_wp2_with (first | (at_builtin; refine wpList_append_own_none rfl _ _ 25 rfl w.heap.size 24 i1 1 Try.underlying25 hi1 _ 1 [.slice (some ⟨w2.heap.size, 0, none⟩) 1 1] rfl HR4.out rfl ?_) | (go_at_call 83; refine hcc.mono ?_; rintro e w7 ⟨v7, rfl, ho7, hb7⟩; have HO7 : Hid (Owns w7 w.heap.size v7 _) := own_base ho7 hs6; obtain ⟨za, zc, hzv, _⟩ := own_cells ho7; subst hzv))
    go_ret
    exact ⟨_, rfl, HO7.out, HB6.out.trans (hb7.mono hs6)⟩
  | some ad =>
    go_wp2_with (first | (at_builtin; refine wpList_append_own _ rfl _ _ 25 rfl w.heap.size 24 i1 (.slice none 0 0) 1 24 Try.underlying25 hi1 hy0 hy1 hy2 rfl (by decide) _ 1 [.slice (some ⟨w2.heap.size, 0, none⟩) 1 1] rfl HR4.out ad ar _ kvs rfl (by rw [hkv, Nat.mul_one]) (HSR4.out ad rfl) hone ?k1 ?k2 hs4 ?_))
    case k1 => unfold maxLen; omega
    case k2 => omega
    intro v6 w6 hown6 hgrow6 _
    have hk6 := K7.row (own_base HR4.out hBw) (by decide) (Nat.le_trans hBw hs4) hgrow6
    have hb6 := HB4.out.grown hgrow6 hs4 (fun k hk => (HR4.out.lt k hk).1)
    have hcc := concat_any w6 v6 _ (HTAIL.out w6 v6 hown6 hk6) HKL.out.1 HKL.out.2 HKN.out
    rw [HNODE.out] at hcc
    obtain ⟨na, nc, hnv, _⟩ := own_cells hown6
    subst hnv
    clear hown6 hgrow6 hk6
    go_wp2_with (go_at_call 83; refine hcc.mono ?_; rintro e w7 ⟨v7, rfl, ho7, hb7⟩; have HO7 : Hid (Owns w7 w.heap.size v7 _) := own_base ho7 hb6.size; obtain ⟨za, zc, hzv, _⟩ := own_cells ho7; subst hzv)
    go_ret
    exact ⟨_, rfl, HO7.out, hb6.trans (hb7.mono hb6.size)⟩

/-- a list of names that lies in no block of the run's own -/
def Off (p : Nat) (hv nv : Value) : Prop := ∀ a n c, nv = .slice (some a) n c → a.block ≠ p ∧ ∀ g, hv.ownBlock = some g → a.block ≠ g
theorem LiesS.kept {w w' : World} {v : Value} {S : List ByteArray} (h : LiesS w v S) (hk : ∀ a n c, v = .slice (some a) n c → a.block < w.heap.size → w'.heap[a.block]? = w.heap[a.block]?) (hs : w.heap.size ≤ w'.heap.size) : LiesS w' v S := by
  obtain ⟨a, cap, hv, c1, c2, c3⟩ := h
  refine ⟨a, cap, hv, c1, c2, fun j x hj => ?_⟩
  obtain ⟨b, off, ha, hlt, hc⟩ := c3 j x hj
  subst ha
  exact ⟨b, off, rfl, Nat.lt_of_lt_of_le hlt hs, (World.cell?_of_block (a := ⟨b, off + j, none⟩) (show w'.heap[b]? = w.heap[b]? from hk ⟨b, off, none⟩ _ _ hv hlt)).trans hc⟩

set_option maxHeartbeats 4000000 in
theorem join_run (B : Nat) (w : World) (p : Nat) (ov vv hv rv tv : Value) (ops : List Opr) (vals : List (List Cl)) (st : Int) (heads : List ByteArray) (fu : Int) (h : Rn B w p ov vv hv rv tv ops vals st heads fu) (nv : Value) (M : List ByteArray) (hM : LiesS w nv M) (hoff : Off p hv nv) (hH : Hds heads) (hMk : ∀ x ∈ M, kind x.data.toList = 1) :
    Calls Try.prog 74 #[.pointer (some ⟨p, 0, none⟩), nv] w fun e w' => e = .returned (.tuple #[]) ∧ (∃ hv', Rn B w' p ov vv hv' rv tv ops vals st (jn heads M) fu) ∧ K7 B w w' := by
  have HR0 : Hid (Rn B w p ov vv hv rv tv ops vals st heads fu) := h
  have HM0 : Hid (LiesS w nv M) := hM
  have HO0 : Hid (Off p hv nv) := hoff
  have HH0 : Hid (Hds heads) := hH
  have HK0 : Hid (∀ x ∈ M, kind x.data.toList = 1) := hMk
  obtain ⟨na, nc, rfl, nl1, nl2, _⟩ := hM
  have hml : M.length ≤ 9223372036854775807 := by unfold maxLen at nl2; omega
  have hlow := h.low
  clear h hoff hH hMk
  go_enter Try.func74, Try.ntmps74
  go_wp2_with fail
  go_loopw [10] (fun i wr => ∃ (k : Nat) (hv' : Value), k ≤ M.length ∧ i = .int .i64 (k : Nat) ∧ Rn B wr p ov vv hv' rv tv ops vals st (jn heads (M.take k)) fu ∧ Hid (K7 B w wr) ∧ LiesS wr (.slice na M.length nc) M ∧ Hid (Off p hv' (.slice na M.length nc)) ∧ Hid (Hds (jn heads (M.take k)))) (fun i _ => M.length - (intOf i).toNat)
  case atStart => exact ⟨0, _, Nat.zero_le _, rfl, HR0.out, K7.refl _ _, HM0.out, HO0.out, HH0.out⟩
  case round =>
    obtain ⟨k, hv', hk, rfl, hR, HK, hM, HO, HHD⟩ := hrel
    clear HR0 HM0
    by_cases hlt : k < M.length
    · obtain ⟨x, hx⟩ : ∃ x, M[k]? = some x := ⟨M[k], List.getElem?_eq_getElem hlt⟩
      have hki : (k : Int) < (M.length : Int) := by omega
      have HJ : Hid (jn heads (M.take (k + 1)) = jn1 (jn heads (M.take k)) x) := by
        show _ = _
        unfold jn
        rw [List.take_add_one, hx, List.foldl_append]
        rfl
      have hxk := HK0.out x (List.mem_of_getElem? hx)
      obtain ⟨S, hS⟩ : ∃ S, jn heads (M.take k) = S := ⟨_, rfl⟩
      rw [hS] at hR HHD HJ
      have hsl := HHD.out.len
      have HHD2 : Hid (Hds (jn1 S x)) := HHD.out.more hxk
      have hsr := search_any wr hv' S (OwnsS.lies hR.heads) HHD.out.up x hsl
      have HS1 : Hid (jn1 S x = if S[low S x]? = some x then S else S.take (low S x) ++ x :: S.drop (low S x)) := jn1_at S x
      have hll := low_le S x
      obtain ⟨g, off, hna, hgl, c0⟩ : ∃ g off, na = some ⟨g, off, none⟩ ∧ g < wr.heap.size ∧ wr.cell? ⟨g, off + k, none⟩ = some (.string x) := by
        obtain ⟨a', c', hv', _, _, HC'⟩ := hM
        cases hv'
        exact HC' k x hx
      subst hna
      obtain ⟨ha, hc, hhv⟩ := OwnsS.form hR.heads
      subst hhv
      have HR : Hid (Rn B wr p ov vv (.slice ha S.length hc) rv tv ops vals st S fu) := hR
      have HMM : Hid (LiesS wr (.slice (some ⟨g, off, none⟩) M.length nc) M) := hM
      have d3 := hR.blk.cell (i := 3) rfl
      generalize low S x = j at hsr HS1 hll
      clear hx hS hR hM hxk
      by_cases hth : S[j]? = some x
      · have hde : decide (S[j]? = some x) = true := decide_eq_true hth
        rw [hde] at hsr
        have HS2 : Hid (jn1 S x = S) := by show _ = _; rw [HS1.out, if_pos hth]
        clear hth hde HS1
        go_wp2_with (go_at_call 85; refine hsr.mono ?_; rintro e w1 ⟨rfl, q, rfl⟩)
        go_roundw
        case rel =>
          have hb : Below wr.heap.size wr (wr.drewN q) := below_drewN _ _
          refine ⟨k + 1, _, by omega, by go_num, ?_, (HK.out.trans (K7.of hb (Nat.le_trans hlow (Nat.le_of_lt HR.out.blk.lt)))), HMM.out.on hb, HO, ?_⟩
          · rw [HJ.out, HS2.out]; exact HR.out.on hb
          · rw [HJ.out]; exact HHD2
        case measure => simp [intOf]; omega
      · have hde : decide (S[j]? = some x) = false := decide_eq_false hth
        rw [hde] at hsr
        have HS2 : Hid (jn1 S x = S.take j ++ x :: S.drop j) := by show _ = _; rw [HS1.out, if_neg hth]
        clear hth hde HS1
        have hins : ∀ q, Calls Try.prog 86 #[.slice ha S.length hc, .int .i64 (j : Nat), .slice (some ⟨wr.heap.size, 0, none⟩) 1 1] ((wr.drewN q).alloc (.cells #[.string x] 9)) fun e w' => ∃ v', e = .returned v' ∧ OwnsS w' B v' (S.take j ++ x :: S.drop j) ∧ ((wr.drewN q).alloc (.cells #[.string x] 9)).grownBy w' (Value.slice ha S.length hc).ownBlock ∧ (v'.ownBlock = (Value.slice ha S.length hc).ownBlock ∨ ∃ g, v'.ownBlock = some g ∧ ((wr.drewN q).alloc (.cells #[.string x] 9)).heap.size ≤ g) := fun q => by
          have h1 := HR.out.heads
          have hlt := (h1.lt)
          refine insert_any _ B _ S (World.ownsRow.alloc (own_below h1 (below_drewN wr q)) _) j hll x wr.heap.size (Blk.madeAt _ _ _ rfl) (fun g hg => ?_) ?_ (by omega)
          · have := (hlt g hg).2; omega
          · have := HR.out.blk.lt; simp; show B ≤ wr.heap.size + 1; omega
        obtain ⟨T, hT⟩ : ∃ T, S.take j ++ x :: S.drop j = T := ⟨_, rfl⟩
        rw [hT] at HS2 hins
        clear hT
        have HON : Hid (∀ q, Rn B ((wr.drewN q).alloc (.cells #[.string x] 9)) p ov vv (.slice ha S.length hc) rv tv ops vals st S fu ∧ K7 B wr ((wr.drewN q).alloc (.cells #[.string x] 9)) ∧ LiesS ((wr.drewN q).alloc (.cells #[.string x] 9)) (.slice (some ⟨g, off, none⟩) M.length nc) M) := fun q => by
          have hb : Below wr.heap.size wr ((wr.drewN q).alloc (.cells #[.string x] 9)) := (below_drewN wr q).alloc (Nat.le_refl _) _
          exact ⟨HR.out.on hb, K7.of hb (Nat.le_trans hlow (Nat.le_of_lt HR.out.blk.lt)), HMM.out.on hb⟩
        go_wp2_with (first | (go_at_call 85; refine hsr.mono ?_; rintro e w1 ⟨rfl, q, rfl⟩; have d4 : (wr.drewN q).cell? ⟨p, 3, none⟩ = some (.slice ha S.length hc) := d3) | (go_at_call 86; refine (hins _).mono ?_; rintro e w2 ⟨v2, rfl, ho2, hg2, hn2⟩; obtain ⟨va2, vc2, hv2⟩ := ho2.form; subst hv2; have hb2 := blk_row (HON.out q).1.blk (HON.out q).1.heads (by decide) hg2; have f3 := hb2.free 3; have c3 := hb2.cell (i := 3) rfl))
        have hk2 : K7 B ((wr.drewN q).alloc (.cells #[.string x] 9)) w2 := K7.row (HON.out q).1.heads (by decide) (Nat.le_trans hlow (Nat.le_of_lt (HON.out q).1.blk.lt)) hg2
        obtain ⟨hR7, hk7⟩ := Rn.put hb2 hlow 3 (.slice va2 T.length vc2) (ov' := ov) (vv' := vv) (hv' := .slice va2 T.length vc2) (st' := st) (fu' := fu) rfl ((HON.out q).1.ops.apartK (HON.out q).1.heads (by decide) hk2 hg2) ((HON.out q).1.vals.apartK (HON.out q).1.heads (by decide) hk2 hg2) ho2
        have hM7 : LiesS (w2.setCell ⟨p, 3, none⟩ (.slice va2 T.length vc2)) (.slice (some ⟨g, off, none⟩) M.length nc) M := by
          refine (HON.out q).2.2.kept (fun a n c ha hl => ?_) (Nat.le_trans hg2.size (by simp [World.setCell]))
          have := HO.out a n c ha
          cases ha
          refine (Below.heap_setCell _ _ _ _ (by exact this.1)).trans (hg2.block g hl (fun e => ?_))
          exact this.2 g e.symm rfl
        have hO7 : Off p (.slice va2 T.length vc2) (.slice (some ⟨g, off, none⟩) M.length nc) := fun a n c ha => by
          have := HO.out a n c ha
          refine ⟨this.1, fun g' hg' => ?_⟩
          rcases hn2 with e | ⟨g2, e1, e2⟩
          · rw [e] at hg'; exact this.2 g' hg'
          · rw [e1] at hg'
            have eg : g2 = g' := Option.some.inj hg'
            cases ha
            simp at e2
            show g ≠ g'
            have : (wr.drewN q).heap.size = wr.heap.size := rfl
            omega
        have HZ : Hid (Rn B (w2.setCell ⟨p, 3, none⟩ (.slice va2 T.length vc2)) p ov vv (.slice va2 T.length vc2) rv tv ops vals st (T) fu ∧ K7 B w (w2.setCell ⟨p, 3, none⟩ (.slice va2 T.length vc2)) ∧ LiesS (w2.setCell ⟨p, 3, none⟩ (.slice va2 T.length vc2)) (.slice (some ⟨g, off, none⟩) M.length nc) M ∧ Off p (.slice va2 T.length vc2) (.slice (some ⟨g, off, none⟩) M.length nc)) := ⟨hR7, HK.out.trans ((HON.out q).2.1.trans (hk2.trans hk7)), hM7, hO7⟩
        clear hR7 hk7 hM7 hO7 hk2 hb2 f3 c3 hg2 hn2 ho2
        go_roundw
        case rel => exact ⟨k + 1, _, by omega, by go_num, by rw [HJ.out, HS2.out]; exact HZ.out.1, HZ.out.2.1, HZ.out.2.2.1, HZ.out.2.2.2, by rw [HJ.out]; exact HHD2⟩
        case measure => simp [intOf]; omega
    · have hki : ¬ (k : Int) < (M.length : Int) := by omega
      rw [List.take_of_length_le (by omega)] at hR
      have HR : Hid (Rn B wr p ov vv hv' rv tv ops vals st (jn heads M) fu) := hR
      clear hR hM
      go_wp2_with fail
      go_end0
      exact ⟨rfl, ⟨_, HR.out⟩, HK.out⟩

end Go.Proofs.Ytbdlokijednoiaa
