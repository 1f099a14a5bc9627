/-
  ask with the laws' table.
-/
import Derived.Test.YtbdlokijednoiaaBY
import Derived.Recover
import Derived.Laws.Pointers
namespace Go.Proofs.Ytbdlokijednoiaa
open Go.RowKit
set_option linter.unusedVariables false
set_option linter.unusedSimpArgs false
set_option maxRecDepth 100000

theorem caught_idle (w : World) (p q r : Value) :
    CallsD Try.prog 84 #[p, q, r] .returning w fun e u' w' => e = .returned (.tuple #[]) ∧ u' = .returning ∧ w = w' := by
  refine callsD_of_wpS Try.func84 rfl fun c₀ cs hu => ?_
  apply wpS_seq
  apply wpS_region
  simp [wpOpsS, go_sem, recoverD, hu, Try.ntmps84, Exit.thenS, Array.replicate]
  refine wpS_of_wp ?_
  go_wp2
  cases c₀
  simp_all [bodyPostS, results, Try.results84]

theorem wp_still {P : Program} {s : Code} {K : Act → World → Prop} {Q' : Exit → Act → World → Prop} {a : Act} {w : World} (h : s.wp P (Exit.then K (fun _ _ _ => False)) a w) : s.wp P (Exit.then K Q') a w := by
  refine wp_mono h ?_
  intro e a' w' hq
  cases e with
  | normal => exact hq
  | exit id => exact hq.elim
  | goto l => exact hq.elim
  | ret => exact hq.elim
  | panic ch => exact hq.elim
  | outgrown => exact hq.elim
/-- the three results' variables -/
structure V3 (b : Nat) (x y z : Value) (w : World) : Prop where
  h0 : Blk w b #[x] 24
  h1 : Blk w (b + 1) #[y] 34
  h2 : Blk w (b + 1 + 1) #[z] 4
theorem V3.on {b : Nat} {x y z : Value} {w w' : World} (h : V3 b x y z w) (hb : Below w.heap.size w w') : V3 b x y z w' := ⟨h.h0.on hb h.h0.lt, h.h1.on hb h.h1.lt, h.h2.on hb h.h2.lt⟩
theorem V3.made (w : World) : V3 w.heap.size (.slice none 0 0) (.slice none 0 0) (.bool false) (((w.alloc (.cells #[.slice none 0 0] 24)).alloc (.cells #[.slice none 0 0] 34)).alloc (.cells #[.bool false] 4)) := by
  refine ⟨((Blk.made w _ 24).alloc _).alloc _, ?_, ?_⟩
  · have := (Blk.made (w.alloc (.cells #[.slice none 0 0] 24)) #[.slice none 0 0] 34).alloc (.cells #[.bool false] 4)
    simpa using this
  · have := Blk.made ((w.alloc (.cells #[.slice none 0 0] 24)).alloc (.cells #[.slice none 0 0] 34)) #[.bool false] 4
    simpa using this
theorem V3.s0 {b : Nat} {x y z : Value} {w : World} (h : V3 b x y z w) (x' : Value) : V3 b x' y z (w.setCell ⟨b, 0, none⟩ x') :=
  ⟨by simpa using h.h0.set 0 x', ((set_grown w b 0 x').block _ h.h1.lt (by simp)).trans h.h1, ((set_grown w b 0 x').block _ h.h2.lt (by simp; omega)).trans h.h2⟩
theorem V3.s1 {b : Nat} {x y z : Value} {w : World} (h : V3 b x y z w) (y' : Value) : V3 b x y' z (w.setCell ⟨b + 1, 0, none⟩ y') :=
  ⟨((set_grown w (b + 1) 0 y').block _ h.h0.lt (by simp)).trans h.h0, by simpa using h.h1.set 0 y', ((set_grown w (b + 1) 0 y').block _ h.h2.lt (by simp)).trans h.h2⟩
theorem V3.s2 {b : Nat} {x y z : Value} {w : World} (h : V3 b x y z w) (z' : Value) : V3 b x y z' (w.setCell ⟨b + 1 + 1, 0, none⟩ z') :=
  ⟨((set_grown w (b + 1 + 1) 0 z').block _ h.h0.lt (by simp; omega)).trans h.h0, ((set_grown w (b + 1 + 1) 0 z').block _ h.h1.lt (by simp)).trans h.h1, by simpa using h.h2.set 0 z'⟩
def W3s (b : Nat) (x y z : Value) (w : World) : World := ((w.setCell ⟨b, 0, none⟩ x).setCell ⟨b + 1, 0, none⟩ y).setCell ⟨b + 1 + 1, 0, none⟩ z
theorem V3.put {b : Nat} {x y z : Value} {w : World} (h : V3 b x y z w) (x' y' z' : Value) : V3 b x' y' z' (W3s b x' y' z' w) := ((h.s0 x').s1 y').s2 z'
theorem W3s.below {n b : Nat} {w0 w : World} (h : Below n w0 w) (hn : n ≤ b) (x y z : Value) : Below n w0 (W3s b x y z w) :=
  ((h.setCell (p := ⟨b, 0, none⟩) hn x).setCell (p := ⟨b + 1, 0, none⟩) (by show n ≤ b + 1; omega) y).setCell (p := ⟨b + 1 + 1, 0, none⟩) (by show n ≤ b + 1 + 1; omega) z
theorem V3.row {b : Nat} {x y z : Value} {w : World} (h : V3 b x y z w) (x' y' z' : Value) {B e size : Nat} {v : Value} {k : Nat} {xs : List Value} (hr : w.ownsRow B e size v k xs) (h1 : e ≠ 24) (h2 : e ≠ 34) (h3 : e ≠ 4) : (W3s b x' y' z' w).ownsRow B e size v k xs :=
  row_blk (row_blk (row_blk hr h.h0 h1 (set_grown _ _ _ _)) (h.s0 x').h1 h2 (set_grown _ _ _ _)) ((h.s0 x').s1 y').h2 h3 (set_grown _ _ _ _)

theorem fresh_nil (w : World) : Calls Try.prog 35 #[.slice none 0 0] w fun e w' => e = .returned (.slice none 0 0) ∧ Below w.heap.size w w' := by
  go_enter Try.func35, Try.ntmps35
  go_wp2
  go_ret
  exact ⟨rfl, Below.refl _ _⟩

set_option maxHeartbeats 4000000 in
theorem ask_tb (w0 : World) (mv : Value) (ms : List Mm) (hm : LiesM w0 mv ms) (hmn : ∀ x ∈ ms, x.n.length * 24 ≤ 140737488355328) (hmh : ∀ x ∈ ms, x.h.length * 16 ≤ 140737488355328) (hmz : ∀ g off n c, mv = .slice (some ⟨g, off, none⟩) n c → ∀ i < n, ∀ k cc, w0.cell? ⟨g, off + i * 3 + 2, none⟩ = some (.slice none k cc) → cc = 0) (htb : TbOk (tbM ms)) : AskAt w0 (.iface 44 (.agg #[mv])) (tbM ms) := by
  intro w x L hb hx hg
  obtain ⟨xa, xc, rfl, _⟩ := id hx
  have hmf : ∀ (fn : Fn) (first cap : Array Value) (w : World), (Instr.makeFunc fn first cap).run Try.prog w = .ok (.func fn first cap) w := fun _ _ _ _ => rfl
  have HB0 : Hid (Below w.heap.size w (((w.alloc (.cells #[.slice none 0 0] 24)).alloc (.cells #[.slice none 0 0] 34)).alloc (.cells #[.bool false] 4))) := (((Below.refl _ w).alloc (Nat.le_refl _) _).alloc (by simp) _).alloc (by simp; omega) _
  have HV0 : Hid (V3 w.heap.size (.slice none 0 0) (.slice none 0 0) (.bool false) (((w.alloc (.cells #[.slice none 0 0] 24)).alloc (.cells #[.slice none 0 0] 34)).alloc (.cells #[.bool false] 4))) := V3.made w
  have hfr : ∀ w1, Below w.heap.size w w1 → _ := fun w1 hb1 => fresh_any w1 _ L (hx.on hb1) (by have := (grd_small hg).1; omega) (fun c hc => by have := (grd_small hg).2 c hc; omega)
  have HM := hid (hm.on hb)
  have hmeth : ∀ W, (method 255 44 (.agg #[mv]) "Find").run Try.prog W = .ok (116, .agg #[mv]) W := fun _ => by kernel_rfl
  have hfL := fine_check (grd_iff.1 hg).1
  have HFL := hid hfL
  have hfd : ∀ w1 u, Below w.heap.size w w1 → Lies w1 u L → _ := fun w1 u hb1 hu => find_any w1 mv ms (HM.out.on hb1) hmn hmh (fun g off n c e i hi k cc hcell => by
    obtain ⟨a', c', e', _, _, hrow⟩ := id hm
    rw [e] at e'
    cases e'
    obtain ⟨g', off', x', y', z', ea, hlt, _, _, q2, _⟩ := hrow i _ (List.getElem?_eq_getElem hi)
    cases ea
    refine hmz g off _ c e i hi k cc ?_
    have := ((hb.trans (hb1.mono hb.size)).cell (p := ⟨g, off + i * 3 + 2, none⟩) hlt).symm.trans hcell
    exact this) u L hu
  go_enter_defers Try.func73, Try.ntmps73
  go_upto_region 4 with fail
  have hB : Below w.heap.size w (((w.alloc (.cells #[.slice none 0 0] 24)).alloc (.cells #[.slice none 0 0] 34)).alloc (.cells #[.bool false] 4)).drew := HB0.out.drew
  have hV : V3 w.heap.size (.slice none 0 0) (.slice none 0 0) (.bool false) (((w.alloc (.cells #[.slice none 0 0] 24)).alloc (.cells #[.slice none 0 0] 34)).alloc (.cells #[.bool false] 4)).drew := ⟨HV0.out.h0, HV0.out.h1, HV0.out.h2⟩
  refine wp_still ?_
  refine wp_region_m (fun _ => True) 100 (by kernel_rfl) ?_
  generalize (((w.alloc (.cells #[.slice none 0 0] 24)).alloc (.cells #[.slice none 0 0] 34)).alloc (.cells #[.bool false] 4)).drew = wd at hB hV ⊢
  refine wpAnyM_pick (i := 0) (some 11) (v := ?vz1) rfl rfl (by kernel_rfl) (by kernel_rfl) (by kernel_rfl) (by kernel_rfl) (fun _ _ _ h => h) (Or.inl ⟨by rfl, ?hz1⟩) trivial ?rz1
  case hz1 => intro w hSw; go_simp; try with_reducible rfl
  try simp only [Act.put, List.setIfInBounds_toArray, List.set_cons_zero, List.set_cons_succ]
  refine wpAnyM_pick (i := 1) (some 12) (v := ?vz2) rfl rfl (by kernel_rfl) (by kernel_rfl) (by kernel_rfl) (by kernel_rfl) (fun _ _ _ h => h) (Or.inl ⟨by rfl, ?hz2⟩) trivial ?rz2
  case hz2 => intro w hSw; go_simp; try with_reducible rfl
  try simp only [Act.put, List.setIfInBounds_toArray, List.set_cons_zero, List.set_cons_succ]
  refine wpAnyM_pick (i := 3) (some 14) (v := ?vz3) rfl rfl (by kernel_rfl) (by kernel_rfl) (by kernel_rfl) (by kernel_rfl) (fun _ _ _ h => h) (Or.inl ⟨by rfl, ?hz3⟩) trivial ?rz3
  case hz3 => intro w hSw; go_simp; try with_reducible rfl
  try simp only [Act.put, List.setIfInBounds_toArray, List.set_cons_zero, List.set_cons_succ]
  refine wpAnyM_pick (i := 4) (some 15) (v := ?vz4) rfl rfl (by kernel_rfl) (by kernel_rfl) (by kernel_rfl) (by kernel_rfl) (fun _ _ _ h => h) (Or.inl ⟨by rfl, ?hz4⟩) trivial ?rz4
  case hz4 => intro w hSw; go_simp; try with_reducible rfl
  try simp only [Act.put, List.setIfInBounds_toArray, List.set_cons_zero, List.set_cons_succ]
  refine wpAnyM_one (i := 2) (by kernel_rfl) rfl (fun K hK => ?_)
  go_simp
  go_at_call 35
  refine (hfr _ hB).mono ?_
  rintro e w1 ⟨v1, rfl, ho1, hb1⟩
  have hB1 := hB.trans (hb1.mono hB.size)
  have hV1 := hV.on hb1
  have hl1 := Owns.lies ho1 HFL.out
  go_wp2_with fail
  refine hK.out _ _ (fun _ => trivial) ?_
  clear hK K
  try simp only [Act.put, List.setIfInBounds_toArray, List.set_cons_zero, List.set_cons_succ]
  refine wpAnyM_one (i := 5) (by kernel_rfl) rfl (fun K hK => ?_)
  go_simp
  refine (hfd _ _ hB1 hl1).mono ?_
  rintro e w2 ⟨hF, hb2⟩
  have hV2 := hV1.on hb2
  have hB2 := hB1.trans (hb2.mono hB1.size)
  cases hTB : tbM ms L with
  | none =>
    rw [hTB] at hF
    have hF2 : e = .returned (.tuple #[.slice none 0 0, .slice none 0 0, .bool false]) := hF
    subst hF2
    go_wp2_with fail
    refine hK.out _ _ (fun _ => trivial) ?_
    clear hK K
    try simp only [Act.put, List.setIfInBounds_toArray, List.set_cons_zero, List.set_cons_succ]
    refine wpAnyM_pick (i := 6) (some 10) (v := ?vz5) rfl rfl (by kernel_rfl) (by kernel_rfl) (by kernel_rfl) (by kernel_rfl) (fun _ _ _ h => h) (Or.inl ⟨by rfl, ?hz5⟩) trivial ?rz5
    case hz5 => intro w hSw; go_simp; try with_reducible rfl
    try simp only [Act.put, List.setIfInBounds_toArray, List.set_cons_zero, List.set_cons_succ]
    refine wpAnyM_pick (i := 7) (some 17) (v := ?vz6) rfl rfl (by kernel_rfl) (by kernel_rfl) (by kernel_rfl) (by kernel_rfl) (fun _ _ _ h => h) (Or.inl ⟨by rfl, ?hz6⟩) trivial ?rz6
    case hz6 => intro w hSw; go_simp; try with_reducible rfl
    try simp only [Act.put, List.setIfInBounds_toArray, List.set_cons_zero, List.set_cons_succ]
    refine wpAnyM_pick (i := 8) (some 18) (v := ?vz7) rfl rfl (by kernel_rfl) (by kernel_rfl) (by kernel_rfl) (by kernel_rfl) (fun _ _ _ h => h) (Or.inl ⟨by rfl, ?hz7⟩) trivial ?rz7
    case hz7 => intro w hSw; go_simp; try with_reducible rfl
    try simp only [Act.put, List.setIfInBounds_toArray, List.set_cons_zero, List.set_cons_succ]
    refine wpAnyM_pick (i := 9) (some 19) (v := ?vz8) rfl rfl (by kernel_rfl) (by kernel_rfl) (by kernel_rfl) (by kernel_rfl) (fun _ _ _ h => h) (Or.inl ⟨by rfl, ?hz8⟩) trivial ?rz8
    case hz8 => intro w hSw; go_simp; try with_reducible rfl
    try simp only [Act.put, List.setIfInBounds_toArray, List.set_cons_zero, List.set_cons_succ]
    have f0 := hV2.h0.cell (i := 0) rfl
    have z0 := hV2.h0.free 0
    have g1 := hV2.s0 (.slice none 0 0)
    have f1 := g1.h1.cell (i := 0) rfl
    have z1 := g1.h1.free 0
    have g2 := g1.s1 (.slice none 0 0)
    have f2 := g2.h2.cell (i := 0) rfl
    have z2 := g2.h2.free 0
    refine wpAnyM_one (i := 10) (by kernel_rfl) rfl (fun K hK => ?_)
    go_simp
    refine hK.out _ _ (fun _ => trivial) ?_
    clear hK K
    try simp only [Act.put, List.setIfInBounds_toArray, List.set_cons_zero, List.set_cons_succ]
    refine wpAnyM_one (i := 11) (by kernel_rfl) rfl (fun K hK => ?_)
    go_simp
    refine hK.out _ _ (fun _ => trivial) ?_
    clear hK K
    try simp only [Act.put, List.setIfInBounds_toArray, List.set_cons_zero, List.set_cons_succ]
    refine wpAnyM_one (i := 12) (by kernel_rfl) rfl (fun K hK => ?_)
    go_simp
    refine hK.out _ _ (fun _ => trivial) ?_
    clear hK K
    try simp only [Act.put, List.setIfInBounds_toArray, List.set_cons_zero, List.set_cons_succ]
    refine wpAnyM_done (by kernel_rfl) ?_ _
    try simp only [Act.put, List.setIfInBounds_toArray, List.set_cons_zero, List.set_cons_succ]
    clear f0 z0 f1 z1 f2 z2
    go_upto_region 5 with fail
    have hV4 : V3 w.heap.size (.slice none 0 0) (.slice none 0 0) (.bool false) (((w2.setCell ⟨w.heap.size, 0, none⟩ (.slice none 0 0)).setCell ⟨w.heap.size + 1, 0, none⟩ (.slice none 0 0)).setCell ⟨w.heap.size + 1 + 1, 0, none⟩ (.bool false)).drew := ⟨(hV2.put (.slice none 0 0) (.slice none 0 0) (.bool false)).h0, (hV2.put (.slice none 0 0) (.slice none 0 0) (.bool false)).h1, (hV2.put (.slice none 0 0) (.slice none 0 0) (.bool false)).h2⟩
    have hB4 : Below w.heap.size w (((w2.setCell ⟨w.heap.size, 0, none⟩ (.slice none 0 0)).setCell ⟨w.heap.size + 1, 0, none⟩ (.slice none 0 0)).setCell ⟨w.heap.size + 1 + 1, 0, none⟩ (.bool false)).drew := (W3s.below hB2 (Nat.le_refl _) (.slice none 0 0) (.slice none 0 0) (.bool false)).drew
    refine wp_still ?_
    refine wp_region_m (fun w' => (w'.cell? ⟨w.heap.size + 1, 0, none⟩ = some (.slice none 0 0) ∧ w'.cell? ⟨w.heap.size + 1 + 1, 0, none⟩ = some (.bool false))) 100 (by kernel_rfl) ?_
    generalize (((w2.setCell ⟨w.heap.size, 0, none⟩ (.slice none 0 0)).setCell ⟨w.heap.size + 1, 0, none⟩ (.slice none 0 0)).setCell ⟨w.heap.size + 1 + 1, 0, none⟩ (.bool false)).drew = wq at hV4 hB4 ⊢
    refine wpAnyM_pick (i := 2) (some 22) (v := ?vz9) rfl rfl (by kernel_rfl) (by kernel_rfl) (by kernel_rfl) (by kernel_rfl) (fun _ _ _ h => h) (Or.inl ⟨by rfl, ?hz9⟩) ⟨hV4.h1.cell (i := 0) rfl, hV4.h2.cell (i := 0) rfl⟩ ?rz9
    case hz9 => intro w hSw; go_simp; try with_reducible rfl
    try simp only [Act.put, List.setIfInBounds_toArray, List.set_cons_zero, List.set_cons_succ]
    refine wpAnyM_pick (i := 3) (some 23) (v := ?vz10) rfl rfl (by kernel_rfl) (by kernel_rfl) (by kernel_rfl) (by kernel_rfl) (fun _ _ _ h => h) (Or.inl ⟨by rfl, ?hz10⟩) ⟨hV4.h1.cell (i := 0) rfl, hV4.h2.cell (i := 0) rfl⟩ ?rz10
    case hz10 => intro w hSw; go_simp; try with_reducible rfl
    try simp only [Act.put, List.setIfInBounds_toArray, List.set_cons_zero, List.set_cons_succ]
    have l0 := hV4.h0.cell (i := 0) rfl
    refine wpAnyM_one (i := 0) (by kernel_rfl) rfl (fun K hK => ?_)
    go_simp
    refine hK.out _ _ (fun _ => ⟨hV4.h1.cell (i := 0) rfl, hV4.h2.cell (i := 0) rfl⟩) ?_
    clear hK K
    try simp only [Act.put, List.setIfInBounds_toArray, List.set_cons_zero, List.set_cons_succ]
    refine wpAnyM_one (i := 1) (by kernel_rfl) rfl (fun K hK => ?_)
    go_simp
    go_at_call 35
    refine (fresh_nil wq).mono ?_
    rintro e w6 ⟨rfl, hb6⟩
    have hV6 := hV4.on hb6
    have hB6 := hB4.trans (hb6.mono hB4.size)
    go_wp2_with fail
    refine hK.out _ _ (fun _ => ⟨hV6.h1.cell (i := 0) rfl, hV6.h2.cell (i := 0) rfl⟩) ?_
    clear hK K
    try simp only [Act.put, List.setIfInBounds_toArray, List.set_cons_zero, List.set_cons_succ]
    have f0 := hV6.h0.cell (i := 0) rfl
    have z0 := hV6.h0.free 0
    have V7 := hV6.s0 (.slice none 0 0)
    have f1 := V7.h1.cell (i := 0) rfl
    have z1 := V7.h1.free 0
    have V8 := V7.s1 (.slice none 0 0)
    have f2 := V8.h2.cell (i := 0) rfl
    have z2 := V8.h2.free 0
    have V9 := V8.s2 (.bool false)
    have HB9 := hid (W3s.below hB6 (Nat.le_refl _) (.slice none 0 0) (.slice none 0 0) (.bool false))
    refine wpAnyM_one (i := 4) (by kernel_rfl) rfl (fun K hK => ?_)
    go_simp
    refine hK.out _ _ (fun _ => ⟨V7.h1.cell (i := 0) rfl, V7.h2.cell (i := 0) rfl⟩) ?_
    clear hK K
    try simp only [Act.put, List.setIfInBounds_toArray, List.set_cons_zero, List.set_cons_succ]
    refine wpAnyM_one (i := 5) (by kernel_rfl) rfl (fun K hK => ?_)
    go_simp
    refine hK.out _ _ (fun _ => ⟨V8.h1.cell (i := 0) rfl, V8.h2.cell (i := 0) rfl⟩) ?_
    clear hK K
    try simp only [Act.put, List.setIfInBounds_toArray, List.set_cons_zero, List.set_cons_succ]
    refine wpAnyM_one (i := 6) (by kernel_rfl) rfl (fun K hK => ?_)
    go_simp
    refine hK.out _ _ (fun _ => ⟨V9.h1.cell (i := 0) rfl, V9.h2.cell (i := 0) rfl⟩) ?_
    clear hK K
    try simp only [Act.put, List.setIfInBounds_toArray, List.set_cons_zero, List.set_cons_succ]
    refine wpAnyM_done (by kernel_rfl) ?_ _
    try simp only [Act.put, List.setIfInBounds_toArray, List.set_cons_zero, List.set_cons_succ]
    have q0 := V9.h0.cell (i := 0) rfl
    have q1 := V9.h1.cell (i := 0) rfl
    have q2 := V9.h2.cell (i := 0) rfl
    clear f0 z0 f1 z1 f2 z2
    go_wp2_with fail
    refine leaves_cons (f := 84) (args := #[.pointer (some ⟨w.heap.size, 0, none⟩), .pointer (some ⟨w.heap.size + 1, 0, none⟩), .pointer (some ⟨w.heap.size + 1 + 1, 0, none⟩)]) (by simp) (by simp [go_sem]) ?_
    refine (caught_idle _ _ _ _).mono ?_
    rintro x u' w'' ⟨rfl, rfl, rfl⟩
    simp [Leaves, settle, results, Try.results73, go_sem, q0, q1, q2]
    exact ⟨by rw [hTB]; rfl, HB9.out⟩
  | some p =>
    rw [hTB] at hF
    obtain ⟨nv, hv, rfl, hn, hh⟩ := hF
    obtain ⟨na, nc, hnv, _⟩ := own_cells hn
    have hnv2 : nv = .slice na p.1.length nc := hnv
    subst hnv2
    obtain ⟨sa, sc, hsv, _⟩ := own_cells hh
    have hsv2 : hv = .slice sa p.2.length sc := hsv
    subst hsv2
    have hgp := (htb L p hTB).1
    go_wp2_with fail
    refine hK.out _ _ (fun _ => trivial) ?_
    clear hK K
    try simp only [Act.put, List.setIfInBounds_toArray, List.set_cons_zero, List.set_cons_succ]
    refine wpAnyM_pick (i := 6) (some 10) (v := ?vz11) rfl rfl (by kernel_rfl) (by kernel_rfl) (by kernel_rfl) (by kernel_rfl) (fun _ _ _ h => h) (Or.inl ⟨by rfl, ?hz11⟩) trivial ?rz11
    case hz11 => intro w hSw; go_simp; try with_reducible rfl
    try simp only [Act.put, List.setIfInBounds_toArray, List.set_cons_zero, List.set_cons_succ]
    refine wpAnyM_pick (i := 7) (some 17) (v := ?vz12) rfl rfl (by kernel_rfl) (by kernel_rfl) (by kernel_rfl) (by kernel_rfl) (fun _ _ _ h => h) (Or.inl ⟨by rfl, ?hz12⟩) trivial ?rz12
    case hz12 => intro w hSw; go_simp; try with_reducible rfl
    try simp only [Act.put, List.setIfInBounds_toArray, List.set_cons_zero, List.set_cons_succ]
    refine wpAnyM_pick (i := 8) (some 18) (v := ?vz13) rfl rfl (by kernel_rfl) (by kernel_rfl) (by kernel_rfl) (by kernel_rfl) (fun _ _ _ h => h) (Or.inl ⟨by rfl, ?hz13⟩) trivial ?rz13
    case hz13 => intro w hSw; go_simp; try with_reducible rfl
    try simp only [Act.put, List.setIfInBounds_toArray, List.set_cons_zero, List.set_cons_succ]
    refine wpAnyM_pick (i := 9) (some 19) (v := ?vz14) rfl rfl (by kernel_rfl) (by kernel_rfl) (by kernel_rfl) (by kernel_rfl) (fun _ _ _ h => h) (Or.inl ⟨by rfl, ?hz14⟩) trivial ?rz14
    case hz14 => intro w hSw; go_simp; try with_reducible rfl
    try simp only [Act.put, List.setIfInBounds_toArray, List.set_cons_zero, List.set_cons_succ]
    have f0 := hV2.h0.cell (i := 0) rfl
    have z0 := hV2.h0.free 0
    have g1 := hV2.s0 (.slice na p.1.length nc)
    have f1 := g1.h1.cell (i := 0) rfl
    have z1 := g1.h1.free 0
    have g2 := g1.s1 (.slice sa p.2.length sc)
    have f2 := g2.h2.cell (i := 0) rfl
    have z2 := g2.h2.free 0
    refine wpAnyM_one (i := 10) (by kernel_rfl) rfl (fun K hK => ?_)
    go_simp
    refine hK.out _ _ (fun _ => trivial) ?_
    clear hK K
    try simp only [Act.put, List.setIfInBounds_toArray, List.set_cons_zero, List.set_cons_succ]
    refine wpAnyM_one (i := 11) (by kernel_rfl) rfl (fun K hK => ?_)
    go_simp
    refine hK.out _ _ (fun _ => trivial) ?_
    clear hK K
    try simp only [Act.put, List.setIfInBounds_toArray, List.set_cons_zero, List.set_cons_succ]
    refine wpAnyM_one (i := 12) (by kernel_rfl) rfl (fun K hK => ?_)
    go_simp
    refine hK.out _ _ (fun _ => trivial) ?_
    clear hK K
    try simp only [Act.put, List.setIfInBounds_toArray, List.set_cons_zero, List.set_cons_succ]
    refine wpAnyM_done (by kernel_rfl) ?_ _
    try simp only [Act.put, List.setIfInBounds_toArray, List.set_cons_zero, List.set_cons_succ]
    clear f0 z0 f1 z1 f2 z2
    go_upto_region 5 with fail
    have hV4 : V3 w.heap.size (.slice na p.1.length nc) (.slice sa p.2.length sc) (.bool true) (((w2.setCell ⟨w.heap.size, 0, none⟩ (.slice na p.1.length nc)).setCell ⟨w.heap.size + 1, 0, none⟩ (.slice sa p.2.length sc)).setCell ⟨w.heap.size + 1 + 1, 0, none⟩ (.bool true)).drew := ⟨(hV2.put (.slice na p.1.length nc) (.slice sa p.2.length sc) (.bool true)).h0, (hV2.put (.slice na p.1.length nc) (.slice sa p.2.length sc) (.bool true)).h1, (hV2.put (.slice na p.1.length nc) (.slice sa p.2.length sc) (.bool true)).h2⟩
    have hB4 : Below w.heap.size w (((w2.setCell ⟨w.heap.size, 0, none⟩ (.slice na p.1.length nc)).setCell ⟨w.heap.size + 1, 0, none⟩ (.slice sa p.2.length sc)).setCell ⟨w.heap.size + 1 + 1, 0, none⟩ (.bool true)).drew := (W3s.below hB2 (Nat.le_refl _) (.slice na p.1.length nc) (.slice sa p.2.length sc) (.bool true)).drew
    have hn4 : Owns (((w2.setCell ⟨w.heap.size, 0, none⟩ (.slice na p.1.length nc)).setCell ⟨w.heap.size + 1, 0, none⟩ (.slice sa p.2.length sc)).setCell ⟨w.heap.size + 1 + 1, 0, none⟩ (.bool true)).drew w1.heap.size (.slice na p.1.length nc) p.1 := hV2.row (.slice na p.1.length nc) (.slice sa p.2.length sc) (.bool true) hn (by decide) (by decide) (by decide)
    have hh4 : OwnsS (((w2.setCell ⟨w.heap.size, 0, none⟩ (.slice na p.1.length nc)).setCell ⟨w.heap.size + 1, 0, none⟩ (.slice sa p.2.length sc)).setCell ⟨w.heap.size + 1 + 1, 0, none⟩ (.bool true)).drew w1.heap.size (.slice sa p.2.length sc) p.2 := hV2.row (.slice na p.1.length nc) (.slice sa p.2.length sc) (.bool true) hh (by decide) (by decide) (by decide)
    refine wp_still ?_
    refine wp_region_m (fun w' => (w'.cell? ⟨w.heap.size + 1, 0, none⟩ = some (.slice sa p.2.length sc) ∧ w'.cell? ⟨w.heap.size + 1 + 1, 0, none⟩ = some (.bool true))) 100 (by kernel_rfl) ?_
    generalize (((w2.setCell ⟨w.heap.size, 0, none⟩ (.slice na p.1.length nc)).setCell ⟨w.heap.size + 1, 0, none⟩ (.slice sa p.2.length sc)).setCell ⟨w.heap.size + 1 + 1, 0, none⟩ (.bool true)).drew = wq at hV4 hB4 hn4 hh4 ⊢
    refine wpAnyM_pick (i := 2) (some 22) (v := ?vz15) rfl rfl (by kernel_rfl) (by kernel_rfl) (by kernel_rfl) (by kernel_rfl) (fun _ _ _ h => h) (Or.inl ⟨by rfl, ?hz15⟩) ⟨hV4.h1.cell (i := 0) rfl, hV4.h2.cell (i := 0) rfl⟩ ?rz15
    case hz15 => intro w hSw; go_simp; try with_reducible rfl
    try simp only [Act.put, List.setIfInBounds_toArray, List.set_cons_zero, List.set_cons_succ]
    refine wpAnyM_pick (i := 3) (some 23) (v := ?vz16) rfl rfl (by kernel_rfl) (by kernel_rfl) (by kernel_rfl) (by kernel_rfl) (fun _ _ _ h => h) (Or.inl ⟨by rfl, ?hz16⟩) ⟨hV4.h1.cell (i := 0) rfl, hV4.h2.cell (i := 0) rfl⟩ ?rz16
    case hz16 => intro w hSw; go_simp; try with_reducible rfl
    try simp only [Act.put, List.setIfInBounds_toArray, List.set_cons_zero, List.set_cons_succ]
    have l0 := hV4.h0.cell (i := 0) rfl
    refine wpAnyM_one (i := 0) (by kernel_rfl) rfl (fun K hK => ?_)
    go_simp
    refine hK.out _ _ (fun _ => ⟨hV4.h1.cell (i := 0) rfl, hV4.h2.cell (i := 0) rfl⟩) ?_
    clear hK K
    try simp only [Act.put, List.setIfInBounds_toArray, List.set_cons_zero, List.set_cons_succ]
    refine wpAnyM_one (i := 1) (by kernel_rfl) rfl (fun K hK => ?_)
    go_simp
    go_at_call 35
    refine (fresh_any wq _ p.1 (Owns.lies hn4 (fine_check (grd_iff.1 hgp).1)) (by have := (grd_small hgp).1; omega) (fun c hc => by have := (grd_small hgp).2 c hc; omega)).mono ?_
    rintro e w6 ⟨v6, rfl, ho6, hb6⟩
    obtain ⟨a6, c6, hv6, _⟩ := own_cells ho6
    have hv62 : v6 = .slice a6 p.1.length c6 := hv6
    subst hv62
    have ho7 := own_base ho6 hB4.size
    have hh6 := own_below hh4 hb6
    have hV6 := hV4.on hb6
    have hB6 := hB4.trans (hb6.mono hB4.size)
    go_wp2_with fail
    refine hK.out _ _ (fun _ => ⟨hV6.h1.cell (i := 0) rfl, hV6.h2.cell (i := 0) rfl⟩) ?_
    clear hK K
    try simp only [Act.put, List.setIfInBounds_toArray, List.set_cons_zero, List.set_cons_succ]
    have f0 := hV6.h0.cell (i := 0) rfl
    have z0 := hV6.h0.free 0
    have V7 := hV6.s0 (.slice a6 p.1.length c6)
    have f1 := V7.h1.cell (i := 0) rfl
    have z1 := V7.h1.free 0
    have V8 := V7.s1 (.slice sa p.2.length sc)
    have f2 := V8.h2.cell (i := 0) rfl
    have z2 := V8.h2.free 0
    have V9 := V8.s2 (.bool true)
    have HB9 := hid (W3s.below hB6 (Nat.le_refl _) (.slice a6 p.1.length c6) (.slice sa p.2.length sc) (.bool true))
    refine wpAnyM_one (i := 4) (by kernel_rfl) rfl (fun K hK => ?_)
    go_simp
    refine hK.out _ _ (fun _ => ⟨V7.h1.cell (i := 0) rfl, V7.h2.cell (i := 0) rfl⟩) ?_
    clear hK K
    try simp only [Act.put, List.setIfInBounds_toArray, List.set_cons_zero, List.set_cons_succ]
    refine wpAnyM_one (i := 5) (by kernel_rfl) rfl (fun K hK => ?_)
    go_simp
    refine hK.out _ _ (fun _ => ⟨V8.h1.cell (i := 0) rfl, V8.h2.cell (i := 0) rfl⟩) ?_
    clear hK K
    try simp only [Act.put, List.setIfInBounds_toArray, List.set_cons_zero, List.set_cons_succ]
    refine wpAnyM_one (i := 6) (by kernel_rfl) rfl (fun K hK => ?_)
    go_simp
    refine hK.out _ _ (fun _ => ⟨V9.h1.cell (i := 0) rfl, V9.h2.cell (i := 0) rfl⟩) ?_
    clear hK K
    try simp only [Act.put, List.setIfInBounds_toArray, List.set_cons_zero, List.set_cons_succ]
    refine wpAnyM_done (by kernel_rfl) ?_ _
    try simp only [Act.put, List.setIfInBounds_toArray, List.set_cons_zero, List.set_cons_succ]
    have q0 := V9.h0.cell (i := 0) rfl
    have q1 := V9.h1.cell (i := 0) rfl
    have q2 := V9.h2.cell (i := 0) rfl
    clear f0 z0 f1 z1 f2 z2
    have HSB : Hid (∀ a', sa = some a' → w.heap.size ≤ a'.block) := fun a' e' => by
      obtain ⟨_, hq | ⟨g, cap, cur, e2, e3, _⟩⟩ := hh6
      · obtain ⟨e4, _⟩ := hq
        rw [e'] at e4
        cases e4
      · rw [e'] at e2
        cases e2
        exact Nat.le_trans hB1.size e3
    go_wp2_with fail
    refine leaves_cons (f := 84) (args := #[.pointer (some ⟨w.heap.size, 0, none⟩), .pointer (some ⟨w.heap.size + 1, 0, none⟩), .pointer (some ⟨w.heap.size + 1 + 1, 0, none⟩)]) (by simp) (by simp [go_sem]) ?_
    refine (caught_idle _ _ _ _).mono ?_
    rintro x u' w'' ⟨rfl, rfl, rfl⟩
    simp [Leaves, settle, results, Try.results73, go_sem, q0, q1, q2]
    exact ⟨by rw [hTB]; exact ⟨_, _, rfl, hV6.row (.slice a6 p.1.length c6) (.slice sa p.2.length sc) (.bool true) ho7 (by decide) (by decide) (by decide), OwnsS.lies (hV6.row (.slice a6 p.1.length c6) (.slice sa p.2.length sc) (.bool true) hh6 (by decide) (by decide) (by decide)), fun a' n' c' e' => by cases e'; exact HSB.out _ rfl⟩, HB9.out⟩

end Go.Proofs.Ytbdlokijednoiaa
