/-
  What the program's Plain answers of any rule: the whole.
-/
import Derived.Test.YtjpmlnigjbdnnaaDoorRq
import Derived.Test.YtjpmlnigjbdnnaaDoorPn
namespace Go.Proofs.YtjpmlnigjbdnnaaDoor
open Go.RowKit
set_option linter.unusedVariables false
set_option linter.unusedSimpArgs false
set_option maxRecDepth 100000

theorem pl1 (w : World) (p : Nat) (id : Int) (lv rv : Value) (L R : List Cl) (hp : Blk w p #[.int .i64 id, lv, rv] 25) (hl : Lies w lv L) (hr : Lies w rv R) :
    Calls Tryd.prog 50 #[.pointer (some ⟨p, 0, none⟩)] w fun e w' => e = .returned (.int .i64 (chk id L R : Nat)) ∧ Below w.heap.size w w' := by
  have hk := chk_any w id lv rv L R hl hr
  have c0 := hp.cell (i := 0) rfl
  have c1 := hp.cell (i := 1) rfl
  have c2 := hp.cell (i := 2) rfl
  obtain ⟨la, lc, rfl, _⟩ := hl
  obtain ⟨ra, rc, rfl, _⟩ := hr
  clear hp
  go_enter Tryd.func50, Tryd.ntmps50
  go_wp2_with (go_at_call 10; refine hk.mono ?_; rintro e w1 ⟨rfl, hb⟩)
  go_ret
  exact ⟨rfl, hb⟩

theorem pl2 (w : World) (b p : Nat) (x0 lv x2 x : Value) (L : List Cl) (hb : Blk w b #[x0, lv, x2] 25) (hp : Blk w p #[x] 67) (hl : Lies w lv L) (hL : check L = 0) :
    Calls Tryd.prog 51 #[.pointer (some ⟨b, 0, none⟩), .pointer (some ⟨p, 0, none⟩)] w fun e w' => e = .returned (.int .i64 0) ∧ ∃ v w1, Below w.heap.size w w1 ∧ w' = w1.setCell ⟨p, 0, none⟩ v ∧ OwnsB w1 w.heap.size v (pbs (varsOf L)) := by
  have hc := hb.cell (i := 1) rfl
  have HP : Hid (Blk w p #[x] 67) := hp
  have ht := plainBinds_any w lv L hl hL
  obtain ⟨la, lc, rfl, _⟩ := hl
  clear hb hp hL
  go_enter Tryd.func51, Tryd.ntmps51
  go_wp2_with (go_at_call 52; refine ht.mono ?_; rintro e w1 ⟨v, rfl, ho, hbl⟩; have ho2 := ho; obtain ⟨va, vc, hvv, _⟩ := ho.form; subst hvv; have hq : w1.cell? ⟨p, 0, none⟩ = some x := (HP.out.on hbl HP.out.lt).cell rfl; have hz : w1.frozen? ⟨p, 0, none⟩ = false := (HP.out.on hbl HP.out.lt).free 0)
  go_ret
  exact ⟨rfl, _, _, hbl, rfl, ho2⟩

theorem pl3 (w : World) (b p q : Nat) (x0 lv x2 bv y0 y1 y2 : Value) (L : List Cl) (l : List Bd) (hb : Blk w b #[x0, lv, x2] 25) (hp : Blk w p #[bv] 67) (hq : Blk w q #[y0, y1, y2] 25) (hl : Lies w lv L) (hB : LiesB w bv l) :
    Calls Tryd.prog 53 #[.pointer (some ⟨b, 0, none⟩), .pointer (some ⟨p, 0, none⟩), .pointer (some ⟨q, 0, none⟩)] w fun e w' => e = .returned (.int .i64 (fillE L l : Nat)) ∧ ∃ v w1, Below w.heap.size w w1 ∧ w' = w1.setCell ⟨q, 1, none⟩ v ∧ Owns w1 w.heap.size v (fillM L l) := by
  have hc := hb.cell (i := 1) rfl
  have hc2 := hp.cell (i := 0) rfl
  have HP : Hid (Blk w q #[y0, y1, y2] 25) := hq
  have ht := fill_any w lv bv L l hl hB
  obtain ⟨la, lc, rfl, _⟩ := hl
  obtain ⟨ba, bc, rfl, _⟩ := hB
  generalize fillM L l = M at ht ⊢
  clear hb hp hq
  go_enter Tryd.func53, Tryd.ntmps53
  go_wp2_with (go_at_call 54; refine ht.mono ?_; rintro e w1 ⟨v, rfl, ho, hbl⟩; have ho2 := ho; obtain ⟨va, vc, hvv, _⟩ := own_cells ho; subst hvv; have hq : w1.cell? ⟨q, 1, none⟩ = some y1 := (HP.out.on hbl HP.out.lt).cell rfl; have hz : w1.frozen? ⟨q, 1, none⟩ = false := (HP.out.on hbl HP.out.lt).free 1)
  go_ret
  exact ⟨rfl, _, _, hbl, rfl, ho2⟩

theorem pl4 (w : World) (b p q : Nat) (x0 x1 rv bv y0 y1 y2 : Value) (L : List Cl) (l : List Bd) (hb : Blk w b #[x0, x1, rv] 25) (hp : Blk w p #[bv] 67) (hq : Blk w q #[y0, y1, y2] 25) (hl : Lies w rv L) (hB : LiesB w bv l) :
    Calls Tryd.prog 55 #[.pointer (some ⟨b, 0, none⟩), .pointer (some ⟨p, 0, none⟩), .pointer (some ⟨q, 0, none⟩)] w fun e w' => e = .returned (.int .i64 (fillE L l : Nat)) ∧ ∃ v w1, Below w.heap.size w w1 ∧ w' = w1.setCell ⟨q, 2, none⟩ v ∧ Owns w1 w.heap.size v (fillM L l) := by
  have hc := hb.cell (i := 2) rfl
  have hc2 := hp.cell (i := 0) rfl
  have HP : Hid (Blk w q #[y0, y1, y2] 25) := hq
  have ht := fill_any w rv bv L l hl hB
  obtain ⟨la, lc, rfl, _⟩ := hl
  obtain ⟨ba, bc, rfl, _⟩ := hB
  generalize fillM L l = M at ht ⊢
  clear hb hp hq
  go_enter Tryd.func55, Tryd.ntmps55
  go_wp2_with (go_at_call 54; refine ht.mono ?_; rintro e w1 ⟨v, rfl, ho, hbl⟩; have ho2 := ho; obtain ⟨va, vc, hvv, _⟩ := own_cells ho; subst hvv; have hq : w1.cell? ⟨q, 2, none⟩ = some y2 := (HP.out.on hbl HP.out.lt).cell rfl; have hz : w1.frozen? ⟨q, 2, none⟩ = false := (HP.out.on hbl HP.out.lt).free 2)
  go_ret
  exact ⟨rfl, _, _, hbl, rfl, ho2⟩

theorem four {P : Nat → Prop} (h0 : P 0) (h1 : P 1) (h2 : P 2) (h3 : P 3) : ∀ i, i < 4 → P i
  | 0, _ => h0 | 1, _ => h1 | 2, _ => h2 | 3, _ => h3
  | n + 4, h => by omega
def pqF : Nat → Nat
  | 0 => 50 | 1 => 51 | 2 => 53 | _ => 55
theorem pqF_enters : ∀ i, i < 4 → ∀ args w, (callFunc (pqF i) args).run Tryd.prog w = .ok (.enter (pqF i) args) w :=
  four (fun a w => enters_of Tryd.func50 (by kernel_rfl) rfl a w) (fun a w => enters_of Tryd.func51 (by kernel_rfl) rfl a w) (fun a w => enters_of Tryd.func53 (by kernel_rfl) rfl a w) (fun a w => enters_of Tryd.func55 (by kernel_rfl) rfl a w)

/-- how far the plain form has come: B: the base of all that is made -/
structure Half3 (B N : Nat) (W : World) (b p q f z : Nat) (cs fs zs : Array Value) (id : Int) (l : List Bd) (L R : List Cl) (i : Nat) (w' : World) : Prop where
  low : Below B W w'
  size : N ≤ w'.heap.size
  box : Blk w' b cs 25
  fns : Blk w' f fs 53
  res : Blk w' z zs 25
  one : ∃ v, Blk w' p #[v] 67 ∧ OwnsB w' N v (if 2 ≤ i then l else [])
  two : ∃ lv rv, Blk w' q #[.int .i64 id, lv, rv] 25 ∧ Owns w' N lv (if 3 ≤ i then L else []) ∧ Owns w' N rv (if 4 ≤ i then R else [])

theorem ownB_apart {w w' : World} {B : Nat} {v : Value} {l : List Bd} {p : Nat} (h : OwnsB w B v l) (hg : w.grownBy w' (some p)) (hp : p < B) : OwnsB w' B v l := by
  obtain ⟨ps, h0, h1, h2⟩ := h
  refine ⟨ps, h0, World.ownsRow.kept h1 hg ?_, fun j b hj => ?_⟩
  · cases e : v.ownBlock with
    | none => exact .inl rfl
    | some k =>
      right
      intro e2
      have := (World.ownsRow.lt h1 k e).1
      cases e2
      omega
  · obtain ⟨x, hx, ho⟩ := h2 j b hj
    exact ⟨x, hx, own_apart ho hg hp⟩
theorem fine_pbs {V : List ByteArray} (h : Vs V) : ∀ b ∈ pbs V, Fine b.val ∧ b.nm.size ≤ 9223372036854775807 := by
  intro b hb
  obtain ⟨a1, a2, a3⟩ := (gather_right (pbs V) [] (gather_pbs h)).1 b hb
  exact ⟨fine_check a1, by have := nm_size a2; omega⟩

theorem plained (B N : Nat) (W : World) (b p q f z : Nat) (zs : Array Value) (id : Int) (lv rv : Value) (L R : List Cl) (hlb : ∀ w', Below B W w' → Lies w' lv L ∧ Lies w' rv R)
    (hb : Blk W b #[.int .i64 id, lv, rv] 25) (hp : Blk W p #[.slice none 0 0] 67) (hq : Blk W q #[.int .i64 id, .slice none 0 0, .slice none 0 0] 25)
    (hf : Blk W f #[.func (.func 50) #[] #[.pointer (some ⟨b, 0, none⟩)], .func (.func 51) #[] #[.pointer (some ⟨b, 0, none⟩), .pointer (some ⟨p, 0, none⟩)], .func (.func 53) #[] #[.pointer (some ⟨b, 0, none⟩), .pointer (some ⟨p, 0, none⟩), .pointer (some ⟨q, 0, none⟩)], .func (.func 55) #[] #[.pointer (some ⟨b, 0, none⟩), .pointer (some ⟨p, 0, none⟩), .pointer (some ⟨q, 0, none⟩)]] 53)
    (hz : Blk W z zs 25) (n6 : z ≠ p) (n7 : z ≠ q) (n1 : b ≠ p) (n2 : b ≠ q) (n3 : f ≠ p) (n4 : f ≠ q) (n5 : p ≠ q) (m1 : B ≤ p) (m2 : B ≤ q) (mN : N = W.heap.size) (mB : B ≤ N) :
    Calls Tryd.prog 25 #[.slice (some ⟨f, 0, none⟩) 4 4] W fun e w' => e = .returned (.int .i64 (chk id L R : Nat)) ∧ Below B W w' ∧ Blk w' z zs 25 ∧ (chk id L R = 0 → ∃ lv' rv', Blk w' q #[.int .i64 id, lv', rv'] 25 ∧ Owns w' N lv' (L.map (ren (varsOf L))) ∧ Owns w' N rv' (R.map (ren (varsOf L)))) := by
  have hpN : p < N := mN ▸ hp.lt
  have hqN : q < N := mN ▸ hq.lt
  refine (first_any 4 f 4 (by omega) pqF (fun i => match i with | 0 => #[.pointer (some ⟨b, 0, none⟩)] | 1 => #[.pointer (some ⟨b, 0, none⟩), .pointer (some ⟨p, 0, none⟩)] | _ => #[.pointer (some ⟨b, 0, none⟩), .pointer (some ⟨p, 0, none⟩), .pointer (some ⟨q, 0, none⟩)]) (wrs id L R) (Half3 B N W b p q f z #[.int .i64 id, lv, rv] _ zs id (pbs (varsOf L)) (L.map (ren (varsOf L))) (R.map (ren (varsOf L)))) W pqF_enters ?_ ?_ ⟨Below.refl _ _, by omega, hb, hf, hz, ⟨_, hp, OwnsB.nil _ _⟩, ⟨_, _, hq, World.ownsRow_nil _ _ _ _, World.ownsRow_nil _ _ _ _⟩⟩).mono ?_
  · intro i w' hi hH
    match i, hi with
    | 0, _ => exact hH.fns.cell rfl
    | 1, _ => exact hH.fns.cell rfl
    | 2, _ => exact hH.fns.cell rfl
    | 3, _ => exact hH.fns.cell rfl
    | n + 4, h => omega
  · intro i w' hi hz hH
    obtain ⟨a1, az, a2, a3, a9, ⟨v, a4, a5⟩, ⟨xl, xr, a6, a7, a8⟩⟩ := hH
    obtain ⟨hl', hr'⟩ := hlb w' a1
    have hwB := Nat.le_trans mB az
    match i, hi with
    | 0, _ =>
      refine (pl1 w' b id lv rv L R a2 hl' hr').mono fun e w'' h => ?_
      obtain ⟨he, hbl⟩ := h
      exact ⟨he, a1.trans (hbl.mono hwB), Nat.le_trans az hbl.size, a2.on hbl a2.lt, a3.on hbl a3.lt, a9.on hbl a9.lt, ⟨_, a4.on hbl a4.lt, a5.on hbl⟩, ⟨_, _, a6.on hbl a6.lt, own_below a7 hbl, own_below a8 hbl⟩⟩
    | 1, _ =>
      have h0 := hz 0 (by omega)
      refine (pl2 w' b p _ lv _ _ L a2 a4 hl' (chk_zero h0).2.1).mono fun e w'' h => ?_
      obtain ⟨he, v', w1, hbl, rfl, hO⟩ := h
      exact ⟨he, (a1.trans (hbl.mono hwB)).setCell (by exact m1) _, Nat.le_trans az (Nat.le_trans hbl.size (set_grown w1 p 0 v').size), (a2.on hbl a2.lt).other n1 _, (a3.on hbl a3.lt).other n3 _, (a9.on hbl a9.lt).other n6 _, ⟨_, (a4.on hbl a4.lt).set 0 _, (ownB_apart hO (set_grown w1 p 0 v') a4.lt).base az⟩, ⟨_, _, (a6.on hbl a6.lt).other n5.symm _, own_apart (own_below a7 hbl) (set_grown w1 p 0 v') hpN, own_apart (own_below a8 hbl) (set_grown w1 p 0 v') hpN⟩⟩
    | 2, _ =>
      have h0 := hz 0 (by omega)
      obtain ⟨c1, c2, c3, c4, c5, c6⟩ := chk_zero h0
      have hV := vs_of c4.1
      have fL := fill_plain hV c2 vars_self
      refine (pl3 w' b p q _ lv _ _ _ _ _ L (pbs (varsOf L)) a2 a4 a6 hl' (a5.lies (fine_pbs hV))).mono fun e w'' h => ?_
      rw [fL.1, fL.2] at h
      obtain ⟨he, v', w1, hbl, rfl, hO⟩ := h
      exact ⟨he, (a1.trans (hbl.mono hwB)).setCell (by exact m2) _, Nat.le_trans az (Nat.le_trans hbl.size (set_grown w1 q 1 v').size), (a2.on hbl a2.lt).other n2 _, (a3.on hbl a3.lt).other n4 _, (a9.on hbl a9.lt).other n7 _, ⟨_, (a4.on hbl a4.lt).other n5 _, ownB_apart (a5.on hbl) (set_grown w1 q 1 v') hqN⟩, ⟨_, _, (a6.on hbl a6.lt).set 1 _, own_base (own_apart hO (set_grown w1 q 1 v') a6.lt) az, own_apart (own_below a8 hbl) (set_grown w1 q 1 v') hqN⟩⟩
    | 3, _ =>
      have h0 := hz 0 (by omega)
      obtain ⟨c1, c2, c3, c4, c5, c6⟩ := chk_zero h0
      have hV := vs_of c4.1
      have fR := fill_plain hV c3 (unb_false c6)
      refine (pl4 w' b p q _ _ rv _ _ _ _ R (pbs (varsOf L)) a2 a4 a6 hr' (a5.lies (fine_pbs hV))).mono fun e w'' h => ?_
      rw [fR.1, fR.2] at h
      obtain ⟨he, v', w1, hbl, rfl, hO⟩ := h
      exact ⟨he, (a1.trans (hbl.mono hwB)).setCell (by exact m2) _, Nat.le_trans az (Nat.le_trans hbl.size (set_grown w1 q 2 v').size), (a2.on hbl a2.lt).other n2 _, (a3.on hbl a3.lt).other n4 _, (a9.on hbl a9.lt).other n7 _, ⟨_, (a4.on hbl a4.lt).other n5 _, ownB_apart (a5.on hbl) (set_grown w1 q 2 v') hqN⟩, ⟨_, _, (a6.on hbl a6.lt).set 2 _, own_apart (own_below a7 hbl) (set_grown w1 q 2 v') hqN, own_base (own_apart hO (set_grown w1 q 2 v') a6.lt) az⟩⟩
    | n + 4, h => omega
  · intro e w' h
    obtain ⟨e1, e2, k, hH⟩ := h.told
    rw [wrs_fst] at e1 e2
    refine ⟨e1, hH.low, hH.res, fun h => ?_⟩
    obtain ⟨lv', rv', h1, h2, h3⟩ := (e2 h).two
    exact ⟨lv', rv', h1, h2, h3⟩

/-- the world in which Plain asks -/
def pqW (w : World) (id : Int) (lv rv : Value) : World :=
  ((((w.alloc (.cells #[.int .i64 id, lv, rv] 25)).alloc (.cells #[.int .i64 0, .slice none 0 0, .slice none 0 0] 25)).alloc (.cells #[.int .i64 id, .slice none 0 0, .slice none 0 0] 25)).alloc (.cells #[.slice none 0 0] 67)).alloc
    (.cells #[.func (.func 50) #[] #[.pointer (some ⟨w.heap.size, 0, none⟩)], .func (.func 51) #[] #[.pointer (some ⟨w.heap.size, 0, none⟩), .pointer (some ⟨w.heap.size + 1 + 1 + 1, 0, none⟩)], .func (.func 53) #[] #[.pointer (some ⟨w.heap.size, 0, none⟩), .pointer (some ⟨w.heap.size + 1 + 1 + 1, 0, none⟩), .pointer (some ⟨w.heap.size + 1 + 1, 0, none⟩)], .func (.func 55) #[] #[.pointer (some ⟨w.heap.size, 0, none⟩), .pointer (some ⟨w.heap.size + 1 + 1 + 1, 0, none⟩), .pointer (some ⟨w.heap.size + 1 + 1, 0, none⟩)]] 53)
theorem pqW_facts (w : World) (id : Int) (lv rv : Value) (L R : List Cl) (hl : Lies w lv L) (hr : Lies w rv R) :
    Below w.heap.size w (pqW w id lv rv) ∧ Calls Tryd.prog 25 #[.slice (some ⟨w.heap.size + 1 + 1 + 1 + 1, 0, none⟩) 4 4] (pqW w id lv rv) fun e w' => e = .returned (.int .i64 (chk id L R : Nat)) ∧ Below w.heap.size (pqW w id lv rv) w' ∧ Blk w' (w.heap.size + 1) #[.int .i64 0, .slice none 0 0, .slice none 0 0] 25 ∧
      (chk id L R = 0 → ∃ lv' rv', Blk w' (w.heap.size + 1 + 1) #[.int .i64 id, lv', rv'] 25 ∧ Owns w' (w.heap.size + 5) lv' (L.map (ren (varsOf L))) ∧ Owns w' (w.heap.size + 5) rv' (R.map (ren (varsOf L)))) := by
  have hb : Below w.heap.size w (pqW w id lv rv) := (((((Below.refl _ w).alloc (Nat.le_refl _) _).alloc (by simp) _).alloc (by simp; omega) _).alloc (by simp; omega) _).alloc (by simp; omega) _
  refine ⟨hb, plained w.heap.size (w.heap.size + 5) _ w.heap.size (w.heap.size + 1 + 1 + 1) (w.heap.size + 1 + 1) (w.heap.size + 1 + 1 + 1 + 1) (w.heap.size + 1) _ id lv rv L R (fun w' h => ⟨hl.on (hb.trans h), hr.on (hb.trans h)⟩) ?_ ?_ ?_ ?_ ?_ (by omega) (by omega) (by omega) (by omega) (by omega) (by omega) (by omega) (by omega) (by omega) (by simp [pqW]) (by omega)⟩
  · exact ((((Blk.madeAt _ _ _ rfl).alloc _).alloc _).alloc _).alloc _
  · exact (Blk.madeAt _ _ _ (by simp)).alloc _
  · exact ((Blk.madeAt _ _ _ (by simp)).alloc _).alloc _
  · exact Blk.madeAt _ _ _ (by simp)
  · exact (((Blk.madeAt _ _ _ (by simp)).alloc _).alloc _).alloc _

theorem rulePlain_bad (w : World) (id : Int) (lv rv : Value) (L R : List Cl) (hl : Lies w lv L) (hr : Lies w rv R) (hE : chk id L R ≠ 0) :
    Calls Tryd.prog 18 #[.agg #[.int .i64 id, lv, rv]] w fun e w' => e = .returned (.tuple #[.agg #[.int .i64 0, .slice none 0 0, .slice none 0 0], .int .i64 (chk id L R : Nat)]) ∧ Below w.heap.size w w' := by
  have hmf : ∀ (fn : Fn) (first cap : Array Value) (w : World), (Instr.makeFunc fn first cap).run Tryd.prog w = .ok (.func fn first cap) w := fun _ _ _ _ => rfl
  obtain ⟨hb, hc⟩ := pqW_facts w id lv rv L R hl hr
  obtain ⟨la, lc, rfl, _⟩ := hl
  obtain ⟨ra, rc, rfl, _⟩ := hr
  have HB : Hid (Below w.heap.size w (pqW w id (.slice la L.length lc) (.slice ra R.length rc))) := hb
  generalize chk id L R = E at hE hc ⊢
  have q1 : ((E : Int) == 0) = false := by simp only [beq_eq_false_iff_ne]; omega
  have q2 : ¬ (E : Int) = 0 := by omega
  clear hE hb
  go_enter Tryd.func18, Tryd.ntmps18
  go_wp2_with (first | (go_at_call 25; refine hc.mono ?_; rintro e w3 ⟨rfl, hb3, hC, hX⟩; clear hX; have f0 := hC.free 0; have f1 := hC.free 1; have f2 := hC.free 2; have c0 := hC.cell (i := 0) rfl; have c1 := hC.cell (i := 1) rfl; have c2 := hC.cell (i := 2) rfl))
  obtain ⟨hD, hg2⟩ := set3 hC (.int .i64 0) (.slice none 0 0) (.slice none 0 0)
  generalize ((w3.setCell ⟨w.heap.size + 1, 0, none⟩ (.int .i64 0)).setCell ⟨w.heap.size + 1, 1, none⟩ (.slice none 0 0)).setCell ⟨w.heap.size + 1, 2, none⟩ (.slice none 0 0) = w4 at hD hg2 ⊢
  have e0 := hD.cell (i := 0) rfl
  have e1 := hD.cell (i := 1) rfl
  have e2 := hD.cell (i := 2) rfl
  have hb4 := HB.out.trans hb3
  refine bodyPost_ret (v := .tuple #[.agg #[.int .i64 0, .slice none 0 0, .slice none 0 0], .int .i64 (E : Nat)]) (by simp [results, Tryd.results18, go_sem, e0, e1, e2]) rfl ⟨rfl, ?_⟩
  exact hb4.grown hg2 hb4.size (fun k hk => by cases hk; omega)

theorem rulePlain_ok (w : World) (id : Int) (lv rv : Value) (L R : List Cl) (hl : Lies w lv L) (hr : Lies w rv R) (hE : chk id L R = 0) :
    Calls Tryd.prog 18 #[.agg #[.int .i64 id, lv, rv]] w fun e w' => ∃ lv' rv', e = .returned (.tuple #[.agg #[.int .i64 id, lv', rv'], .int .i64 0]) ∧ Owns w' w.heap.size lv' (L.map (ren (varsOf L))) ∧ Owns w' w.heap.size rv' (R.map (ren (varsOf L))) ∧ Below w.heap.size w w' := by
  have hmf : ∀ (fn : Fn) (first cap : Array Value) (w : World), (Instr.makeFunc fn first cap).run Tryd.prog w = .ok (.func fn first cap) w := fun _ _ _ _ => rfl
  obtain ⟨hb, hc⟩ := pqW_facts w id lv rv L R hl hr
  obtain ⟨la, lc, rfl, _⟩ := hl
  obtain ⟨ra, rc, rfl, _⟩ := hr
  have HB : Hid (Below w.heap.size w (pqW w id (.slice la L.length lc) (.slice ra R.length rc))) := hb
  rw [hE] at hc
  generalize L.map (ren (varsOf L)) = L2 at hc ⊢
  generalize R.map (ren (varsOf L)) = R2 at hc ⊢
  clear hE hb
  go_enter Tryd.func18, Tryd.ntmps18
  go_wp2_with (first | (go_at_call 25; refine hc.mono ?_; rintro e w3 ⟨rfl, hb3, hC, hX⟩; obtain ⟨lv', rv', hQ, hL, hR⟩ := hX rfl; clear hX; obtain ⟨xa, xc, hxv, _⟩ := own_cells hL; obtain ⟨ya, yc, hyv, _⟩ := own_cells hR; subst hxv; subst hyv; have d0 := hQ.cell (i := 0) rfl; have d1 := hQ.cell (i := 1) rfl; have d2 := hQ.cell (i := 2) rfl; have f0 := hC.free 0; have f1 := hC.free 1; have f2 := hC.free 2; have c0 := hC.cell (i := 0) rfl; have c1 := hC.cell (i := 1) rfl; have c2 := hC.cell (i := 2) rfl))
  obtain ⟨hD, hg2⟩ := set3 hC (.int .i64 id) (.slice xa L2.length xc) (.slice ya R2.length yc)
  generalize ((w3.setCell ⟨w.heap.size + 1, 0, none⟩ (.int .i64 id)).setCell ⟨w.heap.size + 1, 1, none⟩ (.slice xa L2.length xc)).setCell ⟨w.heap.size + 1, 2, none⟩ (.slice ya R2.length yc) = w4 at hD hg2 ⊢
  have e0 := hD.cell (i := 0) rfl
  have e1 := hD.cell (i := 1) rfl
  have e2 := hD.cell (i := 2) rfl
  have hb4 := HB.out.trans hb3
  refine bodyPost_ret (v := .tuple #[.agg #[.int .i64 id, .slice xa L2.length xc, .slice ya R2.length yc], .int .i64 0]) (by simp [results, Tryd.results18, go_sem, e0, e1, e2]) rfl ⟨_, _, rfl, ?_, ?_, ?_⟩
  · exact own_base (own_apart hL hg2 (by omega)) (by omega)
  · exact own_base (own_apart hR hg2 (by omega)) (by omega)
  · exact hb4.grown hg2 hb4.size (fun k hk => by cases hk; omega)

end Go.Proofs.YtjpmlnigjbdnnaaDoor
