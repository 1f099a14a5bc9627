/-
  What the program's Print (rule) answers of any rule.
-/
import Derived.Test.YtjpmlnigjbdnnabDoorRp2
import Derived.Test.YtjpmlnigjbdnnabDoorPrint
namespace Go.Proofs.YtjpmlnigjbdnnabDoor
open Go.RowKit
set_option linter.unusedVariables false
set_option linter.unusedSimpArgs false
set_option maxRecDepth 100000

theorem pr1 (w : World) (p : Nat) (id : Int) (lv rv : Value) (L R : List Cl) (hp : Blk w p #[.int .i64 id, lv, rv] 25) (hl : Lies w lv L) (hr : Lies w rv R) :
    Calls Tryd.prog 27 #[.pointer (some ⟨p, 0, none⟩)] w fun e w' => e = .returned (.int .i64 (chk id L R : Nat)) ∧ Below w.heap.size w w' := by
  have hk := chk_any w id lv rv L R hl hr
  have c0 := hp.cell (i := 0) rfl
  have c1 := hp.cell (i := 1) rfl
  have c2 := hp.cell (i := 2) rfl
  obtain ⟨la, lc, rfl, _⟩ := hl
  obtain ⟨ra, rc, rfl, _⟩ := hr
  clear hp
  go_enter Tryd.func27, Tryd.ntmps27
  go_wp2_with (go_at_call 16; refine hk.mono ?_; rintro e w1 ⟨rfl, hb⟩)
  go_ret
  exact ⟨rfl, hb⟩

/-- the text of a term -/
def txt (nm : ByteArray) (kd : Fo) : ByteArray := ⟨(Fo.cons nm kd .nil).text.toArray⟩

theorem pr2 (w : World) (b p : Nat) (x0 lv x2 x : Value) (nm : ByteArray) (kd : Fo) (hb : Blk w b #[x0, lv, x2] 25) (hp : Blk w p #[x] 9) (hl : Lies w lv (Fo.cons nm kd .nil).flat) (hL : check (Fo.cons nm kd .nil).flat = 0) :
    Calls Tryd.prog 28 #[.pointer (some ⟨b, 0, none⟩), .pointer (some ⟨p, 0, none⟩)] w fun e w' => e = .returned (.int .i64 0) ∧ ∃ w1, Below w.heap.size w w1 ∧ w' = w1.setCell ⟨p, 0, none⟩ (.string (txt nm kd)) := by
  have hc := hb.cell (i := 1) rfl
  have HP : Hid (Blk w p #[x] 9) := hp
  have ht : Calls Tryd.prog 29 #[lv] w fun e w' => e = .returned (.tuple #[.string (txt nm kd), .int .i64 0]) ∧ Below w.heap.size w w' := print_ok w lv _ hl hL nm kd rfl
  obtain ⟨la, lc, rfl, _⟩ := hl
  clear hb hp hL
  generalize txt nm kd = t at ht ⊢
  go_enter Tryd.func28, Tryd.ntmps28
  go_wp2_with (go_at_call 29; refine ht.mono ?_; rintro e w1 ⟨rfl, hbl⟩; have hq : w1.cell? ⟨p, 0, none⟩ = some x := (HP.out.on hbl HP.out.lt).cell rfl; have hz : w1.frozen? ⟨p, 0, none⟩ = false := (HP.out.on hbl HP.out.lt).free 0)
  go_ret
  exact ⟨rfl, _, hbl, rfl⟩

theorem pr3 (w : World) (b p : Nat) (x0 x1 rv x : Value) (nm : ByteArray) (kd : Fo) (hb : Blk w b #[x0, x1, rv] 25) (hp : Blk w p #[x] 9) (hl : Lies w rv (Fo.cons nm kd .nil).flat) (hL : check (Fo.cons nm kd .nil).flat = 0) :
    Calls Tryd.prog 30 #[.pointer (some ⟨b, 0, none⟩), .pointer (some ⟨p, 0, none⟩)] w fun e w' => e = .returned (.int .i64 0) ∧ ∃ w1, Below w.heap.size w w1 ∧ w' = w1.setCell ⟨p, 0, none⟩ (.string (txt nm kd)) := by
  have hc := hb.cell (i := 2) rfl
  have HP : Hid (Blk w p #[x] 9) := hp
  have ht : Calls Tryd.prog 29 #[rv] w fun e w' => e = .returned (.tuple #[.string (txt nm kd), .int .i64 0]) ∧ Below w.heap.size w w' := print_ok w rv _ hl hL nm kd rfl
  obtain ⟨la, lc, rfl, _⟩ := hl
  clear hb hp hL
  generalize txt nm kd = t at ht ⊢
  go_enter Tryd.func30, Tryd.ntmps30
  go_wp2_with (go_at_call 29; refine ht.mono ?_; rintro e w1 ⟨rfl, hbl⟩; have hq : w1.cell? ⟨p, 0, none⟩ = some x := (HP.out.on hbl HP.out.lt).cell rfl; have hz : w1.frozen? ⟨p, 0, none⟩ = false := (HP.out.on hbl HP.out.lt).free 0)
  go_ret
  exact ⟨rfl, _, hbl, rfl⟩

/-- what the three questions find; the last two are asked of right rules alone -/
def wrs (id : Int) (L R : List Cl) : Nat → Nat
  | 0 => chk id L R
  | _ => 0
theorem wrs_fst (id : Int) (L R : List Cl) (n : Nat) : fst (wrs id L R) (n + 1) 0 = chk id L R := by
  unfold fst
  by_cases h : wrs id L R 0 = 0
  · rw [if_pos h]
    rw [fst_all _ _ _ (fun j h1 h2 => by cases j with | zero => omega | succ j => rfl)]
    exact h.symm
  · rw [if_neg h]; rfl
def rqF : Nat → Nat
  | 0 => 27 | 1 => 28 | _ => 30
theorem rqF_enters : ∀ i, i < 3 → ∀ args w, (callFunc (rqF i) args).run Tryd.prog w = .ok (.enter (rqF i) args) w :=
  three (fun a w => enters_of Tryd.func27 (by kernel_rfl) rfl a w) (fun a w => enters_of Tryd.func28 (by kernel_rfl) rfl a w) (fun a w => enters_of Tryd.func30 (by kernel_rfl) rfl a w)

/-- how far the two texts have come -/
structure Half2 (B : Nat) (W : World) (b p1 p2 q : Nat) (cs qs : Array Value) (t1 t2 : ByteArray) (i : Nat) (w' : World) : Prop where
  low : Below B W w'
  box : Blk w' b cs 25
  fns : Blk w' q qs 46
  one : Blk w' p1 #[.string (if 2 ≤ i then t1 else ⟨#[]⟩)] 9
  two : Blk w' p2 #[.string (if 3 ≤ i then t2 else ⟨#[]⟩)] 9

theorem printed (B : Nat) (W : World) (b p1 p2 q : Nat) (id : Int) (lv rv : Value) (L R : List Cl) (hl : Lies W lv L) (hr : Lies W rv R) (hlb : ∀ w', Below B W w' → Lies w' lv L ∧ Lies w' rv R)
    (hb : Blk W b #[.int .i64 id, lv, rv] 25) (h1 : Blk W p1 #[.string ⟨#[]⟩] 9) (h2 : Blk W p2 #[.string ⟨#[]⟩] 9)
    (hq : Blk W q #[.func (.func 27) #[] #[.pointer (some ⟨b, 0, none⟩)], .func (.func 28) #[] #[.pointer (some ⟨b, 0, none⟩), .pointer (some ⟨p1, 0, none⟩)], .func (.func 30) #[] #[.pointer (some ⟨b, 0, none⟩), .pointer (some ⟨p2, 0, none⟩)]] 46)
    (n1 : b ≠ p1) (n2 : b ≠ p2) (n3 : q ≠ p1) (n4 : q ≠ p2) (n5 : p1 ≠ p2) (m1 : B ≤ p1) (m2 : B ≤ p2) (mB : B ≤ W.heap.size)
    (nm1 nm2 : ByteArray) (k1 k2 : Fo) (hT : chk id L R = 0 → L = (Fo.cons nm1 k1 .nil).flat ∧ R = (Fo.cons nm2 k2 .nil).flat) :
    Calls Tryd.prog 14 #[.slice (some ⟨q, 0, none⟩) 3 3] W fun e w' => e = .returned (.int .i64 (chk id L R : Nat)) ∧ Below B W w' ∧ (chk id L R = 0 → Blk w' p1 #[.string (txt nm1 k1)] 9 ∧ Blk w' p2 #[.string (txt nm2 k2)] 9) := by
  refine (first_any 3 q 3 (by omega) rqF (fun i => match i with | 0 => #[.pointer (some ⟨b, 0, none⟩)] | 1 => #[.pointer (some ⟨b, 0, none⟩), .pointer (some ⟨p1, 0, none⟩)] | _ => #[.pointer (some ⟨b, 0, none⟩), .pointer (some ⟨p2, 0, none⟩)]) (wrs id L R) (Half2 B W b p1 p2 q #[.int .i64 id, lv, rv] _ (txt nm1 k1) (txt nm2 k2)) W rqF_enters ?_ ?_ ⟨Below.refl _ _, hb, hq, h1, h2⟩).mono ?_
  · intro i w' hi hH
    match i, hi with
    | 0, _ => exact hH.fns.cell rfl
    | 1, _ => exact hH.fns.cell rfl
    | 2, _ => exact hH.fns.cell rfl
    | n + 3, h => omega
  · intro i w' hi hz hH
    obtain ⟨a1, a2, a3, a4, a5⟩ := hH
    obtain ⟨hl', hr'⟩ := hlb w' a1
    have hwB := Nat.le_trans mB a1.size
    match i, hi with
    | 0, _ =>
      refine (pr1 w' b id lv rv L R a2 hl' hr').mono fun e w'' h => ?_
      obtain ⟨he, hbl⟩ := h
      exact ⟨he, a1.trans (hbl.mono hwB), a2.on hbl a2.lt, a3.on hbl a3.lt, a4.on hbl a4.lt, a5.on hbl a5.lt⟩
    | 1, _ =>
      have h0 := hz 0 (by omega)
      obtain ⟨rfl, rfl⟩ := hT h0
      refine (pr2 w' b p1 _ lv _ _ nm1 k1 a2 a4 hl' (chk_zero h0).2.1).mono fun e w'' h => ?_
      obtain ⟨he, w1, hbl, rfl⟩ := h
      exact ⟨he, (a1.trans (hbl.mono hwB)).setCell (by exact m1) _, (a2.on hbl a2.lt).other n1 _, (a3.on hbl a3.lt).other n3 _, (a4.on hbl a4.lt).set 0 _, (a5.on hbl a5.lt).other n5.symm _⟩
    | 2, _ =>
      have h0 := hz 0 (by omega)
      obtain ⟨rfl, rfl⟩ := hT h0
      refine (pr3 w' b p2 _ _ rv _ nm2 k2 a2 a5 hr' (chk_zero h0).2.2.1).mono fun e w'' h => ?_
      obtain ⟨he, w1, hbl, rfl⟩ := h
      exact ⟨he, (a1.trans (hbl.mono hwB)).setCell (by exact m2) _, (a2.on hbl a2.lt).other n2 _, (a3.on hbl a3.lt).other n4 _, (a4.on hbl a4.lt).other n5 _, (a5.on hbl a5.lt).set 0 _⟩
    | n + 3, h => omega
  · intro e w' h
    obtain ⟨e1, e2, k, hH⟩ := h.told
    rw [wrs_fst] at e1 e2
    exact ⟨e1, hH.low, fun h => ⟨(e2 h).one, (e2 h).two⟩⟩

def arrow : ByteArray := ⟨#[32, 45, 62, 32]⟩
/-- the world in which Print asks -/
def rqW (w : World) (id : Int) (lv rv : Value) : World :=
  (((w.alloc (.cells #[.int .i64 id, lv, rv] 25)).alloc (.cells #[.string ⟨#[]⟩] 9)).alloc (.cells #[.string ⟨#[]⟩] 9)).alloc
    (.cells #[.func (.func 27) #[] #[.pointer (some ⟨w.heap.size, 0, none⟩)], .func (.func 28) #[] #[.pointer (some ⟨w.heap.size, 0, none⟩), .pointer (some ⟨w.heap.size + 1, 0, none⟩)], .func (.func 30) #[] #[.pointer (some ⟨w.heap.size, 0, none⟩), .pointer (some ⟨w.heap.size + 1 + 1, 0, none⟩)]] 46)
theorem rqW_facts (w : World) (id : Int) (lv rv : Value) (L R : List Cl) (hl : Lies w lv L) (hr : Lies w rv R) (nm1 nm2 : ByteArray) (k1 k2 : Fo) (hT : chk id L R = 0 → L = (Fo.cons nm1 k1 .nil).flat ∧ R = (Fo.cons nm2 k2 .nil).flat) :
    Below w.heap.size w (rqW w id lv rv) ∧ Calls Tryd.prog 14 #[.slice (some ⟨w.heap.size + 1 + 1 + 1, 0, none⟩) 3 3] (rqW w id lv rv) fun e w' => e = .returned (.int .i64 (chk id L R : Nat)) ∧ Below w.heap.size (rqW w id lv rv) w' ∧ (chk id L R = 0 → Blk w' (w.heap.size + 1) #[.string (txt nm1 k1)] 9 ∧ Blk w' (w.heap.size + 1 + 1) #[.string (txt nm2 k2)] 9) := by
  have hb : Below w.heap.size w (rqW w id lv rv) := ((((Below.refl _ w).alloc (Nat.le_refl _) _).alloc (by simp) _).alloc (by simp; omega) _).alloc (by simp; omega) _
  refine ⟨hb, printed w.heap.size _ w.heap.size (w.heap.size + 1) (w.heap.size + 1 + 1) (w.heap.size + 1 + 1 + 1) id lv rv L R (hl.on hb) (hr.on hb) (fun w' h => ⟨hl.on (hb.trans h), hr.on (hb.trans h)⟩) ?_ ?_ ?_ ?_ (by omega) (by omega) (by omega) (by omega) (by omega) (by omega) (by omega) hb.size nm1 nm2 k1 k2 hT⟩
  · exact (((Blk.madeAt _ _ _ rfl).alloc _).alloc _).alloc _
  · exact ((Blk.madeAt _ _ _ (by simp)).alloc _).alloc _
  · exact (Blk.madeAt _ _ _ (by simp)).alloc _
  · exact Blk.madeAt _ _ _ (by simp)

theorem rulePrint_bad (w : World) (id : Int) (lv rv : Value) (L R : List Cl) (hl : Lies w lv L) (hr : Lies w rv R) (hE : chk id L R ≠ 0) :
    Calls Tryd.prog 12 #[.agg #[.int .i64 id, lv, rv]] w fun e w' => e = .returned (.tuple #[.string ⟨#[]⟩, .int .i64 (chk id L R : Nat)]) ∧ Below w.heap.size w w' := by
  have hmf : ∀ (fn : Fn) (first cap : Array Value) (w : World), (Instr.makeFunc fn first cap).run Tryd.prog w = .ok (.func fn first cap) w := fun _ _ _ _ => rfl
  obtain ⟨hb, hc⟩ := rqW_facts w id lv rv L R hl hr ⟨#[]⟩ ⟨#[]⟩ .nil .nil (fun h => absurd h hE)
  obtain ⟨la, lc, rfl, _⟩ := hl
  obtain ⟨ra, rc, rfl, _⟩ := hr
  have HB : Hid (Below w.heap.size w (rqW w id (.slice la L.length lc) (.slice ra R.length rc))) := hb
  generalize chk id L R = E at hE hc ⊢
  have q1 : ((E : Int) == 0) = false := by simp only [beq_eq_false_iff_ne]; omega
  have q2 : ¬ (E : Int) = 0 := by omega
  clear hE hb
  go_enter Tryd.func12, Tryd.ntmps12
  go_wp2_with (go_at_call 14; refine hc.mono ?_; rintro e w1 ⟨rfl, hb1, _⟩)
  go_ret2
  exact ⟨rfl, HB.out.trans hb1⟩

theorem txt_len {nm : ByteArray} {kd : Fo} (h : check (Fo.cons nm kd .nil).flat = 0) : (txt nm kd).size ≤ 704 := by
  have h1 := text_len (.cons nm kd .nil) (cellsErr_zero.1 (check_zero h).2.1)
  have h2 := (check_zero h).1
  rw [Fo.flat_length] at h2
  show (Fo.cons nm kd .nil).text.toArray.size ≤ 704
  rw [List.size_toArray]
  omega

theorem rulePrint_ok (w : World) (id : Int) (lv rv : Value) (nm1 nm2 : ByteArray) (k1 k2 : Fo) (hl : Lies w lv (Fo.cons nm1 k1 .nil).flat) (hr : Lies w rv (Fo.cons nm2 k2 .nil).flat) (hE : chk id (Fo.cons nm1 k1 .nil).flat (Fo.cons nm2 k2 .nil).flat = 0) :
    Calls Tryd.prog 12 #[.agg #[.int .i64 id, lv, rv]] w fun e w' => e = .returned (.tuple #[.string (txt nm1 k1 ++ arrow ++ txt nm2 k2), .int .i64 0]) ∧ Below w.heap.size w w' := by
  have hmf : ∀ (fn : Fn) (first cap : Array Value) (w : World), (Instr.makeFunc fn first cap).run Tryd.prog w = .ok (.func fn first cap) w := fun _ _ _ _ => rfl
  obtain ⟨hb, hc⟩ := rqW_facts w id lv rv _ _ hl hr nm1 nm2 k1 k2 (fun h => ⟨rfl, rfl⟩)
  rw [hE] at hc
  have z1 := txt_len (chk_zero hE).2.1
  have z2 := txt_len (chk_zero hE).2.2.1
  obtain ⟨la, lc, rfl, _⟩ := hl
  obtain ⟨ra, rc, rfl, _⟩ := hr
  have HB : Hid (Below w.heap.size w (rqW w id (.slice la (Fo.cons nm1 k1 .nil).flat.length lc) (.slice ra (Fo.cons nm2 k2 .nil).flat.length rc))) := hb
  generalize txt nm1 k1 = t1 at hc z1 ⊢
  generalize txt nm2 k2 = t2 at hc z2 ⊢
  clear hE hb
  go_enter Tryd.func12, Tryd.ntmps12
  go_wp2_with (go_at_call 14; refine hc.mono ?_; rintro e w1 ⟨rfl, hb1, hX⟩; have c1 := (hX rfl).1.cell (i := 0) rfl; have c2 := (hX rfl).2.cell (i := 0) rfl; clear hX)
  go_ret2
  exact ⟨rfl, HB.out.trans hb1⟩

end Go.Proofs.YtjpmlnigjbdnnabDoor
