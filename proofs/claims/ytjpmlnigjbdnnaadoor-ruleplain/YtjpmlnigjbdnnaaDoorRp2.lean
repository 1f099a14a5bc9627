/-
  What the program's Parse (rule) answers at any two texts: the three questions, and the whole.
-/
import Derived.Test.YtjpmlnigjbdnnaaDoorCheck
import Derived.Test.YtjpmlnigjbdnnaaDoorParse
import Derived.Test.YtjpmlnigjbdnnaaDoorText
import Derived.Test.YtjpmlnigjbdnnaaDoorBinds
namespace Go.Proofs.YtjpmlnigjbdnnaaDoor
open Go.RowKit
set_option linter.unusedVariables false
set_option linter.unusedSimpArgs false
set_option maxRecDepth 100000

/-- the error, and the cells, that a text is read as -/
def prE (s : ByteArray) : Nat := match parse s with | .bad _ e => e | .ok _ _ => 0
def prL (s : ByteArray) : List Cl := match parse s with | .bad _ _ => [] | .ok M _ => M
theorem prE_bad {s : ByteArray} {j e : Nat} (h : parse s = .bad j e) : prE s = e ∧ prL s = [] := by unfold prE prL; rw [h]; exact ⟨rfl, rfl⟩
theorem prE_ok {s : ByteArray} {M : List Cl} {j : Nat} (h : parse s = .ok M j) : prE s = 0 ∧ prL s = M := by unfold prE prL; rw [h]; exact ⟨rfl, rfl⟩
theorem pr_check {s : ByteArray} (h : prE s = 0) : check (prL s) = 0 := by
  cases hp : parse s with
  | bad j e => have h1 := (parse_bad_le hp).2.1; rw [(prE_bad hp).1] at h; omega
  | ok M j => rw [(prE_ok hp).2]; exact (text_parse hp).1
theorem pr_fine (s : ByteArray) : Fine (prL s) := by
  cases hp : parse s with
  | bad j e => rw [(prE_bad hp).2]; intro c hc; cases hc
  | ok M j => rw [(prE_ok hp).2]; exact fine_check (text_parse hp).1

theorem term_any (s : ByteArray) (w : World) : Calls Tryd.prog 42 #[.string s] w fun x w' => ∃ (a : Option Addr) (n c : Nat) (j : Int), x = .returned (.tuple #[.slice a n c, .int .i64 j, .int .i64 (prE s : Nat)]) ∧ Owns w' w.heap.size (.slice a n c) (prL s) ∧ Below w.heap.size w w' := by
  refine (parse_any s w).mono fun x w' h => ?_
  cases hp : parse s with
  | bad j e =>
    rw [hp] at h
    obtain ⟨h1, h2⟩ := h
    rw [(prE_bad hp).1, (prE_bad hp).2]
    exact ⟨none, 0, 0, _, h1, World.ownsRow_nil _ _ _ _, h2⟩
  | ok M j =>
    rw [hp] at h
    obtain ⟨v, h1, h2, _, h3⟩ := h
    rw [(prE_ok hp).1, (prE_ok hp).2]
    obtain ⟨a, c, hv, _⟩ := own_cells h2
    subst hv
    exact ⟨a, _, c, _, h1, h2, h3⟩

theorem pa1 (w : World) (b p : Nat) (s : ByteArray) (x0 x1 x2 : Value) (hb : Blk w b #[.string s] 9) (hp : Blk w p #[x0, x1, x2] 25) :
    Calls Tryd.prog 41 #[.pointer (some ⟨b, 0, none⟩), .pointer (some ⟨p, 0, none⟩)] w fun e w' => e = .returned (.int .i64 (prE s : Nat)) ∧ ∃ v w1, Below w.heap.size w w1 ∧ w' = w1.setCell ⟨p, 1, none⟩ v ∧ Owns w1 w.heap.size v (prL s) := by
  have hc := hb.cell (i := 0) rfl
  have HP : Hid (Blk w p #[x0, x1, x2] 25) := hp
  have ht := term_any s w
  clear hb hp
  go_enter Tryd.func41, Tryd.ntmps41
  go_wp2_with (go_at_call 42; refine ht.mono ?_; rintro e w1 ⟨a, n, c, j, rfl, ho, hbl⟩; have hq : w1.cell? ⟨p, 1, none⟩ = some x1 := (HP.out.on hbl HP.out.lt).cell rfl; have hz : w1.frozen? ⟨p, 1, none⟩ = false := (HP.out.on hbl HP.out.lt).free 1)
  go_ret
  exact ⟨rfl, _, _, hbl, rfl, ho⟩

theorem pa2 (w : World) (b p : Nat) (s : ByteArray) (x0 x1 x2 : Value) (hb : Blk w b #[.string s] 9) (hp : Blk w p #[x0, x1, x2] 25) :
    Calls Tryd.prog 43 #[.pointer (some ⟨b, 0, none⟩), .pointer (some ⟨p, 0, none⟩)] w fun e w' => e = .returned (.int .i64 (prE s : Nat)) ∧ ∃ v w1, Below w.heap.size w w1 ∧ w' = w1.setCell ⟨p, 2, none⟩ v ∧ Owns w1 w.heap.size v (prL s) := by
  have hc := hb.cell (i := 0) rfl
  have HP : Hid (Blk w p #[x0, x1, x2] 25) := hp
  have ht := term_any s w
  clear hb hp
  go_enter Tryd.func43, Tryd.ntmps43
  go_wp2_with (go_at_call 42; refine ht.mono ?_; rintro e w1 ⟨a, n, c, j, rfl, ho, hbl⟩; have hq : w1.cell? ⟨p, 2, none⟩ = some x2 := (HP.out.on hbl HP.out.lt).cell rfl; have hz : w1.frozen? ⟨p, 2, none⟩ = false := (HP.out.on hbl HP.out.lt).free 2)
  go_ret
  exact ⟨rfl, _, _, hbl, rfl, ho⟩

theorem pa3 (w : World) (p : Nat) (id : Int) (lv rv : Value) (L R : List Cl) (hp : Blk w p #[.int .i64 id, lv, rv] 25) (hl : Lies w lv L) (hr : Lies w rv R) :
    Calls Tryd.prog 44 #[.pointer (some ⟨p, 0, none⟩)] w fun e w' => e = .returned (.int .i64 (chk id L R : Nat)) ∧ Below w.heap.size w w' := by
  have hk := chk_any w id lv rv L R hl hr
  have c0 := hp.cell (i := 0) rfl
  have c1 := hp.cell (i := 1) rfl
  have c2 := hp.cell (i := 2) rfl
  obtain ⟨la, lc, rfl, _⟩ := hl
  obtain ⟨ra, rc, rfl, _⟩ := hr
  clear hp
  go_enter Tryd.func44, Tryd.ntmps44
  go_wp2_with (go_at_call 10; refine hk.mono ?_; rintro e w1 ⟨rfl, hb⟩)
  go_ret
  exact ⟨rfl, hb⟩

theorem three {P : Nat → Prop} (h0 : P 0) (h1 : P 1) (h2 : P 2) : ∀ i, i < 3 → P i
  | 0, _ => h0 | 1, _ => h1 | 2, _ => h2
  | n + 3, h => by omega

def rdr (l r : ByteArray) : Nat → Nat
  | 0 => prE l
  | 1 => prE r
  | 2 => chk 0 (prL l) (prL r)
  | _ => 0
/-- the error that two texts are read with as a rule -/
def rdE (l r : ByteArray) : Nat := fst (rdr l r) 3 0
def rpF : Nat → Nat
  | 0 => 41 | 1 => 43 | _ => 44
theorem rpF_enters : ∀ i, i < 3 → ∀ args w, (callFunc (rpF i) args).run Tryd.prog w = .ok (.enter (rpF i) args) w :=
  three (fun a w => enters_of Tryd.func41 (by kernel_rfl) rfl a w) (fun a w => enters_of Tryd.func43 (by kernel_rfl) rfl a w) (fun a w => enters_of Tryd.func44 (by kernel_rfl) rfl a w)
/-- how far the rule's block has come -/
def Half (W : World) (p : Nat) (l r : ByteArray) (i : Nat) (w' : World) : Prop :=
  W.grownBy w' (some p) ∧ ∃ lv rv, Blk w' p #[.int .i64 0, lv, rv] 25 ∧ Owns w' W.heap.size lv (if 1 ≤ i then prL l else []) ∧ Owns w' W.heap.size rv (if 2 ≤ i then prL r else [])

theorem parsed (W : World) (b1 b2 p q : Nat) (l r : ByteArray) (h1 : Blk W b1 #[.string l] 9) (h2 : Blk W b2 #[.string r] 9) (hp : Blk W p #[.int .i64 0, .slice none 0 0, .slice none 0 0] 25)
    (hq : Blk W q #[.func (.func 41) #[] #[.pointer (some ⟨b1, 0, none⟩), .pointer (some ⟨p, 0, none⟩)], .func (.func 43) #[] #[.pointer (some ⟨b2, 0, none⟩), .pointer (some ⟨p, 0, none⟩)], .func (.func 44) #[] #[.pointer (some ⟨p, 0, none⟩)]] 53)
    (n1 : b1 ≠ p) (n2 : b2 ≠ p) (n3 : q ≠ p) :
    Calls Tryd.prog 25 #[.slice (some ⟨q, 0, none⟩) 3 3] W fun e w' => e = .returned (.int .i64 (rdE l r : Nat)) ∧ W.grownBy w' (some p) ∧ ∃ lv rv, Blk w' p #[.int .i64 0, lv, rv] 25 ∧ (∃ L, Owns w' W.heap.size lv L) ∧ (∃ R, Owns w' W.heap.size rv R) ∧ (rdE l r = 0 → Owns w' W.heap.size lv (prL l) ∧ Owns w' W.heap.size rv (prL r)) := by
  refine (first_any 3 q 3 (by omega) rpF (fun i => match i with | 0 => #[.pointer (some ⟨b1, 0, none⟩), .pointer (some ⟨p, 0, none⟩)] | 1 => #[.pointer (some ⟨b2, 0, none⟩), .pointer (some ⟨p, 0, none⟩)] | _ => #[.pointer (some ⟨p, 0, none⟩)]) (rdr l r) (Half W p l r) W rpF_enters ?_ ?_ ?_).mono ?_
  · intro i w' hi ⟨hg, _⟩
    have hq' := hq.kept hg n3
    match i, hi with
    | 0, _ => exact hq'.cell rfl
    | 1, _ => exact hq'.cell rfl
    | 2, _ => exact hq'.cell rfl
    | n + 3, h => omega
  · intro i w' hi hz hH
    obtain ⟨hg, lv, rv, hB, hL, hR⟩ := hH
    have hpW := hp.lt
    have hpw := hB.lt
    have hsz := hg.size
    revert hz hL hR
    revert i
    refine three ?_ ?_ ?_
    · intro hz hL hR
      refine (pa1 w' b1 p l _ _ _ (h1.kept hg n1) hB).mono fun e w'' h => ?_
      obtain ⟨he, v, w1, hb, rfl, ho⟩ := h
      refine ⟨he, (grown_on hg hb).trans (set_grown w1 p 1 v), v, rv, (hB.on hb hpw).set 1 v, ?_, ?_⟩
      · exact own_base (ownsRow_setCell_below ho (by exact hpw) v) hsz
      · exact ownsRow_setCell_below (own_below hR hb) (by exact hpW) v
    · intro hz hL hR
      refine (pa2 w' b2 p r _ _ _ (h2.kept hg n2) hB).mono fun e w'' h => ?_
      obtain ⟨he, v, w1, hb, rfl, ho⟩ := h
      refine ⟨he, (grown_on hg hb).trans (set_grown w1 p 2 v), lv, v, (hB.on hb hpw).set 2 v, ?_, ?_⟩
      · exact ownsRow_setCell_below (own_below hL hb) (by exact hpW) v
      · exact own_base (ownsRow_setCell_below ho (by exact hpw) v) hsz
    · intro hz hL hR
      refine (pa3 w' p 0 lv rv (prL l) (prL r) hB (Owns.lies hL (pr_fine l)) (Owns.lies hR (pr_fine r))).mono fun e w'' h => ?_
      obtain ⟨he, hb⟩ := h
      exact ⟨he, grown_on hg hb, lv, rv, hB.on hb hpw, own_below hL hb, own_below hR hb⟩
  · exact ⟨World.grownBy.refl _ _, _, _, hp, World.ownsRow_nil _ _ _ _, World.ownsRow_nil _ _ _ _⟩
  · intro e w' h
    obtain ⟨e1, e2, k, hg, lv, rv, hB, hL, hR⟩ := h.told
    by_cases hz : rdE l r = 0
    · obtain ⟨hg, lv, rv, hB, hL, hR⟩ := e2 hz
      exact ⟨e1, hg, lv, rv, hB, ⟨_, hL⟩, ⟨_, hR⟩, fun _ => ⟨hL, hR⟩⟩
    · exact ⟨e1, hg, lv, rv, hB, ⟨_, hL⟩, ⟨_, hR⟩, fun h => absurd h hz⟩

/-- the sides of the rule that two texts are read as -/
def rdL (l r : ByteArray) : List Cl := if rdE l r = 0 then prL l else []
def rdR (l r : ByteArray) : List Cl := if rdE l r = 0 then prL r else []

/-- the world in which the three questions are asked -/
def rpW (w : World) (l r : ByteArray) : World :=
  ((((w.alloc (.cells #[.string l] 9)).alloc (.cells #[.string r] 9)).alloc (.cells #[.int .i64 0, .slice none 0 0, .slice none 0 0] 25)).alloc (.cells #[.int .i64 0, .slice none 0 0, .slice none 0 0] 25)).alloc
    (.cells #[.func (.func 41) #[] #[.pointer (some ⟨w.heap.size, 0, none⟩), .pointer (some ⟨w.heap.size + 1 + 1 + 1, 0, none⟩)], .func (.func 43) #[] #[.pointer (some ⟨w.heap.size + 1, 0, none⟩), .pointer (some ⟨w.heap.size + 1 + 1 + 1, 0, none⟩)], .func (.func 44) #[] #[.pointer (some ⟨w.heap.size + 1 + 1 + 1, 0, none⟩)]] 53)
theorem rpW_facts (w : World) (l r : ByteArray) : (rpW w l r).heap.size = w.heap.size + 5 ∧ Below w.heap.size w (rpW w l r) ∧ Blk (rpW w l r) (w.heap.size + 1 + 1) #[.int .i64 0, .slice none 0 0, .slice none 0 0] 25 ∧
    Calls Tryd.prog 25 #[.slice (some ⟨w.heap.size + 1 + 1 + 1 + 1, 0, none⟩) 3 3] (rpW w l r) fun e w' => e = .returned (.int .i64 (rdE l r : Nat)) ∧ (rpW w l r).grownBy w' (some (w.heap.size + 1 + 1 + 1)) ∧ ∃ lv rv, Blk w' (w.heap.size + 1 + 1 + 1) #[.int .i64 0, lv, rv] 25 ∧ (∃ L, Owns w' (rpW w l r).heap.size lv L) ∧ (∃ R, Owns w' (rpW w l r).heap.size rv R) ∧ (rdE l r = 0 → Owns w' (rpW w l r).heap.size lv (prL l) ∧ Owns w' (rpW w l r).heap.size rv (prL r)) := by
  refine ⟨by simp [rpW], ?_, ?_, parsed _ w.heap.size (w.heap.size + 1) (w.heap.size + 1 + 1 + 1) (w.heap.size + 1 + 1 + 1 + 1) l r ?_ ?_ ?_ ?_ (by omega) (by omega) (by omega)⟩
  · unfold rpW
    exact (((((Below.refl _ w).alloc (Nat.le_refl _) _).alloc (by simp) _).alloc (by simp; omega) _).alloc (by simp; omega) _).alloc (by simp; omega) _
  · exact ((Blk.madeAt _ _ _ (by simp)).alloc _).alloc _
  · exact ((((Blk.madeAt _ _ _ rfl).alloc _).alloc _).alloc _).alloc _
  · exact (((Blk.madeAt _ _ _ (by simp)).alloc _).alloc _).alloc _
  · exact (Blk.madeAt _ _ _ (by simp)).alloc _
  · exact Blk.madeAt _ _ _ (by simp)

set_option maxHeartbeats 1000000 in
theorem ruleParse_any (l r : ByteArray) (w : World) :
    Calls Tryd.prog 14 #[.string l, .string r] w fun e w' => ∃ lv rv, e = .returned (.tuple #[.agg #[.int .i64 0, lv, rv], .int .i64 (rdE l r : Nat)]) ∧ Owns w' w.heap.size lv (rdL l r) ∧ Owns w' w.heap.size rv (rdR l r) ∧ Below w.heap.size w w' := by
  have hmf : ∀ (fn : Fn) (first cap : Array Value) (w : World), (Instr.makeFunc fn first cap).run Tryd.prog w = .ok (.func fn first cap) w := fun _ _ _ _ => rfl
  obtain ⟨hsz, hbl, hres, hcall⟩ := rpW_facts w l r
  unfold rdL rdR
  obtain ⟨E, hE⟩ : ∃ E, rdE l r = E := ⟨_, rfl⟩
  rw [hE] at hcall ⊢
  have HRES : Hid (Blk (rpW w l r) (w.heap.size + 1 + 1) #[.int .i64 0, .slice none 0 0, .slice none 0 0] 25) := hres
  have HBL : Hid (Below w.heap.size w (rpW w l r)) := hbl
  have HSZ : Hid ((rpW w l r).heap.size = w.heap.size + 5) := hsz
  have hcall2 := hcall

  clear hcall hres hbl hsz hE
  by_cases hz : E = 0
  · subst hz
    go_enter Tryd.func14, Tryd.ntmps14
    go_wp2_with (first | (go_at_call 25; refine hcall2.mono ?_; rintro e w3 ⟨rfl, hg, lv, rv, hB, ⟨L0, hL0⟩, ⟨R0, hR0⟩, hLR⟩; obtain ⟨hL, hR⟩ := hLR rfl; clear hL0 hR0 hLR; obtain ⟨la, lc, hlv, _⟩ := own_cells hL; obtain ⟨ra, rc, hrv, _⟩ := own_cells hR; subst hlv; subst hrv; have d0 := hB.cell (i := 0) rfl; have d1 := hB.cell (i := 1) rfl; have d2 := hB.cell (i := 2) rfl; have hC : Blk w3 (w.heap.size + 1 + 1) #[.int .i64 0, .slice none 0 0, .slice none 0 0] 25 := HRES.out.kept hg (by omega); have f0 := hC.free 0; have f1 := hC.free 1; have f2 := hC.free 2; have c0 := hC.cell (i := 0) rfl; have c1 := hC.cell (i := 1) rfl; have c2 := hC.cell (i := 2) rfl) | (go_at_call 25; trace_state; fail))
    obtain ⟨hD, hg2⟩ := set3 hC (.int .i64 0) (.slice la (prL l).length lc) (.slice ra (prL r).length rc)
    generalize ((w3.setCell ⟨w.heap.size + 1 + 1, 0, none⟩ (.int .i64 0)).setCell ⟨w.heap.size + 1 + 1, 1, none⟩ (.slice la (prL l).length lc)).setCell ⟨w.heap.size + 1 + 1, 2, none⟩ (.slice ra (prL r).length rc) = w4 at hD hg2 ⊢
    have e0 := hD.cell (i := 0) rfl
    have e1 := hD.cell (i := 1) rfl
    have e2 := hD.cell (i := 2) rfl
    have hs := HSZ.out
    have hs3 := hg.size
    refine bodyPost_ret (v := .tuple #[.agg #[.int .i64 0, .slice la (prL l).length lc, .slice ra (prL r).length rc], .int .i64 0]) (by simp [results, Tryd.results14, go_sem, e0, e1, e2]) rfl ⟨_, _, rfl, ?_, ?_, ?_⟩
    · exact own_base (own_apart hL hg2 (by omega)) (by omega)
    · exact own_base (own_apart hR hg2 (by omega)) (by omega)
    · exact (HBL.out.grown hg (by omega) (fun k hk => by cases hk; omega)).grown hg2 (by omega) (fun k hk => by cases hk; omega)
  · have q1 : ((E : Int) == 0) = false := by simp only [beq_eq_false_iff_ne]; omega
    have q2 : ¬ (E : Int) = 0 := by omega
    rw [if_neg hz, if_neg hz]
    clear hz
    go_enter Tryd.func14, Tryd.ntmps14
    go_wp2_with (first | (go_at_call 25; refine hcall2.mono ?_; rintro e w3 ⟨rfl, hg, lv, rv, hB, ⟨L0, hL0⟩, ⟨R0, hR0⟩, hLR⟩; clear hLR hL0 hR0; have hC : Blk w3 (w.heap.size + 1 + 1) #[.int .i64 0, .slice none 0 0, .slice none 0 0] 25 := HRES.out.kept hg (by omega); have f0 := hC.free 0; have f1 := hC.free 1; have f2 := hC.free 2; have c0 := hC.cell (i := 0) rfl; have c1 := hC.cell (i := 1) rfl; have c2 := hC.cell (i := 2) rfl) | (go_at_call 25; trace_state; fail))
    obtain ⟨hD, hg2⟩ := set3 hC (.int .i64 0) (.slice none 0 0) (.slice none 0 0)
    generalize ((w3.setCell ⟨w.heap.size + 1 + 1, 0, none⟩ (.int .i64 0)).setCell ⟨w.heap.size + 1 + 1, 1, none⟩ (.slice none 0 0)).setCell ⟨w.heap.size + 1 + 1, 2, none⟩ (.slice none 0 0) = w4 at hD hg2 ⊢
    have e0 := hD.cell (i := 0) rfl
    have e1 := hD.cell (i := 1) rfl
    have e2 := hD.cell (i := 2) rfl
    have hs := HSZ.out
    have hs3 := hg.size
    refine bodyPost_ret (v := .tuple #[.agg #[.int .i64 0, .slice none 0 0, .slice none 0 0], .int .i64 (E : Nat)]) (by simp [results, Tryd.results14, go_sem, e0, e1, e2]) rfl ⟨_, _, rfl, World.ownsRow_nil _ _ _ _, World.ownsRow_nil _ _ _ _, ?_⟩
    exact (HBL.out.grown hg (by omega) (fun k hk => by cases hk; omega)).grown hg2 (by omega) (fun k hk => by cases hk; omega)

end Go.Proofs.YtjpmlnigjbdnnaaDoor
