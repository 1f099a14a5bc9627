/-
  What the program's Head and Apply answer; the document's Copy of a rule.
-/
import Derived.Test.YtjpmlnigjbdnnabDoorPr
import Derived.Deep.RegionHeld3
namespace Go.Proofs.YtjpmlnigjbdnnabDoor
open Go.RowKit
set_option linter.unusedVariables false
set_option linter.unusedSimpArgs false
set_option maxRecDepth 100000

theorem head_bad (w : World) (id : Int) (lv rv : Value) (L R : List Cl) (hl : Lies w lv L) (hr : Lies w rv R) (hE : chk id L R ≠ 0) :
    Calls Tryd.prog 13 #[.agg #[.int .i64 id, lv, rv]] w fun e w' => e = .returned (.string ⟨#[]⟩) ∧ Below w.heap.size w w' := by
  have hb : Below w.heap.size w (w.alloc (.cells #[.int .i64 id, lv, rv] 25)) := (Below.refl _ w).alloc (Nat.le_refl _) _
  have hk := chk_any _ id lv rv L R (hl.on hb) (hr.on hb)
  obtain ⟨la, lc, rfl, _⟩ := hl
  obtain ⟨ra, rc, rfl, _⟩ := hr
  have HB : Hid (Below w.heap.size w (w.alloc (.cells #[.int .i64 id, .slice la L.length lc, .slice ra R.length rc] 25))) := hb
  generalize chk id L R = E at hE hk
  have q1 : ((E : Int) == 0) = false := by simp only [beq_eq_false_iff_ne]; omega
  have q2 : ¬ (E : Int) = 0 := by omega
  clear hE hb
  go_enter Tryd.func13, Tryd.ntmps13
  go_wp2_with (go_at_call 16; refine hk.mono ?_; rintro e w1 ⟨rfl, hb1⟩)
  go_ret
  exact ⟨rfl, HB.out.trans (hb1.mono HB.out.size)⟩

theorem head_ok (w : World) (id : Int) (lv rv : Value) (L R : List Cl) (hl : Lies w lv L) (hr : Lies w rv R) (hE : chk id L R = 0) :
    Calls Tryd.prog 13 #[.agg #[.int .i64 id, lv, rv]] w fun e w' => e = .returned (.string (hd L)) ∧ Below w.heap.size w w' := by
  have hb : Below w.heap.size w (w.alloc (.cells #[.int .i64 id, lv, rv] 25)) := (Below.refl _ w).alloc (Nat.le_refl _) _
  have hk := chk_any _ id lv rv L R (hl.on hb) (hr.on hb)
  rw [hE] at hk
  have hL := (chk_zero hE).2.1
  obtain ⟨nm, kd, rfl⟩ := check_term hL
  have h8 := (name_len (cellsErr_zero.1 (check_zero hL).2.1 ⟨nm, (kd.len : Nat)⟩ (by simp [Fo.flat]))).2
  have hcl := fun w => clone_any nm w (by simp only at h8; omega)
  show Calls Tryd.prog 13 #[.agg #[.int .i64 id, lv, rv]] w fun e w' => e = .returned (.string nm) ∧ Below w.heap.size w w'
  obtain ⟨la, lc, rfl, l1, l2, _, lC⟩ := hl
  obtain ⟨ra, rc, rfl, _⟩ := hr
  have hbx := Blk.made w #[.int .i64 id, .slice la (Fo.cons nm kd .nil).flat.length lc, .slice ra R.length rc] 25
  have HB : Hid (Below w.heap.size w (w.alloc (.cells #[.int .i64 id, .slice la (Fo.cons nm kd .nil).flat.length lc, .slice ra R.length rc] 25))) := hb
  have HX : Hid (Blk (w.alloc (.cells #[.int .i64 id, .slice la (Fo.cons nm kd .nil).flat.length lc, .slice ra R.length rc] 25)) w.heap.size #[.int .i64 id, .slice la (Fo.cons nm kd .nil).flat.length lc, .slice ra R.length rc] 25) := hbx
  obtain ⟨g, off, rfl, hg, d1, _⟩ := lC 0 ⟨nm, (kd.len : Nat)⟩ (by simp [Fo.flat])
  simp only [Nat.zero_mul, Nat.add_zero] at d1
  have hlen : 0 < (Fo.cons nm kd .nil).flat.length := by simp [Fo.flat]
  clear lC hE hb hL hbx
  generalize (Fo.cons nm kd .nil).flat.length = n at *
  go_enter Tryd.func13, Tryd.ntmps13
  go_wp2_with (first | (go_at_call 16; refine hk.mono ?_; rintro e w1 ⟨rfl, hb1⟩; have c1 := (HX.out.on hb1 HX.out.lt).cell (i := 1) rfl; have hbw := HB.out.trans (hb1.mono HB.out.size); have d2 : w1.cell? ⟨g, off, none⟩ = some (.string nm) := (hbw.cell (p := ⟨g, off, none⟩) hg).trans d1) | (go_at_call 31; refine (hcl _).mono ?_; rintro e w2 ⟨rfl, hb2⟩))
  go_ret
  exact ⟨rfl, hbw.trans (hb2.mono hbw.size)⟩

/-- what a rule makes of a term: the error, whether it fits, and what stands there then -/
def apE (id : Int) (L R T : List Cl) : Nat := if chk id L R = 0 then (if ce L T = 0 then (match mt L T with | some acc => fillE R acc | none => 0) else ce L T) else chk id L R
def apB (id : Int) (L R T : List Cl) : Bool := decide (chk id L R = 0) && (match mt L T with | some acc => decide (fillE R acc = 0) | none => false)
def apM (id : Int) (L R T : List Cl) : List Cl := if chk id L R = 0 then (match mt L T with | some acc => fillM R acc | none => []) else []

theorem good_fine {P T : List Cl} {acc : List Bd} (h : mt P T = some acc) : ∀ b ∈ acc, Fine b.val ∧ b.nm.size ≤ 9223372036854775807 := fun b hb => by
  obtain ⟨h1, h2⟩ := (mt_facts h).2.1 b hb
  exact ⟨fine_check h1, by have := nm_size h2; omega⟩
theorem mt_ce {P T : List Cl} {acc : List Bd} (h : mt P T = some acc) : ce P T = 0 := by
  obtain ⟨h1, h2, _⟩ := mt_some h
  unfold ce; rw [if_pos h1]; exact h2

theorem apply_any (w : World) (id : Int) (lv rv tv : Value) (L R T : List Cl) (hl : Lies w lv L) (hr : Lies w rv R) (ht : Lies w tv T) :
    Calls Tryd.prog 8 #[.agg #[.int .i64 id, lv, rv], tv] w fun e w' => ∃ v, e = .returned (.tuple #[v, .bool (apB id L R T), .int .i64 (apE id L R T : Nat)]) ∧ Owns w' w.heap.size v (apM id L R T) ∧ Below w.heap.size w w' := by
  have hb : Below w.heap.size w (w.alloc (.cells #[.int .i64 id, lv, rv] 25)) := (Below.refl _ w).alloc (Nat.le_refl _) _
  have hk := chk_any _ id lv rv L R (hl.on hb) (hr.on hb)
  have hm : ∀ w1, Below w.heap.size w w1 → _ := fun w1 h => match_any w1 lv tv L T (hl.on h) (ht.on h)
  have hf : ∀ w1 v l, Below w.heap.size w w1 → LiesB w1 v l → _ := fun w1 v l h h2 => fill_any w1 rv v R l (hr.on h) h2
  have hx := Blk.made w #[.int .i64 id, lv, rv] 25
  unfold apB apE apM
  obtain ⟨la, lc, rfl, _⟩ := hl
  obtain ⟨ra, rc, rfl, _⟩ := hr
  obtain ⟨ta, tc, rfl, _⟩ := ht
  have HB : Hid (Below w.heap.size w (w.alloc (.cells #[.int .i64 id, .slice la L.length lc, .slice ra R.length rc] 25))) := hb
  have HX : Hid (Blk (w.alloc (.cells #[.int .i64 id, .slice la L.length lc, .slice ra R.length rc] 25)) w.heap.size #[.int .i64 id, .slice la L.length lc, .slice ra R.length rc] 25) := hx
  clear hb hx
  by_cases hE : chk id L R = 0
  · rw [hE] at hk
    rw [if_pos hE, if_pos hE, decide_eq_true hE]
    clear hE
    by_cases hc : ce L T = 0
    · rw [if_pos hc]
      rw [hc] at hm
      cases ha : mt L T with
      | none =>
        rw [ha] at hm
        clear ha hc hf
        have hm2 : ∀ w1, Below w.heap.size w w1 → Calls Tryd.prog 22 #[.slice la L.length lc, .slice ta T.length tc] w1 fun e w' => ∃ v', e = .returned (.tuple #[v', .bool false, .int .i64 0]) ∧ OwnsB w' w1.heap.size v' [] ∧ Below w1.heap.size w1 w' := hm
        clear hm
        go_enter Tryd.func8, Tryd.ntmps8
        go_wp2_with (first | (go_at_call 16; refine hk.mono ?_; rintro e w1 ⟨rfl, hb1⟩; have c1 := (HX.out.on hb1 HX.out.lt).cell (i := 1) rfl; have hbw := HB.out.trans (hb1.mono HB.out.size)) | (go_at_call 22; refine (hm2 _ hbw).mono ?_; rintro e w2 ⟨v2, rfl, ho2, hb2⟩; obtain ⟨oa, oc, hov, _⟩ := ho2.form; subst hov))
        go_ret3
        exact ⟨_, rfl, World.ownsRow_nil _ _ _ _, hbw.trans (hb2.mono hbw.size)⟩
      | some acc =>
        rw [ha] at hm
        have hm2 : ∀ w1, Below w.heap.size w w1 → Calls Tryd.prog 22 #[.slice la L.length lc, .slice ta T.length tc] w1 fun e w' => ∃ v', e = .returned (.tuple #[v', .bool true, .int .i64 0]) ∧ OwnsB w' w1.heap.size v' acc ∧ Below w1.heap.size w1 w' := hm
        have HG : Hid (∀ b ∈ acc, Fine b.val ∧ b.nm.size ≤ 9223372036854775807) := good_fine ha
        clear hm ha hc
        simp only [Bool.true_and]
        have hf2 : ∀ w1 v, Below w.heap.size w w1 → LiesB w1 v acc → _ := fun w1 v h1 h2 => hf w1 v acc h1 h2
        clear hf
        generalize fillM R acc = M at hf2 ⊢
        by_cases hz : fillE R acc = 0
        · rw [hz] at hf2 ⊢
          clear hz
          go_enter Tryd.func8, Tryd.ntmps8
          go_wp2_with (first | (go_at_call 16; refine hk.mono ?_; rintro e w1 ⟨rfl, hb1⟩; have hX1 := HX.out.on hb1 HX.out.lt; have c1 := hX1.cell (i := 1) rfl; have hbw := HB.out.trans (hb1.mono HB.out.size)) | (go_at_call 22; refine (hm2 _ hbw).mono ?_; rintro e w2 ⟨v2, rfl, ho2, hb2⟩; have hO2 := ho2; obtain ⟨oa, oc, hov, _⟩ := ho2.form; subst hov; have c2 := (hX1.on hb2 hX1.lt).cell (i := 2) rfl; have hbw2 := hbw.trans (hb2.mono hbw.size)) | (go_at_call 20; refine (hf2 _ _ hbw2 (hO2.lies HG.out)).mono ?_; rintro e w3 ⟨v3, rfl, ho3, hb3⟩; have hO3 := ho3; obtain ⟨pa, pc, hpv, _⟩ := own_cells ho3; subst hpv))
          go_ret3
          exact ⟨_, rfl, own_base hO3 hbw2.size, hbw2.trans (hb3.mono hbw2.size)⟩
        · generalize fillE R acc = E at hf2 hz ⊢
          have q1 : ((E : Int) == 0) = false := by simp only [beq_eq_false_iff_ne]; omega
          have q2 : ¬ (E : Int) = 0 := by omega
          rw [decide_eq_false hz]
          clear hz
          go_enter Tryd.func8, Tryd.ntmps8
          go_wp2_with (first | (go_at_call 16; refine hk.mono ?_; rintro e w1 ⟨rfl, hb1⟩; have hX1 := HX.out.on hb1 HX.out.lt; have c1 := hX1.cell (i := 1) rfl; have hbw := HB.out.trans (hb1.mono HB.out.size)) | (go_at_call 22; refine (hm2 _ hbw).mono ?_; rintro e w2 ⟨v2, rfl, ho2, hb2⟩; have hO2 := ho2; obtain ⟨oa, oc, hov, _⟩ := ho2.form; subst hov; have c2 := (hX1.on hb2 hX1.lt).cell (i := 2) rfl; have hbw2 := hbw.trans (hb2.mono hbw.size)) | (go_at_call 20; refine (hf2 _ _ hbw2 (hO2.lies HG.out)).mono ?_; rintro e w3 ⟨v3, rfl, ho3, hb3⟩; have hO3 := ho3; obtain ⟨pa, pc, hpv, _⟩ := own_cells ho3; subst hpv))
          go_ret3
          exact ⟨_, rfl, own_base hO3 hbw2.size, hbw2.trans (hb3.mono hbw2.size)⟩
    · have hn : mt L T = none := by unfold mt; rw [if_neg hc]
      rw [if_neg hc, hn]
      rw [hn] at hm
      generalize ce L T = E at hm hc ⊢
      have q1 : ((E : Int) == 0) = false := by simp only [beq_eq_false_iff_ne]; omega
      have q2 : ¬ (E : Int) = 0 := by omega
      have hm2 : ∀ w1, Below w.heap.size w w1 → Calls Tryd.prog 22 #[.slice la L.length lc, .slice ta T.length tc] w1 fun e w' => ∃ v', e = .returned (.tuple #[v', .bool false, .int .i64 (E : Nat)]) ∧ OwnsB w' w1.heap.size v' [] ∧ Below w1.heap.size w1 w' := hm
      clear hm hn hc hf
      go_enter Tryd.func8, Tryd.ntmps8
      go_wp2_with (first | (go_at_call 16; refine hk.mono ?_; rintro e w1 ⟨rfl, hb1⟩; have c1 := (HX.out.on hb1 HX.out.lt).cell (i := 1) rfl; have hbw := HB.out.trans (hb1.mono HB.out.size)) | (go_at_call 22; refine (hm2 _ hbw).mono ?_; rintro e w2 ⟨v2, rfl, ho2, hb2⟩; obtain ⟨oa, oc, hov, _⟩ := ho2.form; subst hov))
      go_ret3
      exact ⟨_, rfl, World.ownsRow_nil _ _ _ _, hbw.trans (hb2.mono hbw.size)⟩
  · rw [if_neg hE, if_neg hE, decide_eq_false hE, Bool.false_and]
    generalize chk id L R = E at hk hE ⊢
    have q1 : ((E : Int) == 0) = false := by simp only [beq_eq_false_iff_ne]; omega
    have q2 : ¬ (E : Int) = 0 := by omega
    clear hm hf hE
    go_enter Tryd.func8, Tryd.ntmps8
    go_wp2_with (first | (go_at_call 16; refine hk.mono ?_; rintro e w1 ⟨rfl, hb1⟩; have hbw := HB.out.trans (hb1.mono HB.out.size)))
    go_ret3
    exact ⟨_, rfl, World.ownsRow_nil _ _ _ _, hbw⟩

end Go.Proofs.YtjpmlnigjbdnnabDoor
