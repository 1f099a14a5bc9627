/-
  What the document's Apply answers.
-/
import Derived.Test.YtjpmlnigjbdnnaaDoorHd
import Derived.Test.YtjpmlnigjbdnnaaDoorRc
import Derived.Test.YtjpmlnigjbdnnaaDoorRMatch
namespace Go.Proofs.YtjpmlnigjbdnnaaDoor
open Go.RowKit
set_option linter.unusedVariables false
set_option linter.unusedSimpArgs false
set_option maxRecDepth 100000

theorem rApply_any (w : World) (id : Int) (lv rv tv : Value) (L R T : List Cl) (hl : Lies w lv L) (hr : Lies w rv R) (ht : Lies w tv T) :
    Calls Tryd.prog 23 #[.agg #[.int .i64 id, lv, rv], tv] w fun e w' => ∃ v, e = .returned (.tuple #[v, .bool (apB id L R T), .int .i64 (apE id L R T : Nat)]) ∧ Owns w' w.heap.size v (apM id L R T) ∧ Below w.heap.size w w' := by
  have hb : Below w.heap.size w (w.alloc (.cells #[.int .i64 id, lv, rv] 25)) := (Below.refl _ w).alloc (Nat.le_refl _) _
  have hk := rChk_any _ id lv rv L R (hl.on hb) (hr.on hb)
  have hm : ∀ w1, Below w.heap.size w w1 → _ := fun w1 h => rMatch_any w1 lv tv L T (hl.on h) (ht.on h)
  have hf : ∀ w1 v l, Below w.heap.size w w1 → LiesB w1 v l → _ := fun w1 v l h h2 => rFill_any w1 rv v R l (hr.on h) h2
  have hx := Blk.made w #[.int .i64 id, lv, rv] 25
  unfold apB apE apM
  obtain ⟨la, lc, rfl, _⟩ := hl
  obtain ⟨ra, rc, rfl, _⟩ := hr
  obtain ⟨ta, tc, rfl, _⟩ := ht
  have HB : Hid (Below w.heap.size w (w.alloc (.cells #[.int .i64 id, .slice la L.length lc, .slice ra R.length rc] 25))) := hb
  have HX : Hid (Blk (w.alloc (.cells #[.int .i64 id, .slice la L.length lc, .slice ra R.length rc] 25)) w.heap.size #[.int .i64 id, .slice la L.length lc, .slice ra R.length rc] 25) := hx
  clear hb hx
  by_cases hE : chk id L R = 0
  · rw [hE] at hk
    rw [if_pos hE, if_pos hE, decide_eq_true hE]
    clear hE
    by_cases hc : ce L T = 0
    · rw [if_pos hc]
      rw [hc] at hm
      cases ha : mt L T with
      | none =>
        rw [ha] at hm
        clear ha hc hf
        have hm2 : ∀ w1, Below w.heap.size w w1 → Calls Tryd.prog 59 #[.slice la L.length lc, .slice ta T.length tc] w1 fun e w' => ∃ v', e = .returned (.tuple #[v', .bool false, .int .i64 0]) ∧ OwnsB w' w1.heap.size v' [] ∧ Below w1.heap.size w1 w' := hm
        clear hm
        go_enter Tryd.func23, Tryd.ntmps23
        go_wp2_with (first | (go_at_call 12; refine hk.mono ?_; rintro e w1 ⟨rfl, hb1⟩; have c1 := (HX.out.on hb1 HX.out.lt).cell (i := 1) rfl; have hbw := HB.out.trans (hb1.mono HB.out.size)) | (go_at_call 59; refine (hm2 _ hbw).mono ?_; rintro e w2 ⟨v2, rfl, ho2, hb2⟩; obtain ⟨oa, oc, hov, _⟩ := ho2.form; subst hov))
        go_ret3
        exact ⟨_, rfl, World.ownsRow_nil _ _ _ _, hbw.trans (hb2.mono hbw.size)⟩
      | some acc =>
        rw [ha] at hm
        have hm2 : ∀ w1, Below w.heap.size w w1 → Calls Tryd.prog 59 #[.slice la L.length lc, .slice ta T.length tc] w1 fun e w' => ∃ v', e = .returned (.tuple #[v', .bool true, .int .i64 0]) ∧ OwnsB w' w1.heap.size v' acc ∧ Below w1.heap.size w1 w' := hm
        have HG : Hid (∀ b ∈ acc, Fine b.val ∧ b.nm.size ≤ 9223372036854775807) := good_fine ha
        clear hm ha hc
        simp only [Bool.true_and]
        have hf2 : ∀ w1 v, Below w.heap.size w w1 → LiesB w1 v acc → _ := fun w1 v h1 h2 => hf w1 v acc h1 h2
        clear hf
        generalize fillM R acc = M at hf2 ⊢
        by_cases hz : fillE R acc = 0
        · rw [hz] at hf2 ⊢
          clear hz
          go_enter Tryd.func23, Tryd.ntmps23
          go_wp2_with (first | (go_at_call 12; refine hk.mono ?_; rintro e w1 ⟨rfl, hb1⟩; have hX1 := HX.out.on hb1 HX.out.lt; have c1 := hX1.cell (i := 1) rfl; have hbw := HB.out.trans (hb1.mono HB.out.size)) | (go_at_call 59; refine (hm2 _ hbw).mono ?_; rintro e w2 ⟨v2, rfl, ho2, hb2⟩; have hO2 := ho2; obtain ⟨oa, oc, hov, _⟩ := ho2.form; subst hov; have c2 := (hX1.on hb2 hX1.lt).cell (i := 2) rfl; have hbw2 := hbw.trans (hb2.mono hbw.size)) | (go_at_call 60; refine (hf2 _ _ hbw2 (hO2.lies HG.out)).mono ?_; rintro e w3 ⟨v3, rfl, ho3, hb3⟩; have hO3 := ho3; obtain ⟨pa, pc, hpv, _⟩ := own_cells ho3; subst hpv))
          go_ret3
          exact ⟨_, rfl, own_base hO3 hbw2.size, hbw2.trans (hb3.mono hbw2.size)⟩
        · generalize fillE R acc = E at hf2 hz ⊢
          have q1 : ((E : Int) == 0) = false := by simp only [beq_eq_false_iff_ne]; omega
          have q2 : ¬ (E : Int) = 0 := by omega
          rw [decide_eq_false hz]
          clear hz
          go_enter Tryd.func23, Tryd.ntmps23
          go_wp2_with (first | (go_at_call 12; refine hk.mono ?_; rintro e w1 ⟨rfl, hb1⟩; have hX1 := HX.out.on hb1 HX.out.lt; have c1 := hX1.cell (i := 1) rfl; have hbw := HB.out.trans (hb1.mono HB.out.size)) | (go_at_call 59; refine (hm2 _ hbw).mono ?_; rintro e w2 ⟨v2, rfl, ho2, hb2⟩; have hO2 := ho2; obtain ⟨oa, oc, hov, _⟩ := ho2.form; subst hov; have c2 := (hX1.on hb2 hX1.lt).cell (i := 2) rfl; have hbw2 := hbw.trans (hb2.mono hbw.size)) | (go_at_call 60; refine (hf2 _ _ hbw2 (hO2.lies HG.out)).mono ?_; rintro e w3 ⟨v3, rfl, ho3, hb3⟩; have hO3 := ho3; obtain ⟨pa, pc, hpv, _⟩ := own_cells ho3; subst hpv))
          go_ret3
          exact ⟨_, rfl, own_base hO3 hbw2.size, hbw2.trans (hb3.mono hbw2.size)⟩
    · have hn : mt L T = none := by unfold mt; rw [if_neg hc]
      rw [if_neg hc, hn]
      rw [hn] at hm
      generalize ce L T = E at hm hc ⊢
      have q1 : ((E : Int) == 0) = false := by simp only [beq_eq_false_iff_ne]; omega
      have q2 : ¬ (E : Int) = 0 := by omega
      have hm2 : ∀ w1, Below w.heap.size w w1 → Calls Tryd.prog 59 #[.slice la L.length lc, .slice ta T.length tc] w1 fun e w' => ∃ v', e = .returned (.tuple #[v', .bool false, .int .i64 (E : Nat)]) ∧ OwnsB w' w1.heap.size v' [] ∧ Below w1.heap.size w1 w' := hm
      clear hm hn hc hf
      go_enter Tryd.func23, Tryd.ntmps23
      go_wp2_with (first | (go_at_call 12; refine hk.mono ?_; rintro e w1 ⟨rfl, hb1⟩; have c1 := (HX.out.on hb1 HX.out.lt).cell (i := 1) rfl; have hbw := HB.out.trans (hb1.mono HB.out.size)) | (go_at_call 59; refine (hm2 _ hbw).mono ?_; rintro e w2 ⟨v2, rfl, ho2, hb2⟩; obtain ⟨oa, oc, hov, _⟩ := ho2.form; subst hov))
      go_ret3
      exact ⟨_, rfl, World.ownsRow_nil _ _ _ _, hbw.trans (hb2.mono hbw.size)⟩
  · rw [if_neg hE, if_neg hE, decide_eq_false hE, Bool.false_and]
    generalize chk id L R = E at hk hE ⊢
    have q1 : ((E : Int) == 0) = false := by simp only [beq_eq_false_iff_ne]; omega
    have q2 : ¬ (E : Int) = 0 := by omega
    clear hm hf hE
    go_enter Tryd.func23, Tryd.ntmps23
    go_wp2_with (first | (go_at_call 12; refine hk.mono ?_; rintro e w1 ⟨rfl, hb1⟩; have hbw := HB.out.trans (hb1.mono HB.out.size)))
    go_ret3
    exact ⟨_, rfl, World.ownsRow_nil _ _ _ _, hbw⟩

end Go.Proofs.YtjpmlnigjbdnnaaDoor
