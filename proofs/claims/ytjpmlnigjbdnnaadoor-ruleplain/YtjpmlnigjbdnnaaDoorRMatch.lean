/-
  What the document's Match answers; that two lists of binds that hold the same are told as alike.
-/
import Derived.Test.YtjpmlnigjbdnnaaDoorRFit3
namespace Go.Proofs.YtjpmlnigjbdnnaaDoor
open Go.RowKit
set_option linter.unusedVariables false
set_option maxRecDepth 100000
set_option linter.unusedSimpArgs false

theorem fit_same {nm nm' : ByteArray} {kd kd' : Fo} (hp : check (Fo.cons nm kd .nil).flat = 0) : fitL (Fo.cons nm kd .nil).flat (Fo.cons nm' kd' .nil).flat [] = fitF (.cons nm kd .nil) (.cons nm' kd' .nil) [] := by
  have := fit_flat (.cons nm kd .nil) (.cons nm' kd' .nil) [] [] [] rfl (plainly_of _ (cellsErr_zero.1 (check_zero hp).2.1))
  rw [List.append_nil, List.append_nil] at this
  rw [this]
  cases fitF (.cons nm kd .nil) (.cons nm' kd' .nil) [] <;> rfl

theorem rMatch_any (w : World) (u v : Value) (P T : List Cl) (hu : Lies w u P) (hv : Lies w v T) :
    Calls Tryd.prog 59 #[u, v] w fun e w' => ∃ v', e = .returned (.tuple #[v', .bool (mt P T).isSome, .int .i64 (ce P T : Nat)]) ∧ OwnsB w' w.heap.size v' ((mt P T).getD []) ∧ Below w.heap.size w w' := by
  have hcp := rCheck_any w u P hu
  have hct := rCheck_any w v T hv
  by_cases hP : check P = 0
  · rw [hP] at hcp
    by_cases hT : check T = 0
    · rw [hT] at hct
      have hce : ce P T = 0 := by unfold ce; rw [if_pos hP]; exact hT
      have hmt : mt P T = fitL P T [] := by unfold mt; rw [if_pos hce]
      obtain ⟨nm, kd, e1⟩ := check_term hP
      obtain ⟨nm', kd', e2⟩ := check_term hT
      have hsz : kd.size ≤ 64 := by have := (check_zero hP).1; rw [e1, Fo.flat_length] at this; simp only [Fo.size] at this; omega
      have hfit := rFit_any (kd.size + 1) w.heap.size w u v (.slice none 0 0) nm kd nm' kd' [] (by omega) (by rw [← e1]; exact hu) (by rw [← e2]; exact hv) (by rw [← e1]; exact hP) (by rw [← e2]; exact hT) (Nat.le_refl _) (OwnsB.nil _ _) (by intro b hb; cases hb) (by simp; omega)
      have hfs := fit_same (nm := nm) (nm' := nm') (kd := kd) (kd' := kd') (by rw [← e1]; exact hP)
      rw [← e1, ← e2] at hfs
      rw [← hfs] at hfit
      rw [hce, hmt]
      cases hf : fitL P T [] with
      | none =>
        rw [hf] at hfit
        have hfit2 : Calls Tryd.prog 84 #[u, v, .slice none 0 0] w fun e w' => (∃ v', e = .returned (.tuple #[v', .bool false])) ∧ Kp w.heap.size w w' := hfit
        clear hfit hmt hf hce hP hT hfs e1 e2 hsz
        go_enter Tryd.func59, Tryd.ntmps59
        go_wp2_with (first | (go_at_call 36; refine hcp.mono ?_; rintro e w1 ⟨rfl, rfl⟩; clear hcp) | (go_at_call 36; refine hct.mono ?_; rintro e w2 ⟨rfl, rfl⟩) | (go_at_call 84; refine hfit2.mono ?_; rintro e w3 ⟨⟨v3, rfl⟩, hk3⟩))
        go_ret3
        exact ⟨_, rfl, OwnsB.nil _ _, hk3.low⟩
      | some acc =>
        rw [hf] at hfit
        have hfit2 : Calls Tryd.prog 84 #[u, v, .slice none 0 0] w fun e w' => (∃ v', e = .returned (.tuple #[v', .bool true]) ∧ OwnsB w' w.heap.size v' acc) ∧ Kp w.heap.size w w' := hfit
        clear hfit hmt hf hce hP hT hfs e1 e2 hsz
        go_enter Tryd.func59, Tryd.ntmps59
        go_wp2_with (first | (go_at_call 36; refine hcp.mono ?_; rintro e w1 ⟨rfl, rfl⟩; clear hcp) | (go_at_call 36; refine hct.mono ?_; rintro e w2 ⟨rfl, rfl⟩) | (go_at_call 84; refine hfit2.mono ?_; rintro e w3 ⟨⟨v3, rfl, ho3⟩, hk3⟩; obtain ⟨oa, oc, hov, _⟩ := ho3.form; subst hov))
        go_ret3
        exact ⟨_, rfl, ho3, hk3.low⟩
    · have hce : ce P T = check T := by unfold ce; rw [if_pos hP]
      have hmt : mt P T = none := by unfold mt; rw [hce, if_neg hT]
      rw [hmt, hce]
      generalize check T = e0 at hct hT ⊢
      have e1 : ((e0 : Int) == 0) = false := by simp only [beq_eq_false_iff_ne]; omega
      have e2 : ¬ (e0 : Int) = 0 := by omega
      clear hce hmt hP
      go_enter Tryd.func59, Tryd.ntmps59
      go_wp2_with (first | (go_at_call 36; refine hcp.mono ?_; rintro e w1 ⟨rfl, rfl⟩; clear hcp) | (go_at_call 36; refine hct.mono ?_; rintro e w2 ⟨rfl, rfl⟩))
      go_ret3
      exact ⟨_, rfl, OwnsB.nil _ _, Below.refl _ _⟩
  · have hce : ce P T = check P := by unfold ce; rw [if_neg hP]
    have hmt : mt P T = none := by unfold mt; rw [hce, if_neg hP]
    rw [hmt, hce]
    generalize check P = e0 at hcp hP ⊢
    have e1 : ((e0 : Int) == 0) = false := by simp only [beq_eq_false_iff_ne]; omega
    have e2 : ¬ (e0 : Int) = 0 := by omega
    clear hce hmt
    go_enter Tryd.func59, Tryd.ntmps59
    go_wp2_with (first | (go_at_call 36; refine hcp.mono ?_; rintro e w1 ⟨rfl, rfl⟩))
    go_ret3
    exact ⟨_, rfl, OwnsB.nil _ _, Below.refl _ _⟩

end Go.Proofs.YtjpmlnigjbdnnaaDoor
