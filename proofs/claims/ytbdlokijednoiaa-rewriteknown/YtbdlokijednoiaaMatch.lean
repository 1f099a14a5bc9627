/-
  What the program's Match and gather answer.
-/
import Derived.Test.YtbdlokijednoiaaBinds
namespace Go.Proofs.Ytbdlokijednoiaa
open Go.RowKit
set_option linter.unusedVariables false
set_option maxRecDepth 100000
set_option linter.unusedSimpArgs false

/-- what Match answers: the error, and the binds -/
def ce (P T : List Cl) : Nat := if check P = 0 then check T else check P
def mt (P T : List Cl) : Option (List Bd) := if ce P T = 0 then fitL P T [] else none
theorem ce_zero {P T : List Cl} (h : ce P T = 0) : check P = 0 ∧ check T = 0 := by
  unfold ce at h
  split at h
  · rename_i h1; exact ⟨h1, h⟩
  · rename_i h1; exact absurd h h1
theorem mt_some {P T : List Cl} {acc : List Bd} (h : mt P T = some acc) : check P = 0 ∧ check T = 0 ∧ fitL P T [] = some acc := by
  unfold mt at h
  split at h
  · rename_i h1; exact ⟨(ce_zero h1).1, (ce_zero h1).2, h⟩
  · cases h
theorem mt_facts {P T : List Cl} {acc : List Bd} (h : mt P T = some acc) : acc.map (·.nm) = varsOf P ∧ (∀ x ∈ acc, check x.val = 0 ∧ kind x.nm.data.toList = 2) ∧ T = sub (at_ acc) P ∧ ∀ c ∈ P, isV c = true → (look acc c.nm).isSome = true := by
  obtain ⟨h1, h2, h3⟩ := mt_some h
  obtain ⟨e1, e2, e3, e4⟩ := fit_sound P T [] acc h3
  exact ⟨e4, fit_right P T [] acc h3 (cellsErr_zero.1 (check_zero h2).2.1) (check_zero h2).1 (by simp), e2, e3⟩

theorem match_any (w : World) (u v : Value) (P T : List Cl) (hu : Lies w u P) (hv : Lies w v T) :
    Calls Try.prog 87 #[u, v] w fun e w' => ∃ v', e = .returned (.tuple #[v', .bool (mt P T).isSome, .int .i64 (ce P T : Nat)]) ∧ OwnsB w' w.heap.size v' ((mt P T).getD []) ∧ Below w.heap.size w w' := by
  have hcp := check_any w u P hu
  have hct : ∀ w1, Below w.heap.size w w1 → _ := fun w1 hb => check_any w1 v T (hv.on hb)
  by_cases hP : check P = 0
  · rw [hP] at hcp
    by_cases hT : check T = 0
    · rw [hT] at hct
      have hce : ce P T = 0 := by unfold ce; rw [if_pos hP]; exact hT
      have hfit : ∀ w1, Below w.heap.size w w1 → _ := fun w1 hb => fit_any w1 u v P T (hu.on hb) (hv.on hb) hP hT
      have hmt : mt P T = fitL P T [] := by unfold mt; rw [if_pos hce]
      rw [hce]
      cases hf : fitL P T [] with
      | none =>
        rw [hf] at hfit
        rw [hmt, hf]
        have hfit2 : ∀ w1, Below w.heap.size w w1 → Calls Try.prog 93 #[u, v] w1 fun e w' => e = .returned (.tuple #[.map none, .bool false]) ∧ Below w1.heap.size w1 w' := hfit
        clear hfit hmt hf hce hP hT
        go_enter Try.func87, Try.ntmps87
        go_wp2_with (first | (go_at_call 18; refine hcp.mono ?_; rintro e w1 ⟨rfl, hb1⟩; clear hcp) | (go_at_call 18; refine (hct _ hb1).mono ?_; rintro e w2 ⟨rfl, hb2⟩; replace hb2 := hb1.trans (hb2.mono hb1.size)) | (go_at_call 93; refine (hfit2 _ hb2).mono ?_; rintro e w3 ⟨rfl, hb3⟩; replace hb3 := hb2.trans (hb3.mono hb2.size)))
        go_ret3
        exact ⟨_, rfl, OwnsB.nil _ _, hb3⟩
      | some acc =>
        rw [hf] at hfit
        have hmt2 : mt P T = some acc := hmt.trans hf
        obtain ⟨n1, n2, _⟩ := mt_facts hmt2
        rw [hmt, hf]
        have hfit2 : ∀ w1, Below w.heap.size w w1 → Calls Try.prog 93 #[u, v] w1 fun e w' => (∃ b n f, e = .returned (.tuple #[.map (some b), .bool true]) ∧ MapIs w' b n f ∧ Holds w' f acc) ∧ Below w1.heap.size w1 w' := hfit
        have htell : ∀ w1 b n f, Below w.heap.size w w1 → MapIs w1 b n f → Holds w1 f acc → _ := fun w1 b n f hb hm hH => tell_any w1 u P (hu.on hb) hP b n f acc hm hH n1 n2
        clear hfit hmt hf hce hP hT hmt2 n1 n2
        go_enter Try.func87, Try.ntmps87
        go_wp2_with (first | (go_at_call 18; refine hcp.mono ?_; rintro e w1 ⟨rfl, hb1⟩; clear hcp) | (go_at_call 18; refine (hct _ hb1).mono ?_; rintro e w2 ⟨rfl, hb2⟩; replace hb2 := hb1.trans (hb2.mono hb1.size)) | (go_at_call 93; refine (hfit2 _ hb2).mono ?_; rintro e w3 ⟨⟨mb, mn, mf, rfl, hm3, hH3⟩, hb3⟩; replace hb3 := hb2.trans (hb3.mono hb2.size)) | (go_at_call 94; refine (htell _ _ _ _ hb3 hm3 hH3).mono ?_; rintro e w4 ⟨v4, rfl, ho4, hb4⟩; have ho5 := ho4.base hb3.size; replace hb4 := hb3.trans (hb4.mono hb3.size); obtain ⟨oa, oc, hov, _⟩ := ho5.form; subst hov))
        go_ret3
        exact ⟨_, rfl, ho5, hb4⟩
    · have hce : ce P T = check T := by unfold ce; rw [if_pos hP]
      have hmt : mt P T = none := by unfold mt; rw [hce, if_neg hT]
      rw [hmt, hce]
      generalize check T = e0 at hct hT ⊢
      have e1 : ((e0 : Int) == 0) = false := by simp only [beq_eq_false_iff_ne]; omega
      have e2 : ¬ (e0 : Int) = 0 := by omega
      clear hce hmt hP
      go_enter Try.func87, Try.ntmps87
      go_wp2_with (first | (go_at_call 18; refine hcp.mono ?_; rintro e w1 ⟨rfl, hb1⟩; clear hcp) | (go_at_call 18; refine (hct _ hb1).mono ?_; rintro e w2 ⟨rfl, hb2⟩; replace hb2 := hb1.trans (hb2.mono hb1.size)))
      go_ret3
      exact ⟨_, rfl, OwnsB.nil _ _, hb2⟩
  · have hce : ce P T = check P := by unfold ce; rw [if_neg hP]
    have hmt : mt P T = none := by unfold mt; rw [hce, if_neg hP]
    rw [hmt, hce]
    generalize check P = e0 at hcp hP ⊢
    have e1 : ((e0 : Int) == 0) = false := by simp only [beq_eq_false_iff_ne]; omega
    have e2 : ¬ (e0 : Int) = 0 := by omega
    clear hce hmt
    go_enter Try.func87, Try.ntmps87
    go_wp2_with (first | (go_at_call 18; refine hcp.mono ?_; rintro e w1 ⟨rfl, hb1⟩))
    go_ret3
    exact ⟨_, rfl, OwnsB.nil _ _, hb1⟩

/-- the first fault of binds -/
def gatherE : List ByteArray → List Bd → Nat
  | _, [] => 0
  | seen, b :: r => if kind b.nm.data.toList = 2 then (if inS b.nm seen then 9 else if check b.val = 0 then gatherE (seen ++ [b.nm]) r else check b.val) else 4
theorem gather_right : ∀ (l : List Bd) (seen : List ByteArray), gatherE seen l = 0 → (∀ b ∈ l, check b.val = 0 ∧ kind b.nm.data.toList = 2 ∧ inS b.nm seen = false) ∧ (l.map (·.nm)).Nodup
  | [], seen, _ => by simp
  | b :: r, seen, h => by
    unfold gatherE at h
    by_cases hk : kind b.nm.data.toList = 2
    · rw [if_pos hk] at h
      by_cases hs : inS b.nm seen = true
      · rw [if_pos hs] at h; cases h
      · rw [if_neg hs] at h
        by_cases hc : check b.val = 0
        · rw [if_pos hc] at h
          obtain ⟨h1, h2⟩ := gather_right r _ h
          refine ⟨fun x hx => ?_, ?_⟩
          · rcases List.mem_cons.1 hx with rfl | hx
            · exact ⟨hc, hk, by simpa using hs⟩
            · obtain ⟨a1, a2, a3⟩ := h1 x hx
              refine ⟨a1, a2, ?_⟩
              unfold inS at a3 ⊢
              rw [List.any_append] at a3
              simp only [Bool.or_eq_false_iff] at a3
              exact a3.1
          · rw [List.map_cons, List.nodup_cons]
            refine ⟨?_, h2⟩
            intro hm
            obtain ⟨x, hx, e⟩ := List.mem_map.1 hm
            have := (h1 x hx).2.2
            rw [e] at this
            unfold inS at this
            simp at this
        · rw [if_neg hc] at h; exact absurd h hc
    · rw [if_neg hk] at h; cases h

/-- how gather ends -/
def Gathers (l : List Bd) (r : Nat) (e : Ending) (w' : World) : Prop :=
  if r = 0 then ∃ b n f, e = .returned (.tuple #[.map (some b), .int .i64 0]) ∧ MapIs w' b n f ∧ Holds w' f l else e = .returned (.tuple #[.map none, .int .i64 (r : Nat)])

end Go.Proofs.Ytbdlokijednoiaa
