/-
  What the document's Fit answers.
-/
import Derived.Test.YtjpmlnigjbdnnaaDoorRText
import Derived.Test.YtjpmlnigjbdnnaaDoorRFit
namespace Go.Proofs.YtjpmlnigjbdnnaaDoor
open Go.RowKit
set_option linter.unusedVariables false
set_option maxRecDepth 100000
set_option linter.unusedSimpArgs false

theorem trees_get : ∀ (f : Fo) (l : List Cl), l ∈ f.trees → ∃ nm k, l = (Fo.cons nm k .nil).flat ∧ k.size + 1 ≤ f.size
  | .nil, l, h => by simp [Fo.trees] at h
  | .cons nm k r, l, h => by
    simp only [Fo.trees, List.mem_cons] at h
    rcases h with rfl | h
    · exact ⟨nm, k, by simp [Fo.flat], by simp only [Fo.size]; omega⟩
    · obtain ⟨nm', k', e, h'⟩ := trees_get r l h
      exact ⟨nm', k', e, by simp only [Fo.size]; omega⟩
theorem tree_right {nm : ByteArray} {kd : Fo} (hE : check (Fo.cons nm kd .nil).flat = 0) {l : List Cl} (hl : l ∈ kd.trees) : check l = 0 := by
  obtain ⟨h1, h2, _⟩ := check_zero hE
  obtain ⟨nm', k', rfl, hk⟩ := trees_get kd l hl
  rw [Fo.flat_length] at h1
  simp only [Fo.size] at h1
  refine check_of rfl (by simp only [Fo.size]; omega) (cellsErr_zero.2 fun c hc => cellsErr_zero.1 h2 c ?_)
  have : c ∈ kd.flat := by rw [← Fo.trees_flatten]; exact List.mem_flatten.2 ⟨_, hl, hc⟩
  simp [Fo.flat, this]
theorem trees_fine2 {f : Fo} (h : ∀ l ∈ f.trees, check l = 0) : ∀ l ∈ f.trees, Fine l := fun l hl => fine_check (h l hl)

/-- the document's Fit, as one claim for terms of fewer than n cells -/
def FitAt (n : Nat) : Prop := ∀ (B : Nat) (w : World) (u v lv : Value) (nm : ByteArray) (kd : Fo) (nm' : ByteArray) (kd' : Fo) (acc : List Bd), kd.size < n → Lies w u (Fo.cons nm kd .nil).flat → Lies w v (Fo.cons nm' kd' .nil).flat → check (Fo.cons nm kd .nil).flat = 0 → check (Fo.cons nm' kd' .nil).flat = 0 →
  B ≤ w.heap.size → OwnsB w B lv acc → Good acc → acc.length + kd.size ≤ 1000 →
  Calls Tryd.prog 84 #[u, v, lv] w fun e w' => RFits B (fitF (.cons nm kd .nil) (.cons nm' kd' .nil) acc) e w' ∧ Kp B w w'

set_option maxHeartbeats 4000000 in
/-- where the pattern is a variable -/
theorem fit_var (n B : Nat) (w : World) (u v lv : Value) (nm : ByteArray) (kd : Fo) (nm' : ByteArray) (kd' : Fo) (acc : List Bd) (hu : Lies w u (Fo.cons nm kd .nil).flat) (hv : Lies w v (Fo.cons nm' kd' .nil).flat) (hp : check (Fo.cons nm kd .nil).flat = 0) (ht : check (Fo.cons nm' kd' .nil).flat = 0)
    (hB : B ≤ w.heap.size) (ho : OwnsB w B lv acc) (hg : Good acc) (hal : acc.length + kd.size ≤ 1000) (hk : kind nm.data.toList = 2) :
    Calls Tryd.prog 84 #[u, v, lv] w fun e w' => RFits B (fitF (.cons nm kd .nil) (.cons nm' kd' .nil) acc) e w' ∧ Kp B w w' := by
  obtain ⟨i0, hi, hz0, hz1, hz2⟩ := info_parts info44
  have hvar := var_any w u nm kd hu hp
  rw [decide_eq_true hk] at hvar
  obtain ⟨RES, hRES⟩ : ∃ R, fitF (.cons nm kd .nil) (.cons nm' kd' .nil) acc = R := ⟨_, rfl⟩
  have HR : Hid (RES = match look acc nm with | none => some (acc ++ [⟨nm, (Fo.cons nm' kd' .nil).flat⟩]) | some x => if x = (Fo.cons nm' kd' .nil).flat then some acc else none) := by
    show _ = _
    rw [← hRES, fitF, if_pos hk]
    cases look acc nm with
    | none => rfl
    | some x => simp only; split <;> rfl
  rw [hRES]
  have hlb := ho.lies hg.fine
  have hat := at_any w lv acc nm hlb
  obtain ⟨ua, uc, rfl, hu1, hu2, _, HC⟩ := hu
  obtain ⟨b, off, rfl, hbl, d1, _⟩ := HC 0 ⟨nm, (kd.len : Nat)⟩ (by simp [Fo.flat])
  simp only [Nat.zero_mul, Nat.add_zero] at d1
  have hul : 0 < (Fo.cons nm kd .nil).flat.length := by simp [Fo.flat]
  have hT64 := (check_zero ht).1
  obtain ⟨T, hTT⟩ : ∃ T, (Fo.cons nm' kd' .nil).flat = T := ⟨_, rfl⟩
  rw [hTT] at hv ht HR hT64
  have HV : Hid (Lies w v T) := hv
  generalize (Fo.cons nm kd .nil).flat.length = len0 at hul ⊢ hvar
  have hl0 : (0 : Int) < (len0 : Int) := by omega
  obtain ⟨va, vc, rfl, _⟩ := hv
  obtain ⟨la, lc, hlv, hl1, hl2⟩ := ho.form
  subst hlv
  have HG : Hid (Good acc ∧ check T = 0) := ⟨hg, ht⟩
  clear hRES hTT HC hk hu1 hp ht hg
  cases hx : idx acc nm with
  | none =>
    have hai : atI acc nm = -1 := by unfold atI; rw [hx]
    rw [hai] at hat
    have HR2 : Hid (RES = some (acc ++ [⟨nm, T⟩])) := by show _ = _; rw [HR.out, idx_none.1 hx]
    have hcp := copy_any w.drew _ T (HV.out.on ((Below.refl _ w).drew)) (by omega)
    obtain ⟨ps, hpl, hrow, hel⟩ := ho
    have HPL : Hid (ps.length = acc.length) := hpl
    have HEL : Hid (∀ (i : Nat) b, acc[i]? = some b → ∃ x, ps[i]? = some (b.nm, x) ∧ Owns w.drew B x b.val) := hel
    have hrow0 : w.drew.ownsRow B 102 2 (.slice la acc.length lc) acc.length (flatP ps) := hrow
    have dd1 : w.drew.cell? ⟨b, off, none⟩ = some (.string nm) := d1
    have hbd : b < w.drew.heap.size := hbl
    have HKD : Hid (Kp B w w.drew) := ⟨(Below.refl _ w).drew, fun _ _ _ h _ => h⟩
    have hBd : B ≤ w.drew.heap.size := hB
    clear hx hai HR hpl hel hrow hlb
    go_enter Tryd.func84, Tryd.ntmps84
    go_wp2_with (first | (go_at_call 37; refine hvar.mono ?_; rintro e w1 ⟨rfl, rfl⟩) | (go_at_call 85; refine hat.mono ?_; rintro e w2 ⟨rfl, rfl⟩))
    go_region_law (first
      | (go_simp; go_at_call 22; refine hcp.mono ?_; rintro e w3 ⟨x3, rfl, hx3, hb3⟩; obtain ⟨ya, yc, hyv, _⟩ := own_cells hx3; subst hyv; have hrow3 := own_below hrow0 hb3; have hx4 : Owns w3 B (.slice ya T.length yc) T := own_base hx3 hBd; have HK3 : Hid (Kp B w w3) := HKD.out.trans (Kp.of hb3 hBd); have HEL3 : Hid (∀ (i : Nat) b, acc[i]? = some b → ∃ x, ps[i]? = some (b.nm, x) ∧ Owns w3 B x b.val) := (fun i b hi => by { obtain ⟨y, h1, h2⟩ := HEL.out i b hi; exact ⟨y, h1, own_below h2 hb3⟩ }); have hB3 : B ≤ w3.heap.size := Nat.le_trans hBd hb3.size; have e1 := (hb3.cell (p := ⟨b, off, none⟩) hbd).trans dd1)
      | (refine step_append_own rfl (.tmp 24) (.tmp 32) 67 rfl B 102 i0 (.agg #[.string ⟨#[]⟩, .slice none 0 0]) 2 40 Tryd.underlying67 hi hz0 hz1 hz2 rfl (by decide) _ acc.length (flatP ps) rfl (hrow3.alloc _) ⟨w3.heap.size, 0, none⟩ 1 1 [.string nm, .slice ya T.length yc] rfl rfl (two_cells w3 _ _ _) (by intro u hu; simp at hu; rcases hu with rfl | rfl <;> rfl) (by unfold maxLen; omega) (by omega) (by simp; omega) ?_; intro v' w5 hown' hgrow; have hOB := more_bind (nm := nm) HPL.out hrow3 HEL3.out hx4 hown' hgrow; have hk5 := HK3.out.trans (grown_kp hrow3 hB3 hgrow); obtain ⟨oa, oc, hov, _⟩ := hOB.form; rw [List.length_append, List.length_singleton] at hov; subst hov; clear hown' hgrow))
    all_goals
      (clear hrow3 hx4 hx3 hb3 HEL3 e1
       go_wp2_with fail
       go_ret2
       refine ⟨?_, hk5⟩
       rw [HR2.out]
       exact ⟨.slice oa (acc.length + 1) oc, rfl, hOB⟩)
  | some j =>
    have hai : atI acc nm = (j : Int) := by unfold atI; rw [hx]
    rw [hai] at hat
    obtain ⟨V, hlj, hlk⟩ := idx_some hx
    have hjl : j < acc.length := (List.getElem?_eq_some_iff.1 hlj).1
    obtain ⟨g, o2, x, hla, hgl, c1, c2, hlx⟩ := hlb.at hlj
    subst hla
    have hsm := same_any w x _ V T hlx HV.out
    obtain ⟨xa, xc, rfl, _⟩ := hlx
    have hji : (j : Int) < (acc.length : Int) := by omega
    have hjd : decide ((j : Int) < 0) = false := decide_eq_false (by omega)
    have hjn : ¬ (j : Int) < 0 := by omega
    have hRR := HR.out
    rw [hlk] at hRR
    simp only at hRR
    have HOB : Hid (OwnsB w B (.slice (some ⟨g, o2, none⟩) acc.length lc) acc) := ho
    clear hx hai HR hlb hlk hlj ho c1
    by_cases hVT : V = T
    · have HR2 : Hid (RES = some acc) := by show _ = _; rw [hRR, if_pos hVT]
      rw [decide_eq_true hVT] at hsm
      clear hRR hVT
      go_enter Tryd.func84, Tryd.ntmps84
      go_wp2_with (first | (go_at_call 37; refine hvar.mono ?_; rintro e w1 ⟨rfl, rfl⟩) | (go_at_call 85; refine hat.mono ?_; rintro e w2 ⟨rfl, rfl⟩) | (go_at_call 24; refine hsm.mono ?_; rintro e w3 ⟨rfl, hb3⟩))
      go_ret2
      refine ⟨?_, Kp.of hb3 hB⟩
      rw [HR2.out]
      exact ⟨_, rfl, HOB.out.on hb3⟩
    · have HR2 : Hid (RES = none) := by show _ = _; rw [hRR, if_neg hVT]
      rw [decide_eq_false hVT] at hsm
      clear hRR hVT
      go_enter Tryd.func84, Tryd.ntmps84
      go_wp2_with (first | (go_at_call 37; refine hvar.mono ?_; rintro e w1 ⟨rfl, rfl⟩) | (go_at_call 85; refine hat.mono ?_; rintro e w2 ⟨rfl, rfl⟩) | (go_at_call 24; refine hsm.mono ?_; rintro e w3 ⟨rfl, hb3⟩))
      go_ret2
      refine ⟨?_, Kp.of hb3 hB⟩
      rw [HR2.out]
      exact ⟨_, rfl⟩

end Go.Proofs.YtjpmlnigjbdnnaaDoor
