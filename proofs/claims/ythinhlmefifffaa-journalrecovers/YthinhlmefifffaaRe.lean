/-
  What the document's Mends and Recover answer.
-/
import Derived.Test.YthinhlmefifffaaRo
namespace Go.Proofs.Ythinhlmefifffaa
open Go.RowKit
set_option linter.unusedVariables false
set_option linter.unusedSimpArgs false
set_option maxRecDepth 100000

/-- what puts blocks right -/
def mendL (bs : List ByteArray) : List Pg := if pend bs = [] then [] else settledL (pend bs)

set_option maxHeartbeats 4000000 in
theorem rMends_any (w : World) (B : Nat) (v : Value) (bs : List ByteArray) (hv : RowS w B v bs) (hlo : 64 ≤ bs.length) (hhi : bs.length ≤ 2048) (hbs : ∀ s ∈ bs, s.size = 256) :
    Calls Try.prog 51 #[v] w fun e w' => PePost1 w (mendL bs) e w' := by
  have htd := rTold_any w B v bs hv hlo hhi hbs
  have hpl := pend_len bs
  have hpq := pgs_hi hhi
  have HBK : Hid (∀ w1, Calls Try.prog 70 #[.string ⟨#[]⟩] w1 fun e w' => e = .returned (.string Z) ∧ Below w1.heap.size w1 w') := fun w1 => by
    have h := rBlock_any ⟨#[]⟩ (by decide) w1
    rw [show Nu.padOf ⟨#[]⟩ 256 = Z from pad_nil] at h
    exact h
  obtain ⟨a, c, e1⟩ := hv.form
  subst e1
  have HM : Hid (mendL bs = if pend bs = [] then [] else settledL (pend bs)) := rfl
  generalize mendL bs = MM at *
  generalize pend bs = L at *
  by_cases h0 : L = []
  · subst h0
    rw [if_pos rfl] at HM
    clear hv hbs
    generalize bs.length = n at *
    go_enter Try.func51, Try.ntmps51
    go_wp2_with (go_at_call 76; refine htd.mono ?_; clear htd; rintro e w1 ⟨v1, rfl, hr1, hb1⟩; have HB1 := hid hb1; obtain ⟨la, lc, hlv⟩ := hr1.form; subst hlv; clear hr1 hb1)
    go_ret
    refine ⟨_, rfl, ?_, HB1.out⟩
    rw [HM.out]
    exact World.ownsRow_nil _ _ _ _
  · rw [if_neg h0] at HM
    have hN0 : 0 < L.length := by cases L with | nil => exact absurd rfl h0 | cons _ _ => simp
    obtain ⟨N, hN⟩ : ∃ N, L.length = N := ⟨_, rfl⟩
    have HN := hid hN
    rw [hN] at hN0 hpl
    have hN0b : ((N : Int) == 0) = false := by simp; omega
    clear hv hbs h0 hN hlo hhi
    generalize pgs bs.length = q at *
    generalize bs.length = n at *
    go_enter Try.func51, Try.ntmps51
    go_wp2_with (first
      | (go_at_call 76; refine htd.mono ?_; clear htd; rintro e w1 ⟨v1, rfl, hr1, hb1⟩; have HB1 := hid hb1; have HR1 := hid hr1; obtain ⟨la, lc, hlv⟩ := hr1.form; rw [HN.out] at hlv; subst hlv; clear hr1 hb1)
      | (go_at_call 70; refine (HBK.out _).mono ?_; clear HBK; rintro e w2 ⟨rfl, hb2⟩; have HR2 := hid (HR1.out.on hb2); have HB2 := hid (HB1.out.trans (hb2.mono HB1.out.size)); clear hb2 HR1 HB1)
      | (at_builtin; refine wpList_pgs _ w rfl (.tmp 9) (.tmp 12) rfl (.slice la N lc) L N HN.out rfl (HR2.out.alloc (.cells #[.int .i64 1, .string Z] 54)) (HB2.out.alloc HB2.out.size _) ⟨w2.heap.size, 0, none⟩ [⟨1, Z⟩] 1 1 rfl (by decide) rfl (cells_two w2 _ _ 54) (by omega) ?_))
    intro fa fc w8 hr8 hb8 _
    have HR8 := hid hr8
    have HB8 := hid hb8
    clear hr8 hb8 HR2 HB2
    go_wp2_with fail
    go_ret
    refine ⟨_, rfl, ?_, HB8.out⟩
    rw [HM.out]
    exact HR8.out

theorem pend_ok {bs : List ByteArray} (hbs : ∀ s ∈ bs, s.size = 256) : ∀ p ∈ pend bs, (-9223372036854775808 ≤ p.pl ∧ p.pl ≤ 9223372036854775807) ∧ p.data.size ≤ maxLen := by
  intro p hp
  unfold pend at hp
  split at hp
  · split at hp
    · obtain ⟨h1, h2⟩ := grpL_mem hp
      exact ⟨by omega, by rw [hbs _ (cutB_mem h2)]; decide⟩
    · cases hp
  · cases hp

set_option maxHeartbeats 4000000 in
theorem rRecover_any (w : World) (S : Nat → Prop) (k : Nat) (d : Ds) (hd : Rk w S k d) (hz : Fit (d.lg.length + 1500)) :
    Calls Try.prog 26 #[.pointer (some ⟨k, 0, none⟩)] w fun e w' => e = .returned (.tuple #[.int .i64 ((recv d).1 : Nat), .int .i64 ((recv d).2.1 : Nat)]) ∧ Wr w S k (recv d).2.2 w' := by
  have hrd := rRead_any 1 w S k d hd
  have HD := hid hd
  have HZ := hid hz
  cases hdn : d.dn with
  | true =>
    have HE : Hid (recv d = (0, 17, d)) := by show _ = _; unfold recv; rw [if_pos hdn]
    have hE := Ds.rdE_down 1 hdn
    have hS : d.rdS 1 = ⟨#[]⟩ := by unfold Ds.rdS; rw [if_neg (by rw [hE]; decide)]
    rw [hE, hS] at hrd
    rw [HE.out]
    clear hE hS hd hz hdn
    go_enter Try.func26, Try.ntmps26
    go_wp2_with (go_at_call 50; refine hrd.mono ?_; clear hrd; rintro e w1 ⟨rfl, rfl⟩)
    go_ret2
    exact ⟨rfl, ⟨S, HD.out, Keep.refl _ _, Grows.refl _ _⟩⟩
  | false =>
    have hlo := hd.1.lo
    have hhi := hd.1.hi
    have hh : d.bs[1]? = some (hdOf d.bs) := by
      unfold hdOf
      rw [List.getD_eq_getElem?_getD, List.getElem?_eq_getElem (show 1 < d.bs.length by omega)]
      rfl
    obtain ⟨hE, hS⟩ := Ds.rd_in (n := 1) hdn hh
    rw [show ((1 : Nat) : Int) = 1 from rfl] at hE hS
    rw [hE, hS] at hrd
    obtain ⟨ba, bc, c0, hrow, _, _⟩ := hd.cell0
    have hme := rMends_any w 0 _ d.bs hrow hlo hhi hd.1.bs
    have HPF : Hid (∀ p ∈ mendL d.bs, (-9223372036854775808 ≤ p.pl ∧ p.pl ≤ 9223372036854775807) ∧ p.data.size ≤ maxLen) := by
      intro p hp
      unfold mendL at hp
      split at hp
      · cases hp
      · unfold settledL at hp
        rcases List.mem_append.1 hp with h | h
        · exact pend_ok hd.1.bs p h
        · simp at h
          subst h
          exact ⟨by decide, by rw [Z_size]; decide⟩
    have hpl := pend_len d.bs
    have hpq := pgs_hi hhi
    have hml : (mendL d.bs).length ≤ 1020 := by
      unfold mendL
      split
      · simp
      · rw [settledL_len]; omega
    have hRE : recv d = if mendL d.bs = [] then (0, 0, d) else if (d.wrs (mendL d.bs)).1 = 0 then ((mendL d.bs).length - 1, 0, (d.wrs (mendL d.bs)).2) else (0, (d.wrs (mendL d.bs)).1, (d.wrs (mendL d.bs)).2) := by
      unfold recv mendL
      rw [if_neg (by rw [hdn]; decide)]
      by_cases h0 : pend d.bs = []
      · rw [if_pos h0, if_pos h0, if_pos rfl]
      · have h1 : settledL (pend d.bs) ≠ [] := by unfold settledL; simp
        rw [if_neg h0, if_neg h0, if_neg h1, settledL_len, Nat.add_sub_cancel]
    have HDN : Hid (∀ w1 v', Below w.heap.size w w1 → RowP w1 w.heap.size v' (mendL d.bs) → Calls Try.prog 45 #[.pointer (some ⟨k, 0, none⟩), v'] w1 fun e w' => e = .returned (.int .i64 ((d.wrs (mendL d.bs)).1 : Nat)) ∧ Wr w S k (d.wrs (mendL d.bs)).2 w') := fun w1 v' hb hr => by
      refine (rDone_any w1 S k d (HD.out.on hb) v' _ (lies_new hr (fun j hj => HD.out.2.1 j hj) HPF.out) (HZ.out.le (by omega))).mono ?_
      rintro e w' ⟨rfl, h⟩
      exact ⟨rfl, h.base hb⟩
    rw [hRE]
    clear hRE hE hS hh hdn hlo hhi hd hz hrow hpl hpq HPF
    generalize mendL d.bs = L at *
    generalize hdOf d.bs = h at *
    generalize d.bs.length = n at *
    by_cases hL : L = []
    · subst hL
      rw [if_pos rfl]
      rw [show d.wrs [] = (0, d) from rfl] at HDN
      simp only at HDN
      go_enter Try.func26, Try.ntmps26
      go_wp2_with (first
        | (go_at_call 50; refine hrd.mono ?_; clear hrd; rintro e w1 ⟨rfl, rfl⟩)
        | (go_at_call 51; refine hme.mono ?_; clear hme; rintro e w2 ⟨v2, rfl, hr2, hb2⟩; have HB2 := hid hb2; have HR2 := hid hr2; obtain ⟨la, lc, hlv⟩ := hr2.form; subst hlv; clear hr2 hb2)
        | (go_at_call 45; refine (HDN.out _ _ HB2.out HR2.out).mono ?_; clear HDN; rintro e w3 ⟨rfl, h3⟩))
      go_ret2
      exact ⟨rfl, h3⟩
    · have hN0 : 0 < L.length := by cases L with | nil => exact absurd rfl hL | cons _ _ => simp
      rw [if_neg hL]
      obtain ⟨N, hN⟩ : ∃ N, L.length = N := ⟨_, rfl⟩
      have HN := hid hN
      rw [hN] at hN0 hml ⊢
      have hN0b : ((N : Int) == 0) = false := by simp; omega
      have hNs : ((N - 1 : Nat) : Int) = (N : Int) - 1 := by omega
      obtain ⟨X, hX⟩ : ∃ X, d.wrs L = X := ⟨_, rfl⟩
      rw [hX] at HDN ⊢
      obtain ⟨re, rd⟩ := X
      simp only at HDN ⊢
      clear hL hN hX
      by_cases hr0 : re = 0
      · subst hr0
        rw [if_pos rfl]
        simp only
        rw [hNs]
        clear hNs
        go_enter Try.func26, Try.ntmps26
        go_wp2_with (first
          | (go_at_call 50; refine hrd.mono ?_; clear hrd; rintro e w1 ⟨rfl, rfl⟩)
          | (go_at_call 51; refine hme.mono ?_; clear hme; rintro e w2 ⟨v2, rfl, hr2, hb2⟩; have HB2 := hid hb2; have HR2 := hid hr2; obtain ⟨la, lc, hlv⟩ := hr2.form; rw [HN.out] at hlv; subst hlv; clear hr2 hb2)
          | (go_at_call 45; refine (HDN.out _ _ HB2.out HR2.out).mono ?_; clear HDN; rintro e w3 ⟨rfl, h3⟩))
        go_ret2
        exact ⟨rfl, h3⟩
      · rw [if_neg hr0]
        have hrn : ((re : Int) != 0) = true := by simp; omega
        have hrz : ¬ (re : Int) = 0 := by omega
        clear hNs
        go_enter Try.func26, Try.ntmps26
        go_wp2_with (first
          | (go_at_call 50; refine hrd.mono ?_; clear hrd; rintro e w1 ⟨rfl, rfl⟩)
          | (go_at_call 51; refine hme.mono ?_; clear hme; rintro e w2 ⟨v2, rfl, hr2, hb2⟩; have HB2 := hid hb2; have HR2 := hid hr2; obtain ⟨la, lc, hlv⟩ := hr2.form; rw [HN.out] at hlv; subst hlv; clear hr2 hb2)
          | (go_at_call 45; refine (HDN.out _ _ HB2.out HR2.out).mono ?_; clear HDN; rintro e w3 ⟨rfl, h3⟩))
        go_ret2
        exact ⟨rfl, h3⟩

end Go.Proofs.Ythinhlmefifffaa
