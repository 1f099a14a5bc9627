/-
  What the document's Commit answers.
-/
import Derived.Test.YtoecopmbaoklkaaGreatWs
import Derived.Test.YtoecopmbaoklkaaGreatPt
namespace Go.Proofs.YtoecopmbaoklkaaGreat
open Go.RowKit
set_option linter.unusedVariables false
set_option linter.unusedSimpArgs false
set_option maxRecDepth 100000

theorem saved_settled_len (n : Nat) (L : List Pg) : (savedL n L ++ settledL L).length = 2 * L.length + lb L.length + 2 := by
  rw [List.length_append, savedL_len, settledL_len]; omega
theorem gp_of_ck {n : Nat} {L : List Pg} (h1 : 64 ≤ n) (h2 : n ≤ 2048) (h : ck n L = 0) : Gp n L := by
  unfold ck at h
  split at h
  · cases h
  · rename_i hl
    obtain ⟨i1, i2⟩ := ckL_zero h
    exact ⟨h1, h2, by omega, fun p hp => ⟨(i1 p hp).1, (i1 p hp).2.1⟩, i2⟩

theorem rWrites_nil (n : Nat) (a : Option Addr) (c : Nat) (w : World) : Calls Tryz.prog 91 #[.int .i64 (n : Nat), .slice a 0 c] w fun e w' => e = .returned (.slice none 0 0) ∧ w = w' := by
  go_enter Tryz.func91, Tryz.ntmps91
  go_wp2_with fail
  go_ret
  exact ⟨rfl, rfl⟩

/-- the document's disk at its block -/
theorem Rk.cell0 {w : World} {S : Nat → Prop} {k : Nat} {d : Ds} (hd : Rk w S k d) : ∃ a c, w.cell? ⟨k, 0, none⟩ = some (.slice a d.bs.length c) ∧ RowS w 0 (.slice a d.bs.length c) d.bs ∧ In S (.slice a d.bs.length c) ∧ ∀ w', Below w.heap.size w w' → w'.cell? ⟨k, 0, none⟩ = some (.slice a d.bs.length c) := by
  obtain ⟨_, h2, h3, bv, lv, told, left, h4, _, _, h5, _, h7, _⟩ := hd
  obtain ⟨a, c, e⟩ := h5.form
  subst e
  exact ⟨a, c, h4.cell rfl, h5, h7, fun w' hb => (hb.cell (p := ⟨k, 0, none⟩) (h2 k h3)).trans (h4.cell rfl)⟩
/-- writes that are made since lie outside the disk -/
theorem lies_new {w : World} {B : Nat} {S : Nat → Prop} {v : Value} {L : List Pg} (h : RowP w B v L) (hS : ∀ j, S j → j < B) (hf : ∀ p ∈ L, (-9223372036854775808 ≤ p.pl ∧ p.pl ≤ 9223372036854775807) ∧ p.data.size ≤ maxLen) : LiesO w S v L :=
  h.lies (fun g hg hs => by
    have h1 := ((h : w.ownsRow B 75 2 _ _ _).lt g hg).1
    have h2 := hS g hs
    omega) hf
theorem Wr.base {w w1 w' : World} {S : Nat → Prop} {k : Nat} {d : Ds} (h : Wr w1 S k d w') (hb : Below w.heap.size w w1) : Wr w S k d w' := by
  obtain ⟨S', r, kp, g⟩ := h
  exact ⟨S', r, (Keep.of_below hb : Keep S w w1).trans kp (fun _ _ h => h), fun j hj => (g j hj).imp id (Nat.le_trans hb.size)⟩

set_option maxHeartbeats 4000000 in
theorem rCommit_any (w : World) (S : Nat → Prop) (k : Nat) (d : Ds) (hd : Rk w S k d) (v : Value) (L : List Pg) (hl : LiesO w S v L) (hz : Fit (d.lg.length + 5000)) :
    Calls Tryz.prog 66 #[.pointer (some ⟨k, 0, none⟩), v] w fun e w' => e = .returned (.int .i64 ((cmt d L).1 : Nat)) ∧ Wr w S k (cmt d L).2 w' := by
  have hlo := hd.1.lo
  have hhi := hd.1.hi
  obtain ⟨ba, bc, c0, _, _, HC⟩ := hd.cell0
  have hmy : ∀ w1, Below w.heap.size w w1 → Calls Tryz.prog 89 #[.int .i64 (d.bs.length : Nat), v] w1 fun e w' => e = .returned (.int .i64 (ck d.bs.length L : Nat)) ∧ Below w1.heap.size w1 w' := fun w1 hb => rMay_any d.bs.length hlo hhi w1 S v L (hl.on hb)
  obtain ⟨a, c, e1⟩ := hl.form
  subst e1
  have HD := hid hd
  have HMY := hid (hmy w (Below.refl _ _))
  have HCC := hid HC
  by_cases hc : ck d.bs.length L = 0
  · have hg := gp_of_ck hlo hhi hc
    rw [hc] at HMY
    by_cases h0 : L = []
    · subst h0
      have HE : Hid (cmt d [] = (0, d)) := cmt_nil d
      rw [HE.out]
      have hwn : ∀ w1, _ := fun w1 => rWrites_nil d.bs.length a c w1
      have HDN : Hid (∀ w1, Below w.heap.size w w1 → Calls Tryz.prog 90 #[.pointer (some ⟨k, 0, none⟩), .slice none 0 0] w1 fun e w' => e = .returned (.int .i64 ((0 : Nat) : Int)) ∧ Wr w S k d w') := fun w1 hb => by
        refine (rDone_any w1 S k d (hd.on hb) (.slice none 0 0) [] ⟨none, 0, rfl, Nat.le_refl _, Nat.zero_le _, (fun k c hc => by simp at hc)⟩ (hz.le (by simp))).mono ?_
        rintro e w' ⟨rfl, h⟩
        exact ⟨rfl, h.base hb⟩
      clear hg hc hl hd hz HC hmy
      generalize d.bs.length = n at *
      show Calls Tryz.prog 66 #[.pointer (some ⟨k, 0, none⟩), .slice a 0 c] w _
      have HMY' : Hid (Calls Tryz.prog 89 #[.int .i64 (n : Nat), .slice a 0 c] w fun e w' => e = .returned (.int .i64 ((0 : Nat) : Int)) ∧ Below w.heap.size w w') := HMY
      clear HMY
      go_enter Tryz.func66, Tryz.ntmps66
      go_wp2_with (first
        | (go_at_call 89; refine HMY'.out.mono ?_; clear HMY'; rintro e w1 ⟨rfl, hb1⟩; have c1 := HCC.out w1 hb1; have HB1 := hid hb1; clear hb1 HCC)
        | (go_at_call 91; refine (hwn _).mono ?_; clear hwn; rintro e w2 ⟨rfl, rfl⟩)
        | (go_at_call 90; refine (HDN.out _ HB1.out).mono ?_; clear HDN; rintro e w3 ⟨rfl, h3⟩))
      go_ret
      exact ⟨rfl, h3⟩
    · have hq := pgs_hi hhi
      have hln := hg.len
      have HWS : Hid (∀ w1, Below w.heap.size w w1 → Calls Tryz.prog 91 #[.int .i64 (d.bs.length : Nat), .slice a L.length c] w1 fun e w' => ∃ v', e = .returned v' ∧ RowP w' w1.heap.size v' (savedL d.bs.length L ++ settledL L) ∧ Below w1.heap.size w1 w') := fun w1 hb => rWrites_any d.bs.length hlo hhi w1 S _ L (hl.on hb) (by omega) (fun p hp => by have := hg.pl hp; omega) h0
      have HVW : Hid (∀ p ∈ savedL d.bs.length L ++ settledL L, (-9223372036854775808 ≤ p.pl ∧ p.pl ≤ 9223372036854775807) ∧ p.data.size ≤ maxLen) := fun p hp => by
        have := hg.vw p hp
        exact ⟨by omega, by rw [this.2]; decide⟩
      have HDN : Hid (∀ w1 v', Below w.heap.size w w1 → RowP w1 w.heap.size v' (savedL d.bs.length L ++ settledL L) → Calls Tryz.prog 90 #[.pointer (some ⟨k, 0, none⟩), v'] w1 fun e w' => e = .returned (.int .i64 ((d.wrs (savedL d.bs.length L ++ settledL L)).1 : Nat)) ∧ Wr w S k (d.wrs (savedL d.bs.length L ++ settledL L)).2 w') := fun w1 v' hb hr => by
        refine (rDone_any w1 S k d (HD.out.on hb) v' _ (lies_new hr (fun j hj => HD.out.2.1 j hj) HVW.out) (hz.le (by rw [saved_settled_len]; unfold lb; omega))).mono ?_
        rintro e w' ⟨rfl, h⟩
        exact ⟨rfl, h.base hb⟩
      have HE : Hid (cmt d L = d.wrs (savedL d.bs.length L ++ settledL L)) := by show _ = _; unfold cmt; rw [if_pos hc, if_neg h0]
      rw [HE.out]
      clear hg hc hl hd hz HC hmy HVW hq hln h0 HE
      generalize d.wrs (savedL d.bs.length L ++ settledL L) = X at *
      generalize savedL d.bs.length L ++ settledL L = Y at *
      generalize d.bs.length = n at *
      generalize L.length = N at *
      obtain ⟨x, d'⟩ := X
      simp only at HDN ⊢
      go_enter Tryz.func66, Tryz.ntmps66
      go_wp2_with (first
        | (go_at_call 89; refine HMY.out.mono ?_; clear HMY; rintro e w1 ⟨rfl, hb1⟩; have c1 := HCC.out w1 hb1; have HB1 := hid hb1; clear hb1 HCC)
        | (go_at_call 91; refine (HWS.out _ HB1.out).mono ?_; clear HWS; rintro e w2 ⟨v2, rfl, hr2, hb2⟩; have HB2 := hid (HB1.out.trans (hb2.mono HB1.out.size)); have HR2 : Hid (RowP w2 w.heap.size v2 Y) := own_base hr2 HB1.out.size; obtain ⟨va, vc, hlv⟩ := hr2.form; subst hlv; clear hr2 hb2)
        | (go_at_call 90; refine (HDN.out _ _ HB2.out HR2.out).mono ?_; clear HDN; rintro e w3 ⟨rfl, h3⟩))
      go_ret
      exact ⟨rfl, h3⟩
  · have HE : Hid (cmt d L = (ck d.bs.length L, d)) := by show _ = _; unfold cmt; rw [if_neg hc]
    rw [HE.out]
    obtain ⟨x, hx⟩ : ∃ x, ck d.bs.length L = x := ⟨_, rfl⟩
    rw [hx] at HMY hc ⊢
    have hxn : ((x : Int) != 0) = true := by simp; omega
    have hxz : ¬ (x : Int) = 0 := by omega
    clear hl hd hz HC hmy HE hx
    generalize d.bs.length = n at *
    generalize L.length = N at *
    go_enter Tryz.func66, Tryz.ntmps66
    go_wp2_with (go_at_call 89; refine HMY.out.mono ?_; clear HMY; rintro e w1 ⟨rfl, hb1⟩; have HB1 := hid hb1; clear hb1 HCC)
    go_ret
    exact ⟨rfl, ⟨S, HD.out.on HB1.out, Keep.of_below HB1.out, Grows.refl _ _⟩⟩

end Go.Proofs.YtoecopmbaoklkaaGreat
