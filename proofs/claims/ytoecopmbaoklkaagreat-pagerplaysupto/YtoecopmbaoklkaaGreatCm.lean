/-
  What the journal's Commit does.
-/
import Derived.Test.YtoecopmbaoklkaaGreatWl
namespace Go.Proofs.YtoecopmbaoklkaaGreat
open Go.RowKit Go.Shelf
set_option linter.unusedVariables false
set_option linter.unusedSimpArgs false
set_option maxRecDepth 100000

theorem Wm.trans {w A B : World} {S S1 : Nat → Prop} {k : Nat} {d2 : Ds} (hg : Grows S S1 w) (hk : Keep S w A) (h : Wm A S1 k d2 B) : Wm w S k d2 B := by
  obtain ⟨S', h1, h2⟩ := h.disk
  refine ⟨⟨S', h1, fun j hj => ?_⟩, hk.trans h.keep (fun j hj h' => (hg j h').elim id (fun h'' => by omega))⟩
  rcases h2 j hj with h' | h'
  · exact hg j h'
  · exact .inr (Nat.le_trans hk.size h')
theorem Wm.base {w A B : World} {S : Nat → Prop} {k : Nat} {d2 : Ds} (hb : Below w.heap.size w A) (h : Wm A S k d2 B) : Wm w S k d2 B := Wm.trans (Grows.refl S w) (Keep.of_below hb) h
theorem Wm.refl {w : World} {S : Nat → Prop} {k : Nat} {d : Ds} (h : Dk w S k d) : Wm w S k d w := ⟨⟨S, h, Grows.refl _ _⟩, Keep.refl _ _⟩

theorem saved_any (m : Nat) (a : Option Addr) (n c : Nat) (w : World) : Calls Tryz.prog 86 #[.int .i64 (m : Nat), .slice a n c] w fun e w' => e = .returned (.func (.func 104) #[] #[.pointer (some ⟨w.heap.size + 1, 0, none⟩), .pointer (some ⟨w.heap.size, 0, none⟩)]) ∧ (w.alloc (.cells #[.int .i64 (m : Nat)] 3)).alloc (.cells #[.slice a n c] 35) = w' := by
  go_enter Tryz.func86, Tryz.ntmps86
  go_wp2_with fail
  go_ret
  exact ⟨by simp, rfl⟩
theorem settled_any (a : Option Addr) (n c : Nat) (w : World) : Calls Tryz.prog 88 #[.slice a n c] w fun e w' => e = .returned (.func (.func 109) #[] #[.pointer (some ⟨w.heap.size, 0, none⟩)]) ∧ w.alloc (.cells #[.slice a n c] 35) = w' := by
  go_enter Tryz.func88, Tryz.ntmps88
  go_wp2_with fail
  go_ret
  exact ⟨by simp, rfl⟩

/-- a group's blocks are saved -/
theorem save_any (w : World) (S : Nat → Prop) (k : Nat) (d : Ds) (hd : Dk w S k d) (a : Option Addr) (c : Nat) (L : List Pg) (hl : LiesO w S (.slice a L.length c) L) (hn : L.length ≤ 1100) (hp : ∀ p ∈ L, 0 ≤ p.pl ∧ p.pl < 65536) (hz : Fit (d.lg.length + 5000)) :
    Calls Tryz.prog 85 #[.pointer (some ⟨k, 0, none⟩), .func (.func 104) #[] #[.pointer (some ⟨w.heap.size + 1, 0, none⟩), .pointer (some ⟨w.heap.size, 0, none⟩)]] ((w.alloc (.cells #[.int .i64 (pgs d.bs.length : Nat)] 3)).alloc (.cells #[.slice a L.length c] 35)) fun e w' => e = .returned (.int .i64 ((d.wrs (savedL d.bs.length L)).1 : Nat)) ∧ Wm w S k (d.wrs (savedL d.bs.length L)).2 w' := by
  have hlo := hd.1.lo
  have hhi := hd.1.hi
  have hb : Below w.heap.size w ((w.alloc (.cells #[.int .i64 (pgs d.bs.length : Nat)] 3)).alloc (.cells #[.slice a L.length c] 35)) := ((Below.refl _ w).alloc (Nat.le_refl _) _).alloc (by simp) _
  have bM := (Blk.made w #[.int .i64 (pgs d.bs.length : Nat)] 3).alloc (.cells #[.slice a L.length c] 35)
  have bL := Blk.made (w.alloc (.cells #[.int .i64 (pgs d.bs.length : Nat)] 3)) #[.slice a L.length c] 35
  simp only [World.size_alloc] at bL
  generalize ((w.alloc (.cells #[.int .i64 (pgs d.bs.length : Nat)] 3)).alloc (.cells #[.slice a L.length c] 35)) = w1 at hb bM bL ⊢
  have hlen := savedL_len d.bs.length L
  have hlb : lb L.length ≤ 100 := by unfold lb; omega
  have hd1 := hd.on hb
  refine (writes_any 104 _ (enters_of Tryz.func104 (by kernel_rfl) rfl) (savedL d.bs.length L) w1 S k d hd1 (hz.le (by rw [hlen]; omega)) (fun w2 hb2 => ?_)).mono fun e w' h => ⟨h.1, h.2.base hb⟩
  have hd2 := hd1.on hb2
  obtain ⟨f1, f2, f3⟩ := hd2.foot
  have bM2 := bM.on hb2 bM.lt
  have bL2 := bL.on hb2 bL.lt
  refine saved_stops 2 (by omega) w2 k (w.heap.size + 1) w.heap.size _ L d.bs.length hlo hhi bL2 (hd2.box_out bL2 (by decide)) bM2 (hd2.box_out bM2 (by decide)) (((hl.on hb).on hb2).out (fun j _ h => f2 j h)) ?_ f3 (by omega) hp
  exact Nat.lt_of_lt_of_le (hd1.2.1 k hd1.2.2.1) hb2.size

/-- a group's blocks are settled -/
theorem settle_any (w : World) (S : Nat → Prop) (k : Nat) (d : Ds) (hd : Dk w S k d) (a : Option Addr) (c : Nat) (L : List Pg) (hl : LiesO w S (.slice a L.length c) L) (hn : L.length ≤ 1100) (hz : Fit (d.lg.length + 1500)) :
    Calls Tryz.prog 85 #[.pointer (some ⟨k, 0, none⟩), .func (.func 109) #[] #[.pointer (some ⟨w.heap.size, 0, none⟩)]] (w.alloc (.cells #[.slice a L.length c] 35)) fun e w' => e = .returned (.int .i64 ((d.wrs (settledL L)).1 : Nat)) ∧ Wm w S k (d.wrs (settledL L)).2 w' := by
  have hb : Below w.heap.size w (w.alloc (.cells #[.slice a L.length c] 35)) := (Below.refl _ w).alloc (Nat.le_refl _) _
  have bL := Blk.made w #[.slice a L.length c] 35
  generalize (w.alloc (.cells #[.slice a L.length c] 35)) = w1 at hb bL ⊢
  have hlen := settledL_len L
  have hd1 := hd.on hb
  refine (writes_any 109 _ (enters_of Tryz.func109 (by kernel_rfl) rfl) (settledL L) w1 S k d hd1 (hz.le (by rw [hlen]; omega)) (fun w2 hb2 => ?_)).mono fun e w' h => ⟨h.1, h.2.base hb⟩
  have hd2 := hd1.on hb2
  obtain ⟨f1, f2, f3⟩ := hd2.foot
  have bL2 := bL.on hb2 bL.lt
  refine settled_stops 2 (by omega) w2 k w.heap.size _ L bL2 (hd2.box_out bL2 (by decide)) (((hl.on hb).on hb2).out (fun j _ h => f2 j h)) ?_
  exact Nat.lt_of_lt_of_le (hd1.2.1 k hd1.2.2.1) hb2.size

theorem commit_nil (v : Value) (a : Option Addr) (n c : Nat) (hv : v = .slice a n c) (w : World) : Calls Tryz.prog 65 #[.pointer none, v] w fun e w' => e = .returned (.int .i64 18) ∧ w = w' := by
  subst hv
  go_enter Tryz.func65, Tryz.ntmps65
  go_wp2_with fail
  go_ret
  exact ⟨rfl, rfl⟩

theorem cmt_lg (d : Ds) (L : List Pg) : (cmt d L).2.lg.length ≤ d.lg.length + 2 * L.length + lb L.length + 2 := by
  unfold cmt
  split
  · split
    · show d.lg.length ≤ _; omega
    · have := Ds.wrs_lg (savedL d.bs.length L ++ settledL L) d
      rw [List.length_append, savedL_len, settledL_len] at this
      omega
  · show d.lg.length ≤ _; omega

set_option maxHeartbeats 4000000 in
theorem commit_any (w : World) (S : Nat → Prop) (k : Nat) (d : Ds) (hd : Dk w S k d) (v : Value) (L : List Pg) (hl : LiesO w S v L) (hz : Fit (d.lg.length + 5000)) :
    Calls Tryz.prog 65 #[.pointer (some ⟨k, 0, none⟩), v] w fun e w' => e = .returned (.int .i64 ((cmt d L).1 : Nat)) ∧ Wm w S k (cmt d L).2 w' := by
  have hlo := hd.1.lo
  have hhi := hd.1.hi
  have hln := len_any w S k d hd
  have hck := check_any d.bs.length hlo hhi w S v L hl
  obtain ⟨a, c, e1⟩ := hl.form
  subst e1
  have hlm := hl.len
  unfold maxLen at hlm
  have HD := hid hd
  have HL := hid hl
  have HZ := hid hz
  by_cases hc : ck d.bs.length L = 0
  · rw [hc] at hck
    by_cases h0 : L = []
    · subst h0
      have HE : Hid (cmt d [] = (0, d)) := by show _ = _; unfold cmt; rw [if_pos hc, if_pos rfl]
      rw [HE.out]
      clear hc hl hd hlm hz
      generalize d.bs.length = n at *
      go_enter Tryz.func65, Tryz.ntmps65
      go_wp2_with (first
        | (go_at_call 69; refine hln.mono ?_; rintro e w1 ⟨rfl, rfl⟩)
        | (go_at_call 84; refine hck.mono ?_; clear hck; rintro e w1 ⟨rfl, hb1⟩))
      go_ret
      exact ⟨rfl, (Wm.refl HD.out).on hb1⟩
    · have hN0 : 0 < L.length := by cases L with | nil => exact absurd rfl h0 | cons _ _ => simp
      obtain ⟨hcl, hck2⟩ : L.length ≤ pgs d.bs.length ∧ ckL d.bs.length [] L = 0 := by
        unfold ck at hc
        split at hc
        · cases hc
        · exact ⟨by omega, hc⟩
      have hb1 := pgs_hi hhi
      have hp : ∀ p ∈ L, 0 ≤ p.pl ∧ p.pl < 65536 := fun p hp => by
        have := isPg_lt hlo ((ckL_zero hck2).1 p hp).1
        omega
      have HE : Hid (cmt d L = if (d.wrs (savedL d.bs.length L)).1 = 0 then (d.wrs (savedL d.bs.length L)).2.wrs (settledL L) else d.wrs (savedL d.bs.length L)) := by
        show _ = _
        unfold cmt
        rw [if_pos hc, if_neg h0, Ds.wrs_append]
      have hpg : ∀ w1, _ := fun w1 => pages_any d.bs.length hlo hhi w1
      have hsv : ∀ w1, Below w.heap.size w w1 → _ := fun w1 hb => save_any w1 S k d (HD.out.on hb) a c L (HL.out.on hb) (by omega) hp HZ.out
      have hlg1 := Ds.wrs_lg (savedL d.bs.length L) d
      have hlb : lb L.length ≤ 100 := by unfold lb; omega
      rw [savedL_len] at hlg1
      have HST : Hid (∀ w1 d1, d1 = (d.wrs (savedL d.bs.length L)).2 → Wm w S k d1 w1 → Calls Tryz.prog 85 #[.pointer (some ⟨k, 0, none⟩), .func (.func 109) #[] #[.pointer (some ⟨w1.heap.size, 0, none⟩)]] (w1.alloc (.cells #[.slice a L.length c] 35)) fun e w' => e = .returned (.int .i64 ((d1.wrs (settledL L)).1 : Nat)) ∧ Wm w S k (d1.wrs (settledL L)).2 w') := fun w1 d1 he h => by
        obtain ⟨S1, h1, h2⟩ := h.disk
        refine (settle_any w1 S1 k d1 h1 a c L (HL.out.keep h.keep h2) (by omega) ?_).mono fun e w' hh => ⟨hh.1, Wm.trans h2 h.keep hh.2⟩
        exact HZ.out.le (by subst he; omega)
      rw [HE.out]
      clear hc hl hd hck2 hcl hz hp HE hlg1 hlb
      obtain ⟨N, hN⟩ : ∃ N, L.length = N := ⟨_, rfl⟩
      rw [hN] at hck hN0 hsv HST hlm ⊢
      have hN0b : ((N : Int) == 0) = false := by simp; omega
      clear hN0
      have hln2 : ∀ w1, Below w.heap.size w w1 → _ := fun w1 hb => len_any w1 S k d (HD.out.on hb)
      obtain ⟨r, hr⟩ : ∃ r, d.wrs (savedL d.bs.length L) = r := ⟨_, rfl⟩
      rw [hr] at hsv HST ⊢
      obtain ⟨q, hq⟩ : ∃ q, pgs d.bs.length = q := ⟨_, rfl⟩
      rw [hq] at hpg hsv
      clear hr hq h0 hN HL
      generalize d.bs.length = n at *
      by_cases hr0 : r.1 = 0
      · rw [if_pos hr0]
        have hst : ∀ w1, Wm w S k r.2 w1 → _ := fun w1 h => HST.out w1 r.2 rfl h
        rw [hr0] at hsv
        clear hr0 HST
        generalize r.2 = d1 at *
        go_enter Tryz.func65, Tryz.ntmps65
        go_wp2_with (first
          | (go_at_call 69; refine hln.mono ?_; clear hln; rintro e w1 ⟨rfl, rfl⟩)
          | (go_at_call 84; refine hck.mono ?_; clear hck; rintro e w1 ⟨rfl, hb1⟩; have HB1 := hid hb1; clear hb1)
          | (go_at_call 69; refine (hln2 _ HB1.out).mono ?_; clear hln2; rintro e w2 ⟨rfl, rfl⟩)
          | (go_at_call 87; refine (hpg _).mono ?_; clear hpg; rintro e w2 ⟨rfl, rfl⟩)
          | (go_at_call 86; refine (saved_any q a N c _).mono ?_; rintro e w2 ⟨rfl, rfl⟩)
          | (go_at_call 85; refine (hsv _ HB1.out).mono ?_; clear hsv; rintro e w3 ⟨rfl, h3⟩; have H3 := hid (h3.base HB1.out); clear h3)
          | (go_at_call 88; refine (settled_any a N c _).mono ?_; rintro e w4 ⟨rfl, rfl⟩)
          | (go_at_call 85; refine (hst _ H3.out).mono ?_; clear hst; rintro e w5 ⟨rfl, h5⟩))
        go_ret
        exact ⟨rfl, h5⟩
      · rw [if_neg hr0]
        clear HST
        obtain ⟨re, rd⟩ := r
        simp only at hsv hr0 ⊢
        have hrn : ((re : Int) != 0) = true := by simp; omega
        have hrz : ¬ (re : Int) = 0 := by omega
        go_enter Tryz.func65, Tryz.ntmps65
        go_wp2_with (first
          | (go_at_call 69; refine hln.mono ?_; clear hln; rintro e w1 ⟨rfl, rfl⟩)
          | (go_at_call 84; refine hck.mono ?_; clear hck; rintro e w1 ⟨rfl, hb1⟩; have HB1 := hid hb1; clear hb1)
          | (go_at_call 69; refine (hln2 _ HB1.out).mono ?_; clear hln2; rintro e w2 ⟨rfl, rfl⟩)
          | (go_at_call 87; refine (hpg _).mono ?_; clear hpg; rintro e w2 ⟨rfl, rfl⟩)
          | (go_at_call 86; refine (saved_any q a N c _).mono ?_; rintro e w2 ⟨rfl, rfl⟩)
          | (go_at_call 85; refine (hsv _ HB1.out).mono ?_; clear hsv; rintro e w3 ⟨rfl, h3⟩; have H3 := hid (h3.base HB1.out); clear h3))
        go_ret
        exact ⟨rfl, H3.out⟩
  · have HE : Hid (cmt d L = (ck d.bs.length L, d)) := by show _ = _; unfold cmt; rw [if_neg hc]
    rw [HE.out]
    obtain ⟨x, hx⟩ : ∃ x, ck d.bs.length L = x := ⟨_, rfl⟩
    rw [hx] at hc hck ⊢
    have hxn : ((x : Int) != 0) = true := by simp; omega
    have hxz : ¬ (x : Int) = 0 := by omega
    clear hl hd hx hz HL
    generalize d.bs.length = n at *
    generalize L.length = N at *
    go_enter Tryz.func65, Tryz.ntmps65
    go_wp2_with (first
      | (go_at_call 69; refine hln.mono ?_; rintro e w1 ⟨rfl, rfl⟩)
      | (go_at_call 84; refine hck.mono ?_; clear hck; rintro e w1 ⟨rfl, hb1⟩))
    go_ret
    exact ⟨rfl, (Wm.refl HD.out).on hb1⟩

end Go.Proofs.YtoecopmbaoklkaaGreat
