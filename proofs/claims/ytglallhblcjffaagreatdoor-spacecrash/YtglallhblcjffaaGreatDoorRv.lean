/-
  What the journal reads of a disk: blocks one behind the other, the pages that the list tells.
-/
import Derived.Test.YtglallhblcjffaaGreatDoorWl
namespace Go.Proofs.YtglallhblcjffaaGreatDoor
open Go.RowKit Go.Shelf
set_option linter.unusedVariables false
set_option linter.unusedSimpArgs false
set_option maxRecDepth 100000

theorem Wm.trans {w A B : World} {S S1 : Nat → Prop} {k : Nat} {d2 : Ds} (hg : Grows S S1 w) (hk : Keep S w A) (h : Wm A S1 k d2 B) : Wm w S k d2 B := by
  obtain ⟨S', h1, h2⟩ := h.disk
  refine ⟨⟨S', h1, fun j hj => ?_⟩, hk.trans h.keep (fun j hj h' => (hg j h').elim id (fun h'' => by omega))⟩
  rcases h2 j hj with h' | h'
  · exact hg j h'
  · exact .inr (Nat.le_trans hk.size h')
theorem Wm.base {w A B : World} {S : Nat → Prop} {k : Nat} {d2 : Ds} (hb : Below w.heap.size w A) (h : Wm A S k d2 B) : Wm w S k d2 B := Wm.trans (Grows.refl S w) (Keep.of_below hb) h
theorem Wm.refl {w : World} {S : Nat → Prop} {k : Nat} {d : Ds} (h : Dk w S k d) : Wm w S k d w := ⟨⟨S, h, Grows.refl _ _⟩, Keep.refl _ _⟩

theorem saved_any (m : Nat) (a : Option Addr) (n c : Nat) (w : World) : Calls Tryz.prog 146 #[.int .i64 (m : Nat), .slice a n c] w fun e w' => e = .returned (.func (.func 159) #[] #[.pointer (some ⟨w.heap.size + 1, 0, none⟩), .pointer (some ⟨w.heap.size, 0, none⟩)]) ∧ (w.alloc (.cells #[.int .i64 (m : Nat)] 3)).alloc (.cells #[.slice a n c] 78) = w' := by
  go_enter Tryz.func146, Tryz.ntmps146
  go_wp2_with fail
  go_ret
  exact ⟨by simp, rfl⟩
theorem settled_any (a : Option Addr) (n c : Nat) (w : World) : Calls Tryz.prog 66 #[.slice a n c] w fun e w' => e = .returned (.func (.func 108) #[] #[.pointer (some ⟨w.heap.size, 0, none⟩)]) ∧ w.alloc (.cells #[.slice a n c] 78) = w' := by
  go_enter Tryz.func66, Tryz.ntmps66
  go_wp2_with fail
  go_ret
  exact ⟨by simp, rfl⟩

/-- a group's blocks are saved -/
theorem save_any (w : World) (S : Nat → Prop) (k : Nat) (d : Ds) (hd : Dk w S k d) (a : Option Addr) (c : Nat) (L : List Pg) (hl : LiesO w S (.slice a L.length c) L) (hn : L.length ≤ 1100) (hp : ∀ p ∈ L, 0 ≤ p.pl ∧ p.pl < 65536) (hz : Fit (d.lg.length + 5000)) :
    Calls Tryz.prog 65 #[.pointer (some ⟨k, 0, none⟩), .func (.func 159) #[] #[.pointer (some ⟨w.heap.size + 1, 0, none⟩), .pointer (some ⟨w.heap.size, 0, none⟩)]] ((w.alloc (.cells #[.int .i64 (pgs d.bs.length : Nat)] 3)).alloc (.cells #[.slice a L.length c] 78)) fun e w' => e = .returned (.int .i64 ((d.wrs (savedL d.bs.length L)).1 : Nat)) ∧ Wm w S k (d.wrs (savedL d.bs.length L)).2 w' := by
  have hlo := hd.1.lo
  have hhi := hd.1.hi
  have hb : Below w.heap.size w ((w.alloc (.cells #[.int .i64 (pgs d.bs.length : Nat)] 3)).alloc (.cells #[.slice a L.length c] 78)) := ((Below.refl _ w).alloc (Nat.le_refl _) _).alloc (by simp) _
  have bM := (Blk.made w #[.int .i64 (pgs d.bs.length : Nat)] 3).alloc (.cells #[.slice a L.length c] 78)
  have bL := Blk.made (w.alloc (.cells #[.int .i64 (pgs d.bs.length : Nat)] 3)) #[.slice a L.length c] 78
  simp only [World.size_alloc] at bL
  generalize ((w.alloc (.cells #[.int .i64 (pgs d.bs.length : Nat)] 3)).alloc (.cells #[.slice a L.length c] 78)) = w1 at hb bM bL ⊢
  have hlen := savedL_len d.bs.length L
  have hlb : lb L.length ≤ 100 := by unfold lb; omega
  have hd1 := hd.on hb
  refine (writes_any 159 _ (enters_of Tryz.func159 (by kernel_rfl) rfl) (savedL d.bs.length L) w1 S k d hd1 (hz.le (by rw [hlen]; omega)) (fun w2 hb2 => ?_)).mono fun e w' h => ⟨h.1, h.2.base hb⟩
  have hd2 := hd1.on hb2
  obtain ⟨f1, f2, f3⟩ := hd2.foot
  have bM2 := bM.on hb2 bM.lt
  have bL2 := bL.on hb2 bL.lt
  refine saved_stops 2 (by omega) w2 k (w.heap.size + 1) w.heap.size _ L d.bs.length hlo hhi bL2 (hd2.box_out bL2 (by decide)) bM2 (hd2.box_out bM2 (by decide)) (((hl.on hb).on hb2).out (fun j _ h => f2 j h)) ?_ f3 (by omega) hp
  exact Nat.lt_of_lt_of_le (hd1.2.1 k hd1.2.2.1) hb2.size

/-- a group's blocks are settled -/
theorem settle_any (w : World) (S : Nat → Prop) (k : Nat) (d : Ds) (hd : Dk w S k d) (a : Option Addr) (c : Nat) (L : List Pg) (hl : LiesO w S (.slice a L.length c) L) (hn : L.length ≤ 1100) (hz : Fit (d.lg.length + 1500)) :
    Calls Tryz.prog 65 #[.pointer (some ⟨k, 0, none⟩), .func (.func 108) #[] #[.pointer (some ⟨w.heap.size, 0, none⟩)]] (w.alloc (.cells #[.slice a L.length c] 78)) fun e w' => e = .returned (.int .i64 ((d.wrs (settledL L)).1 : Nat)) ∧ Wm w S k (d.wrs (settledL L)).2 w' := by
  have hb : Below w.heap.size w (w.alloc (.cells #[.slice a L.length c] 78)) := (Below.refl _ w).alloc (Nat.le_refl _) _
  have bL := Blk.made w #[.slice a L.length c] 78
  generalize (w.alloc (.cells #[.slice a L.length c] 78)) = w1 at hb bL ⊢
  have hlen := settledL_len L
  have hd1 := hd.on hb
  refine (writes_any 108 _ (enters_of Tryz.func108 (by kernel_rfl) rfl) (settledL L) w1 S k d hd1 (hz.le (by rw [hlen]; omega)) (fun w2 hb2 => ?_)).mono fun e w' h => ⟨h.1, h.2.base hb⟩
  have hd2 := hd1.on hb2
  obtain ⟨f1, f2, f3⟩ := hd2.foot
  have bL2 := bL.on hb2 bL.lt
  refine settled_stops 2 (by omega) w2 k w.heap.size _ L bL2 (hd2.box_out bL2 (by decide)) (((hl.on hb).on hb2).out (fun j _ h => f2 j h)) ?_
  exact Nat.lt_of_lt_of_le (hd1.2.1 k hd1.2.2.1) hb2.size

theorem commit_nil (v : Value) (a : Option Addr) (n c : Nat) (hv : v = .slice a n c) (w : World) : Calls Tryz.prog 118 #[.pointer none, v] w fun e w' => e = .returned (.int .i64 18) ∧ w = w' := by
  subst hv
  go_enter Tryz.func118, Tryz.ntmps118
  go_wp2_with fail
  go_ret
  exact ⟨rfl, rfl⟩

theorem cmt_lg (d : Ds) (L : List Pg) : (cmt d L).2.lg.length ≤ d.lg.length + 2 * L.length + lb L.length + 2 := by
  unfold cmt
  split
  · split
    · show d.lg.length ≤ _; omega
    · have := Ds.wrs_lg (savedL d.bs.length L ++ settledL L) d
      rw [List.length_append, savedL_len, settledL_len] at this
      omega
  · show d.lg.length ≤ _; omega

set_option maxHeartbeats 4000000 in
theorem commit_any (w : World) (S : Nat → Prop) (k : Nat) (d : Ds) (hd : Dk w S k d) (v : Value) (L : List Pg) (hl : LiesO w S v L) (hz : Fit (d.lg.length + 5000)) :
    Calls Tryz.prog 118 #[.pointer (some ⟨k, 0, none⟩), v] w fun e w' => e = .returned (.int .i64 ((cmt d L).1 : Nat)) ∧ Wm w S k (cmt d L).2 w' := by
  have hlo := hd.1.lo
  have hhi := hd.1.hi
  have hln := len_any w S k d hd
  have hck := check_any d.bs.length hlo hhi w S v L hl
  obtain ⟨a, c, e1⟩ := hl.form
  subst e1
  have hlm := hl.len
  unfold maxLen at hlm
  have HD := hid hd
  have HL := hid hl
  have HZ := hid hz
  by_cases hc : ck d.bs.length L = 0
  · rw [hc] at hck
    by_cases h0 : L = []
    · subst h0
      have HE : Hid (cmt d [] = (0, d)) := by show _ = _; unfold cmt; rw [if_pos hc, if_pos rfl]
      rw [HE.out]
      clear hc hl hd hlm hz
      generalize d.bs.length = n at *
      go_enter Tryz.func118, Tryz.ntmps118
      go_wp2_with (first
        | (go_at_call 61; refine hln.mono ?_; rintro e w1 ⟨rfl, rfl⟩)
        | (go_at_call 103; refine hck.mono ?_; clear hck; rintro e w1 ⟨rfl, hb1⟩))
      go_ret
      exact ⟨rfl, (Wm.refl HD.out).on hb1⟩
    · have hN0 : 0 < L.length := by cases L with | nil => exact absurd rfl h0 | cons _ _ => simp
      obtain ⟨hcl, hck2⟩ : L.length ≤ pgs d.bs.length ∧ ckL d.bs.length [] L = 0 := by
        unfold ck at hc
        split at hc
        · cases hc
        · exact ⟨by omega, hc⟩
      have hb1 := pgs_hi hhi
      have hp : ∀ p ∈ L, 0 ≤ p.pl ∧ p.pl < 65536 := fun p hp => by
        have := isPg_lt hlo ((ckL_zero hck2).1 p hp).1
        omega
      have HE : Hid (cmt d L = if (d.wrs (savedL d.bs.length L)).1 = 0 then (d.wrs (savedL d.bs.length L)).2.wrs (settledL L) else d.wrs (savedL d.bs.length L)) := by
        show _ = _
        unfold cmt
        rw [if_pos hc, if_neg h0, Ds.wrs_append]
      have hpg : ∀ w1, _ := fun w1 => pages_any d.bs.length hlo hhi w1
      have hsv : ∀ w1, Below w.heap.size w w1 → _ := fun w1 hb => save_any w1 S k d (HD.out.on hb) a c L (HL.out.on hb) (by omega) hp HZ.out
      have hlg1 := Ds.wrs_lg (savedL d.bs.length L) d
      have hlb : lb L.length ≤ 100 := by unfold lb; omega
      rw [savedL_len] at hlg1
      have HST : Hid (∀ w1 d1, d1 = (d.wrs (savedL d.bs.length L)).2 → Wm w S k d1 w1 → Calls Tryz.prog 65 #[.pointer (some ⟨k, 0, none⟩), .func (.func 108) #[] #[.pointer (some ⟨w1.heap.size, 0, none⟩)]] (w1.alloc (.cells #[.slice a L.length c] 78)) fun e w' => e = .returned (.int .i64 ((d1.wrs (settledL L)).1 : Nat)) ∧ Wm w S k (d1.wrs (settledL L)).2 w') := fun w1 d1 he h => by
        obtain ⟨S1, h1, h2⟩ := h.disk
        refine (settle_any w1 S1 k d1 h1 a c L (HL.out.keep h.keep h2) (by omega) ?_).mono fun e w' hh => ⟨hh.1, Wm.trans h2 h.keep hh.2⟩
        exact HZ.out.le (by subst he; omega)
      rw [HE.out]
      clear hc hl hd hck2 hcl hz hp HE hlg1 hlb
      obtain ⟨N, hN⟩ : ∃ N, L.length = N := ⟨_, rfl⟩
      rw [hN] at hck hN0 hsv HST hlm ⊢
      have hN0b : ((N : Int) == 0) = false := by simp; omega
      clear hN0
      have hln2 : ∀ w1, Below w.heap.size w w1 → _ := fun w1 hb => len_any w1 S k d (HD.out.on hb)
      obtain ⟨r, hr⟩ : ∃ r, d.wrs (savedL d.bs.length L) = r := ⟨_, rfl⟩
      rw [hr] at hsv HST ⊢
      obtain ⟨q, hq⟩ : ∃ q, pgs d.bs.length = q := ⟨_, rfl⟩
      rw [hq] at hpg hsv
      clear hr hq h0 hN HL
      generalize d.bs.length = n at *
      by_cases hr0 : r.1 = 0
      · rw [if_pos hr0]
        have hst : ∀ w1, Wm w S k r.2 w1 → _ := fun w1 h => HST.out w1 r.2 rfl h
        rw [hr0] at hsv
        clear hr0 HST
        generalize r.2 = d1 at *
        go_enter Tryz.func118, Tryz.ntmps118
        go_wp2_with (first
          | (go_at_call 61; refine hln.mono ?_; clear hln; rintro e w1 ⟨rfl, rfl⟩)
          | (go_at_call 103; refine hck.mono ?_; clear hck; rintro e w1 ⟨rfl, hb1⟩; have HB1 := hid hb1; clear hb1)
          | (go_at_call 61; refine (hln2 _ HB1.out).mono ?_; clear hln2; rintro e w2 ⟨rfl, rfl⟩)
          | (go_at_call 97; refine (hpg _).mono ?_; clear hpg; rintro e w2 ⟨rfl, rfl⟩)
          | (go_at_call 146; refine (saved_any q a N c _).mono ?_; rintro e w2 ⟨rfl, rfl⟩)
          | (go_at_call 65; refine (hsv _ HB1.out).mono ?_; clear hsv; rintro e w3 ⟨rfl, h3⟩; have H3 := hid (h3.base HB1.out); clear h3)
          | (go_at_call 66; refine (settled_any a N c _).mono ?_; rintro e w4 ⟨rfl, rfl⟩)
          | (go_at_call 65; refine (hst _ H3.out).mono ?_; clear hst; rintro e w5 ⟨rfl, h5⟩))
        go_ret
        exact ⟨rfl, h5⟩
      · rw [if_neg hr0]
        clear HST
        obtain ⟨re, rd⟩ := r
        simp only at hsv hr0 ⊢
        have hrn : ((re : Int) != 0) = true := by simp; omega
        have hrz : ¬ (re : Int) = 0 := by omega
        go_enter Tryz.func118, Tryz.ntmps118
        go_wp2_with (first
          | (go_at_call 61; refine hln.mono ?_; clear hln; rintro e w1 ⟨rfl, rfl⟩)
          | (go_at_call 103; refine hck.mono ?_; clear hck; rintro e w1 ⟨rfl, hb1⟩; have HB1 := hid hb1; clear hb1)
          | (go_at_call 61; refine (hln2 _ HB1.out).mono ?_; clear hln2; rintro e w2 ⟨rfl, rfl⟩)
          | (go_at_call 97; refine (hpg _).mono ?_; clear hpg; rintro e w2 ⟨rfl, rfl⟩)
          | (go_at_call 146; refine (saved_any q a N c _).mono ?_; rintro e w2 ⟨rfl, rfl⟩)
          | (go_at_call 65; refine (hsv _ HB1.out).mono ?_; clear hsv; rintro e w3 ⟨rfl, h3⟩; have H3 := hid (h3.base HB1.out); clear h3))
        go_ret
        exact ⟨rfl, H3.out⟩
  · have HE : Hid (cmt d L = (ck d.bs.length L, d)) := by show _ = _; unfold cmt; rw [if_neg hc]
    rw [HE.out]
    obtain ⟨x, hx⟩ : ∃ x, ck d.bs.length L = x := ⟨_, rfl⟩
    rw [hx] at hc hck ⊢
    have hxn : ((x : Int) != 0) = true := by simp; omega
    have hxz : ¬ (x : Int) = 0 := by omega
    clear hl hd hx hz HL
    generalize d.bs.length = n at *
    generalize L.length = N at *
    go_enter Tryz.func118, Tryz.ntmps118
    go_wp2_with (first
      | (go_at_call 61; refine hln.mono ?_; rintro e w1 ⟨rfl, rfl⟩)
      | (go_at_call 103; refine hck.mono ?_; clear hck; rintro e w1 ⟨rfl, hb1⟩))
    go_ret
    exact ⟨rfl, (Wm.refl HD.out).on hb1⟩

theorem cutB_snoc {bs : List ByteArray} {a k : Nat} {s : ByteArray} (h : bs[a + k]? = some s) : cutB bs a (k + 1) = cutB bs a k ++ [s] := by
  unfold cutB
  exact take_snoc (by rw [List.getElem?_drop]; exact h)
theorem Ds.rd_in {d : Ds} (h : d.dn = false) {n : Nat} {s : ByteArray} (hs : d.bs[n]? = some s) : d.rdE (n : Int) = 0 ∧ d.rdS (n : Int) = s := by
  have hlt := (List.getElem?_eq_some_iff.1 hs).1
  have h0 : d.rdE (n : Int) = 0 := Ds.rdE_in h (by unfold Ds.out; omega)
  refine ⟨h0, ?_⟩
  unfold Ds.rdS
  rw [if_pos h0, Int.toNat_natCast, List.getD_eq_getElem?_getD, hs]
  rfl

set_option maxHeartbeats 4000000 in
theorem jread_any (w : World) (S : Nat → Prop) (k : Nat) (d : Ds) (hd : Dk w S k d) (hdn : d.dn = false) (a c : Nat) (hac : a + c ≤ d.bs.length) :
    Calls Tryz.prog 99 #[.pointer (some ⟨k, 0, none⟩), .int .i64 (a : Nat), .int .i64 (c : Nat)] w fun e w' => ∃ v', e = .returned (.tuple #[v', .int .i64 0]) ∧ RowS w' w.heap.size v' (cutB d.bs a c) ∧ Below w.heap.size w w' := by
  obtain ⟨i0, hi, hz0, hz1, hz2⟩ := info_parts info9
  have hhi := hd.1.hi
  have HD := hid hd
  have HDN := hid hdn
  have HAC := hid hac
  clear hd hdn
  have hab : a ≤ 2048 := by omega
  have hcb : c ≤ 2048 := by omega
  have HCL : Hid (∀ j, j ≤ c → (cutB d.bs a j).length = j) := fun j hj => cutB_len (by omega)
  clear hac hhi
  go_enter Tryz.func99, Tryz.ntmps99
  go_wp2_with fail
  go_loopw [8, 13] (fun x i wr => ∃ (j : Nat) (ba : Option Addr) (bc : Nat), j ≤ c ∧ i = .int .i64 (j : Nat) ∧ x = .slice ba j bc ∧ Hid (RowS wr w.heap.size (.slice ba j bc) (cutB d.bs a j)) ∧ Hid (Below w.heap.size w wr)) (fun _ i _ => c - (intOf i).toNat)
  case atStart => exact ⟨0, none, 0, Nat.zero_le _, rfl, rfl, World.ownsRow_nil _ _ _ _, Below.refl _ w⟩
  case round =>
    obtain ⟨j, ba, bc, hj, rfl, rfl, HR, HB⟩ := hrel
    by_cases hlt : j < c
    · have hji : (j : Int) < (c : Int) := by omega
      obtain ⟨s, hs⟩ : ∃ s, d.bs[a + j]? = some s := ⟨_, List.getElem?_eq_getElem (by have := HAC.out; omega)⟩
      have hrd := read_any ((a + j : Nat) : Int) wr S k d (HD.out.on HB.out)
      rw [(Ds.rd_in HDN.out hs).1, (Ds.rd_in HDN.out hs).2] at hrd
      rw [show ((a + j : Nat) : Int) = (a : Int) + (j : Int) by omega] at hrd
      have HSN := hid (cutB_snoc hs)
      have HL := hid (HCL.out j hj)
      clear hs
      go_wp2_with (first
        | (go_at_call 63; refine hrd.mono ?_; clear hrd; rintro e w1 ⟨rfl, hb1⟩; have HR1 := hid (HR.out.on hb1); have HB1 := hid (HB.out.trans (hb1.mono HB.out.size)); clear hb1)
        | (at_builtin; refine wpList_append_blk _ rfl (.tmp 27) (.tmp 29) 70 rfl w.heap.size 9 i0 (.string ⟨#[]⟩) 1 16 Tryz.underlying70 hi hz0 hz1 hz2 rfl (by decide) _ j (flatS (cutB d.bs a j)) rfl (by have h := HR1.out.alloc (.cells #[.string s] 9); rw [HL.out] at h; exact h) ⟨w1.heap.size, 0, none⟩ 1 1 [.string s] rfl rfl (cells_one w1 _ 9) ?c2 (by decide) ?c3 ?c4 ?c5 ?_))
      case c2 => intro u hu; simp at hu; subst hu; rfl
      case c3 => unfold maxLen; omega
      case c4 => omega
      case c5 => have := HB1.out.size; simp; omega
      intro v' w2 hown' hgrow hmv
      have HB2 := hid ((HB1.out.alloc HB1.out.size (.cells #[.string s] 9)).grown hgrow (by have := HB1.out.size; simp; omega) (fun g hg => by have h := HR1.out; exact ((h : w1.ownsRow w.heap.size 9 1 _ _ _).lt g hg).1))
      have HR2 : Hid (RowS w2 w.heap.size v' (cutB d.bs a (j + 1))) := by
        unfold RowS
        rw [HSN.out, flatS_append, List.length_append, HL.out]
        exact hown'
      obtain ⟨va, vc, hv'⟩ := own_form hown'
      subst hv'
      clear hown' hgrow hmv HR1 HB1 HR HB
      go_wp2_with fail
      go_roundw
      case rel => exact ⟨j + 1, va, vc, by omega, by go_num, rfl, HR2, HB2⟩
      case measure => simp [intOf]; omega
    · have hji : ¬ (j : Int) < (c : Int) := by omega
      obtain rfl : j = c := by omega
      go_wp2_with fail
      go_ret2
      exact ⟨_, rfl, HR.out, HB.out⟩

theorem info54 : (Tryz.prog.info? 101).map (fun i => (i.zero, i.size, i.bytes)) = some (some (.agg #[.int .i64 0, .string ⟨#[]⟩]), 2, 24) := by kernel_rfl
theorem grpL_snoc {lst cps : List ByteArray} {k : Nat} {s : ByteArray} (h : cps[k]? = some s) : grpL lst (cps.take (k + 1)) = grpL lst (cps.take k) ++ [⟨((numAt lst k : Nat) : Int), s⟩] := by
  have hk := (List.getElem?_eq_some_iff.1 h).1
  unfold grpL
  rw [take_snoc h, List.mapIdx_append, List.length_take, Nat.min_eq_left (by omega)]
  simp

set_option maxHeartbeats 4000000 in
theorem groupOf_any (w : World) (B B' : Nat) (u v : Value) (lst cps : List ByteArray) (hu : RowS w B u lst) (hv : RowS w B' v cps) (hl : cps.length ≤ 128 * lst.length) (hc : cps.length ≤ 2048) (hs : ∀ s ∈ lst, s.size = 256) :
    Calls Tryz.prog 102 #[u, v] w fun e w' => ∃ v', e = .returned v' ∧ RowP w' w.heap.size v' (grpL lst cps) ∧ Below w.heap.size w w' := by
  obtain ⟨i0, hi, hz0, hz1, hz2⟩ := info_parts info54
  obtain ⟨a, c, e1⟩ := hu.form
  obtain ⟨a', c', e2⟩ := hv.form
  subst e1
  subst e2
  have HU := hid hu
  have HV := hid hv
  have HS := hid hs
  obtain ⟨N, hN⟩ : ∃ N, cps.length = N := ⟨_, rfl⟩
  have HN := hid hN
  obtain ⟨M, hM⟩ : ∃ M, lst.length = M := ⟨_, rfl⟩
  have HM := hid hM
  rw [hN] at hl hc
  rw [hM] at hl
  rw [hN, hM]
  have HGL : Hid (∀ j, j ≤ N → (grpL lst (cps.take j)).length = j) := fun j hj => by rw [grpL_len, List.length_take]; omega
  clear hu hv hs hN hM
  go_enter Tryz.func102, Tryz.ntmps102
  go_wp2_with fail
  go_loopw [5, 10] (fun x i wr => ∃ (j : Nat) (ba : Option Addr) (bc : Nat), j ≤ N ∧ i = .int .i64 (j : Nat) ∧ x = .slice ba j bc ∧ Hid (RowP wr w.heap.size (.slice ba j bc) (grpL lst (cps.take j))) ∧ Hid (Below w.heap.size w wr)) (fun _ i _ => N - (intOf i).toNat)
  case atStart => exact ⟨0, none, 0, Nat.zero_le _, rfl, rfl, World.ownsRow_nil _ _ _ _, Below.refl _ w⟩
  case round =>
    obtain ⟨j, ba, bc, hj, rfl, rfl, HR, HB⟩ := hrel
    by_cases hlt : j < N
    · have hji : (j : Int) < (N : Int) := by omega
      obtain ⟨s, hsj⟩ : ∃ s, cps[j]? = some s := ⟨_, List.getElem?_eq_getElem (by rw [HN.out]; exact hlt)⟩
      obtain ⟨q, hq⟩ : ∃ q, j / 128 = q := ⟨_, rfl⟩
      have hqM : q < M := by omega
      obtain ⟨t, htq⟩ : ∃ t, lst[q]? = some t := ⟨_, List.getElem?_eq_getElem (by rw [HM.out]; exact hqM)⟩
      obtain ⟨g, x1, _, hgl⟩ := row_some HU.out (by rw [HM.out]; omega)
      subst x1
      obtain ⟨g', x2, _, hgl'⟩ := row_some HV.out (by rw [HN.out]; omega)
      subst x2
      have ct : wr.cell? ⟨g, q, none⟩ = some (.string t) := (HB.out.cell (p := ⟨g, q, none⟩) hgl).trans (HU.out.at htq).1
      have cs : wr.cell? ⟨g', j, none⟩ = some (.string s) := (HB.out.cell (p := ⟨g', j, none⟩) hgl').trans (HV.out.at hsj).1
      have hqi : (j : Int) / 128 = (q : Int) := by omega
      obtain ⟨r, hr⟩ : ∃ r, j % 128 * 2 = r := ⟨_, rfl⟩
      have hri : (j : Int) % 128 * 2 = (r : Int) := by omega
      have htz : t.size = 256 := HS.out t (List.mem_of_getElem? htq)
      have hgt : ∀ w1, _ := fun w1 => get_any t r (by rw [htz]; decide) (by omega) w1
      have HNA : Hid (numAt lst j = Nu.val (Nu.sub t r 2)) := by
        show _ = _
        unfold numAt Nu.sub
        rw [hq, hr, List.getD_eq_getElem?_getD, htq]
        rfl
      have HSN := hid (grpL_snoc (lst := lst) hsj)
      rw [HNA.out] at HSN
      have HL := hid (HGL.out j hj)
      generalize Nu.val (Nu.sub t r 2) = x at hgt HSN
      clear hsj htq hq hr HNA
      go_wp2_with (first
        | (go_at_call 136; refine (hgt _).mono ?_; clear hgt; rintro e w1 ⟨rfl, rfl⟩)
        | (at_builtin; refine wpList_append_blk _ rfl (.tmp 15) (.tmp 27) 78 rfl w.heap.size 101 i0 (.agg #[.int .i64 0, .string ⟨#[]⟩]) 2 24 Tryz.underlying78 hi hz0 hz1 hz2 rfl (by decide) _ j (flatP (grpL lst (cps.take j))) rfl (by have h := HR.out.alloc (.cells #[.int .i64 (x : Nat), .string s] 101); rw [HL.out] at h; exact h) ⟨wr.heap.size, 0, none⟩ 1 1 [.int .i64 (x : Nat), .string s] rfl rfl (cells_two wr _ _ 101) ?c2 (by decide) ?c3 ?c4 ?c5 ?_))
      case c2 => intro u hu; simp at hu; rcases hu with rfl | rfl <;> rfl
      case c3 => unfold maxLen; omega
      case c4 => omega
      case c5 => have := HB.out.size; simp; omega
      intro v' w2 hown' hgrow hmv
      have HB2 := hid ((HB.out.alloc HB.out.size (.cells #[.int .i64 (x : Nat), .string s] 101)).grown hgrow (by have := HB.out.size; simp; omega) (fun g hg => by have h := HR.out; exact ((h : wr.ownsRow w.heap.size 101 2 _ _ _).lt g hg).1))
      have HR2 : Hid (RowP w2 w.heap.size v' (grpL lst (cps.take (j + 1)))) := by
        unfold RowP
        rw [HSN.out, flatP_append, List.length_append, HL.out]
        exact hown'
      obtain ⟨va, vc, hv'⟩ := own_form hown'
      subst hv'
      clear hown' hgrow hmv HR HB ct cs
      go_wp2_with fail
      go_roundw
      case rel => exact ⟨j + 1, va, vc, by omega, by go_num, rfl, HR2, HB2⟩
      case measure => simp [intOf]; omega
    · have hji : ¬ (j : Int) < (N : Int) := by omega
      obtain rfl : j = N := by omega
      rw [List.take_of_length_le (by rw [HN.out]; omega)] at HR
      go_wp2_with fail
      go_ret
      exact ⟨_, rfl, HR.out, HB.out⟩

end Go.Proofs.YtglallhblcjffaaGreatDoor
