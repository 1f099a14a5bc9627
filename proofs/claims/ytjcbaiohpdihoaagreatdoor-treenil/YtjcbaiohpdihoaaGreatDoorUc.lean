/-
  A space with one tree of a leaf: what wakes.
-/
import Derived.Test.YtjcbaiohpdihoaaGreatDoorTz
import Derived.Test.YtjcbaiohpdihoaaGreatDoorTp
namespace Go.Proofs.YtjcbaiohpdihoaaGreatDoor
open Go.RowKit Go.Maps Lf
set_option linter.unusedVariables false
set_option linter.unusedSimpArgs false
set_option maxRecDepth 100000

theorem bel3 (w : World) (a b c : Obj) : Below w.heap.size w (((w.alloc a).alloc b).alloc c) := by
  refine Below.alloc (Below.alloc (Below.alloc (Below.refl _ w) (Nat.le_refl _) _) ?_ _) ?_ _ <;> simp <;> omega
theorem bel4 (w : World) (a b c d : Obj) : Below w.heap.size w ((((w.alloc a).alloc b).alloc c).alloc d) := by
  refine (bel3 w a b c).alloc ?_ _
  simp; omega
theorem tput_nil (x y : ByteArray) (w : World) : Calls Tryz.prog 26 #[.pointer none, .string x, .string y] w fun e w' => e = .returned (.int .i64 18) ∧ Below w.heap.size w w' := by
  go_enter Tryz.func26, Tryz.ntmps26
  go_wp2
  go_ret
  exact ⟨rfl, bel3 _ _ _ _⟩
theorem tget_nil (x : ByteArray) (w : World) : Calls Tryz.prog 31 #[.pointer none, .string x] w fun e w' => e = .returned (.tuple #[.string ⟨#[]⟩, .bool false, .int .i64 18]) ∧ Below w.heap.size w w' := by
  go_enter Tryz.func31, Tryz.ntmps31
  go_wp2
  exact bodyPost_ret (v := .tuple #[.string ⟨#[]⟩, .bool false, .int .i64 18]) (by simp [results, Tryz.results31, go_sem]) rfl ⟨rfl, bel4 _ _ _ _ _⟩
theorem tdelete_nil (x : ByteArray) (w : World) : Calls Tryz.prog 27 #[.pointer none, .string x] w fun e w' => e = .returned (.tuple #[.bool false, .int .i64 18]) ∧ Below w.heap.size w w' := by
  go_enter Tryz.func27, Tryz.ntmps27
  go_wp2
  exact bodyPost_ret (v := .tuple #[.bool false, .int .i64 18]) (by simp [results, Tryz.results27, go_sem]) rfl ⟨rfl, bel3 _ _ _ _⟩
theorem tlist_nil (x : ByteArray) (n : Int) (w : World) : Calls Tryz.prog 14 #[.pointer none, .string x, .int .i64 n] w fun e w' => e = .returned (.tuple #[.slice none 0 0, .int .i64 18]) ∧ Below w.heap.size w w' := by
  go_enter Tryz.func14, Tryz.ntmps14
  go_wp2
  exact bodyPost_ret (v := .tuple #[.slice none 0 0, .int .i64 18]) (by simp [results, Tryz.results14, go_sem]) rfl ⟨rfl, bel4 _ _ _ _ _⟩
theorem tpages_nil (w : World) : Calls Tryz.prog 17 #[.pointer none] w fun e w' => e = .returned (.tuple #[.slice none 0 0, .int .i64 18]) ∧ Below w.heap.size w w' := by
  have hb : ∀ a b, Below w.heap.size w ((w.alloc a).alloc b) := fun a b => ((Below.refl _ w).alloc (Nat.le_refl _) _).alloc (by simp) _
  have HB := hid hb
  clear hb
  go_enter Tryz.func17, Tryz.ntmps17
  go_wp2
  exact bodyPost_ret (v := .tuple #[.slice none 0 0, .int .i64 18]) (by simp [results, Tryz.results17, go_sem]) rfl ⟨rfl, HB.out _ _⟩
theorem tnew_nil (w : World) : Calls Tryz.prog 11 #[.pointer none] w fun e w' => e = .returned (.tuple #[.int .i64 0, .int .i64 18]) ∧ Below w.heap.size w w' := by
  have hb : ∀ a b, Below w.heap.size w ((w.alloc a).alloc b) := fun a b => ((Below.refl _ w).alloc (Nat.le_refl _) _).alloc (by simp) _
  have HB := hid hb
  clear hb
  go_enter Tryz.func11, Tryz.ntmps11
  go_wp2_with (go_at_call 36; refine (alloc_nil _).mono ?_; rintro e w5 ⟨rfl, rfl⟩)
  go_ret2
  exact ⟨rfl, HB.out _ _⟩
end Go.Proofs.YtjcbaiohpdihoaaGreatDoor

namespace Go.Proofs.YtjcbaiohpdihoaaGreatDoor
open Go.RowKit Go.Maps Lf
set_option linter.unusedVariables false
set_option linter.unusedSimpArgs false
set_option maxRecDepth 100000

section
variable {w W V : World} {S C C' R R' : Nat → Prop} {k q s g tb : Nat} {d : Ds} {f f' : Int → ByteArray} {N M : Nat} {root : Int} {G : Int → Option Pge} {U : List Int}
/-- a page's bytes put in -/
def pgF (f : Int → ByteArray) (a : Int) (L : List Ent) : Int → ByteArray := fun b => if b = a then packS 1 L else f b
theorem wr_one {L : List Ent} {M : List Int} (hi : I64 root) (hm : ∀ a, I64 a → (a ∈ M ↔ (upd (fun _ => none) root (some (1, L)) a).isSome = true)) : wrF (upd (fun _ => none) root (some (1, L))) f M = pgF f root L := by
  funext b
  unfold wrF pgF
  by_cases hb : b = root
  · subst hb
    have : b ∈ M := (hm b hi).2 (by unfold upd; simp)
    rw [if_pos this, if_pos rfl]
    unfold upd
    simp
  · rw [if_neg hb]
    unfold upd
    simp [hb]
theorem gt_pg (ha : gtE d f root = 0) (hd : d.Ok) {L : List Ent} (b : Int) : gtE d (pgF f root L) b = gtE d f b := by
  have hus := (gt_us ha).1
  have hm : pgF f root L (mpg d) = f (mpg d) := by
    unfold pgF
    rw [if_neg (fun h => by have := hus.1; unfold mpg at h; omega)]
  unfold gtE tkn
  rw [hm]
theorem gok_one (ha : gtE d f root = 0) {L : List Ent} (hp : packE 1 L = 0) : GOk d f (upd (fun _ => none) root (some (1, L))) := by
  intro a p _ h
  unfold upd at h
  split at h
  · rename_i e
    subst e
    cases h
    exact ⟨ha, hp⟩
  · cases h
theorem dput_leaf (L : List Ent) (x : Ent) (ha : gtE d f root = 0) (hu : unp (f root).data.toList = some (1, L)) (hsx : Sml x.k) (hsv : Sml x.v) (hN : N < 80000) (hp : packE 1 (putL L x.k x.v) = 0) (h : Dr w C R k q s g d f N root (fun _ => none) []) :
    Calls Tryz.prog 55 #[.pointer (some ⟨g, 0, none⟩), .agg #[.string x.k, .string x.v]] w fun e w' => e = .returned (.tuple #[]) ∧ ∃ f' G', f' = pgF f root (putL L x.k x.v) ∧ Dn w C R k q s g d f' (N + 5003) root G' [] w' := by
  obtain ⟨_, hc, hfit, _, _⟩ := unp_ok hu
  obtain ⟨_, _, hf2⟩ := packE_zero hp
  have hai := h.i64 ha
  refine (dput_any (M := N + 3) (f' := f) (G' := upd (fun _ => none) root (some (1, putL L x.k x.v))) x.k x.v ⟨#[]⟩ ⟨#[]⟩ (gok_one ha hp) rfl (by omega) h (fun w1 C1 R1 h1 =>
    putLeaf_ret root L x ha (by unfold vw2; exact hu) hc hfit hsx hsv hN h1 ⟨#[]⟩ ⟨#[]⟩ false (fun w2 C2 R2 v h2 hv => lay_fits root v (1, putL L x.k x.v) hai hf2 hv (by omega) h2))).mono ?_
  rintro e w' ⟨M, rfl, hm, hd⟩
  refine ⟨rfl, _, _, ?_, hd⟩
  rw [wr_one hai hm]
theorem tput_leaf (L : List Ent) (x : Ent) (z1 : 0 < x.k.size) (z2 : x.k.size ≤ 32) (z3 : x.v.size ≤ 64) (ha : gtE d f root = 0) (hu : unp (f root).data.toList = some (1, L)) (hN : N < 80000) (hp : packE 1 (putL L x.k x.v) = 0)
    (hsv : Sv w S k q s d f N) (ht : Blk w tb #[.pointer (some ⟨s, 0, none⟩), .int .i64 root] 80) (hE : Env w) (h0 : ¬ S 0) :
    Calls Tryz.prog 26 #[.pointer (some ⟨tb, 0, none⟩), .string x.k, .string x.v] w fun e w' => e = .returned (.int .i64 0) ∧ Sn w S k q s d (pgF f root (putL L x.k x.v)) (N + 5003) w' := by
  refine (tput_ok x.k x.v (fun f' => f' = pgF f root (putL L x.k x.v)) z1 z2 z3 hsv ht hE h0 (fun w1 C1 R1 g h1 => dput_leaf L x ha hu (by unfold Sml; omega) (by unfold Sml; omega) hN hp h1)).mono ?_
  rintro e w' ⟨rfl, f', rfl, h⟩
  exact ⟨rfl, h⟩
theorem tdel_leaf (L : List Ent) (key : ByteArray) (hk : hasL L key = true) (ha : gtE d f root = 0) (hu : unp (f root).data.toList = some (1, L)) (hN : N < 80000) (hp : packE 1 (others L key) = 0)
    (hsv : Sv w S k q s d f N) (ht : Blk w tb #[.pointer (some ⟨s, 0, none⟩), .int .i64 root] 80) (hE : Env w) (h0 : ¬ S 0) :
    Calls Tryz.prog 27 #[.pointer (some ⟨tb, 0, none⟩), .string key] w fun e w' => e = .returned (.tuple #[.bool true, .int .i64 0]) ∧ Sn w S k q s d (pgF f root (others L key)) (N + 6000) w' := by
  obtain ⟨_, hc, hfit, _, _⟩ := unp_ok hu
  refine (tdel_ok (M := N + 6000) key true (fun f' => f' = pgF f root (others L key)) hsv ht hE h0 (fun w1 C1 R1 g h1 => (dtake_yes L key ha (by unfold vw2; exact hu) hc hfit hk (gok_one ha hp) rfl hN h1).mono fun e w' hh => ?_)).mono ?_
  · obtain ⟨M, rfl, hm, hd⟩ := hh
    refine ⟨rfl, _, _, ?_, hd⟩
    rw [wr_one (h1.i64 ha) hm]
  · rintro e w' ⟨rfl, f', rfl, h⟩
    exact ⟨rfl, h⟩

/-- a space made since w0 with a tree on it -/
def Tq (w0 W : World) (k q s tb : Nat) (d : Ds) (f : Int → ByteArray) (N : Nat) (root : Int) : Prop :=
  ∃ S, Sv W S k q s d f N ∧ (∀ j, S j → w0.heap.size ≤ j) ∧ Below w0.heap.size w0 W ∧ Blk W tb #[.pointer (some ⟨s, 0, none⟩), .int .i64 root] 80 ∧ ¬ S tb
theorem Tq.call {w0 : World} {F : Ending → World → Prop} {n : Nat} {args : Array Value} {N' : Nat} (hE : Env w0) (h : Tq w0 w k q s tb d f N root) (hc : ∀ S, Sv w S k q s d f N → Env w → ¬ S 0 → Blk w tb #[.pointer (some ⟨s, 0, none⟩), .int .i64 root] 80 → ¬ S tb → Calls Tryz.prog n args w fun e V => F e V ∧ Sn w S k q s d f' N' V) : Calls Tryz.prog n args w fun e V => F e V ∧ Tq w0 V k q s tb d f' N' root := by
  obtain ⟨S, h1, h2, h3, h4, h5⟩ := h
  have hp := hE.pos
  refine (hc S h1 (hE.on hp h3) (fun h0 => by have := h2 0 h0; omega) h4 h5).mono ?_
  rintro e V ⟨hF, hs⟩
  obtain ⟨S', g1, g2⟩ := hs.sv
  have hkp := hs.keep
  have hlt := h4.lt
  refine ⟨hF, S', g1, fun j hj => ?_, ?_, hkp.blk h4 h5, fun hj => ?_⟩
  · rcases g2 j hj with h | h
    · exact h2 j h
    · exact Nat.le_trans h3.size h
  · exact h3.trans (hkp.below h2 h3.size)
  · rcases g2 tb hj with h | h
    · exact h5 h
    · omega
theorem Snx.sn {v : Value} (h : Snx w S k q s d f N v W) : Sn w S k q s d f N W := by
  obtain ⟨S', h1, h2, h3, _⟩ := h
  exact ⟨⟨S', h1, h2⟩, h3⟩
theorem Sq.at {w0 : World} (h : Sq w0 w k q s d f N) (root : Int) : Tq w0 (w.alloc (.cells #[.pointer (some ⟨s, 0, none⟩), .int .i64 root] 80)) k q s w.heap.size d f N root := by
  obtain ⟨S, h1, h2, h3⟩ := h
  have hb := (Below.refl w.heap.size w).alloc (Nat.le_refl _) (.cells #[.pointer (some ⟨s, 0, none⟩), .int .i64 root] 80)
  exact ⟨S, h1.on hb, h2, h3.trans (hb.mono h3.size), Blk.made w _ 80, fun h => by have := h1.lt _ h; omega⟩
end
end Go.Proofs.YtjcbaiohpdihoaaGreatDoor

namespace Go.Proofs.YtjcbaiohpdihoaaGreatDoor
open Go.RowKit Go.Maps Lf
set_option linter.unusedVariables false
set_option linter.unusedSimpArgs false
set_option maxRecDepth 100000

/-- what is free on a new disk of 64 -/
theorem wake_facts : ∃ d2, (cmt (nw 64) (layL (nw 64) 8)).2 = d2 ∧ (∃ L, frl d2 (onD d2) = 35 :: L) ∧ d2.Ok ∧ (onD d2 (mpg d2)).size = 256 ∧ isUs d2.bs.length 35 := by
  obtain ⟨c1, c2, c3, c4, c5, c6, c7, _⟩ := cmt_lay (d := nw 64) (nw_ok' (by decide) (by decide)) rfl (r := 8) (by decide) (by show (-1 : Int) < 0; decide)
  refine ⟨_, rfl, ?_⟩
  generalize (cmt (nw 64) (layL (nw 64) 8)).2 = d2 at *
  rw [nw_len] at c4 c5
  have hm : mpg d2 = 34 := by unfold mpg; rw [c4, frs64]; rfl
  have hm0 : mpg (nw 64) = 34 := by unfold mpg; rw [nw_len, frs64]; rfl
  have hpg : isPg 64 34 := .inr (by rw [frs64, pgs64]; omega)
  have hmap : onD d2 (mpg d2) = fm0 := by
    rw [hm, c5 34 hpg]
    unfold nwF
    rw [hm0, if_pos rfl]
  have u0 : usr d2.bs.length (onD d2 (mpg d2)) false = ((List.range 29).filter fun _ => true).map fun (j : Nat) => ((34 : Nat) : Int) + 1 + (j : Int) := by
    rw [c4, hmap]
    unfold usr
    rw [frs64, pgs64]
    exact usrL_congr _ (fun j hj => by rw [hasB_fm0]; simp)
  exact ⟨⟨_, by unfold frl; rw [u0]; rfl⟩, c6, by rw [hmap]; exact fm0_size, by rw [c4]; exact ⟨by rw [frs64]; omega, by rw [frs64, pgs64]; omega⟩⟩

section
variable {w0 w W : World} {k q s n : Nat} {d : Ds} {f : Int → ByteArray} {N M : Nat}
theorem room64 {d2 : Ds} (hd2 : (cmt (nw 64) (layL (nw 64) 8)).2 = d2) (w : World) : Calls Tryz.prog 10 #[.int .i64 64] w fun e w' => ∃ k q s, e = .returned (.pointer (some ⟨s, 0, none⟩)) ∧ Sq w w' k q s d2 (onD d2) 1 := by
  have HNW := hid (new_dq (w0 := w) (w := w) 64 (by decide) (by decide) (Below.refl _ _))
  have HOP : Hid (∀ w1 k, Dq w w1 k (nw 64) → Calls Tryz.prog 35 #[.pointer (some ⟨k, 0, none⟩), .int .i64 8] w1 fun e w' => ∃ q s, e = .returned (.tuple #[.pointer (some ⟨s, 0, none⟩), .int .i64 0]) ∧ Sq w w' k q s d2 (onD d2) 1) := fun w1 k h => by
    have := open_nw 64 (by decide) (by decide) 8 (by decide) h
    rw [hd2] at this
    exact this
  clear hd2
  go_enter Tryz.func10, Tryz.ntmps10
  go_wp2_with (first
    | (go_at_call 34; refine HNW.out.mono ?_; clear HNW; rintro e w1 ⟨k, rfl, h1⟩; have H1 := hid h1; clear h1)
    | (go_at_call 35; refine (HOP.out _ _ H1.out).mono ?_; clear HOP; rintro e w2 ⟨q, s, rfl, h2⟩; have H2 := hid h2; clear h2))
  go_ret
  exact ⟨k, q, s, rfl, H2.out⟩
def eB : Ent := ⟨⟨#[98]⟩, ⟨#[49]⟩⟩
def eA : Ent := ⟨⟨#[97]⟩, ⟨#[50]⟩⟩
theorem put1 : putL [] eB.k eB.v = [eB] := by kernel_rfl
theorem put2 : putL [eB] eA.k eA.v = [eA, eB] := by kernel_rfl
theorem del2 : others [eA, eB] eA.k = [eB] := by kernel_rfl
theorem has2 : hasL [eA, eB] eA.k = true := by kernel_rfl
theorem pk0 : packE 1 [] = 0 := by kernel_rfl
theorem pk1 : packE 1 [eB] = 0 := by kernel_rfl
theorem pk2 : packE 1 [eA, eB] = 0 := by kernel_rfl
theorem lt_nothing (x : ByteArray) : lt x ⟨#[]⟩ = false := by
  have : (⟨#[]⟩ : ByteArray).toList = [] := by kernel_rfl
  unfold lt
  rw [this]
  cases x.toList <;> rfl
end
end Go.Proofs.YtjcbaiohpdihoaaGreatDoor
