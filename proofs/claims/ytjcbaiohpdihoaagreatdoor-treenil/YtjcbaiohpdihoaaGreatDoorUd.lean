/-
  What wakes.
-/
import Derived.Test.YtjcbaiohpdihoaaGreatDoorUc
namespace Go.Proofs.YtjcbaiohpdihoaaGreatDoor
open Go.RowKit Go.Maps Lf
set_option linter.unusedVariables false
set_option linter.unusedSimpArgs false
set_option maxRecDepth 100000

section
variable {w0 w W : World} {k q s tb n B e size m : Nat} {d : Ds} {f f' : Int → ByteArray} {N M N' : Nat} {root : Int} {v : Value} {xs : List Value}
/-- a space made since w0 with a tree on it, beside a list -/
def Tqv (w0 W : World) (k q s tb : Nat) (d : Ds) (f : Int → ByteArray) (N : Nat) (root : Int) (B e size : Nat) (v : Value) (m : Nat) (xs : List Value) : Prop :=
  ∃ S, Sv W S k q s d f N ∧ (∀ j, S j → w0.heap.size ≤ j) ∧ Below w0.heap.size w0 W ∧ Blk W tb #[.pointer (some ⟨s, 0, none⟩), .int .i64 root] 80 ∧ ¬ S tb ∧ W.ownsRow B e size v m xs ∧ ∀ g, v.ownBlock = some g → ¬ S g
theorem Tq.on (h : Tq w0 w k q s tb d f N root) (hb : Below w.heap.size w W) : Tq w0 W k q s tb d f N root := by
  obtain ⟨S, h1, h2, h3, h4, h5⟩ := h
  exact ⟨S, h1.on hb, h2, h3.trans (hb.mono h3.size), h4.on hb h4.lt, h5⟩
theorem Tq.list {n : Nat} {args : Array Value} {N' : Nat} {F : Ending → Value → Prop} (hE : Env w0) (h : Tq w0 w k q s tb d f N root) (hc : ∀ S, Sv w S k q s d f N → Env w → ¬ S 0 → Blk w tb #[.pointer (some ⟨s, 0, none⟩), .int .i64 root] 80 → ¬ S tb → Calls Tryz.prog n args w fun e1 V => ∃ v, F e1 v ∧ V.ownsRow w.heap.size e size v m xs ∧ Snx w S k q s d f N' v V) : Calls Tryz.prog n args w fun e1 V => ∃ v, F e1 v ∧ Tqv w0 V k q s tb d f N' root w.heap.size e size v m xs := by
  obtain ⟨S, h1, h2, h3, h4, h5⟩ := h
  have hp := hE.pos
  refine (hc S h1 (hE.on hp h3) (fun h0 => by have := h2 0 h0; omega) h4 h5).mono ?_
  rintro e1 V ⟨v, hF, hr, S', g1, g2, g3, g4⟩
  have hlt := h4.lt
  refine ⟨v, hF, S', g1, fun j hj => ?_, ?_, g3.blk h4 h5, fun hj => ?_, hr, g4⟩
  · rcases g2 j hj with h | h
    · exact h2 j h
    · exact Nat.le_trans h3.size h
  · exact h3.trans (g3.below h2 h3.size)
  · rcases g2 tb hj with h | h
    · exact h5 h
    · omega
theorem Tqv.call {n : Nat} {args : Array Value} {F : Ending → World → Prop} {N' : Nat} (hE : Env w0) (h : Tqv w0 w k q s tb d f N root B e size v m xs) (hc : ∀ S, Sv w S k q s d f N → Env w → ¬ S 0 → Blk w tb #[.pointer (some ⟨s, 0, none⟩), .int .i64 root] 80 → ¬ S tb → Calls Tryz.prog n args w fun e V => F e V ∧ Sn w S k q s d f' N' V) : Calls Tryz.prog n args w fun e1 V => F e1 V ∧ Tqv w0 V k q s tb d f' N' root B e size v m xs := by
  obtain ⟨S, h1, h2, h3, h4, h5, h6, h7⟩ := h
  have hp := hE.pos
  refine (hc S h1 (hE.on hp h3) (fun h0 => by have := h2 0 h0; omega) h4 h5).mono ?_
  rintro e1 V ⟨hF, hs⟩
  obtain ⟨S', g1, g2⟩ := hs.sv
  have hkp := hs.keep
  have hlt := h4.lt
  refine ⟨hF, S', g1, fun j hj => ?_, ?_, hkp.blk h4 h5, fun hj => ?_, hkp.row h6 h7, fun g hg hj => ?_⟩
  · rcases g2 j hj with h | h
    · exact h2 j h
    · exact Nat.le_trans h3.size h
  · exact h3.trans (hkp.below h2 h3.size)
  · rcases g2 tb hj with h | h
    · exact h5 h
    · omega
  · rcases g2 g hj with h | h
    · exact h7 g hg h
    · have := (own_lo h6 hg).2; omega

theorem eq_a (w : World) : (binOp .eql 59 (.agg #[.string ⟨#[97]⟩, .string ⟨#[50]⟩]) (.agg #[.string ⟨#[97]⟩, .string ⟨#[50]⟩])).run Tryz.prog w = .ok (.bool true) w := by kernel_rfl
theorem at_zero {L : List Ent} {i : Nat} (hi : i ≤ L.length) (h : IsAt L ⟨#[]⟩ i) : L.drop i = L := by
  cases i with
  | zero => rfl
  | succ i =>
    have hl : 0 < L.length := by omega
    have := h.1 0 L[0] (by omega) (List.getElem?_eq_getElem hl)
    rw [lt_nothing] at this
    cases this
set_option maxHeartbeats 4000000 in
theorem wakes_any (w : World) (hE : Env w) : Calls Tryz.prog 9 #[] w fun e w' => e = .returned (.bool true) ∧ Below w.heap.size w w' := by
  obtain ⟨d2, hd2, ⟨L1, u1⟩, hok, hs2, hus⟩ := wake_facts
  have HR := hid (room64 hd2 w)
  have HN : Hid (∀ w1 k q s, Sq w w1 k q s d2 (onD d2) 1 → Calls Tryz.prog 11 #[.pointer (some ⟨s, 0, none⟩)] w1 fun e w' => e = .returned (.tuple #[.int .i64 35, .int .i64 0]) ∧ Sq w w' k q s d2 (pgF (alF d2 (onD d2) 35) 35 []) 4) := fun w1 k q s h => h.call hE (fun S h1 he h0 => tnew_ok u1 (by decide) h1 he h0)
  have ga : gtE d2 (alF d2 (onD d2) 35) 35 = 0 := by rw [gt_al hok hs2 hus, if_pos rfl]
  have hpg : ∀ (f : Int → ByteArray) (L : List Ent), pgF f 35 L 35 = packS 1 L := fun f L => by unfold pgF; rw [if_pos rfl]
  have hpp : ∀ (f : Int → ByteArray) (L L' : List Ent), pgF (pgF f 35 L) 35 L' = pgF f 35 L' := fun f L L' => by
    funext b
    unfold pgF
    by_cases hb : b = 35 <;> simp [hb]
  have hun : ∀ (f : Int → ByteArray) (L : List Ent), packE 1 L = 0 → unp (pgF f 35 L 35).data.toList = some (1, L) := fun f L hp => by rw [hpg]; exact unp_page hp
  have hg : ∀ L, gtE d2 (pgF (alF d2 (onD d2) 35) 35 L) 35 = 0 := fun L => by rw [gt_pg ga hok]; exact ga
  generalize alF d2 (onD d2) 35 = f0 at *
  have HP1 : Hid (∀ w1 k q s tb, Tq w w1 k q s tb d2 (pgF f0 35 []) 4 35 → Calls Tryz.prog 26 #[.pointer (some ⟨tb, 0, none⟩), .string ⟨#[98]⟩, .string ⟨#[49]⟩] w1 fun e w' => e = .returned (.int .i64 0) ∧ Tq w w' k q s tb d2 (pgF f0 35 [eB]) 5007 35) := fun w1 k q s tb h => h.call hE (fun S h1 he h0 ht hts => by
    have := tput_leaf (N := 4) [] eB (by decide) (by decide) (by decide) (hg []) (hun f0 [] pk0) (by decide) (by rw [put1]; exact pk1) h1 ht he h0
    rw [put1, hpp] at this
    exact this)
  have HP2 : Hid (∀ w1 k q s tb, Tq w w1 k q s tb d2 (pgF f0 35 [eB]) 5007 35 → Calls Tryz.prog 26 #[.pointer (some ⟨tb, 0, none⟩), .string ⟨#[97]⟩, .string ⟨#[50]⟩] w1 fun e w' => e = .returned (.int .i64 0) ∧ Tq w w' k q s tb d2 (pgF f0 35 [eA, eB]) 10010 35) := fun w1 k q s tb h => h.call hE (fun S h1 he h0 ht hts => by
    have := tput_leaf (N := 5007) [eB] eA (by decide) (by decide) (by decide) (hg _) (hun f0 _ pk1) (by decide) (by rw [put2]; exact pk2) h1 ht he h0
    rw [put2, hpp] at this
    exact this)
  have HL : Hid (∀ w1 k q s tb, Tq w w1 k q s tb d2 (pgF f0 35 [eA, eB]) 10010 35 → Calls Tryz.prog 14 #[.pointer (some ⟨tb, 0, none⟩), .string ⟨#[]⟩, .int .i64 9] w1 fun e w' => ∃ v, (∃ va vc, v = .slice va 2 vc ∧ e = .returned (.tuple #[.slice va 2 vc, .int .i64 0])) ∧ Tqv w w' k q s tb d2 (pgF f0 35 [eA, eB]) 10012 35 w1.heap.size 59 2 v 2 (flatE [eA, eB])) := fun w1 k q s tb h => h.list hE (fun S h1 he h0 ht hts => by
    have hc : ckE none [eA, eB] = 0 := (packE_zero pk2).2.1
    have := tlist_leaf (N := 10010) [eA, eB] [eA, eB] ⟨#[]⟩ 9 (by decide) (by decide) (by decide) (hg _) (hun f0 _ pk2) (mono_of hc _) (fun i hi hat => at_zero hi hat) h1 he h0 (by decide) ht hts
    refine this.mono ?_
    rintro e V ⟨va, vc, rfl, hr, hx⟩
    exact ⟨_, ⟨va, vc, rfl, rfl⟩, hr, hx⟩)
  have HD : Hid (∀ w1 k q s tb B v, Tqv w w1 k q s tb d2 (pgF f0 35 [eA, eB]) 10012 35 B 59 2 v 2 (flatE [eA, eB]) → Calls Tryz.prog 27 #[.pointer (some ⟨tb, 0, none⟩), .string ⟨#[97]⟩] w1 fun e w' => e = .returned (.tuple #[.bool true, .int .i64 0]) ∧ Tqv w w' k q s tb d2 (pgF f0 35 [eB]) 16012 35 B 59 2 v 2 (flatE [eA, eB])) := fun w1 k q s tb B v h => h.call hE (fun S h1 he h0 ht hts => by
    have := tdel_leaf (N := 10012) [eA, eB] eA.k has2 (hg _) (hun f0 _ pk2) (by decide) (by rw [del2]; exact pk1) h1 ht he h0
    rw [del2, hpp] at this
    exact this)
  have HG : Hid (∀ w1 k q s tb B va vc, Tqv w w1 k q s tb d2 (pgF f0 35 [eB]) 16012 35 B 59 2 (.slice va 2 vc) 2 (flatE [eA, eB]) → Calls Tryz.prog 17 #[.pointer (some ⟨tb, 0, none⟩)] w1 fun e w' => (∃ pg pc, e = .returned (.tuple #[.slice (some ⟨pg, 0, none⟩) 1 pc, .int .i64 0]) ∧ w'.cell? ⟨pg, 0, none⟩ = some (.int .i64 35)) ∧ ∃ lg, va = some ⟨lg, 0, none⟩ ∧ w'.cell? ⟨lg, 0, none⟩ = some (.string ⟨#[97]⟩) ∧ w'.cell? ⟨lg, 1, none⟩ = some (.string ⟨#[50]⟩) ∧ Below w.heap.size w w') := fun w1 k q s tb B va vc h => by
    have := h.call (F := fun e w' => ∃ pg pc, e = .returned (.tuple #[.slice (some ⟨pg, 0, none⟩) 1 pc, .int .i64 0]) ∧ w'.cell? ⟨pg, 0, none⟩ = some (.int .i64 35)) hE (fun S h1 he h0 ht hts => (tpages_leaf (N := 16012) [eB] (hg _) (hun f0 _ pk1) h1 he h0 (by decide) ht hts).mono fun e V hh => by
      obtain ⟨pa, pc, rfl, hr, hx⟩ := hh
      obtain ⟨a', c', e1, _, _, hcs⟩ := own_cells hr
      cases e1
      obtain ⟨g, rfl, _, _, c0, _⟩ := hcs 0 (.int .i64 35) rfl
      exact ⟨⟨g, pc, rfl, c0⟩, hx.sn⟩)
    refine this.mono ?_
    rintro e w' ⟨h1, S, z1, z2, z3, z4, z5, z6, z7⟩
    obtain ⟨a', c', e1, _, _, hcs⟩ := own_cells z6
    cases e1
    obtain ⟨g, rfl, _, _, c0, _⟩ := hcs 0 (.string ⟨#[97]⟩) rfl
    obtain ⟨g', e2, _, _, c1, _⟩ := hcs 1 (.string ⟨#[50]⟩) rfl
    cases e2
    exact ⟨h1, g, rfl, c0, c1, z3⟩
  clear hd2 u1 hok hs2 hus ga hpg hpp hun hg hE
  generalize pgF f0 35 [eA, eB] = f3 at *
  generalize pgF f0 35 [eB] = f2 at *
  generalize pgF f0 35 [] = f1 at *
  generalize onD d2 = g0 at *
  have HEQ := eq_a
  go_enter Tryz.func9, Tryz.ntmps9
  go_wp2_with (first
    | (go_at_call 10; refine HR.out.mono ?_; clear HR; rintro e w1 ⟨k, q, s, rfl, h1⟩; have H1 := hid h1; clear h1)
    | (go_at_call 11; refine (HN.out _ _ _ _ H1.out).mono ?_; clear HN; rintro e w2 ⟨rfl, h2⟩; have H2 := hid h2; clear h2)
    | (go_at_call 12; refine (at_any _ _ _).mono ?_; rintro e w3 ⟨rfl, hw3⟩; have H3 := hid (H2.out.at 35); rw [hw3] at H3; clear hw3)
    | (go_at_call 26; refine (HP1.out _ _ _ _ _ H3.out).mono ?_; clear HP1; rintro e w4 ⟨rfl, h4⟩; have H4 := hid h4; clear h4)
    | (go_at_call 26; refine (HP2.out _ _ _ _ _ H4.out).mono ?_; clear HP2; rintro e w5 ⟨rfl, h5⟩; have H5 := hid h5; clear h5)
    | (go_at_call 14; refine (HL.out _ _ _ _ _ H5.out).mono ?_; clear HL; rintro e w6 ⟨v, ⟨va, vc, rfl, rfl⟩, h6⟩; have H6 := hid h6; clear h6)
    | (go_at_call 27; refine (HD.out _ _ _ _ _ _ _ H6.out).mono ?_; clear HD; rintro e w7 ⟨rfl, h7⟩; have H7 := hid h7; clear h7)
    | (go_at_call 17; refine (HG.out _ _ _ _ _ _ _ _ H7.out).mono ?_; clear HG; rintro e w8 ⟨⟨pg, pc, rfl, cp⟩, lg, rfl, c0, c1, hb8⟩; have HB8 := hid hb8; clear hb8))
  go_ret
  exact ⟨rfl, HB8.out⟩
end
end Go.Proofs.YtjcbaiohpdihoaaGreatDoor

