/-
  The fixed facts of layer 13.
-/
import Derived.Test.YtjocbkhjbbpkjabPn
namespace Go.Proofs.Ytjocbkhjbbpkjab
open Go.RowKit
set_option linter.unusedVariables false
set_option linter.unusedSimpArgs false
set_option maxRecDepth 100000

def xA : Ent := ⟨⟨#[97]⟩, ⟨#[120]⟩⟩
def xC : Ent := ⟨⟨#[99]⟩, ⟨#[]⟩⟩
theorem two_lies (w : World) : LiesE (w.alloc (.cells #[.string xA.k, .string xA.v, .string xC.k, .string xC.v] 26)) (.slice (some ⟨w.heap.size, 0, none⟩) 2 2) [xA, xC] := by
  have hb := Blk.made w #[.string xA.k, .string xA.v, .string xC.k, .string xC.v] 26
  refine ⟨_, 2, rfl, Nat.le_refl _, by unfold maxLen; decide, fun k y hk => ?_⟩
  match k, hk with
  | 0, hk =>
    cases hk
    exact ⟨_, 0, rfl, hb.lt, hb.cell (i := 0) rfl, hb.cell (i := 1) rfl, by unfold Sml; decide, by unfold Sml; decide⟩
  | 1, hk =>
    cases hk
    exact ⟨_, 0, rfl, hb.lt, hb.cell (i := 2) rfl, hb.cell (i := 3) rfl, by unfold Sml; decide, by unfold Sml; decide⟩
theorem wk_ck1 : packE 1 [xA] = 0 := by kernel_rfl
theorem wk_ck2 : ckE none [xA, xC] = 0 := by kernel_rfl
theorem wk_sz : szL [xA, xC] = 9 := by kernel_rfl
theorem wk_cut : bt (((packS 1 [xA]).data.toList.take 6).drop 0) = ⟨#[1, 1, 1, 97, 1, 120]⟩ := by kernel_rfl
theorem wk_size : (packS 1 [xA]).size = 256 := by kernel_rfl
theorem wk_page : (packS 1 [xA]).size = 256 ∧ (packS 1 [xA]).extract 0 6 = ⟨#[1, 1, 1, 97, 1, 120]⟩ := by
  have h := bt_cut (packS 1 [xA]).data.toList 0 6
  rw [bt_self] at h
  exact ⟨wk_size, h.trans wk_cut⟩
theorem wk_find {i : Nat} (h : Mono [xA, xC] ⟨#[98]⟩ → IsAt [xA, xC] ⟨#[98]⟩ i) (hi : i ≤ 2) : i = 1 ∧ fnd [xA, xC] ⟨#[98]⟩ i = false := by
  have ha := h (mono_of wk_ck2 _)
  have l1 : lt xA.k ⟨#[98]⟩ = true := by kernel_rfl
  have l2 : lt xC.k ⟨#[98]⟩ = false := by kernel_rfl
  have hi1 : i = 1 := by
    match i, hi with
    | 0, _ =>
      have := ha.2 0 xA (Nat.le_refl _) rfl
      rw [l1] at this
      cases this
    | 1, _ => rfl
    | 2, _ =>
      have := ha.1 1 xC (by decide) rfl
      rw [l2] at this
      cases this
  subst hi1
  exact ⟨rfl, by kernel_rfl⟩

set_option maxHeartbeats 1000000 in
theorem wakes_any (w : World) : Calls Try.prog 4 #[] w fun e w' => e = .returned (.bool true) ∧ Below w.heap.size w w' := by
  have HL := hid (two_lies w)
  have HB0 : Hid (Below w.heap.size w (w.alloc (.cells #[.string xA.k, .string xA.v, .string xC.k, .string xC.v] 26))) := (Below.refl _ w).alloc (Nat.le_refl _) _
  have HL1 := hid (HL.out.part (i := 0) (m := 1) (M := [xA]) rfl (by decide))
  have HPK := hid (pack_any _ 1 _ [xA] HL1.out (by decide))
  have hun := unp_page wk_ck1
  obtain ⟨z1, z2⟩ := wk_page
  have HUN : Hid (∀ w1 : World, Calls Try.prog 11 #[.string (packS 1 [xA])] w1 fun e w' => (∃ a c, e = .returned (.tuple #[.int .i64 1, .slice a 1 c, .int .i64 0])) ∧ Below w1.heap.size w1 w') := fun w1 => by
    have h := unpack_any w1 (packS 1 [xA]).data.toList (by rw [data_len, z1]; decide)
    rw [hun, bt_self] at h
    refine h.mono ?_
    rintro e w' ⟨a, c, h1, _, h3⟩
    exact ⟨⟨a, c, h1⟩, h3⟩
  rw [wk_ck1] at HPK
  clear hun HL1
  obtain ⟨wa, hwa⟩ : ∃ wa, w.alloc (.cells #[.string xA.k, .string xA.v, .string xC.k, .string xC.v] 26) = wa := ⟨_, rfl⟩
  have HFD : Hid (∀ w1 : World, Below wa.heap.size wa w1 → Calls Try.prog 12 #[.slice (some ⟨w.heap.size, 0, none⟩) 2 2, .string ⟨#[98]⟩] w1 fun e w' => e = .returned (.tuple #[.int .i64 1, .bool false]) ∧ Below w1.heap.size w1 w') := fun w1 hb => by
    rw [hwa] at HL
    refine (find_any w1 _ [xA, xC] ⟨#[98]⟩ (HL.out.on hb) (by decide)).mono ?_
    rintro e w' ⟨i, h1, h2, h3, h4⟩
    obtain ⟨rfl, hf⟩ := wk_find h3 h2
    rw [hf] at h1
    exact ⟨h1, h4⟩
  have HSZ : Hid (∀ w1 : World, Below wa.heap.size wa w1 → Calls Try.prog 13 #[.slice (some ⟨w.heap.size, 0, none⟩) 2 2] w1 fun e w' => e = .returned (.int .i64 9) ∧ Below w1.heap.size w1 w') := fun w1 hb => by
    rw [hwa] at HL
    have := size_any w1 _ [xA, xC] (HL.out.on hb)
    rw [wk_sz] at this
    exact this
  subst hwa
  generalize packS 1 [xA] = pg at *
  have hsl : ∀ w1 : World, (Instr.slice 9 (.string pg) none (some (.int .i64 6)) none).run Try.prog w1 = .ok (.string ⟨#[1, 1, 1, 97, 1, 120]⟩) w1 := fun w1 => by
    have := run_slice_string_h (P := Try.prog) (w := w1) (t := 9) (s := pg) Try.underlying9 .i64 6 (by decide) (by omega)
    rw [this, ← z2]
    rfl
  have z3 : (pg.size : Int) = 256 := by omega
  clear z1 z2 HL
  have x1 : xA.k = ⟨#[97]⟩ := rfl
  have x2 : xA.v = ⟨#[120]⟩ := rfl
  have x3 : xC.k = ⟨#[99]⟩ := rfl
  have x4 : xC.v = ⟨#[]⟩ := rfl
  rw [x1, x2, x3, x4] at HPK HFD HSZ HB0
  clear x1 x2 x3 x4
  go_enter Try.func4, Try.ntmps4
  go_wp2_with (first
    | (go_at_call 10; refine HPK.out.mono ?_; clear HPK; rintro e w1 ⟨rfl, hb1⟩; have HB1 := hid hb1; clear hb1)
    | (go_at_call 11; refine (HUN.out _).mono ?_; clear HUN; rintro e w2 ⟨⟨a2, c2, rfl⟩, hb2⟩; have HB2 := hid (HB1.out.trans (hb2.mono HB1.out.size)); clear hb2)
    | (go_at_call 12; refine (HFD.out _ HB2.out).mono ?_; clear HFD; rintro e w3 ⟨rfl, hb3⟩; have HB3 := hid (HB2.out.trans (hb3.mono HB2.out.size)); clear hb3)
    | (go_at_call 13; refine (HSZ.out _ HB3.out).mono ?_; clear HSZ; rintro e w4 ⟨rfl, hb4⟩; have HB4 := hid (HB3.out.trans (hb4.mono HB3.out.size)); clear hb4))
  go_ret
  exact ⟨rfl, HB0.out.trans (HB4.out.mono HB0.out.size)⟩
theorem unpack_yes (w : World) (l : List UInt8) (hl : l.length ≤ 140737488351232) {k n : Nat} {M : List Ent} (h : unp l = some (k, M)) (hn : M.length = n) :
    Calls Try.prog 11 #[.string (bt l)] w fun e w' => ∃ a c, e = .returned (.tuple #[.int .i64 (k : Nat), .slice a n c, .int .i64 0]) ∧ RowE w' w.heap.size (.slice a n c) M ∧ Below w.heap.size w w' := by
  have := unpack_any w l hl
  rw [h] at this
  subst hn
  exact this
theorem unpack_no (w : World) (l : List UInt8) (hl : l.length ≤ 140737488351232) (h : unp l = none) :
    Calls Try.prog 11 #[.string (bt l)] w fun e w' => ∃ a c, e = .returned (.tuple #[.int .i64 0, .slice a 0 c, .int .i64 3]) ∧ RowE w' w.heap.size (.slice a 0 c) [] ∧ Below w.heap.size w w' := by
  have := unpack_any w l hl
  rw [h] at this
  exact this
end Go.Proofs.Ytjocbkhjbbpkjab

