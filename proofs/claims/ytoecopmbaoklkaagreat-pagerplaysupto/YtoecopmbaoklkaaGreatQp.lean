/-
  An act on both pagers.
-/
import Derived.Test.YtoecopmbaoklkaaGreatQo
import Derived.Test.YtoecopmbaoklkaaGreatOa
namespace Go.Proofs.YtoecopmbaoklkaaGreat
open Go.RowKit
set_option linter.unusedVariables false
set_option linter.unusedSimpArgs false
set_option maxRecDepth 100000

section
variable {w0 w w' : World} {k q k2 q2 g : Nat} {p p2 p' p2' : Pp} {cs : Array Value}
/-- what an act leaves -/
def Did (w0 : World) (k q k2 q2 : Nat) (p : Pp) (N : Nat) (e : Ending) (w' : World) : Prop :=
  e = .returned (.bool true) ∧ ∃ p', p'.Ok (N + 2) ∧ p'.d.lg.length ≤ p.d.lg.length + 5000 ∧ Tz w0 w' k q p' k2 q2 p'
set_option maxHeartbeats 2000000 in
theorem does_0 (N : Nat) (hN : N < 4611686018427380000) (a : Ac) (ha : I64 a.pl) (hs : a.tx.size ≤ maxLen) (hok : p.Ok N) (hz : Fit (p.d.lg.length + 5000)) (h : Tz w0 w k q p k2 q2 p) (hK : kd a.kd 9 = 0) :
    Calls Tryz.prog 8 #[.pointer (some ⟨k, 0, none⟩), .pointer (some ⟨q, 0, none⟩), .pointer (some ⟨q2, 0, none⟩), .agg #[.int .i64 a.kd, .int .i64 a.pl, .string a.tx]] w (Did w0 k q k2 q2 p N) := by
  obtain ⟨ak, al, at'⟩ := a
  simp only at ha hs hK ⊢
  have hkd := fun w1 => kind_any ak 9 (by decide) w1
  rw [hK] at hkd
  obtain ⟨W, hW⟩ : ∃ W, w.alloc (.cells #[.int .i64 ak, .int .i64 al, .string at'] 40) = W := ⟨_, rfl⟩
  obtain ⟨g, hg⟩ : ∃ g, w.heap.size = g := ⟨_, rfl⟩
  have hy := h.ty #[.int .i64 ak, .int .i64 al, .string at']
  rw [hW, hg] at hy
  have b0 := hy.blk
  have d0 : W.cell? ⟨g, 0, none⟩ = some (.int .i64 ak) := b0.cell (i := 0) rfl
  have d1 : W.cell? ⟨g, 1, none⟩ = some (.int .i64 al) := b0.cell (i := 1) rfl
  have d2 : W.cell? ⟨g, 2, none⟩ = some (.string at') := b0.cell (i := 2) rfl
  have HY := hid hy
  have HD : Hid (∀ w1 p p2, Ty w0 w1 k q p k2 q2 p2 g #[.int .i64 ak, .int .i64 al, .string at'] → w1.cell? ⟨g, 1, none⟩ = some (.int .i64 al) ∧ w1.cell? ⟨g, 2, none⟩ = some (.string at')) := fun w1 p p2 h => ⟨h.blk.cell (i := 1) rfl, h.blk.cell (i := 2) rfl⟩
  have HA : Hid (∀ w1, Ty w0 w1 k q p k2 q2 p g #[.int .i64 ak, .int .i64 al, .string at'] → Calls Tryz.prog 21 #[.pointer (some ⟨q, 0, none⟩), .int .i64 al] w1 fun e w' => e = .returned (.tuple #[.string (p.ldS al), .int .i64 (p.ldE al : Nat)]) ∧ Ty w0 w' k q (p.ld al) k2 q2 p g #[.int .i64 ak, .int .i64 al, .string at']) := fun w1 h => load_ty N (by omega) al hok h
  have HB : Hid (∀ w1, Ty w0 w1 k q (p.ld al) k2 q2 p g #[.int .i64 ak, .int .i64 al, .string at'] → Calls Tryz.prog 27 #[.pointer (some ⟨q2, 0, none⟩), .int .i64 al] w1 fun e w' => e = .returned (.tuple #[.string (p.ldS al), .int .i64 (p.ldE al : Nat)]) ∧ Ty w0 w' k q (p.ld al) k2 q2 (p.ld al) g #[.int .i64 ak, .int .i64 al, .string at']) := fun w1 h => rLoad_ty N (by omega) al hok h
  have HF : Hid (∀ w1, Ty w0 w1 k q (p.ld al) k2 q2 (p.ld al) g #[.int .i64 ak, .int .i64 al, .string at'] → ∃ p', p'.Ok (N + 2) ∧ p'.d.lg.length ≤ p.d.lg.length + 5000 ∧ Tz w0 w1 k q p' k2 q2 p') := fun w1 h => ⟨_, (hok.ld al).mono (by omega), by rw [ld_d]; omega, h.tz⟩
  generalize p.ld al = pn at *
  generalize p.ldS al = s at *
  generalize p.ldE al = m at *
  clear b0 hy hok hz hs ha hN hK h
  go_enter Tryz.func8, Tryz.ntmps8
  go_wp2_with fail
  try simp only [hg] at *
  try rw [hW]
  clear hW hg
  go_wp2_with (first
    | (go_at_call 26; refine (hkd _).mono ?_; clear hkd; rintro e w1 ⟨rfl, rfl⟩)
    | (go_at_call 21; refine (HA.out _ HY.out).mono ?_; clear HA; rintro e w2 ⟨rfl, hy2⟩; have HY2 := hid hy2; obtain ⟨d21, d22⟩ := HD.out _ _ _ hy2; clear hy2 d1 d2 d0)
    | (go_at_call 27; refine (HB.out _ HY2.out).mono ?_; clear HB; rintro e w3 ⟨rfl, hy3⟩; have HY3 := hid hy3; clear hy3))
  go_ret
  exact ⟨rfl, HF.out _ HY3.out⟩
set_option maxHeartbeats 2000000 in
theorem does_1 (N : Nat) (hN : N < 4611686018427380000) (a : Ac) (ha : I64 a.pl) (hs : a.tx.size ≤ maxLen) (hok : p.Ok N) (hz : Fit (p.d.lg.length + 5000)) (h : Tz w0 w k q p k2 q2 p) (hK : kd a.kd 9 = 1) :
    Calls Tryz.prog 8 #[.pointer (some ⟨k, 0, none⟩), .pointer (some ⟨q, 0, none⟩), .pointer (some ⟨q2, 0, none⟩), .agg #[.int .i64 a.kd, .int .i64 a.pl, .string a.tx]] w (Did w0 k q k2 q2 p N) := by
  obtain ⟨ak, al, at'⟩ := a
  simp only at ha hs hK ⊢
  have hkd := fun w1 => kind_any ak 9 (by decide) w1
  rw [hK] at hkd
  obtain ⟨W, hW⟩ : ∃ W, w.alloc (.cells #[.int .i64 ak, .int .i64 al, .string at'] 40) = W := ⟨_, rfl⟩
  obtain ⟨g, hg⟩ : ∃ g, w.heap.size = g := ⟨_, rfl⟩
  have hy := h.ty #[.int .i64 ak, .int .i64 al, .string at']
  rw [hW, hg] at hy
  have b0 := hy.blk
  have d0 : W.cell? ⟨g, 0, none⟩ = some (.int .i64 ak) := b0.cell (i := 0) rfl
  have d1 : W.cell? ⟨g, 1, none⟩ = some (.int .i64 al) := b0.cell (i := 1) rfl
  have d2 : W.cell? ⟨g, 2, none⟩ = some (.string at') := b0.cell (i := 2) rfl
  have HY := hid hy
  have HD : Hid (∀ w1 p p2, Ty w0 w1 k q p k2 q2 p2 g #[.int .i64 ak, .int .i64 al, .string at'] → w1.cell? ⟨g, 1, none⟩ = some (.int .i64 al) ∧ w1.cell? ⟨g, 2, none⟩ = some (.string at')) := fun w1 p p2 h => ⟨h.blk.cell (i := 1) rfl, h.blk.cell (i := 2) rfl⟩
  have HA : Hid (∀ w1, Ty w0 w1 k q p k2 q2 p g #[.int .i64 ak, .int .i64 al, .string at'] → Calls Tryz.prog 21 #[.pointer (some ⟨q, 0, none⟩), .int .i64 al] w1 fun e w' => e = .returned (.tuple #[.string (p.ldS al), .int .i64 (p.ldE al : Nat)]) ∧ Ty w0 w' k q (p.ld al) k2 q2 p g #[.int .i64 ak, .int .i64 al, .string at']) := fun w1 h => load_ty N (by omega) al hok h
  have HB : Hid (∀ w1, Ty w0 w1 k q (p.ld al) k2 q2 p g #[.int .i64 ak, .int .i64 al, .string at'] → Calls Tryz.prog 27 #[.pointer (some ⟨q2, 0, none⟩), .int .i64 al] w1 fun e w' => e = .returned (.tuple #[.string (p.ldS al), .int .i64 (p.ldE al : Nat)]) ∧ Ty w0 w' k q (p.ld al) k2 q2 (p.ld al) g #[.int .i64 ak, .int .i64 al, .string at']) := fun w1 h => rLoad_ty N (by omega) al hok h
  have HF : Hid (∀ w1, Ty w0 w1 k q (p.ld al) k2 q2 (p.ld al) g #[.int .i64 ak, .int .i64 al, .string at'] → ∃ p', p'.Ok (N + 2) ∧ p'.d.lg.length ≤ p.d.lg.length + 5000 ∧ Tz w0 w1 k q p' k2 q2 p') := fun w1 h => ⟨_, (hok.ld al).mono (by omega), by rw [ld_d]; omega, h.tz⟩
  generalize p.ld al = pn at *
  generalize p.ldS al = s at *
  generalize p.ldE al = m at *
  clear b0 hy hok hz hs ha hN hK h
  go_enter Tryz.func8, Tryz.ntmps8
  go_wp2_with fail
  try simp only [hg] at *
  try rw [hW]
  clear hW hg
  go_wp2_with (first
    | (go_at_call 26; refine (hkd _).mono ?_; clear hkd; rintro e w1 ⟨rfl, rfl⟩)
    | (go_at_call 21; refine (HA.out _ HY.out).mono ?_; clear HA; rintro e w2 ⟨rfl, hy2⟩; have HY2 := hid hy2; obtain ⟨d21, d22⟩ := HD.out _ _ _ hy2; clear hy2 d1 d2 d0)
    | (go_at_call 27; refine (HB.out _ HY2.out).mono ?_; clear HB; rintro e w3 ⟨rfl, hy3⟩; have HY3 := hid hy3; clear hy3))
  go_ret
  exact ⟨rfl, HF.out _ HY3.out⟩
set_option maxHeartbeats 2000000 in
theorem does_2 (N : Nat) (hN : N < 4611686018427380000) (a : Ac) (ha : I64 a.pl) (hs : a.tx.size ≤ maxLen) (hok : p.Ok N) (hz : Fit (p.d.lg.length + 5000)) (h : Tz w0 w k q p k2 q2 p) (hK : kd a.kd 9 = 2) :
    Calls Tryz.prog 8 #[.pointer (some ⟨k, 0, none⟩), .pointer (some ⟨q, 0, none⟩), .pointer (some ⟨q2, 0, none⟩), .agg #[.int .i64 a.kd, .int .i64 a.pl, .string a.tx]] w (Did w0 k q k2 q2 p N) := by
  obtain ⟨ak, al, at'⟩ := a
  simp only at ha hs hK ⊢
  have hkd := fun w1 => kind_any ak 9 (by decide) w1
  rw [hK] at hkd
  obtain ⟨W, hW⟩ : ∃ W, w.alloc (.cells #[.int .i64 ak, .int .i64 al, .string at'] 40) = W := ⟨_, rfl⟩
  obtain ⟨g, hg⟩ : ∃ g, w.heap.size = g := ⟨_, rfl⟩
  have hy := h.ty #[.int .i64 ak, .int .i64 al, .string at']
  rw [hW, hg] at hy
  have b0 := hy.blk
  have d0 : W.cell? ⟨g, 0, none⟩ = some (.int .i64 ak) := b0.cell (i := 0) rfl
  have d1 : W.cell? ⟨g, 1, none⟩ = some (.int .i64 al) := b0.cell (i := 1) rfl
  have d2 : W.cell? ⟨g, 2, none⟩ = some (.string at') := b0.cell (i := 2) rfl
  have HY := hid hy
  have HD : Hid (∀ w1 p p2, Ty w0 w1 k q p k2 q2 p2 g #[.int .i64 ak, .int .i64 al, .string at'] → w1.cell? ⟨g, 1, none⟩ = some (.int .i64 al) ∧ w1.cell? ⟨g, 2, none⟩ = some (.string at')) := fun w1 p p2 h => ⟨h.blk.cell (i := 1) rfl, h.blk.cell (i := 2) rfl⟩
  have HA : Hid (∀ w1, Ty w0 w1 k q p k2 q2 p g #[.int .i64 ak, .int .i64 al, .string at'] → Calls Tryz.prog 19 #[.pointer (some ⟨q, 0, none⟩), .int .i64 al, .string (blk at')] w1 fun e w' => e = .returned (.int .i64 (p.stE al (blk at') : Nat)) ∧ Ty w0 w' k q (p.st al (blk at')) k2 q2 p g #[.int .i64 ak, .int .i64 al, .string at']) := fun w1 h => store_ty N al ha _ (by rw [blk_size]; decide) hok h
  have HB : Hid (∀ w1, Ty w0 w1 k q (p.st al (blk at')) k2 q2 p g #[.int .i64 ak, .int .i64 al, .string at'] → Calls Tryz.prog 28 #[.pointer (some ⟨q2, 0, none⟩), .int .i64 al, .string (blk at')] w1 fun e w' => e = .returned (.int .i64 (p.stE al (blk at') : Nat)) ∧ Ty w0 w' k q (p.st al (blk at')) k2 q2 (p.st al (blk at')) g #[.int .i64 ak, .int .i64 al, .string at']) := fun w1 h => rStore_ty N al _ hok h
  have HL : Hid (∀ w1, Calls Tryz.prog 20 #[.string at'] w1 fun e w' => e = .returned (.string (blk at')) ∧ Below w1.heap.size w1 w') := fun w1 => lBlock_any at' hs w1
  have HF : Hid (∀ w1, Ty w0 w1 k q (p.st al (blk at')) k2 q2 (p.st al (blk at')) g #[.int .i64 ak, .int .i64 al, .string at'] → ∃ p', p'.Ok (N + 2) ∧ p'.d.lg.length ≤ p.d.lg.length + 5000 ∧ Tz w0 w1 k q p' k2 q2 p') := fun w1 h => ⟨_, (hok.st al _).mono (by omega), by rw [st_d]; omega, h.tz⟩
  generalize p.st al (blk at') = pn at *
  generalize p.stE al (blk at') = m at *
  generalize blk at' = s at *
  have HYd : Hid (Ty w0 W.drew k q p k2 q2 p g #[.int .i64 ak, .int .i64 al, .string at']) := HY.out.on ((Below.refl _ _).drew)
  have HS0 := HD.out _ _ _ HYd.out
  clear b0 hy hok hz hs ha hN hK h
  go_enter Tryz.func8, Tryz.ntmps8
  go_wp2_with fail
  try simp only [hg] at *
  try rw [hW]
  clear hW hg
  go_wp2_with (first
    | (go_at_call 26; refine (hkd _).mono ?_; clear hkd; rintro e w1 ⟨rfl, rfl⟩))
  go_region_held3 (fun w' => w'.cell? ⟨g, 1, none⟩ = some (.int .i64 al) ∧ w'.cell? ⟨g, 2, none⟩ = some (.string at')) (first | exact HS0 | exact HS3 | exact HS4 | exact HS5 | exact HS6)
    (first
      | (go_at_call 20; refine (HL.out _).mono ?_; rintro e w3 ⟨rfl, hb3⟩; have HY3 := hid (HYd.out.on hb3); have HS3 := HD.out _ _ _ HY3.out; clear hb3 HYd)
      | (go_at_call 19; refine (HA.out _ HY3.out).mono ?_; clear HA; rintro e w4 ⟨rfl, hy4⟩; have HY4 := hid hy4; have HS4 := HD.out _ _ _ hy4; clear hy4 HY3)
      | (go_at_call 20; refine (HL.out _).mono ?_; clear HL; rintro e w5 ⟨rfl, hb5⟩; have HY5 := hid (HY4.out.on hb5); have HS5 := HD.out _ _ _ HY5.out; clear hb5 HY4)
      | (go_at_call 28; refine (HB.out _ HY5.out).mono ?_; clear HB; rintro e w6 ⟨rfl, hy6⟩; have HY6 := hid hy6; have HS6 := HD.out _ _ _ hy6; clear hy6 HY5))
  clear HS0 HS3 HS4 HS5 HS6 d0 d1 d2
  go_wp2_with fail
  go_ret
  exact ⟨rfl, HF.out _ HY6.out⟩
set_option maxHeartbeats 2000000 in
theorem does_3 (N : Nat) (hN : N < 4611686018427380000) (a : Ac) (ha : I64 a.pl) (hs : a.tx.size ≤ maxLen) (hok : p.Ok N) (hz : Fit (p.d.lg.length + 5000)) (h : Tz w0 w k q p k2 q2 p) (hK : kd a.kd 9 = 3) :
    Calls Tryz.prog 8 #[.pointer (some ⟨k, 0, none⟩), .pointer (some ⟨q, 0, none⟩), .pointer (some ⟨q2, 0, none⟩), .agg #[.int .i64 a.kd, .int .i64 a.pl, .string a.tx]] w (Did w0 k q k2 q2 p N) := by
  obtain ⟨ak, al, at'⟩ := a
  simp only at ha hs hK ⊢
  have hkd := fun w1 => kind_any ak 9 (by decide) w1
  rw [hK] at hkd
  obtain ⟨W, hW⟩ : ∃ W, w.alloc (.cells #[.int .i64 ak, .int .i64 al, .string at'] 40) = W := ⟨_, rfl⟩
  obtain ⟨g, hg⟩ : ∃ g, w.heap.size = g := ⟨_, rfl⟩
  have hy := h.ty #[.int .i64 ak, .int .i64 al, .string at']
  rw [hW, hg] at hy
  have b0 := hy.blk
  have d0 : W.cell? ⟨g, 0, none⟩ = some (.int .i64 ak) := b0.cell (i := 0) rfl
  have d1 : W.cell? ⟨g, 1, none⟩ = some (.int .i64 al) := b0.cell (i := 1) rfl
  have d2 : W.cell? ⟨g, 2, none⟩ = some (.string at') := b0.cell (i := 2) rfl
  have HY := hid hy
  have HD : Hid (∀ w1 p p2, Ty w0 w1 k q p k2 q2 p2 g #[.int .i64 ak, .int .i64 al, .string at'] → w1.cell? ⟨g, 1, none⟩ = some (.int .i64 al) ∧ w1.cell? ⟨g, 2, none⟩ = some (.string at')) := fun w1 p p2 h => ⟨h.blk.cell (i := 1) rfl, h.blk.cell (i := 2) rfl⟩
  have HA : Hid (∀ w1, Ty w0 w1 k q p k2 q2 p g #[.int .i64 ak, .int .i64 al, .string at'] → Calls Tryz.prog 19 #[.pointer (some ⟨q, 0, none⟩), .int .i64 al, .string at'] w1 fun e w' => e = .returned (.int .i64 (p.stE al at' : Nat)) ∧ Ty w0 w' k q (p.st al at') k2 q2 p g #[.int .i64 ak, .int .i64 al, .string at']) := fun w1 h => store_ty N al ha _ (hs) hok h
  have HB : Hid (∀ w1, Ty w0 w1 k q (p.st al at') k2 q2 p g #[.int .i64 ak, .int .i64 al, .string at'] → Calls Tryz.prog 28 #[.pointer (some ⟨q2, 0, none⟩), .int .i64 al, .string at'] w1 fun e w' => e = .returned (.int .i64 (p.stE al at' : Nat)) ∧ Ty w0 w' k q (p.st al at') k2 q2 (p.st al at') g #[.int .i64 ak, .int .i64 al, .string at']) := fun w1 h => rStore_ty N al _ hok h
  have HF : Hid (∀ w1, Ty w0 w1 k q (p.st al at') k2 q2 (p.st al at') g #[.int .i64 ak, .int .i64 al, .string at'] → ∃ p', p'.Ok (N + 2) ∧ p'.d.lg.length ≤ p.d.lg.length + 5000 ∧ Tz w0 w1 k q p' k2 q2 p') := fun w1 h => ⟨_, (hok.st al _).mono (by omega), by rw [st_d]; omega, h.tz⟩
  generalize p.st al at' = pn at *
  generalize p.stE al at' = m at *
  have HYd : Hid (Ty w0 W.drew k q p k2 q2 p g #[.int .i64 ak, .int .i64 al, .string at']) := HY.out.on ((Below.refl _ _).drew)
  have HS0 := HD.out _ _ _ HYd.out
  clear b0 hy hok hz hs ha hN hK h
  go_enter Tryz.func8, Tryz.ntmps8
  go_wp2_with fail
  try simp only [hg] at *
  try rw [hW]
  clear hW hg
  go_wp2_with (first
    | (go_at_call 26; refine (hkd _).mono ?_; clear hkd; rintro e w1 ⟨rfl, rfl⟩))
  go_region_held3 (fun w' => w'.cell? ⟨g, 1, none⟩ = some (.int .i64 al) ∧ w'.cell? ⟨g, 2, none⟩ = some (.string at')) (first | exact HS0 | exact HS4 | exact HS6)
    (first
      | (go_at_call 19; refine (HA.out _ HYd.out).mono ?_; clear HA; rintro e w4 ⟨rfl, hy4⟩; have HY4 := hid hy4; have HS4 := HD.out _ _ _ hy4; clear hy4 HYd)
      | (go_at_call 28; refine (HB.out _ HY4.out).mono ?_; clear HB; rintro e w6 ⟨rfl, hy6⟩; have HY6 := hid hy6; have HS6 := HD.out _ _ _ hy6; clear hy6 HY4))
  clear HS0 HS4 HS6 d0 d1 d2
  go_wp2_with fail
  go_ret
  exact ⟨rfl, HF.out _ HY6.out⟩
set_option maxHeartbeats 2000000 in
theorem does_4 (N : Nat) (hN : N < 4611686018427380000) (a : Ac) (ha : I64 a.pl) (hs : a.tx.size ≤ maxLen) (hok : p.Ok N) (hz : Fit (p.d.lg.length + 5000)) (h : Tz w0 w k q p k2 q2 p) (hK : kd a.kd 9 = 4) :
    Calls Tryz.prog 8 #[.pointer (some ⟨k, 0, none⟩), .pointer (some ⟨q, 0, none⟩), .pointer (some ⟨q2, 0, none⟩), .agg #[.int .i64 a.kd, .int .i64 a.pl, .string a.tx]] w (Did w0 k q k2 q2 p N) := by
  obtain ⟨ak, al, at'⟩ := a
  simp only at ha hs hK ⊢
  have hkd := fun w1 => kind_any ak 9 (by decide) w1
  rw [hK] at hkd
  obtain ⟨W, hW⟩ : ∃ W, w.alloc (.cells #[.int .i64 ak, .int .i64 al, .string at'] 40) = W := ⟨_, rfl⟩
  obtain ⟨g, hg⟩ : ∃ g, w.heap.size = g := ⟨_, rfl⟩
  have hy := h.ty #[.int .i64 ak, .int .i64 al, .string at']
  rw [hW, hg] at hy
  have b0 := hy.blk
  have d0 : W.cell? ⟨g, 0, none⟩ = some (.int .i64 ak) := b0.cell (i := 0) rfl
  have d1 : W.cell? ⟨g, 1, none⟩ = some (.int .i64 al) := b0.cell (i := 1) rfl
  have d2 : W.cell? ⟨g, 2, none⟩ = some (.string at') := b0.cell (i := 2) rfl
  have HY := hid hy
  have HD : Hid (∀ w1 p p2, Ty w0 w1 k q p k2 q2 p2 g #[.int .i64 ak, .int .i64 al, .string at'] → w1.cell? ⟨g, 1, none⟩ = some (.int .i64 al) ∧ w1.cell? ⟨g, 2, none⟩ = some (.string at')) := fun w1 p p2 h => ⟨h.blk.cell (i := 1) rfl, h.blk.cell (i := 2) rfl⟩
  have HA : Hid (∀ w1, Ty w0 w1 k q p k2 q2 p g #[.int .i64 ak, .int .i64 al, .string at'] → Calls Tryz.prog 29 #[.pointer (some ⟨q, 0, none⟩), .int .i64 al] w1 fun e w' => e = .returned (.int .i64 (p.piE al : Nat)) ∧ Ty w0 w' k q (p.pi al) k2 q2 p g #[.int .i64 ak, .int .i64 al, .string at']) := fun w1 h => pin_ty N (by omega) al hok h
  have HB : Hid (∀ w1, Ty w0 w1 k q (p.pi al) k2 q2 p g #[.int .i64 ak, .int .i64 al, .string at'] → Calls Tryz.prog 30 #[.pointer (some ⟨q2, 0, none⟩), .int .i64 al] w1 fun e w' => e = .returned (.int .i64 (p.piE al : Nat)) ∧ Ty w0 w' k q (p.pi al) k2 q2 (p.pi al) g #[.int .i64 ak, .int .i64 al, .string at']) := fun w1 h => rPin_ty N (by omega) al hok h
  have HF : Hid (∀ w1, Ty w0 w1 k q (p.pi al) k2 q2 (p.pi al) g #[.int .i64 ak, .int .i64 al, .string at'] → ∃ p', p'.Ok (N + 2) ∧ p'.d.lg.length ≤ p.d.lg.length + 5000 ∧ Tz w0 w1 k q p' k2 q2 p') := fun w1 h => ⟨_, hok.pi al, by rw [pi_d]; omega, h.tz⟩
  generalize p.pi al = pn at *
  generalize p.piE al = m at *
  have HYd : Hid (Ty w0 W.drew k q p k2 q2 p g #[.int .i64 ak, .int .i64 al, .string at']) := HY.out.on ((Below.refl _ _).drew)
  have HS0 := (HD.out _ _ _ HYd.out).1
  clear b0 hy hok hz hs ha hN hK h
  go_enter Tryz.func8, Tryz.ntmps8
  go_wp2_with fail
  try simp only [hg] at *
  try rw [hW]
  clear hW hg
  go_wp2_with (first
    | (go_at_call 26; refine (hkd _).mono ?_; clear hkd; rintro e w1 ⟨rfl, rfl⟩))
  go_region_held3 (fun w' => w'.cell? ⟨g, 1, none⟩ = some (.int .i64 al)) (first | exact HS0 | exact HS4 | exact HS6)
    (first
      | (go_at_call 29; refine (HA.out _ HYd.out).mono ?_; clear HA; rintro e w4 ⟨rfl, hy4⟩; have HY4 := hid hy4; have HS4 := (HD.out _ _ _ hy4).1; clear hy4 HYd)
      | (go_at_call 30; refine (HB.out _ HY4.out).mono ?_; clear HB; rintro e w6 ⟨rfl, hy6⟩; have HY6 := hid hy6; have HS6 := (HD.out _ _ _ hy6).1; clear hy6 HY4))
  clear HS0 HS4 HS6 d0 d1 d2
  go_wp2_with fail
  go_ret
  exact ⟨rfl, HF.out _ HY6.out⟩
set_option maxHeartbeats 2000000 in
theorem does_5 (N : Nat) (hN : N < 4611686018427380000) (a : Ac) (ha : I64 a.pl) (hs : a.tx.size ≤ maxLen) (hok : p.Ok N) (hz : Fit (p.d.lg.length + 5000)) (h : Tz w0 w k q p k2 q2 p) (hK : kd a.kd 9 = 5) :
    Calls Tryz.prog 8 #[.pointer (some ⟨k, 0, none⟩), .pointer (some ⟨q, 0, none⟩), .pointer (some ⟨q2, 0, none⟩), .agg #[.int .i64 a.kd, .int .i64 a.pl, .string a.tx]] w (Did w0 k q k2 q2 p N) := by
  obtain ⟨ak, al, at'⟩ := a
  simp only at ha hs hK ⊢
  have hkd := fun w1 => kind_any ak 9 (by decide) w1
  rw [hK] at hkd
  obtain ⟨W, hW⟩ : ∃ W, w.alloc (.cells #[.int .i64 ak, .int .i64 al, .string at'] 40) = W := ⟨_, rfl⟩
  obtain ⟨g, hg⟩ : ∃ g, w.heap.size = g := ⟨_, rfl⟩
  have hy := h.ty #[.int .i64 ak, .int .i64 al, .string at']
  rw [hW, hg] at hy
  have b0 := hy.blk
  have d0 : W.cell? ⟨g, 0, none⟩ = some (.int .i64 ak) := b0.cell (i := 0) rfl
  have d1 : W.cell? ⟨g, 1, none⟩ = some (.int .i64 al) := b0.cell (i := 1) rfl
  have d2 : W.cell? ⟨g, 2, none⟩ = some (.string at') := b0.cell (i := 2) rfl
  have HY := hid hy
  have HD : Hid (∀ w1 p p2, Ty w0 w1 k q p k2 q2 p2 g #[.int .i64 ak, .int .i64 al, .string at'] → w1.cell? ⟨g, 1, none⟩ = some (.int .i64 al) ∧ w1.cell? ⟨g, 2, none⟩ = some (.string at')) := fun w1 p p2 h => ⟨h.blk.cell (i := 1) rfl, h.blk.cell (i := 2) rfl⟩
  have HA : Hid (∀ w1, Ty w0 w1 k q p k2 q2 p g #[.int .i64 ak, .int .i64 al, .string at'] → Calls Tryz.prog 31 #[.pointer (some ⟨q, 0, none⟩), .int .i64 al] w1 fun e w' => e = .returned (.int .i64 (p.unE al : Nat)) ∧ Ty w0 w' k q (p.un al) k2 q2 p g #[.int .i64 ak, .int .i64 al, .string at']) := fun w1 h => unpin_ty N (by omega) al ha hok h
  have HB : Hid (∀ w1, Ty w0 w1 k q (p.un al) k2 q2 p g #[.int .i64 ak, .int .i64 al, .string at'] → Calls Tryz.prog 32 #[.pointer (some ⟨q2, 0, none⟩), .int .i64 al] w1 fun e w' => e = .returned (.int .i64 (p.unE al : Nat)) ∧ Ty w0 w' k q (p.un al) k2 q2 (p.un al) g #[.int .i64 ak, .int .i64 al, .string at']) := fun w1 h => rUnpin_ty N (by omega) al hok h
  have HF : Hid (∀ w1, Ty w0 w1 k q (p.un al) k2 q2 (p.un al) g #[.int .i64 ak, .int .i64 al, .string at'] → ∃ p', p'.Ok (N + 2) ∧ p'.d.lg.length ≤ p.d.lg.length + 5000 ∧ Tz w0 w1 k q p' k2 q2 p') := fun w1 h => ⟨_, (hok.un al).mono (by omega), by rw [un_d]; omega, h.tz⟩
  generalize p.un al = pn at *
  generalize p.unE al = m at *
  have HYd : Hid (Ty w0 W.drew k q p k2 q2 p g #[.int .i64 ak, .int .i64 al, .string at']) := HY.out.on ((Below.refl _ _).drew)
  have HS0 := (HD.out _ _ _ HYd.out).1
  clear b0 hy hok hz hs ha hN hK h
  go_enter Tryz.func8, Tryz.ntmps8
  go_wp2_with fail
  try simp only [hg] at *
  try rw [hW]
  clear hW hg
  go_wp2_with (first
    | (go_at_call 26; refine (hkd _).mono ?_; clear hkd; rintro e w1 ⟨rfl, rfl⟩))
  go_region_held3 (fun w' => w'.cell? ⟨g, 1, none⟩ = some (.int .i64 al)) (first | exact HS0 | exact HS4 | exact HS6)
    (first
      | (go_at_call 31; refine (HA.out _ HYd.out).mono ?_; clear HA; rintro e w4 ⟨rfl, hy4⟩; have HY4 := hid hy4; have HS4 := (HD.out _ _ _ hy4).1; clear hy4 HYd)
      | (go_at_call 32; refine (HB.out _ HY4.out).mono ?_; clear HB; rintro e w6 ⟨rfl, hy6⟩; have HY6 := hid hy6; have HS6 := (HD.out _ _ _ hy6).1; clear hy6 HY4))
  clear HS0 HS4 HS6 d0 d1 d2
  go_wp2_with fail
  go_ret
  exact ⟨rfl, HF.out _ HY6.out⟩
set_option maxHeartbeats 2000000 in
theorem does_6 (N : Nat) (hN : N < 4611686018427380000) (a : Ac) (ha : I64 a.pl) (hs : a.tx.size ≤ maxLen) (hok : p.Ok N) (hz : Fit (p.d.lg.length + 5000)) (h : Tz w0 w k q p k2 q2 p) (hK : kd a.kd 9 = 6) :
    Calls Tryz.prog 8 #[.pointer (some ⟨k, 0, none⟩), .pointer (some ⟨q, 0, none⟩), .pointer (some ⟨q2, 0, none⟩), .agg #[.int .i64 a.kd, .int .i64 a.pl, .string a.tx]] w (Did w0 k q k2 q2 p N) := by
  obtain ⟨ak, al, at'⟩ := a
  simp only at ha hs hK ⊢
  have hkd := fun w1 => kind_any ak 9 (by decide) w1
  rw [hK] at hkd
  obtain ⟨W, hW⟩ : ∃ W, w.alloc (.cells #[.int .i64 ak, .int .i64 al, .string at'] 40) = W := ⟨_, rfl⟩
  obtain ⟨g, hg⟩ : ∃ g, w.heap.size = g := ⟨_, rfl⟩
  have hy := h.ty #[.int .i64 ak, .int .i64 al, .string at']
  rw [hW, hg] at hy
  have b0 := hy.blk
  have d0 : W.cell? ⟨g, 0, none⟩ = some (.int .i64 ak) := b0.cell (i := 0) rfl
  have d1 : W.cell? ⟨g, 1, none⟩ = some (.int .i64 al) := b0.cell (i := 1) rfl
  have d2 : W.cell? ⟨g, 2, none⟩ = some (.string at') := b0.cell (i := 2) rfl
  have HY := hid hy
  have HD : Hid (∀ w1 p p2, Ty w0 w1 k q p k2 q2 p2 g #[.int .i64 ak, .int .i64 al, .string at'] → w1.cell? ⟨g, 1, none⟩ = some (.int .i64 al) ∧ w1.cell? ⟨g, 2, none⟩ = some (.string at')) := fun w1 p p2 h => ⟨h.blk.cell (i := 1) rfl, h.blk.cell (i := 2) rfl⟩
  have HA : Hid (∀ w1, Ty w0 w1 k q p k2 q2 p g #[.int .i64 ak, .int .i64 al, .string at'] → Calls Tryz.prog 33 #[.pointer (some ⟨q, 0, none⟩)] w1 fun e w' => e = .returned (.int .i64 (p.cmE : Nat)) ∧ Ty w0 w' k q p.cm k2 q2 p g #[.int .i64 ak, .int .i64 al, .string at']) := fun w1 h => commit_ty N hok hz h
  have HB : Hid (∀ w1, Ty w0 w1 k q p.cm k2 q2 p g #[.int .i64 ak, .int .i64 al, .string at'] → Calls Tryz.prog 34 #[.pointer (some ⟨q2, 0, none⟩)] w1 fun e w' => e = .returned (.int .i64 (p.cmE : Nat)) ∧ Ty w0 w' k q p.cm k2 q2 p.cm g #[.int .i64 ak, .int .i64 al, .string at']) := fun w1 h => rCommit_ty N hok hz h
  have HF : Hid (∀ w1, Ty w0 w1 k q p.cm k2 q2 p.cm g #[.int .i64 ak, .int .i64 al, .string at'] → ∃ p', p'.Ok (N + 2) ∧ p'.d.lg.length ≤ p.d.lg.length + 5000 ∧ Tz w0 w1 k q p' k2 q2 p') := fun w1 h => ⟨_, hok.cm.mono (by omega), cm_lg p hok.few, h.tz⟩
  generalize p.cm = pn at *
  generalize p.cmE = m at *
  clear b0 hy hok hz hs ha hN hK h
  go_enter Tryz.func8, Tryz.ntmps8
  go_wp2_with fail
  try simp only [hg] at *
  try rw [hW]
  clear hW hg
  go_wp2_with (first
    | (go_at_call 26; refine (hkd _).mono ?_; clear hkd; rintro e w1 ⟨rfl, rfl⟩)
    | (go_at_call 33; refine (HA.out _ HY.out).mono ?_; clear HA; rintro e w2 ⟨rfl, hy2⟩; have HY2 := hid hy2; clear hy2 d1 d2 d0)
    | (go_at_call 34; refine (HB.out _ HY2.out).mono ?_; clear HB; rintro e w3 ⟨rfl, hy3⟩; have HY3 := hid hy3; clear hy3))
  go_ret
  exact ⟨rfl, HF.out _ HY3.out⟩
set_option maxHeartbeats 2000000 in
theorem does_7 (N : Nat) (hN : N < 4611686018427380000) (a : Ac) (ha : I64 a.pl) (hs : a.tx.size ≤ maxLen) (hok : p.Ok N) (hz : Fit (p.d.lg.length + 5000)) (h : Tz w0 w k q p k2 q2 p) (hK : kd a.kd 9 = 7) :
    Calls Tryz.prog 8 #[.pointer (some ⟨k, 0, none⟩), .pointer (some ⟨q, 0, none⟩), .pointer (some ⟨q2, 0, none⟩), .agg #[.int .i64 a.kd, .int .i64 a.pl, .string a.tx]] w (Did w0 k q k2 q2 p N) := by
  obtain ⟨ak, al, at'⟩ := a
  simp only at ha hs hK ⊢
  have hkd := fun w1 => kind_any ak 9 (by decide) w1
  rw [hK] at hkd
  obtain ⟨W, hW⟩ : ∃ W, w.alloc (.cells #[.int .i64 ak, .int .i64 al, .string at'] 40) = W := ⟨_, rfl⟩
  obtain ⟨g, hg⟩ : ∃ g, w.heap.size = g := ⟨_, rfl⟩
  have hy := h.ty #[.int .i64 ak, .int .i64 al, .string at']
  rw [hW, hg] at hy
  have b0 := hy.blk
  have d0 : W.cell? ⟨g, 0, none⟩ = some (.int .i64 ak) := b0.cell (i := 0) rfl
  have d1 : W.cell? ⟨g, 1, none⟩ = some (.int .i64 al) := b0.cell (i := 1) rfl
  have d2 : W.cell? ⟨g, 2, none⟩ = some (.string at') := b0.cell (i := 2) rfl
  have HY := hid hy
  have HD : Hid (∀ w1 p p2, Ty w0 w1 k q p k2 q2 p2 g #[.int .i64 ak, .int .i64 al, .string at'] → w1.cell? ⟨g, 1, none⟩ = some (.int .i64 al) ∧ w1.cell? ⟨g, 2, none⟩ = some (.string at')) := fun w1 p p2 h => ⟨h.blk.cell (i := 1) rfl, h.blk.cell (i := 2) rfl⟩
  have HA : Hid (∀ w1, Ty w0 w1 k q p k2 q2 p g #[.int .i64 ak, .int .i64 al, .string at'] → Calls Tryz.prog 35 #[.pointer (some ⟨q, 0, none⟩)] w1 fun e w' => e = .returned (.tuple #[]) ∧ Ty w0 w' k q p.undo k2 q2 p g #[.int .i64 ak, .int .i64 al, .string at']) := fun w1 h => undo_ty h
  have HB : Hid (∀ w1, Ty w0 w1 k q p.undo k2 q2 p g #[.int .i64 ak, .int .i64 al, .string at'] → w1.frozen? ⟨q2, 3, none⟩ = false ∧ (∃ v, w1.cell? ⟨q2, 3, none⟩ = some v) ∧ Ty w0 (w1.setCell ⟨q2, 3, none⟩ (.slice none 0 0)) k q p.undo k2 q2 p.undo g #[.int .i64 ak, .int .i64 al, .string at']) := fun w1 h => rUndo_ty h
  have HF : Hid (∀ w1, Ty w0 w1 k q p.undo k2 q2 p.undo g #[.int .i64 ak, .int .i64 al, .string at'] → ∃ p', p'.Ok (N + 2) ∧ p'.d.lg.length ≤ p.d.lg.length + 5000 ∧ Tz w0 w1 k q p' k2 q2 p') := fun w1 h => ⟨_, hok.undo.mono (by omega), Nat.le_add_right _ _, h.tz⟩
  generalize p.undo = pn at *
  clear b0 hy hok hz hs ha hN hK h
  go_enter Tryz.func8, Tryz.ntmps8
  go_wp2_with fail
  try simp only [hg] at *
  try rw [hW]
  clear hW hg
  go_wp2_with (first
    | (go_at_call 26; refine (hkd _).mono ?_; clear hkd; rintro e w1 ⟨rfl, rfl⟩)
    | (go_at_call 35; refine (HA.out _ HY.out).mono ?_; clear HA; rintro e w2 ⟨rfl, hy2⟩; obtain ⟨f3, ⟨v3, c3⟩, hy3⟩ := HB.out _ hy2; have HY3 := hid hy3; clear hy2 hy3 HB d1 d2 d0))
  go_ret
  exact ⟨rfl, HF.out _ HY3.out⟩
set_option maxHeartbeats 2000000 in
theorem does_8 (N : Nat) (hN : N < 4611686018427380000) (a : Ac) (ha : I64 a.pl) (hs : a.tx.size ≤ maxLen) (hok : p.Ok N) (hz : Fit (p.d.lg.length + 5000)) (h : Tz w0 w k q p k2 q2 p) (hK : kd a.kd 9 = 8) :
    Calls Tryz.prog 8 #[.pointer (some ⟨k, 0, none⟩), .pointer (some ⟨q, 0, none⟩), .pointer (some ⟨q2, 0, none⟩), .agg #[.int .i64 a.kd, .int .i64 a.pl, .string a.tx]] w (Did w0 k q k2 q2 p N) := by
  obtain ⟨ak, al, at'⟩ := a
  simp only at ha hs hK ⊢
  have hkd := fun w1 => kind_any ak 9 (by decide) w1
  rw [hK] at hkd
  obtain ⟨W, hW⟩ : ∃ W, w.alloc (.cells #[.int .i64 ak, .int .i64 al, .string at'] 40) = W := ⟨_, rfl⟩
  obtain ⟨g, hg⟩ : ∃ g, w.heap.size = g := ⟨_, rfl⟩
  have hy := h.ty #[.int .i64 ak, .int .i64 al, .string at']
  rw [hW, hg] at hy
  have b0 := hy.blk
  have d0 : W.cell? ⟨g, 0, none⟩ = some (.int .i64 ak) := b0.cell (i := 0) rfl
  have d1 : W.cell? ⟨g, 1, none⟩ = some (.int .i64 al) := b0.cell (i := 1) rfl
  have d2 : W.cell? ⟨g, 2, none⟩ = some (.string at') := b0.cell (i := 2) rfl
  have HY := hid hy
  have HD : Hid (∀ w1 p p2, Ty w0 w1 k q p k2 q2 p2 g #[.int .i64 ak, .int .i64 al, .string at'] → w1.cell? ⟨g, 1, none⟩ = some (.int .i64 al) ∧ w1.cell? ⟨g, 2, none⟩ = some (.string at')) := fun w1 p p2 h => ⟨h.blk.cell (i := 1) rfl, h.blk.cell (i := 2) rfl⟩
  have hal : -9223372036854775808 ≤ al ∧ al ≤ 9223372036854775807 := by unfold I64 at ha; omega
  have HA : Hid (∀ w1, Ty w0 w1 k q p k2 q2 p g #[.int .i64 ak, .int .i64 al, .string at'] → Calls Tryz.prog 36 #[.pointer (some ⟨k, 0, none⟩), .int .i64 al] w1 fun e w' => e = .returned (.tuple #[]) ∧ Ty w0 w' k q (p.cut al) k2 q2 p g #[.int .i64 ak, .int .i64 al, .string at']) := fun w1 h => cut_ty al hal h
  have HB : Hid (∀ w1, Ty w0 w1 k q (p.cut al) k2 q2 p g #[.int .i64 ak, .int .i64 al, .string at'] → Calls Tryz.prog 37 #[.pointer (some ⟨k2, 0, none⟩), .int .i64 al] w1 fun e w' => e = .returned (.tuple #[]) ∧ Ty w0 w' k q (p.cut al) k2 q2 (p.cut al) g #[.int .i64 ak, .int .i64 al, .string at']) := fun w1 h => rCut_ty al hal h
  have HQ : Hid (∀ w1 p p2, Ty w0 w1 k q p k2 q2 p2 g #[.int .i64 ak, .int .i64 al, .string at'] → w1.cell? ⟨q2, 0, none⟩ = some (.pointer (some ⟨k2, 0, none⟩)) ∧ w1.cell? ⟨g, 1, none⟩ = some (.int .i64 al)) := fun w1 p p2 h => ⟨h.disk, h.blk.cell (i := 1) rfl⟩
  have HF : Hid (∀ w1, Ty w0 w1 k q (p.cut al) k2 q2 (p.cut al) g #[.int .i64 ak, .int .i64 al, .string at'] → ∃ p', p'.Ok (N + 2) ∧ p'.d.lg.length ≤ p.d.lg.length + 5000 ∧ Tz w0 w1 k q p' k2 q2 p') := fun w1 h => ⟨_, (hok.disk (d := { p.d with lf := al }) ⟨hok.d.lo, hok.d.hi, hok.d.bs, hok.d.lg, hal⟩ rfl).mono (by omega), Nat.le_add_right _ _, h.tz⟩
  generalize p.cut al = pn at *
  clear b0 hy hok hz hs ha hN hK h
  go_enter Tryz.func8, Tryz.ntmps8
  go_wp2_with fail
  try simp only [hg] at *
  try rw [hW]
  clear hW hg
  go_wp2_with (first
    | (go_at_call 26; refine (hkd _).mono ?_; clear hkd; rintro e w1 ⟨rfl, rfl⟩)
    | (go_at_call 36; refine (HA.out _ HY.out).mono ?_; clear HA; rintro e w2 ⟨rfl, hy2⟩; have HY2 : Hid (Ty w0 w2.drew k q pn k2 q2 p g #[.int .i64 ak, .int .i64 al, .string at']) := hy2.on ((Below.refl _ _).drew); have HS2 := HQ.out _ _ _ HY2.out; clear hy2 d1 d2 d0 hal))
  go_region_held3 (fun w' => w'.cell? ⟨q2, 0, none⟩ = some (.pointer (some ⟨k2, 0, none⟩)) ∧ w'.cell? ⟨g, 1, none⟩ = some (.int .i64 al)) (first | exact HS2 | exact HS6)
    (first
      | (go_at_call 37; refine (HB.out _ HY2.out).mono ?_; clear HB; rintro e w6 ⟨rfl, hy6⟩; have HY6 := hid hy6; have HS6 := HQ.out _ _ _ hy6; clear hy6 HY2))
  clear HS2 HS6
  go_wp2_with fail
  go_ret
  exact ⟨rfl, HF.out _ HY6.out⟩

theorem does_any (N : Nat) (hN : N < 4611686018427380000) (a : Ac) (ha : I64 a.pl) (hs : a.tx.size ≤ maxLen) (hok : p.Ok N) (hz : Fit (p.d.lg.length + 5000)) (h : Tz w0 w k q p k2 q2 p) :
    Calls Tryz.prog 8 #[.pointer (some ⟨k, 0, none⟩), .pointer (some ⟨q, 0, none⟩), .pointer (some ⟨q2, 0, none⟩), .agg #[.int .i64 a.kd, .int .i64 a.pl, .string a.tx]] w (Did w0 k q k2 q2 p N) := by
  have h1 := kd_lo a.kd (n := 9) (by decide)
  have h2 := kd_hi a.kd (n := 9) (by decide)
  rcases (by omega : kd a.kd 9 = 0 ∨ kd a.kd 9 = 1 ∨ kd a.kd 9 = 2 ∨ kd a.kd 9 = 3 ∨ kd a.kd 9 = 4 ∨ kd a.kd 9 = 5 ∨ kd a.kd 9 = 6 ∨ kd a.kd 9 = 7 ∨ kd a.kd 9 = 8) with e | e | e | e | e | e | e | e | e
  · exact does_0 N hN a ha hs hok hz h e
  · exact does_1 N hN a ha hs hok hz h e
  · exact does_2 N hN a ha hs hok hz h e
  · exact does_3 N hN a ha hs hok hz h e
  · exact does_4 N hN a ha hs hok hz h e
  · exact does_5 N hN a ha hs hok hz h e
  · exact does_6 N hN a ha hs hok hz h e
  · exact does_7 N hN a ha hs hok hz h e
  · exact does_8 N hN a ha hs hok hz h e
end

end Go.Proofs.YtoecopmbaoklkaaGreat
