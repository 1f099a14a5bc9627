/-
  A new space shows what the document's new space is; the world of the laws.
-/
import Derived.Test.YtglallhblcjffaaGreatDoorRb3
namespace Go.Proofs.YtglallhblcjffaaGreatDoor
open Go.RowKit
set_option linter.unusedVariables false
set_option linter.unusedSimpArgs false
set_option maxRecDepth 100000

theorem pg0_head (n : Nat) : (pg0 n).extract 8 256 = ⟨(zs 248).toArray⟩ := by
  have h8 := mkB_size n
  have e : pg0 n = mkB n ++ ⟨(zs 248).toArray⟩ := by
    apply ByteArray.ext
    rw [ByteArray.data_append]
    unfold pg0 Nu.padOf zs
    rw [h8]
    show ((mkB n).data.toList ++ List.replicate (256 - 8) 0).toArray = (mkB n).data ++ (List.replicate 248 0).toArray
    apply Array.ext'
    simp
  rw [e]
  exact head_extract n _ (by show (zs 248).toArray.size = 248; simp [zs])
theorem Shw.new {d : Ds} {g : Int → ByteArray} (h1 : 64 ≤ d.bs.length) (h2 : d.bs.length ≤ 2048) : Shw d.bs.length (nwF d g) (rNewP d.bs.length) := by
  obtain ⟨b1, b2, b3, b4, b5⟩ := frs_small h1 h2
  have hrep : ∀ (i : Nat) (x : Bool), (rNewP d.bs.length).taken[i]? = some x → x = false := fun i x hx => by
    have hx' : (List.replicate (pgs d.bs.length - 2) false)[i]? = some x := hx
    exact List.eq_of_mem_replicate (List.mem_of_getElem? hx')
  refine ⟨?_, fun i x hx => ?_, fun i y hi _ => ?_⟩
  · unfold nwF mpg
    rw [if_neg (by omega), if_pos rfl]
    exact pg0_head _
  · rw [hrep i x hx]
    unfold nwF mpg
    rw [if_pos rfl, hasB_fm0]
    exact decide_eq_false (by omega)
  · have := hrep i true hi
    cases this
/-- what a space on a new disk shows -/
theorem Shw.nw {n r : Nat} (h1 : 64 ≤ n) (h2 : n ≤ 2048) (hr : 1 ≤ r ∧ r ≤ 1024) : ∃ d2, (cmt (nw n) (layL (nw n) r)).2 = d2 ∧ d2.bs.length = n ∧ d2.Ok ∧ d2.dn = false ∧ d2.lf = -1 ∧ d2.lg.length ≤ 5000 ∧ d2.bs[1]? = some Z ∧ Shw d2.bs.length (onD d2) (rNewP n) := by
  have hok : (Go.Proofs.YtglallhblcjffaaGreatDoor.nw n).Ok := nw_ok' h1 h2
  have hln : (Go.Proofs.YtglallhblcjffaaGreatDoor.nw n).bs.length = n := nw_len
  obtain ⟨c1, c2, c3, c4, c5, c6, c7, c8⟩ := cmt_lay hok rfl hr (show (Go.Proofs.YtglallhblcjffaaGreatDoor.nw n).lf < 0 by show (-1 : Int) < 0; decide)
  refine ⟨_, rfl, c4.trans hln, c6, c2, c3, (by have := c7; rw [show (Go.Proofs.YtglallhblcjffaaGreatDoor.nw n).lg.length = 0 from rfl] at this; omega), c8, ?_⟩
  have hs := Shw.new (d := Go.Proofs.YtglallhblcjffaaGreatDoor.nw n) (g := onD (Go.Proofs.YtglallhblcjffaaGreatDoor.nw n)) (by omega) (by omega)
  rw [c4]
  rw [hln] at hs c5 ⊢
  exact hs.congr (rNewP_ok h1 h2) rfl c5

/-- the world of the laws: a space with its disk, and what it is and was; all made since w0 -/
def Wo (w0 w : World) (g k q s b1 b2 : Nat) (d : Ds) (f : Int → ByteArray) (N : Nat) (now was : Rsp) : Prop :=
  ∃ S R1 R2, Sv w S k q s d f N ∧ Rr w R1 b1 now ∧ Rr w R2 b2 was ∧ Blk w g #[.pointer (some ⟨k, 0, none⟩), .pointer (some ⟨s, 0, none⟩), .pointer (some ⟨b1, 0, none⟩), .pointer (some ⟨b2, 0, none⟩)] 34 ∧
    (∀ j, S j → ¬ R1 j ∧ ¬ R2 j ∧ j ≠ g ∧ w0.heap.size ≤ j) ∧ (∀ j, R1 j → ¬ R2 j ∧ j ≠ g ∧ w0.heap.size ≤ j) ∧ (∀ j, R2 j → j ≠ g ∧ w0.heap.size ≤ j) ∧ w0.heap.size ≤ g ∧ Below w0.heap.size w0 w
set_option maxHeartbeats 1000000 in
theorem lbegin_any (n room : Int) (w : World) : ∃ d2, (cmt (nw (sz n)) (layL (nw (sz n)) (1 + (kd room 20).toNat))).2 = d2 ∧ Calls Tryz.prog 9 #[.int .i64 n, .int .i64 room] w fun e w' => ∃ g k q s b1 b2, e = .returned (.pointer (some ⟨g, 0, none⟩)) ∧ Wo w w' g k q s b1 b2 d2 (onD d2) 1 (rNewP (sz n)) (rNewP (sz n)) := by
  obtain ⟨z1, z2⟩ := sz_in n
  have HSZ : Hid (∀ w1, _) := fun w1 => size_any n w1
  have HKD : Hid (∀ w1, _) := fun w1 => kind_any room 20 (by decide) w1
  have k1 := kd_lo room (n := 20) (by decide)
  have k2 := kd_hi room (n := 20) (by decide)
  have hw : IntKind.i64.wrap (1 + kd room 20) = ((1 + (kd room 20).toNat : Nat) : Int) := by rw [IntKind.wrap_i64]; omega
  have hr : 1 ≤ 1 + (kd room 20).toNat ∧ 1 + (kd room 20).toNat ≤ 1024 := by omega
  generalize 1 + (kd room 20).toNat = r at *
  generalize kd room 20 = kk at *
  generalize sz n = m at *
  have HNW : Hid (∀ w1, Below w.heap.size w w1 → _) := fun w1 hb => new_dq (w0 := w) (w := w1) m z1 (by omega) hb
  have HOP : Hid (∀ w1 k, Dq w w1 k (nw m) → _) := fun w1 k h => open_nw m z1 (by omega) r hr h
  have HRN : Hid (∀ w1, _) := fun w1 => rNew_any m z1 (by omega) w1
  refine ⟨_, rfl, ?_⟩
  generalize (cmt (nw m) (layL (nw m) r)).2 = d2 at *
  go_enter Tryz.func9, Tryz.ntmps9
  go_wp2_with (first
    | (go_at_call 19; refine (HSZ.out _).mono ?_; rintro e w1 ⟨rfl, rfl⟩)
    | (go_at_call 13; refine (HKD.out _).mono ?_; rintro e w1 ⟨rfl, rfl⟩)
    | (go_at_call 18; refine (HNW.out _ (Below.refl _ _)).mono ?_; clear HNW; rintro e w2 ⟨k, rfl, h2⟩; have H2 := hid h2; clear h2)
    | (go_at_call 12; refine (HOP.out _ _ H2.out).mono ?_; clear HOP; rintro e w3 ⟨q, s, rfl, h3⟩; have H3 := hid h3; clear h3)
    | (go_at_call 20; refine (HRN.out w3).mono ?_; rintro e w4 ⟨b1, rfl, h4⟩; have H4 := hid h4; clear h4)
    | (go_at_call 20; refine (HRN.out w4).mono ?_; rintro e w5 ⟨b2, rfl, h5⟩; have H5 := hid h5; clear h5))
  go_ret
  obtain ⟨S, s1, s2, s3⟩ := H3.out
  have m4 := H4.out.below
  have m5 := H5.out.below
  have ma : Below w5.heap.size w5 (w5.alloc (.cells #[.pointer (some ⟨k, 0, none⟩), .pointer (some ⟨s, 0, none⟩), .pointer (some ⟨b1, 0, none⟩), .pointer (some ⟨b2, 0, none⟩)] 34)) := (Below.refl _ _).alloc (Nat.le_refl _) _
  have q4 := m4.size
  have q5 := m5.size
  have q3 := s3.size
  have sl := s1.lt
  refine ⟨w5.heap.size, k, q, s, b1, b2, rfl, S, _, _, ((s1.on m4).on m5).on ma, (H4.out.rr.on m5).on ma, H5.out.rr.on ma, Blk.made _ _ _, fun j hj => ?_, fun j hj => ?_, fun j hj => ?_, by omega, ?_⟩
  · have := sl j hj
    have := s2 j hj
    exact ⟨fun h => by omega, fun h => by omega, by omega, by omega⟩
  · exact ⟨fun h => by omega, by omega, by omega⟩
  · exact ⟨by omega, by omega⟩
  · exact s3.trans ((m4.mono q3).trans ((m5.mono (by omega)).trans (ma.mono (by omega))))
end Go.Proofs.YtglallhblcjffaaGreatDoor
