/-
  A group is saved, and settled.
-/
import Derived.Test.YtoecopmbaoklkaaWl
namespace Go.Proofs.Ytoecopmbaoklkaa
open Go.RowKit Go.Shelf
set_option linter.unusedVariables false
set_option linter.unusedSimpArgs false
set_option maxRecDepth 100000

theorem Wm.trans {w A B : World} {S S1 : Nat → Prop} {k : Nat} {d2 : Ds} (hg : Grows S S1 w) (hk : Keep S w A) (h : Wm A S1 k d2 B) : Wm w S k d2 B := by
  obtain ⟨S', h1, h2⟩ := h.disk
  refine ⟨⟨S', h1, fun j hj => ?_⟩, hk.trans h.keep (fun j hj h' => (hg j h').elim id (fun h'' => by omega))⟩
  rcases h2 j hj with h' | h'
  · exact hg j h'
  · exact .inr (Nat.le_trans hk.size h')
theorem Wm.base {w A B : World} {S : Nat → Prop} {k : Nat} {d2 : Ds} (hb : Below w.heap.size w A) (h : Wm A S k d2 B) : Wm w S k d2 B := Wm.trans (Grows.refl S w) (Keep.of_below hb) h
theorem Wm.refl {w : World} {S : Nat → Prop} {k : Nat} {d : Ds} (h : Dk w S k d) : Wm w S k d w := ⟨⟨S, h, Grows.refl _ _⟩, Keep.refl _ _⟩

theorem saved_any (m : Nat) (a : Option Addr) (n c : Nat) (w : World) : Calls Try.prog 59 #[.int .i64 (m : Nat), .slice a n c] w fun e w' => e = .returned (.func (.func 76) #[] #[.pointer (some ⟨w.heap.size + 1, 0, none⟩), .pointer (some ⟨w.heap.size, 0, none⟩)]) ∧ (w.alloc (.cells #[.int .i64 (m : Nat)] 3)).alloc (.cells #[.slice a n c] 57) = w' := by
  go_enter Try.func59, Try.ntmps59
  go_wp2_with fail
  go_ret
  exact ⟨by simp, rfl⟩
theorem settled_any (a : Option Addr) (n c : Nat) (w : World) : Calls Try.prog 61 #[.slice a n c] w fun e w' => e = .returned (.func (.func 81) #[] #[.pointer (some ⟨w.heap.size, 0, none⟩)]) ∧ w.alloc (.cells #[.slice a n c] 57) = w' := by
  go_enter Try.func61, Try.ntmps61
  go_wp2_with fail
  go_ret
  exact ⟨by simp, rfl⟩

/-- a group's blocks are saved -/
theorem save_any (w : World) (S : Nat → Prop) (k : Nat) (d : Ds) (hd : Dk w S k d) (a : Option Addr) (c : Nat) (L : List Pg) (hl : LiesO w S (.slice a L.length c) L) (hn : L.length ≤ 1100) (hp : ∀ p ∈ L, 0 ≤ p.pl ∧ p.pl < 65536) (hz : Fit (d.lg.length + 5000)) :
    Calls Try.prog 58 #[.pointer (some ⟨k, 0, none⟩), .func (.func 76) #[] #[.pointer (some ⟨w.heap.size + 1, 0, none⟩), .pointer (some ⟨w.heap.size, 0, none⟩)]] ((w.alloc (.cells #[.int .i64 (pgs d.bs.length : Nat)] 3)).alloc (.cells #[.slice a L.length c] 57)) fun e w' => e = .returned (.int .i64 ((d.wrs (savedL d.bs.length L)).1 : Nat)) ∧ Wm w S k (d.wrs (savedL d.bs.length L)).2 w' := by
  have hlo := hd.1.lo
  have hhi := hd.1.hi
  have hb : Below w.heap.size w ((w.alloc (.cells #[.int .i64 (pgs d.bs.length : Nat)] 3)).alloc (.cells #[.slice a L.length c] 57)) := ((Below.refl _ w).alloc (Nat.le_refl _) _).alloc (by simp) _
  have bM := (Blk.made w #[.int .i64 (pgs d.bs.length : Nat)] 3).alloc (.cells #[.slice a L.length c] 57)
  have bL := Blk.made (w.alloc (.cells #[.int .i64 (pgs d.bs.length : Nat)] 3)) #[.slice a L.length c] 57
  simp only [World.size_alloc] at bL
  generalize ((w.alloc (.cells #[.int .i64 (pgs d.bs.length : Nat)] 3)).alloc (.cells #[.slice a L.length c] 57)) = w1 at hb bM bL ⊢
  have hlen := savedL_len d.bs.length L
  have hlb : lb L.length ≤ 100 := by unfold lb; omega
  have hd1 := hd.on hb
  refine (writes_any 76 _ (enters_of Try.func76 (by kernel_rfl) rfl) (savedL d.bs.length L) w1 S k d hd1 (hz.le (by rw [hlen]; omega)) (fun w2 hb2 => ?_)).mono fun e w' h => ⟨h.1, h.2.base hb⟩
  have hd2 := hd1.on hb2
  obtain ⟨f1, f2, f3⟩ := hd2.foot
  have bM2 := bM.on hb2 bM.lt
  have bL2 := bL.on hb2 bL.lt
  refine saved_stops 2 (by omega) w2 k (w.heap.size + 1) w.heap.size _ L d.bs.length hlo hhi bL2 (hd2.box_out bL2 (by decide)) bM2 (hd2.box_out bM2 (by decide)) (((hl.on hb).on hb2).out (fun j _ h => f2 j h)) ?_ f3 (by omega) hp
  exact Nat.lt_of_lt_of_le (hd1.2.1 k hd1.2.2.1) hb2.size

/-- a group's blocks are settled -/
theorem settle_any (w : World) (S : Nat → Prop) (k : Nat) (d : Ds) (hd : Dk w S k d) (a : Option Addr) (c : Nat) (L : List Pg) (hl : LiesO w S (.slice a L.length c) L) (hn : L.length ≤ 1100) (hz : Fit (d.lg.length + 1500)) :
    Calls Try.prog 58 #[.pointer (some ⟨k, 0, none⟩), .func (.func 81) #[] #[.pointer (some ⟨w.heap.size, 0, none⟩)]] (w.alloc (.cells #[.slice a L.length c] 57)) fun e w' => e = .returned (.int .i64 ((d.wrs (settledL L)).1 : Nat)) ∧ Wm w S k (d.wrs (settledL L)).2 w' := by
  have hb : Below w.heap.size w (w.alloc (.cells #[.slice a L.length c] 57)) := (Below.refl _ w).alloc (Nat.le_refl _) _
  have bL := Blk.made w #[.slice a L.length c] 57
  generalize (w.alloc (.cells #[.slice a L.length c] 57)) = w1 at hb bL ⊢
  have hlen := settledL_len L
  have hd1 := hd.on hb
  refine (writes_any 81 _ (enters_of Try.func81 (by kernel_rfl) rfl) (settledL L) w1 S k d hd1 (hz.le (by rw [hlen]; omega)) (fun w2 hb2 => ?_)).mono fun e w' h => ⟨h.1, h.2.base hb⟩
  have hd2 := hd1.on hb2
  obtain ⟨f1, f2, f3⟩ := hd2.foot
  have bL2 := bL.on hb2 bL.lt
  refine settled_stops 2 (by omega) w2 k w.heap.size _ L bL2 (hd2.box_out bL2 (by decide)) (((hl.on hb).on hb2).out (fun j _ h => f2 j h)) ?_
  exact Nat.lt_of_lt_of_le (hd1.2.1 k hd1.2.2.1) hb2.size

end Go.Proofs.Ytoecopmbaoklkaa
