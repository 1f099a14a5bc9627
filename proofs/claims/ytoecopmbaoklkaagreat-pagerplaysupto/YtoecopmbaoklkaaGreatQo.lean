/-
  The two pagers side by side, and a block that is neither's.
-/
import Derived.Test.YtoecopmbaoklkaaGreatQl
import Derived.Test.YtoecopmbaoklkaaGreatWz
namespace Go.Proofs.YtoecopmbaoklkaaGreat
open Go.RowKit
set_option linter.unusedVariables false
set_option linter.unusedSimpArgs false
set_option maxRecDepth 100000

/-- a number, modulo -/
def kd (k : Int) (n : Nat) : Int := IntKind.u64.wrap k % (n : Int)
theorem kd_lo (k : Int) {n : Nat} (h : 0 < n) : 0 ≤ kd k n := Int.emod_nonneg _ (by omega)
theorem kd_hi (k : Int) {n : Nat} (h : 0 < n) : kd k n < n := Int.emod_lt_of_pos _ (by omega)
theorem kind_any (k : Int) (n : Nat) (hn : 0 < n ∧ n ≤ 1000) (w : World) : Calls Tryz.prog 26 #[.int .i64 k, .int .i64 (n : Nat)] w fun e w' => e = .returned (.int .i64 (kd k n)) ∧ w = w' := by
  have h1 := kd_lo k hn.1
  have h2 := kd_hi k hn.1
  have h0 : 0 ≤ IntKind.u64.wrap k := by rw [IntKind.wrap_u64]; omega
  have h3 : IntKind.u64.wrap k ≤ 18446744073709551615 := by rw [IntKind.wrap_u64]; omega
  have h4 : ¬ (n : Int) = 0 := by omega
  have h5 : (IntKind.u64.wrap k).tmod (n : Int) = kd k n := by unfold kd; exact Int.tmod_eq_emod_of_nonneg h0
  have h6 : IntKind.i64.wrap (kd k n) = kd k n := IntWalk.i64_in _ ⟨by omega, by omega⟩
  go_enter Tryz.func26, Tryz.ntmps26
  go_wp2
  go_ret
  exact ⟨rfl, rfl⟩

set_option maxHeartbeats 1000000 in
theorem sameInts_self (w : World) (B B' : Nat) (u v : Value) (L : List Int) (hu : RowI w B u L) (hv : RowI w B' v L) (hl : L.length ≤ 100000) :
    Calls Tryz.prog 9 #[u, v] w fun e w' => e = .returned (.bool true) ∧ Below w.heap.size w w' := by
  obtain ⟨a, c, e1⟩ := hu.form
  obtain ⟨a', c', e2⟩ := hv.form
  subst e1
  subst e2
  have HU := hid hu
  have HV := hid hv
  obtain ⟨n, hn⟩ : ∃ n, L.length = n := ⟨_, rfl⟩
  have HN := hid hn
  have hl2 := hl
  rw [hn] at hl2
  rw [hn]
  clear hu hv hn hl
  go_enter Tryz.func9, Tryz.ntmps9
  go_wp2_with fail
  go_loopw [13] (fun i wr => ∃ k : Nat, k ≤ n ∧ i = .int .i64 (k : Nat) ∧ Below w.heap.size w wr) (fun i _ => n - (intOf i).toNat)
  case atStart => exact ⟨0, Nat.zero_le _, rfl, Below.refl _ _⟩
  case round =>
    obtain ⟨k, hk, rfl, hb⟩ := hrel
    by_cases hlt : k < n
    · have hki : (k : Int) < (n : Int) := by omega
      obtain ⟨s, hs⟩ : ∃ s, L[k]? = some s := ⟨_, List.getElem?_eq_getElem (by rw [HN.out]; exact hlt)⟩
      obtain ⟨g, x1, _, e1, c1, _⟩ := HU.out.at hs
      obtain ⟨h, x2, _, e2, c2, _⟩ := HV.out.at hs
      subst x1
      subst x2
      have d1 : wr.cell? ⟨g, k, none⟩ = some (.int .i64 s) := (hb.cell (p := ⟨g, k, none⟩) e1).trans c1
      have d2 : wr.cell? ⟨h, k, none⟩ = some (.int .i64 s) := (hb.cell (p := ⟨h, k, none⟩) e2).trans c2
      have hss : (s != s) = false := by simp
      clear c1 c2 hs e1 e2
      go_wp2_with fail
      go_region
      have hbd := hb.drew
      clear d1 d2
      go_wp2_with fail
      go_roundw
      case rel => exact ⟨k + 1, by omega, by go_num, hbd⟩
      case measure => simp [intOf]; omega
    · have hki : ¬ (k : Int) < (n : Int) := by omega
      go_wp2_with fail
      go_ret
      exact ⟨rfl, hb⟩

/-- both pagers, made since w0 -/
def Tb (w0 w : World) (S R : Nat → Prop) (k q : Nat) (p : Pp) (k2 q2 : Nat) (p2 : Pp) : Prop :=
  Pk w S k q p ∧ Qk w R k2 q2 p2 ∧ (∀ j, S j → ¬ R j) ∧ (∀ j, S j → w0.heap.size ≤ j) ∧ (∀ j, R j → w0.heap.size ≤ j) ∧ Below w0.heap.size w0 w
/-- with a block that is neither's -/
def Ty (w0 w : World) (k q : Nat) (p : Pp) (k2 q2 : Nat) (p2 : Pp) (g : Nat) (cs : Array Value) : Prop :=
  ∃ S R, Tb w0 w S R k q p k2 q2 p2 ∧ Blk w g cs 40 ∧ ¬ S g ∧ ¬ R g ∧ w0.heap.size ≤ g
def Tz (w0 w : World) (k q : Nat) (p : Pp) (k2 q2 : Nat) (p2 : Pp) : Prop := ∃ S R, Tb w0 w S R k q p k2 q2 p2
section
variable {w0 w w' : World} {k q k2 q2 g : Nat} {p p2 p' p2' : Pp} {cs : Array Value}
theorem Tb.on {S R : Nat → Prop} (h : Tb w0 w S R k q p k2 q2 p2) (hb : Below w.heap.size w w') : Tb w0 w' S R k q p k2 q2 p2 := by
  obtain ⟨h1, h2, h3, h4, h5, h6⟩ := h
  exact ⟨h1.on hb, h2.on hb, h3, h4, h5, h6.trans (hb.mono h6.size)⟩
theorem Ty.on (h : Ty w0 w k q p k2 q2 p2 g cs) (hb : Below w.heap.size w w') : Ty w0 w' k q p k2 q2 p2 g cs := by
  obtain ⟨S, R, h1, h2, h3⟩ := h
  exact ⟨S, R, h1.on hb, (Keep.of_below (S := fun _ => False) hb).blk h2 (fun h => h), h3⟩
theorem Tz.on (h : Tz w0 w k q p k2 q2 p2) (hb : Below w.heap.size w w') : Tz w0 w' k q p k2 q2 p2 := by
  obtain ⟨S, R, h1⟩ := h
  exact ⟨S, R, h1.on hb⟩
theorem Ty.tz (h : Ty w0 w k q p k2 q2 p2 g cs) : Tz w0 w k q p k2 q2 p2 := by
  obtain ⟨S, R, h1, _⟩ := h
  exact ⟨S, R, h1⟩
theorem Tz.below (h : Tz w0 w k q p k2 q2 p2) : Below w0.heap.size w0 w := by obtain ⟨S, R, _, _, _, _, _, h⟩ := h; exact h
theorem Ty.blk (h : Ty w0 w k q p k2 q2 p2 g cs) : Blk w g cs 40 := by obtain ⟨S, R, _, h, _⟩ := h; exact h
/-- a new block -/
theorem Tz.ty (h : Tz w0 w k q p k2 q2 p2) (cs : Array Value) : Ty w0 (w.alloc (.cells cs 40)) k q p k2 q2 p2 w.heap.size cs := by
  obtain ⟨S, R, h1⟩ := h
  refine ⟨S, R, h1.on ((Below.refl _ _).alloc (Nat.le_refl _) _), Blk.made _ _ _, fun hs => ?_, fun hr => ?_, h1.2.2.2.2.2.size⟩
  · have := h1.1.lt _ hs; omega
  · have := h1.2.1.lt _ hr; omega
theorem Tb.left {S R : Nat → Prop} (h : Tb w0 w S R k q p k2 q2 p2) (hm : Pm w S k q p' w') : ∃ S', Tb w0 w' S' R k q p' k2 q2 p2 ∧ Grows S S' w := by
  obtain ⟨h1, h2, h3, h4, h5, h6⟩ := h
  obtain ⟨S', g1, g2⟩ := hm.pk
  refine ⟨S', ⟨g1, hm.keep.qk h2 (fun j hj hs => h3 j hs hj), fun j hj hr => ?_, fun j hj => (g2 j hj).elim (h4 j) (fun h' => Nat.le_trans h6.size h'), h5, h6.trans (hm.keep.below h4 h6.size)⟩, g2⟩
  rcases g2 j hj with h' | h'
  · exact h3 j h' hr
  · have := h2.lt j hr; omega
theorem Tb.right {S R : Nat → Prop} (h : Tb w0 w S R k q p k2 q2 p2) (hm : Qn w R k2 q2 p2' w') : ∃ R', Tb w0 w' S R' k q p k2 q2 p2' ∧ Grows R R' w := by
  obtain ⟨h1, h2, h3, h4, h5, h6⟩ := h
  obtain ⟨R', g1, g2⟩ := hm.qk
  refine ⟨R', ⟨hm.keep.pk h1 (fun j hj hs => h3 j hj hs), g1, fun j hj hr => ?_, h4, fun j hj => (g2 j hj).elim (h5 j) (fun h' => Nat.le_trans h6.size h'), h6.trans (hm.keep.below h5 h6.size)⟩, g2⟩
  rcases g2 j hr with h' | h'
  · exact h3 j hj h'
  · have := h1.lt j hj; omega
theorem Ty.left {S R : Nat → Prop} (h : Tb w0 w S R k q p k2 q2 p2) (hb : Blk w g cs 40) (hs : ¬ S g) (hr : ¬ R g) (hg : w0.heap.size ≤ g) (hm : Pm w S k q p' w') : Ty w0 w' k q p' k2 q2 p2 g cs := by
  obtain ⟨S', h1, h2⟩ := h.left hm
  refine ⟨S', R, h1, hm.keep.blk hb hs, fun hj => ?_, hr, hg⟩
  rcases h2 g hj with h' | h'
  · exact hs h'
  · have := hb.lt; omega
theorem Ty.right {S R : Nat → Prop} (h : Tb w0 w S R k q p k2 q2 p2) (hb : Blk w g cs 40) (hs : ¬ S g) (hr : ¬ R g) (hg : w0.heap.size ≤ g) (hm : Qn w R k2 q2 p2' w') : Ty w0 w' k q p k2 q2 p2' g cs := by
  obtain ⟨R', h1, h2⟩ := h.right hm
  refine ⟨S, R', h1, hm.keep.blk hb hr, hs, fun hj => ?_, hg⟩
  rcases h2 g hj with h' | h'
  · exact hr h'
  · have := hb.lt; omega

/-- a cut is told to the disk -/
def Pp.cut (p : Pp) (n : Int) : Pp := { p with d := { p.d with lf := n } }
theorem pcut_any {S : Nat → Prop} (n : Int) (hn : -9223372036854775808 ≤ n ∧ n ≤ 9223372036854775807) (h : Pk w S k q p) : Calls Tryz.prog 36 #[.pointer (some ⟨k, 0, none⟩), .int .i64 n] w fun e w' => e = .returned (.tuple #[]) ∧ Pm w S k q (p.cut n) w' := by
  obtain ⟨D, T, s1, s2, s3, s4⟩ := h
  exact (cut_any n hn w D k p.d s3).mono fun e w' hh => ⟨hh.1, Pm.disk (p := p) s1 s2 s4 ⟨⟨D, hh.2.1, Grows.refl _ _⟩, hh.2.2⟩⟩
theorem qcut_any {S : Nat → Prop} (n : Int) (hn : -9223372036854775808 ≤ n ∧ n ≤ 9223372036854775807) (h : Qk w S k q p) : Calls Tryz.prog 37 #[.pointer (some ⟨k, 0, none⟩), .int .i64 n] w fun e w' => e = .returned (.tuple #[]) ∧ Qn w S k q (p.cut n) w' := by
  obtain ⟨D, T, s1, s2, s3, s4⟩ := h
  exact (rCut_any n hn w D k p.d s3).mono fun e w' hh => ⟨hh.1, Qn.disk (p := p) s1 s2 s4 ⟨D, hh.2.1, hh.2.2, Grows.refl _ _⟩⟩
/-- the changed pages let go, of the document's -/
theorem Qk.undo {S : Nat → Prop} (h : Qk w S k q p) : w.frozen? ⟨q, 3, none⟩ = false ∧ (∃ v, w.cell? ⟨q, 3, none⟩ = some v) ∧ Qn w S k q p.undo (w.setCell ⟨q, 3, none⟩ (.slice none 0 0)) := by
  obtain ⟨D, T, s1, s2, s3, s4⟩ := h
  obtain ⟨a, c, e1, e2, e3, e4, e5, e6⟩ := s4.letgo
  refine ⟨e2, ⟨_, e1⟩, Qn.shelf (p := p) s1 s2 s3 ⟨⟨_, e5, fun j hj => .inl hj.1⟩, e6⟩⟩

/-! ## the calls -/
theorem load_ty (N : Nat) (hN : N < 4611686018427387904) (a : Int) (hok : p.Ok N) (h : Ty w0 w k q p k2 q2 p2 g cs) : Calls Tryz.prog 21 #[.pointer (some ⟨q, 0, none⟩), .int .i64 a] w fun e w' => e = .returned (.tuple #[.string (p.ldS a), .int .i64 (p.ldE a : Nat)]) ∧ Ty w0 w' k q (p.ld a) k2 q2 p2 g cs := by
  obtain ⟨S, R, h1, h2, h3, h4, h5⟩ := h
  exact (load_any N hN a hok h1.1).mono fun e w' hh => ⟨hh.1, Ty.left h1 h2 h3 h4 h5 hh.2⟩
theorem store_ty (N : Nat) (a : Int) (ha : I64 a) (s : ByteArray) (hs : s.size ≤ maxLen) (hok : p.Ok N) (h : Ty w0 w k q p k2 q2 p2 g cs) : Calls Tryz.prog 19 #[.pointer (some ⟨q, 0, none⟩), .int .i64 a, .string s] w fun e w' => e = .returned (.int .i64 (p.stE a s : Nat)) ∧ Ty w0 w' k q (p.st a s) k2 q2 p2 g cs := by
  obtain ⟨S, R, h1, h2, h3, h4, h5⟩ := h
  exact (store_any N a ha s hs hok h1.1).mono fun e w' hh => ⟨hh.1, Ty.left h1 h2 h3 h4 h5 hh.2⟩
theorem pin_ty (N : Nat) (hN : N < 4611686018427386000) (a : Int) (hok : p.Ok N) (h : Ty w0 w k q p k2 q2 p2 g cs) : Calls Tryz.prog 29 #[.pointer (some ⟨q, 0, none⟩), .int .i64 a] w fun e w' => e = .returned (.int .i64 (p.piE a : Nat)) ∧ Ty w0 w' k q (p.pi a) k2 q2 p2 g cs := by
  obtain ⟨S, R, h1, h2, h3, h4, h5⟩ := h
  exact (ppin_any N hN a hok h1.1).mono fun e w' hh => ⟨hh.1, Ty.left h1 h2 h3 h4 h5 hh.2⟩
theorem unpin_ty (N : Nat) (hN : N < 4611686018427387904) (a : Int) (ha : I64 a) (hok : p.Ok N) (h : Ty w0 w k q p k2 q2 p2 g cs) : Calls Tryz.prog 31 #[.pointer (some ⟨q, 0, none⟩), .int .i64 a] w fun e w' => e = .returned (.int .i64 (p.unE a : Nat)) ∧ Ty w0 w' k q (p.un a) k2 q2 p2 g cs := by
  obtain ⟨S, R, h1, h2, h3, h4, h5⟩ := h
  exact (unpin_any N hN a ha hok h1.1).mono fun e w' hh => ⟨hh.1, Ty.left h1 h2 h3 h4 h5 hh.2⟩
theorem commit_ty (N : Nat) (hok : p.Ok N) (hz : Fit (p.d.lg.length + 5000)) (h : Ty w0 w k q p k2 q2 p2 g cs) : Calls Tryz.prog 33 #[.pointer (some ⟨q, 0, none⟩)] w fun e w' => e = .returned (.int .i64 (p.cmE : Nat)) ∧ Ty w0 w' k q p.cm k2 q2 p2 g cs := by
  obtain ⟨S, R, h1, h2, h3, h4, h5⟩ := h
  exact (pcommit_any N hok hz h1.1).mono fun e w' hh => ⟨hh.1, Ty.left h1 h2 h3 h4 h5 hh.2⟩
theorem undo_ty (h : Ty w0 w k q p k2 q2 p2 g cs) : Calls Tryz.prog 35 #[.pointer (some ⟨q, 0, none⟩)] w fun e w' => e = .returned (.tuple #[]) ∧ Ty w0 w' k q p.undo k2 q2 p2 g cs := by
  obtain ⟨S, R, h1, h2, h3, h4, h5⟩ := h
  exact (undo_any h1.1).mono fun e w' hh => ⟨hh.1, Ty.left h1 h2 h3 h4 h5 hh.2⟩
theorem cut_ty (n : Int) (hn : -9223372036854775808 ≤ n ∧ n ≤ 9223372036854775807) (h : Ty w0 w k q p k2 q2 p2 g cs) : Calls Tryz.prog 36 #[.pointer (some ⟨k, 0, none⟩), .int .i64 n] w fun e w' => e = .returned (.tuple #[]) ∧ Ty w0 w' k q (p.cut n) k2 q2 p2 g cs := by
  obtain ⟨S, R, h1, h2, h3, h4, h5⟩ := h
  exact (pcut_any n hn h1.1).mono fun e w' hh => ⟨hh.1, Ty.left h1 h2 h3 h4 h5 hh.2⟩
theorem rLoad_ty (N : Nat) (hN : N < 4611686018427387904) (a : Int) (hok : p2.Ok N) (h : Ty w0 w k q p k2 q2 p2 g cs) : Calls Tryz.prog 27 #[.pointer (some ⟨q2, 0, none⟩), .int .i64 a] w fun e w' => e = .returned (.tuple #[.string (p2.ldS a), .int .i64 (p2.ldE a : Nat)]) ∧ Ty w0 w' k q p k2 q2 (p2.ld a) g cs := by
  obtain ⟨S, R, h1, h2, h3, h4, h5⟩ := h
  exact (rLoad_any N hN a hok h1.2.1).mono fun e w' hh => ⟨hh.1, Ty.right h1 h2 h3 h4 h5 hh.2⟩
theorem rStore_ty (N : Nat) (a : Int) (s : ByteArray) (hok : p2.Ok N) (h : Ty w0 w k q p k2 q2 p2 g cs) : Calls Tryz.prog 28 #[.pointer (some ⟨q2, 0, none⟩), .int .i64 a, .string s] w fun e w' => e = .returned (.int .i64 (p2.stE a s : Nat)) ∧ Ty w0 w' k q p k2 q2 (p2.st a s) g cs := by
  obtain ⟨S, R, h1, h2, h3, h4, h5⟩ := h
  exact (rStore_any N a s hok h1.2.1).mono fun e w' hh => ⟨hh.1, Ty.right h1 h2 h3 h4 h5 hh.2⟩
theorem rPin_ty (N : Nat) (hN : N < 4611686018427387904) (a : Int) (hok : p2.Ok N) (h : Ty w0 w k q p k2 q2 p2 g cs) : Calls Tryz.prog 30 #[.pointer (some ⟨q2, 0, none⟩), .int .i64 a] w fun e w' => e = .returned (.int .i64 (p2.piE a : Nat)) ∧ Ty w0 w' k q p k2 q2 (p2.pi a) g cs := by
  obtain ⟨S, R, h1, h2, h3, h4, h5⟩ := h
  exact (rPin_any N hN a hok h1.2.1).mono fun e w' hh => ⟨hh.1, Ty.right h1 h2 h3 h4 h5 hh.2⟩
theorem rUnpin_ty (N : Nat) (hN : N < 4611686018427387904) (a : Int) (hok : p2.Ok N) (h : Ty w0 w k q p k2 q2 p2 g cs) : Calls Tryz.prog 32 #[.pointer (some ⟨q2, 0, none⟩), .int .i64 a] w fun e w' => e = .returned (.int .i64 (p2.unE a : Nat)) ∧ Ty w0 w' k q p k2 q2 (p2.un a) g cs := by
  obtain ⟨S, R, h1, h2, h3, h4, h5⟩ := h
  exact (rUnpin_any N hN a hok h1.2.1).mono fun e w' hh => ⟨hh.1, Ty.right h1 h2 h3 h4 h5 hh.2⟩
theorem rCommit_ty (N : Nat) (hok : p2.Ok N) (hz : Fit (p2.d.lg.length + 5000)) (h : Ty w0 w k q p k2 q2 p2 g cs) : Calls Tryz.prog 34 #[.pointer (some ⟨q2, 0, none⟩)] w fun e w' => e = .returned (.int .i64 (p2.cmE : Nat)) ∧ Ty w0 w' k q p k2 q2 p2.cm g cs := by
  obtain ⟨S, R, h1, h2, h3, h4, h5⟩ := h
  exact (rPCommit_any N hok hz h1.2.1).mono fun e w' hh => ⟨hh.1, Ty.right h1 h2 h3 h4 h5 hh.2⟩
theorem rCut_ty (n : Int) (hn : -9223372036854775808 ≤ n ∧ n ≤ 9223372036854775807) (h : Ty w0 w k q p k2 q2 p2 g cs) : Calls Tryz.prog 37 #[.pointer (some ⟨k2, 0, none⟩), .int .i64 n] w fun e w' => e = .returned (.tuple #[]) ∧ Ty w0 w' k q p k2 q2 (p2.cut n) g cs := by
  obtain ⟨S, R, h1, h2, h3, h4, h5⟩ := h
  exact (qcut_any n hn h1.2.1).mono fun e w' hh => ⟨hh.1, Ty.right h1 h2 h3 h4 h5 hh.2⟩
theorem rUndo_ty (h : Ty w0 w k q p k2 q2 p2 g cs) : w.frozen? ⟨q2, 3, none⟩ = false ∧ (∃ v, w.cell? ⟨q2, 3, none⟩ = some v) ∧ Ty w0 (w.setCell ⟨q2, 3, none⟩ (.slice none 0 0)) k q p k2 q2 p2.undo g cs := by
  obtain ⟨S, R, h1, h2, h3, h4, h5⟩ := h
  obtain ⟨u1, u2, u3⟩ := h1.2.1.undo
  exact ⟨u1, u2, Ty.right h1 h2 h3 h4 h5 u3⟩
theorem Ty.disk (h : Ty w0 w k q p k2 q2 p2 g cs) : w.cell? ⟨q2, 0, none⟩ = some (.pointer (some ⟨k2, 0, none⟩)) := by
  obtain ⟨S, R, h1, _⟩ := h
  exact h1.2.1.cells.1
theorem dirty_tz {N : Nat} (hok : p.Ok N) (h : Tz w0 w k q p k2 q2 p2) : Calls Tryz.prog 10 #[.pointer (some ⟨q, 0, none⟩)] w fun e w' => ∃ v', e = .returned v' ∧ RowI w' w.heap.size v' (p.ch.map Pg.pl) ∧ Below w.heap.size w w' := by
  obtain ⟨S, R, h1⟩ := h
  exact dirty_any (by have := hok.few; omega) h1.1
theorem rDirty_tz {N : Nat} (hok : p2.Ok N) (h : Tz w0 w k q p k2 q2 p2) : Calls Tryz.prog 11 #[.pointer (some ⟨q2, 0, none⟩)] w fun e w' => ∃ v', e = .returned v' ∧ RowI w' w.heap.size v' (p2.ch.map Pg.pl) ∧ Below w.heap.size w w' := by
  obtain ⟨S, R, h1⟩ := h
  exact rDirty_any (by have := hok.few; omega) h1.2.1
theorem held_tz {N : Nat} (hok : p.Ok N) (h : Tz w0 w k q p k2 q2 p2) : Calls Tryz.prog 12 #[.pointer (some ⟨q, 0, none⟩)] w fun e w' => ∃ v', e = .returned v' ∧ RowI w' w.heap.size v' (p.hs.map Hp.pl) ∧ Below w.heap.size w w' := by
  obtain ⟨S, R, h1⟩ := h
  exact held_any (by have := hok.len; have := hok.room; omega) h1.1
theorem rHeld_tz {N : Nat} (hok : p2.Ok N) (h : Tz w0 w k q p k2 q2 p2) : Calls Tryz.prog 13 #[.pointer (some ⟨q2, 0, none⟩)] w fun e w' => ∃ v', e = .returned v' ∧ RowI w' w.heap.size v' (p2.hs.map Hp.pl) ∧ Below w.heap.size w w' := by
  obtain ⟨S, R, h1⟩ := h
  exact rHeld_any (by have := hok.len; have := hok.room; omega) h1.2.1
theorem reads_tz (h : Tz w0 w k q p k2 q2 p2) : Calls Tryz.prog 14 #[.pointer (some ⟨q, 0, none⟩)] w fun e w' => e = .returned (.int .i64 (p.rd : Nat)) ∧ w = w' := by
  obtain ⟨S, R, h1⟩ := h
  exact reads_any h1.1
theorem Tz.rd (h : Tz w0 w k q p k2 q2 p2) : w.cell? ⟨q2, 4, none⟩ = some (.int .i64 (p2.rd : Nat)) := by
  obtain ⟨S, R, h1⟩ := h
  obtain ⟨_, ⟨_, _, _, _, _, h4⟩, _⟩ := h1
  exact h4.nums.2.1
theorem image_tz (h : Tz w0 w k q p k2 q2 p2) : Calls Tryz.prog 16 #[.pointer (some ⟨k, 0, none⟩)] w fun e w' => ∃ v', e = .returned v' ∧ RowS w' w.heap.size v' p.d.bs ∧ Below w.heap.size w w' := by
  obtain ⟨S, R, h1⟩ := h
  obtain ⟨⟨D, T, _, _, h3, _⟩, _⟩ := h1
  exact image_any w D k p.d h3
theorem log_tz (h : Tz w0 w k q p k2 q2 p2) (hz : Fit p.d.lg.length) : Calls Tryz.prog 18 #[.pointer (some ⟨k, 0, none⟩)] w fun e w' => ∃ v', e = .returned v' ∧ RowP w' w.heap.size v' p.d.lg ∧ Below w.heap.size w w' := by
  obtain ⟨S, R, h1⟩ := h
  obtain ⟨⟨D, T, _, _, h3, _⟩, _⟩ := h1
  exact log_any w D k p.d h3 hz
/-- the cells and rows of the document's disk -/
theorem Tz.rows (h : Tz w0 w k q p k2 q2 p2) : ∃ ba bc la lc, w.cell? ⟨k2, 0, none⟩ = some (.slice ba p2.d.bs.length bc) ∧ w.cell? ⟨k2, 1, none⟩ = some (.slice la p2.d.lg.length lc) ∧ RowS w 0 (.slice ba p2.d.bs.length bc) p2.d.bs ∧ RowP w 0 (.slice la p2.d.lg.length lc) p2.d.lg ∧ k2 < w.heap.size ∧ p2.d.bs.length ≤ 2048 := by
  obtain ⟨S, R, h1⟩ := h
  obtain ⟨_, ⟨_, _, _, _, ⟨o1, o2, o3, bv, lv, told, left, o4, _, _, o5, o6, _⟩, _⟩, _⟩ := h1
  obtain ⟨ba, bc, e1⟩ := o5.form
  obtain ⟨la, lc, e2⟩ := o6.form
  subst e1
  subst e2
  exact ⟨ba, bc, la, lc, o4.cell rfl, o4.cell rfl, o5, o6, o4.lt, o1.hi⟩
theorem ld_d (p : Pp) (a : Int) : (p.ld a).d = p.d := by
  unfold Pp.ld
  split
  · rfl
  · split
    · rfl
    · split
      · rfl
      · split <;> rfl
theorem st_d (p : Pp) (a : Int) (s : ByteArray) : (p.st a s).d = p.d := by unfold Pp.st; split <;> rfl
theorem pi_d (p : Pp) (a : Int) : (p.pi a).d = p.d := by
  unfold Pp.pi
  split
  · exact ld_d p a
  · rfl
theorem un_d (p : Pp) (a : Int) : (p.un a).d = p.d := by unfold Pp.un; split <;> rfl
theorem cm_lg (p : Pp) (h : p.ch.length ≤ 1019) : p.cm.d.lg.length ≤ p.d.lg.length + 5000 := by
  have := cmt_lg p.d p.ch
  have h2 : (cmt p.d p.ch).2.lg.length ≤ p.d.lg.length + 5000 := by unfold lb at this; omega
  unfold Pp.cm
  split <;> exact h2
end

end Go.Proofs.YtoecopmbaoklkaaGreat
