/-
  A space's load, store, map.
-/
import Derived.Test.YtglallhblcjffaaGreatDoorSg1
import Derived.Test.YtglallhblcjffaaGreatDoorFm
import Derived.Test.YtglallhblcjffaaGreatDoorEt
import Derived.Test.YtglallhblcjffaaGreatDoorPq
namespace Go.Proofs.YtglallhblcjffaaGreatDoor
open Go.RowKit
set_option linter.unusedVariables false
set_option linter.unusedSimpArgs false
set_option maxRecDepth 100000

/-- a space at block s over a pager at q over a disk at k: all of it lies in S -/
def Sk (w : World) (S : Nat → Prop) (k q s : Nat) (p : Pp) : Prop :=
  ∃ P : Nat → Prop, Pk w P k q p ∧ Blk w s #[.pointer (some ⟨k, 0, none⟩), .pointer (some ⟨q, 0, none⟩), .slice none 0 0] 80 ∧ (∀ j, S j ↔ P j ∨ j = s) ∧ ¬ P s
/-- a space that shows f, over the disk d -/
def Sv (w : World) (S : Nat → Prop) (k q s : Nat) (d : Ds) (f : Int → ByteArray) (N : Nat) : Prop :=
  ∃ p, Sk w S k q s p ∧ SpG p N ∧ p.d = d ∧ ∀ b, vw p b = f b
/-- what a call leaves -/
structure Sn (w : World) (S : Nat → Prop) (k q s : Nat) (d : Ds) (f : Int → ByteArray) (N : Nat) (W : World) : Prop where
  sv : ∃ S', Sv W S' k q s d f N ∧ Grows S S' w
  keep : Keep S w W
section
variable {w W V : World} {S S' P R : Nat → Prop} {k q s : Nat} {p : Pp} {d : Ds} {f g : Int → ByteArray} {N M : Nat}
theorem Sk.lt (h : Sk w S k q s p) : ∀ j, S j → j < w.heap.size := by
  obtain ⟨P, h1, h2, h3, _⟩ := h
  intro j hj
  rcases (h3 j).1 hj with hj | rfl
  · exact h1.lt j hj
  · exact h2.lt
theorem Sv.lt (h : Sv w S k q s d f N) : ∀ j, S j → j < w.heap.size := by obtain ⟨p, h1, _⟩ := h; exact h1.lt
theorem Keep.sk (h : Keep R w W) (hp : Sk w S k q s p) (hn : ∀ j, S j → ¬ R j) : Sk W S k q s p := by
  obtain ⟨P, h1, h2, h3, h4⟩ := hp
  exact ⟨P, h.pk h1 (fun j hj => hn j ((h3 j).2 (.inl hj))), h.blk h2 (hn s ((h3 s).2 (.inr rfl))), h3, h4⟩
theorem Keep.sv (h : Keep R w W) (hp : Sv w S k q s d f N) (hn : ∀ j, S j → ¬ R j) : Sv W S k q s d f N := by
  obtain ⟨p, h1, h2⟩ := hp
  exact ⟨p, h.sk h1 hn, h2⟩
theorem Sv.on (h : Sv w S k q s d f N) (hb : Below w.heap.size w W) : Sv W S k q s d f N := (Keep.of_below (S := fun _ => False) hb).sv h (fun _ _ h => h)
theorem Sv.mono (h : Sv w S k q s d f N) (hm : N ≤ M) : Sv w S k q s d f M := by
  obtain ⟨p, h1, h2, h3⟩ := h
  exact ⟨p, h1, h2.mono hm, h3⟩
theorem Sv.ext (h : Sv w S k q s d f N) (he : ∀ b, f b = g b) : Sv w S k q s d g N := by
  obtain ⟨p, h1, h2, h3, h4⟩ := h
  exact ⟨p, h1, h2, h3, fun b => (h4 b).trans (he b)⟩
theorem Sn.refl (h : Sv w S k q s d f N) : Sn w S k q s d f N w := ⟨⟨S, h, Grows.refl _ _⟩, Keep.refl _ _⟩
theorem Sn.on (h : Sn w S k q s d f N W) (hb : Below W.heap.size W V) : Sn w S k q s d f N V := by
  obtain ⟨S', h1, h2⟩ := h.sv
  exact ⟨⟨S', h1.on hb, h2⟩, h.keep.trans (Keep.of_below (S := fun _ => False) hb) (fun _ _ h => h.elim)⟩
theorem Sn.mono (h : Sn w S k q s d f N W) (hm : N ≤ M) : Sn w S k q s d f M W := by
  obtain ⟨S', h1, h2⟩ := h.sv
  exact ⟨⟨S', h1.mono hm, h2⟩, h.keep⟩
theorem Sn.ext (h : Sn w S k q s d f N W) (he : ∀ b, f b = g b) : Sn w S k q s d g N W := by
  obtain ⟨S', h1, h2⟩ := h.sv
  exact ⟨⟨S', h1.ext he, h2⟩, h.keep⟩
theorem Sn.base (h : Sn W S k q s d f N V) (hb : Below w.heap.size w W) : Sn w S k q s d f N V := by
  obtain ⟨S', h1, h2⟩ := h.sv
  refine ⟨⟨S', h1, fun j hj => ?_⟩, (Keep.of_below (S := S) hb).trans h.keep (fun _ _ h => h)⟩
  rcases h2 j hj with h' | h'
  · exact .inl h'
  · exact .inr (Nat.le_trans hb.size h')
theorem Sn.trans {d' : Ds} {f' : Int → ByteArray} {N' : Nat} (hg : Grows S S' w) (hk : Keep S w W) (h : Sn W S' k q s d' f' N' V) : Sn w S k q s d' f' N' V := by
  obtain ⟨T2, h1, h2⟩ := h.sv
  refine ⟨⟨T2, h1, hg.trans h2 hk.size⟩, hk.trans h.keep (fun j hj h' => ?_)⟩
  rcases hg j h' with h' | h'
  · exact h'
  · omega
/-- two calls, one behind the other -/
theorem Sn.step {d' : Ds} {f' : Int → ByteArray} {N' : Nat} {F : Ending → World → Prop} {n : Nat} {args : Array Value} (h : Sn w S k q s d f N W) (hc : ∀ S', Sv W S' k q s d f N → Grows S S' w → Calls Tryz.prog n args W fun e V => F e V ∧ Sn W S' k q s d' f' N' V) : Calls Tryz.prog n args W fun e V => F e V ∧ Sn w S k q s d' f' N' V := by
  obtain ⟨S', h1, h2⟩ := h.sv
  exact (hc S' h1 h2).mono fun e V hh => ⟨hh.1, Sn.trans h2 h.keep hh.2⟩
/-- the pager turned -/
theorem Sn.pager {p' : Pp} (hP : Pk w P k q p) (hb : Blk w s #[.pointer (some ⟨k, 0, none⟩), .pointer (some ⟨q, 0, none⟩), .slice none 0 0] 80) (hS : ∀ j, S j ↔ P j ∨ j = s) (hs : ¬ P s) (h : Pm w P k q p' W) (hg : SpG p' N) (he : ∀ b, vw p' b = f b) : Sn w S k q s p'.d f N W := by
  obtain ⟨P', h1, h2⟩ := h.pk
  have hsl := hb.lt
  refine ⟨⟨fun j => P' j ∨ j = s, ⟨p', ⟨P', h1, h.keep.blk hb hs, fun j => Iff.rfl, fun hj => ?_⟩, hg, rfl, he⟩, fun j hj => ?_⟩, h.keep.mono (fun j _ hj => (hS j).2 (.inl hj))⟩
  · rcases h2 s hj with h' | h'
    · exact hs h'
    · omega
  · rcases hj with hj | rfl
    · rcases h2 j hj with h' | h'
      · exact .inl ((hS j).2 (.inl h'))
      · exact .inr h'
    · exact .inl ((hS j).2 (.inr rfl))
theorem Sv.cells (h : Sv w S k q s d f N) : w.cell? ⟨s, 0, none⟩ = some (.pointer (some ⟨k, 0, none⟩)) ∧ w.cell? ⟨s, 1, none⟩ = some (.pointer (some ⟨q, 0, none⟩)) ∧ w.cell? ⟨s, 2, none⟩ = some (.slice none 0 0) ∧ w.frozen? ⟨s, 2, none⟩ = false ∧ S s := by
  obtain ⟨p, ⟨P, _, hb, h3, _⟩, _⟩ := h
  exact ⟨hb.cell (i := 0) rfl, hb.cell (i := 1) rfl, hb.cell (i := 2) rfl, hb.free 2, (h3 s).2 (.inr rfl)⟩
theorem Sv.good (h : Sv w S k q s d f N) : d.Ok ∧ d.dn = false ∧ ∀ a, isPg d.bs.length a → (f a).size = 256 := by
  obtain ⟨p, _, h2, rfl, h4⟩ := h
  exact ⟨h2.ok.d, h2.on, fun a ha => by rw [← h4]; exact vw_size h2 ha⟩
theorem slen_any (h : Sv w S k q s d f N) : Calls Tryz.prog 61 #[.pointer (some ⟨k, 0, none⟩)] w fun e w' => e = .returned (.int .i64 (d.bs.length : Nat)) ∧ w = w' := by
  obtain ⟨p, ⟨P, ⟨D, T, _, _, hd, _⟩, _⟩, _, rfl, _⟩ := h
  exact len_any w D k p.d hd
theorem sdown_any (h : Sv w S k q s d f N) : Calls Tryz.prog 86 #[.pointer (some ⟨k, 0, none⟩)] w fun e w' => e = .returned (.bool false) ∧ w = w' := by
  obtain ⟨p, ⟨P, ⟨D, T, _, _, hd, _⟩, _⟩, h2, rfl, _⟩ := h
  have := down_any w D k p.d hd
  rw [h2.on] at this
  exact this
theorem mapAt_any (n : Nat) (h1 : 64 ≤ n) (h2 : n ≤ 2048) (w : World) : Calls Tryz.prog 68 #[.int .i64 (n : Nat)] w fun e w' => e = .returned (.int .i64 (frs n : Nat)) ∧ w = w' := by
  have hf := first_any n h1 h2 w
  go_enter Tryz.func68, Tryz.ntmps68
  go_wp2_with (go_at_call 111; refine hf.mono ?_; rintro e w1 ⟨rfl, rfl⟩)
  go_ret
  exact ⟨rfl, rfl⟩
theorem frs_small {n : Nat} (h1 : 64 ≤ n) (h2 : n ≤ 2048) : frs n ≤ 1100 ∧ 30 ≤ pgs n ∧ pgs n ≤ 1019 ∧ frs n + pgs n - 1 ≤ n ∧ 2 ≤ frs n := by
  unfold frs lb pgs
  omega
theorem endOf_any (n : Nat) (h1 : 64 ≤ n) (h2 : n ≤ 2048) (w : World) : Calls Tryz.prog 82 #[.int .i64 (n : Nat)] w fun e w' => e = .returned (.int .i64 ((frs n + pgs n - 1 : Nat) : Int)) ∧ w = w' := by
  have hf := first_any n h1 h2 w
  have hp := pages_any n h1 h2 w
  obtain ⟨b1, b2, b3, _⟩ := frs_small h1 h2
  have he : ((frs n + pgs n - 1 : Nat) : Int) = (frs n : Int) + (pgs n : Int) - 1 := by omega
  rw [he]
  clear he
  generalize frs n = a at *
  generalize pgs n = b at *
  have hw1 : IntKind.i64.wrap ((a : Int) + (b : Int)) = (a : Int) + (b : Int) := by rw [IntKind.wrap_i64]; omega
  have hw2 : IntKind.i64.wrap ((a : Int) + (b : Int) - 1) = (a : Int) + (b : Int) - 1 := by rw [IntKind.wrap_i64]; omega
  go_enter Tryz.func82, Tryz.ntmps82
  go_wp2_with (first
    | (go_at_call 111; refine hf.mono ?_; rintro e w1 ⟨rfl, rfl⟩)
    | (go_at_call 97; refine hp.mono ?_; rintro e w1 ⟨rfl, rfl⟩))
  go_ret
  exact ⟨rfl, rfl⟩
/-- a page of the user's -/
def isUs (n : Nat) (a : Int) : Prop := ((frs n : Nat) : Int) < a ∧ a < ((frs n + pgs n - 1 : Nat) : Int)
instance (n : Nat) (a : Int) : Decidable (isUs n a) := by unfold isUs; infer_instance
theorem isUs.pg {n : Nat} {a : Int} (h : isUs n a) : isPg n a := .inr ⟨by have := h.1; omega, h.2⟩
theorem isUsers_any (n : Nat) (h1 : 64 ≤ n) (h2 : n ≤ 2048) (a : Int) (w : World) : Calls Tryz.prog 87 #[.int .i64 (n : Nat), .int .i64 a] w fun e w' => e = .returned (.bool (decide (isUs n a))) ∧ w = w' := by
  have hm := mapAt_any n h1 h2 w
  have he := endOf_any n h1 h2 w
  by_cases h3 : ((frs n : Nat) : Int) < a
  · by_cases h4 : a < ((frs n + pgs n - 1 : Nat) : Int)
    · rw [decide_eq_true (show isUs n a from ⟨h3, h4⟩)]
      generalize frs n + pgs n - 1 = b at *
      generalize frs n = c at *
      go_enter Tryz.func87, Tryz.ntmps87
      go_wp2_with (first
        | (go_at_call 68; refine hm.mono ?_; rintro e w1 ⟨rfl, rfl⟩)
        | (go_at_call 82; refine he.mono ?_; rintro e w1 ⟨rfl, rfl⟩))
      go_ret
      exact ⟨rfl, rfl⟩
    · rw [decide_eq_false (show ¬ isUs n a from fun h => h4 h.2)]
      generalize frs n + pgs n - 1 = b at *
      generalize frs n = c at *
      go_enter Tryz.func87, Tryz.ntmps87
      go_wp2_with (first
        | (go_at_call 68; refine hm.mono ?_; rintro e w1 ⟨rfl, rfl⟩)
        | (go_at_call 82; refine he.mono ?_; rintro e w1 ⟨rfl, rfl⟩))
      go_ret
      exact ⟨by show Ending.returned (.bool (decide (a < (b : Int)))) = _; rw [decide_eq_false (by omega)], rfl⟩
  · rw [decide_eq_false (show ¬ isUs n a from fun h => h3 h.1)]
    generalize frs n + pgs n - 1 = b at *
    generalize frs n = c at *
    go_enter Tryz.func87, Tryz.ntmps87
    go_wp2_with (first
      | (go_at_call 68; refine hm.mono ?_; rintro e w1 ⟨rfl, rfl⟩)
      | (go_at_call 82; refine he.mono ?_; rintro e w1 ⟨rfl, rfl⟩))
    go_ret
    exact ⟨rfl, rfl⟩
/-- what the head page begins with -/
def mkB (n : Nat) : ByteArray := ⟨#[97, 117, 109, 98, 114, 121]⟩ ++ ⟨(Nu.be n 2).toArray⟩
theorem markOf_any (n : Nat) (h2 : n ≤ 2048) (w : World) : Calls Tryz.prog 60 #[.int .i64 (n : Nat)] w fun e w' => e = .returned (.string (mkB n)) ∧ Below w.heap.size w w' := by
  have hp := Nu.put_ok n 2 w (by decide) (by decide) (by omega)
  have hw : IntKind.u64.wrap (n : Int) = (n : Int) := by rw [IntKind.wrap_u64]; omega
  have hl : ¬ 9223372036854775807 < 6 + (⟨(Nu.be n 2).toArray⟩ : ByteArray).size := by
    have : (⟨(Nu.be n 2).toArray⟩ : ByteArray).size = 2 := by show (Nu.be n 2).toArray.size = 2; simp [Nu.be_length]
    omega
  unfold mkB
  generalize (⟨(Nu.be n 2).toArray⟩ : ByteArray) = t at *
  go_enter Tryz.func60, Tryz.ntmps60
  go_wp2_with (go_at_call 94; refine hp.mono ?_; rintro e w1 ⟨rfl, hb1⟩)
  go_ret
  exact ⟨rfl, hb1⟩
theorem padded_any (s : ByteArray) (h : s.size ≤ 256) (w : World) : Calls Tryz.prog 53 #[.string s] w fun e w' => e = .returned (.string (Nu.padOf s 256)) ∧ Below w.heap.size w w' := by
  have hp := Nu.pad_ok s 256 w (by decide) h
  go_enter Tryz.func53, Tryz.ntmps53
  go_wp2_with (go_at_call 84; refine hp.mono ?_; rintro e w1 ⟨rfl, hb1⟩)
  go_ret
  exact ⟨rfl, hb1⟩
end

section
variable {w W V : World} {S S' P R : Nat → Prop} {k q s : Nat} {p : Pp} {d : Ds} {f g : Int → ByteArray} {N M : Nat}
theorem load_sp (a : Int) (ha : isPg d.bs.length a) (hN : N < 4611686018427387904) (h : Sv w S k q s d f N) :
    Calls Tryz.prog 59 #[.pointer (some ⟨s, 0, none⟩), .int .i64 a] w fun e w' => e = .returned (.tuple #[.string (f a), .nilIface]) ∧ Sn w S k q s d f (N + 1) w' := by
  obtain ⟨c0, c1, c2, _⟩ := h.cells
  have HLD : Hid (Calls Tryz.prog 93 #[.pointer (some ⟨q, 0, none⟩), .int .i64 a] w fun e w' => e = .returned (.tuple #[.string (f a), .int .i64 0]) ∧ Sn w S k q s d f (N + 1) w') := by
    obtain ⟨p, ⟨P, hP, hb, hS, hs⟩, hg, rfl, hv⟩ := h
    obtain ⟨e1, e2, e3, e4, e5⟩ := ld_view hg ha
    refine (load_any N hN a hg.ok hP).mono fun e w' hh => ?_
    rw [e1, e2, hv] at hh
    have := Sn.pager hP hb hS hs hh.2 e3 (fun b => (e5 b).trans (hv b))
    rw [e4] at this
    exact ⟨hh.1, this⟩
  have hf := fun w1 => faultAt_ok a w1
  generalize f a = t at *
  clear h ha c2
  go_enter Tryz.func59, Tryz.ntmps59
  go_wp2_with (first
    | (go_at_call 93; refine HLD.out.mono ?_; clear HLD c0 c1; rintro e w1 ⟨rfl, hn1⟩; have HN1 := hid hn1; clear hn1)
    | (go_at_call 74; refine (hf _).mono ?_; clear hf; rintro e w2 ⟨rfl, rfl⟩))
  go_ret2
  exact ⟨rfl, HN1.out⟩
theorem store_sp (a : Int) (ha : isPg d.bs.length a) (x : ByteArray) (hx : x.size = 256) (h : Sv w S k q s d f N) :
    Calls Tryz.prog 52 #[.pointer (some ⟨s, 0, none⟩), .int .i64 a, .string x] w fun e w' => e = .returned .nilIface ∧ Sn w S k q s d (fun b => if b = a then x else f b) N w' := by
  obtain ⟨c0, c1, c2, _⟩ := h.cells
  have HST : Hid (Calls Tryz.prog 58 #[.pointer (some ⟨q, 0, none⟩), .int .i64 a, .string x] w fun e w' => e = .returned (.int .i64 0) ∧ Sn w S k q s d (fun b => if b = a then x else f b) N w') := by
    obtain ⟨p, ⟨P, hP, hb, hS, hs⟩, hg, rfl, hv⟩ := h
    obtain ⟨e1, e2, e3, e4⟩ := st_view hg ha hx
    have hai : I64 a := isPg_i64 hg.ok.d.lo hg.ok.d.hi ha
    refine (store_any N a hai x (by rw [hx]; decide) hg.ok hP).mono fun e w' hh => ?_
    rw [e1] at hh
    have := Sn.pager hP hb hS hs hh.2 e2 (f := fun b => if b = a then x else f b) (fun b => (e4 b).trans (by by_cases hb : b = a; simp [hb]; simp [hb, hv]))
    rw [e3] at this
    exact ⟨hh.1, this⟩
  have hf := fun w1 => faultAt_ok a w1
  clear h ha c2 hx
  go_enter Tryz.func52, Tryz.ntmps52
  go_wp2_with (first
    | (go_at_call 58; refine HST.out.mono ?_; clear HST c0 c1; rintro e w1 ⟨rfl, hn1⟩; have HN1 := hid hn1; clear hn1)
    | (go_at_call 74; refine (hf _).mono ?_; clear hf; rintro e w2 ⟨rfl, rfl⟩))
  go_ret
  exact ⟨rfl, HN1.out⟩
/-- the map's page -/
def mpg (d : Ds) : Int := ((frs d.bs.length : Nat) : Int)
theorem mpg_pg {d : Ds} (hd : d.Ok) : isPg d.bs.length (mpg d) := by
  obtain ⟨b1, b2, b3, _⟩ := frs_small hd.lo hd.hi
  exact .inr ⟨Int.le_refl _, by unfold mpg; omega⟩
theorem zero_pg (n : Nat) : isPg n 0 := .inl rfl
theorem loadMap_sp (hN : N < 4611686018427387904) (h : Sv w S k q s d f N) :
    Calls Tryz.prog 50 #[.pointer (some ⟨s, 0, none⟩)] w fun e w' => e = .returned (.tuple #[.string (f (mpg d)), .nilIface]) ∧ Sn w S k q s d f (N + 1) w' := by
  obtain ⟨c0, c1, c2, _⟩ := h.cells
  obtain ⟨hd, _, _⟩ := h.good
  have hln := slen_any h
  have hmp := mapAt_any d.bs.length hd.lo hd.hi w
  have HLD := hid (load_sp (mpg d) (mpg_pg hd) hN h)
  unfold mpg at HLD ⊢
  generalize f _ = t at *
  generalize frs d.bs.length = m at *
  generalize d.bs.length = n at *
  clear h hd c1 c2
  go_enter Tryz.func50, Tryz.ntmps50
  go_wp2_with (first
    | (go_at_call 61; refine hln.mono ?_; clear hln; rintro e w1 ⟨rfl, rfl⟩)
    | (go_at_call 68; refine hmp.mono ?_; clear hmp; rintro e w1 ⟨rfl, rfl⟩)
    | (go_at_call 59; refine HLD.out.mono ?_; clear HLD c0; rintro e w1 ⟨rfl, hn1⟩; have HN1 := hid hn1; clear hn1))
  go_ret2
  exact ⟨rfl, HN1.out⟩
theorem storeMap_sp (b : ByteArray) (hb : b.size = 256) (a : Int) (ha : isUs d.bs.length a) (t : Bool) (h : Sv w S k q s d f N) :
    Calls Tryz.prog 54 #[.pointer (some ⟨s, 0, none⟩), .string b, .int .i64 a, .bool t] w fun e w' => e = .returned .nilIface ∧ Sn w S k q s d (fun c => if c = mpg d then withB b (a - mpg d).toNat t else f c) N w' := by
  obtain ⟨c0, c1, c2, _⟩ := h.cells
  obtain ⟨hd, _, _⟩ := h.good
  have hln := slen_any h
  have hmp := mapAt_any d.bs.length hd.lo hd.hi w
  obtain ⟨b1, b2, b3, b4, b5⟩ := frs_small hd.lo hd.hi
  have hu1 := ha.1
  have hu2 := ha.2
  have hi : (a - mpg d).toNat < 2048 := by unfold mpg; omega
  have hwi := withB_size hb hi t
  have HWI := hid (bwith_any b (a - mpg d).toNat t hb hi w)
  have HST : Hid (∀ w1, Below w.heap.size w w1 → Calls Tryz.prog 52 #[.pointer (some ⟨s, 0, none⟩), .int .i64 (mpg d), .string (withB b (a - mpg d).toNat t)] w1 fun e w' => e = .returned .nilIface ∧ Sn w S k q s d (fun c => if c = mpg d then withB b (a - mpg d).toNat t else f c) N w') := fun w1 hb1 => (store_sp (mpg d) (mpg_pg hd) _ hwi (h.on hb1)).mono fun e w' hh => ⟨hh.1, hh.2.base hb1⟩
  have hai : (((a - mpg d).toNat : Nat) : Int) = a - ((frs d.bs.length : Nat) : Int) := by unfold mpg; omega
  rw [hai] at HWI
  have hw2 : IntKind.i64.wrap (a - ((frs d.bs.length : Nat) : Int)) = a - ((frs d.bs.length : Nat) : Int) := by rw [IntKind.wrap_i64]; omega
  generalize withB b (a - mpg d).toNat t = x at *
  generalize (fun c => if c = mpg d then x else f c) = g at *
  unfold mpg at HST
  generalize frs d.bs.length = m at *
  generalize d.bs.length = n at *
  clear h hd c1 c2 hwi hi hu1 hu2 ha hai b1 b2 b3 b4 b5
  go_enter Tryz.func54, Tryz.ntmps54
  go_wp2_with (first
    | (go_at_call 61; refine hln.mono ?_; clear hln; rintro e w1 ⟨rfl, rfl⟩)
    | (go_at_call 68; refine hmp.mono ?_; clear hmp; rintro e w1 ⟨rfl, rfl⟩)
    | (go_at_call 85; refine HWI.out.mono ?_; clear HWI c0; rintro e w1 ⟨rfl, hb1⟩; have HB1 := hid hb1; clear hb1)
    | (go_at_call 52; refine (HST.out _ HB1.out).mono ?_; clear HST; rintro e w2 ⟨rfl, hn1⟩; have HN1 := hid hn1; clear hn1))
  go_ret
  exact ⟨rfl, HN1.out⟩
/-- is a page of the user's taken? -/
def tkn (d : Ds) (f : Int → ByteArray) (a : Int) : Bool := hasB (f (mpg d)) (a - mpg d).toNat
theorem mapWith_nil (a : Int) (w : World) : Calls Tryz.prog 56 #[.pointer none, .int .i64 a] w fun e w' => e = .returned (.tuple #[.string ⟨#[]⟩, .iface 35 (.int .i64 18)]) ∧ w = w' := by
  go_enter Tryz.func56, Tryz.ntmps56
  go_wp2
  go_ret2
  exact ⟨rfl, rfl⟩
theorem mapWith_out (a : Int) (ha : ¬ isUs d.bs.length a) (h : Sv w S k q s d f N) : Calls Tryz.prog 56 #[.pointer (some ⟨s, 0, none⟩), .int .i64 a] w fun e w' => e = .returned (.tuple #[.string ⟨#[]⟩, .iface 35 (.int .i64 1)]) ∧ w = w' := by
  obtain ⟨c0, c1, c2, _⟩ := h.cells
  obtain ⟨hd, _, _⟩ := h.good
  have hln := slen_any h
  have hus := isUsers_any d.bs.length hd.lo hd.hi a w
  rw [decide_eq_false ha] at hus
  generalize d.bs.length = n at *
  clear h hd c1 c2 ha
  go_enter Tryz.func56, Tryz.ntmps56
  go_wp2_with (first
    | (go_at_call 61; refine hln.mono ?_; clear hln; rintro e w1 ⟨rfl, rfl⟩)
    | (go_at_call 87; refine hus.mono ?_; clear hus; rintro e w1 ⟨rfl, rfl⟩))
  go_ret2
  exact ⟨rfl, rfl⟩
theorem mapWith_sp (a : Int) (ha : isUs d.bs.length a) (hN : N < 4611686018427387904) (h : Sv w S k q s d f N) : Calls Tryz.prog 56 #[.pointer (some ⟨s, 0, none⟩), .int .i64 a] w fun e w' => e = .returned (if tkn d f a = true then .tuple #[.string (f (mpg d)), .nilIface] else .tuple #[.string ⟨#[]⟩, .iface 35 (.int .i64 8)]) ∧ Sn w S k q s d f (N + 1) w' := by
  obtain ⟨c0, c1, c2, _⟩ := h.cells
  obtain ⟨hd, _, hz⟩ := h.good
  have hln := slen_any h
  have hus := isUsers_any d.bs.length hd.lo hd.hi a w
  rw [decide_eq_true ha] at hus
  have HLM := hid (loadMap_sp hN h)
  have hmp := fun w1 => mapAt_any d.bs.length hd.lo hd.hi w1
  obtain ⟨b1, b2, b3, b4, b5⟩ := frs_small hd.lo hd.hi
  have hu1 := ha.1
  have hu2 := ha.2
  have hi : (a - mpg d).toNat < 2048 := by unfold mpg; omega
  have hha := fun w1 => bhas_any (f (mpg d)) (a - mpg d).toNat (hz _ (mpg_pg hd)) hi w1
  have hai : (((a - mpg d).toNat : Nat) : Int) = a - ((frs d.bs.length : Nat) : Int) := by unfold mpg; omega
  rw [hai] at hha
  have hw2 : IntKind.i64.wrap (a - ((frs d.bs.length : Nat) : Int)) = a - ((frs d.bs.length : Nat) : Int) := by rw [IntKind.wrap_i64]; omega
  unfold tkn
  generalize f (mpg d) = x at *
  generalize hasB x (a - mpg d).toNat = t at *
  generalize frs d.bs.length = m at *
  generalize d.bs.length = n at *
  clear h hd c1 c2 hi hu1 hu2 ha hai b1 b2 b3 b4 b5 hz
  cases t with
  | true =>
    rw [if_pos rfl]
    go_enter Tryz.func56, Tryz.ntmps56
    go_wp2_with (first
      | (go_at_call 61; refine hln.mono ?_; clear hln; rintro e w1 ⟨rfl, rfl⟩)
      | (go_at_call 87; refine hus.mono ?_; clear hus; rintro e w1 ⟨rfl, rfl⟩)
      | (go_at_call 50; refine HLM.out.mono ?_; clear HLM c0; rintro e w1 ⟨rfl, hn1⟩; have HN1 := hid hn1; clear hn1)
      | (go_at_call 68; refine (hmp _).mono ?_; clear hmp; rintro e w2 ⟨rfl, rfl⟩)
      | (go_at_call 83; refine (hha _).mono ?_; clear hha; rintro e w2 ⟨rfl, rfl⟩))
    go_ret2
    exact ⟨rfl, HN1.out⟩
  | false =>
    rw [if_neg (by decide)]
    go_enter Tryz.func56, Tryz.ntmps56
    go_wp2_with (first
      | (go_at_call 61; refine hln.mono ?_; clear hln; rintro e w1 ⟨rfl, rfl⟩)
      | (go_at_call 87; refine hus.mono ?_; clear hus; rintro e w1 ⟨rfl, rfl⟩)
      | (go_at_call 50; refine HLM.out.mono ?_; clear HLM c0; rintro e w1 ⟨rfl, hn1⟩; have HN1 := hid hn1; clear hn1)
      | (go_at_call 68; refine (hmp _).mono ?_; clear hmp; rintro e w2 ⟨rfl, rfl⟩)
      | (go_at_call 83; refine (hha _).mono ?_; clear hha; rintro e w2 ⟨rfl, rfl⟩))
    go_ret2
    exact ⟨rfl, HN1.out⟩
end

end Go.Proofs.YtglallhblcjffaaGreatDoor
