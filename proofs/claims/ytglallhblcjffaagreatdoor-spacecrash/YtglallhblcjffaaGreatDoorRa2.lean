/-
  What the document's space answers: may, Get, Put, SetHead, Release.
-/
import Derived.Test.YtglallhblcjffaaGreatDoorWk2
namespace Go.Proofs.YtglallhblcjffaaGreatDoor
open Go.RowKit
set_option linter.unusedVariables false
set_option linter.unusedSimpArgs false
set_option maxRecDepth 100000

/-- a row of truths -/
def RowB (w : World) (B : Nat) (v : Value) (L : List Bool) : Prop := w.ownsRow B 4 1 v L.length (L.map Value.bool)
theorem RowB.form {w : World} {B : Nat} {v : Value} {L : List Bool} (h : RowB w B v L) : ∃ a c, v = .slice a L.length c := own_form h
theorem RowB.on {w w' : World} {B : Nat} {v : Value} {L : List Bool} (h : RowB w B v L) (hb : Below w.heap.size w w') : RowB w' B v L := own_below h hb
theorem RowB.at {w : World} {B n c : Nat} {a : Option Addr} {L : List Bool} (h : RowB w B (.slice a n c) L) {k : Nat} {x : Bool} (hk : L[k]? = some x) : ∃ g, a = some ⟨g, 0, none⟩ ∧ B ≤ g ∧ g < w.heap.size ∧ w.cell? ⟨g, k, none⟩ = some (.bool x) ∧ w.frozen? ⟨g, k, none⟩ = false := by
  obtain ⟨a', cap, e, _, _, hc⟩ := own_cells h
  cases e
  exact hc k _ (by rw [List.getElem?_map, hk]; rfl)
/-- the document's space, as plain data -/
structure Rsp where
  n : Nat
  top : ByteArray
  pages : List ByteArray
  taken : List Bool
structure Rsp.Ok (r : Rsp) : Prop where
  lo : 64 ≤ r.n
  hi : r.n ≤ 2048
  pl : r.pages.length = pgs r.n - 2
  tl : r.taken.length = pgs r.n - 2
/-- the document's space at block b: all of it lies in R -/
def Rr (w : World) (R : Nat → Prop) (b : Nat) (r : Rsp) : Prop :=
  (∀ j, R j → j < w.heap.size) ∧ R b ∧ ∃ pv tv, Blk w b #[.int .i64 (r.n : Nat), .string r.top, pv, tv] 72 ∧ RowS w 0 pv r.pages ∧ RowB w 0 tv r.taken ∧ In R pv ∧ In R tv
structure Rn (w : World) (R : Nat → Prop) (b : Nat) (r : Rsp) (W : World) : Prop where
  rr : ∃ R', Rr W R' b r ∧ Grows R R' w
  keep : Keep R w W
section
variable {w W V : World} {S R R' : Nat → Prop} {b : Nat} {r : Rsp}
theorem Keep.rr (h : Keep S w W) (hd : Rr w R b r) (hn : ∀ j, R j → ¬ S j) : Rr W R b r := by
  obtain ⟨h1, h2, pv, tv, h3, h4, h5, h6, h7⟩ := hd
  exact ⟨fun j hj => Nat.lt_of_lt_of_le (h1 j hj) h.size, h2, pv, tv, h.blk h3 (hn b h2), h.row h4 (fun g hg => hn g (h6 g hg)), h.row h5 (fun g hg => hn g (h7 g hg)), h6, h7⟩
theorem Rr.on (hd : Rr w R b r) (h : Below w.heap.size w W) : Rr W R b r := (Keep.of_below (S := fun _ => False) h).rr hd (fun _ _ h => h)
theorem Rn.refl (h : Rr w R b r) : Rn w R b r w := ⟨⟨R, h, Grows.refl _ _⟩, Keep.refl _ _⟩
theorem Rn.on (h : Rn w R b r W) (hb : Below W.heap.size W V) : Rn w R b r V := by
  obtain ⟨R', h1, h2⟩ := h.rr
  exact ⟨⟨R', h1.on hb, h2⟩, h.keep.trans (Keep.of_below (S := fun _ => False) hb) (fun _ _ h => h.elim)⟩
theorem Rn.base (h : Rn W R b r V) (hb : Below w.heap.size w W) : Rn w R b r V := by
  obtain ⟨R', h1, h2⟩ := h.rr
  refine ⟨⟨R', h1, fun j hj => ?_⟩, (Keep.of_below (S := R) hb).trans h.keep (fun _ _ h => h)⟩
  rcases h2 j hj with h' | h'
  · exact .inl h'
  · exact .inr (Nat.le_trans hb.size h')
theorem Rr.read (h : Rr w R b r) : ∃ pa pc ta tc, w.cell? ⟨b, 0, none⟩ = some (.int .i64 (r.n : Nat)) ∧ w.cell? ⟨b, 1, none⟩ = some (.string r.top) ∧ w.cell? ⟨b, 2, none⟩ = some (.slice pa r.pages.length pc) ∧ w.cell? ⟨b, 3, none⟩ = some (.slice ta r.taken.length tc) ∧ RowS w 0 (.slice pa r.pages.length pc) r.pages ∧ RowB w 0 (.slice ta r.taken.length tc) r.taken ∧ (∀ i, w.frozen? ⟨b, i, none⟩ = false) ∧ b < w.heap.size := by
  obtain ⟨h1, h2, pv, tv, h3, h4, h5, h6, h7⟩ := h
  obtain ⟨pa, pc, e1⟩ := h4.form
  obtain ⟨ta, tc, e2⟩ := h5.form
  subst e1
  subst e2
  exact ⟨pa, pc, ta, tc, h3.cell (i := 0) rfl, h3.cell (i := 1) rfl, h3.cell (i := 2) rfl, h3.cell (i := 3) rfl, h4, h5, fun i => h3.free i, h3.lt⟩
/-- the head is set -/
theorem Rr.head (h : Rr w R b r) (x : ByteArray) : Rn w R b { r with top := x } (w.setCell ⟨b, 1, none⟩ (.string x)) := by
  obtain ⟨h1, h2, pv, tv, h3, h4, h5, h6, h7⟩ := h
  have k2 : Keep (fun j => j = b) w (w.setCell ⟨b, 1, none⟩ (.string x)) := Keep.set (S := fun j => j = b) w rfl 1 _
  have hsz : (w.setCell ⟨b, 1, none⟩ (.string x)).heap.size = w.heap.size := by simp [World.setCell]
  exact ⟨⟨R, ⟨fun j hj => by rw [hsz]; exact h1 j hj, h2, pv, tv, h3.set 1 _, k2.row h4 (fun g e => h3.ne h4 (by decide) e), k2.row h5 (fun g e => h3.ne h5 (by decide) e), h6, h7⟩, Grows.refl _ _⟩, k2.mono (fun j _ e => by subst e; exact h2)⟩
theorem map_set {α β : Type} (f : α → β) : ∀ (L : List α) (i : Nat) (x : α), (L.map f).set i (f x) = (L.set i x).map f
  | [], i, x => rfl
  | y :: L, 0, x => rfl
  | y :: L, i + 1, x => by
    show f y :: (L.map f).set i (f x) = f y :: (L.set i x).map f
    rw [map_set f L i x]
/-- a page is set -/
theorem Rr.page (h : Rr w R b r) {g n c : Nat} (hc : w.cell? ⟨b, 2, none⟩ = some (.slice (some ⟨g, 0, none⟩) n c)) (i : Nat) (x : ByteArray) : Rn w R b { r with pages := r.pages.set i x } (w.setCell ⟨g, i, none⟩ (.string x)) := by
  obtain ⟨h1, h2, pv, tv, h3, h4, h5, h6, h7⟩ := h
  have e : some pv = some _ := (h3.cell (i := 2) rfl).symm.trans hc
  cases e
  obtain rfl : n = r.pages.length := by
    obtain ⟨_, _, e⟩ := h4.form
    injection e
  have k2 : Keep (fun j => j = g) w (w.setCell ⟨g, i, none⟩ (.string x)) := Keep.set (S := fun j => j = g) w rfl i _
  have hsz : (w.setCell ⟨g, i, none⟩ (.string x)).heap.size = w.heap.size := by simp [World.setCell]
  have hr := own_set h4 i (.string x)
  rw [flatS_set] at hr
  refine ⟨⟨R, ⟨fun j hj => by rw [hsz]; exact h1 j hj, h2, _, tv, k2.blk h3 (fun e => h3.ne h4 (by decide) (show _ = some g from rfl) e.symm), ?_, k2.row h5 (fun g' e e2 => rows_ne h5 h4 (by decide) e (by rw [e2]; rfl)), h6, h7⟩, Grows.refl _ _⟩, k2.mono (fun j _ e => by subst e; exact h6 _ rfl)⟩
  unfold RowS
  rw [List.length_set]
  exact hr
/-- a truth is set -/
theorem Rr.take (h : Rr w R b r) {g n c : Nat} (hc : w.cell? ⟨b, 3, none⟩ = some (.slice (some ⟨g, 0, none⟩) n c)) (i : Nat) (x : Bool) : Rn w R b { r with taken := r.taken.set i x } (w.setCell ⟨g, i, none⟩ (.bool x)) := by
  obtain ⟨h1, h2, pv, tv, h3, h4, h5, h6, h7⟩ := h
  have e : some tv = some _ := (h3.cell (i := 3) rfl).symm.trans hc
  cases e
  obtain rfl : n = r.taken.length := by
    obtain ⟨_, _, e⟩ := h5.form
    injection e
  have k2 : Keep (fun j => j = g) w (w.setCell ⟨g, i, none⟩ (.bool x)) := Keep.set (S := fun j => j = g) w rfl i _
  have hsz : (w.setCell ⟨g, i, none⟩ (.bool x)).heap.size = w.heap.size := by simp [World.setCell]
  have hr := own_set h5 i (.bool x)
  rw [map_set] at hr
  refine ⟨⟨R, ⟨fun j hj => by rw [hsz]; exact h1 j hj, h2, pv, _, k2.blk h3 (fun e => h3.ne h5 (by decide) (show _ = some g from rfl) e.symm), k2.row h4 (fun g' e e2 => rows_ne h4 h5 (by decide) e (by rw [e2]; rfl)), ?_, h6, h7⟩, Grows.refl _ _⟩, k2.mono (fun j _ e => by subst e; exact h7 _ rfl)⟩
  unfold RowB
  rw [List.length_set]
  exact hr
/-- where a page stands among the user's -/
def Rsp.ix (r : Rsp) (a : Int) : Nat := (a - (frs r.n : Int) - 1).toNat
def Rsp.gE (r : Rsp) (a : Int) : Nat := if ¬ isUs r.n a then 1 else if r.taken.getD (r.ix a) false = true then 0 else 8
def Rsp.gS (r : Rsp) (a : Int) : ByteArray := if r.gE a = 0 then r.pages.getD (r.ix a) ⟨#[]⟩ else ⟨#[]⟩
theorem place_any (a : Int) (ha : I64 a) (hok : r.Ok) (h : Rr w R b r) : Calls Tryz.prog 95 #[.pointer (some ⟨b, 0, none⟩), .int .i64 a] w fun e w' => e = .returned (.int .i64 (if isUs r.n a then (r.ix a : Int) else -1)) ∧ w = w' := by
  obtain ⟨pa, pc, ta, tc, c0, c1, c2, c3, r2, r3, hf, hlt⟩ := h.read
  have hfi := rFirst_any r.n hok.lo hok.hi w
  obtain ⟨b1, b2, b3, b4, b5⟩ := frs_small hok.lo hok.hi
  have hpl := hok.pl
  have hq : isUs r.n a ↔ ((frs r.n : Int) < a ∧ a < ((frs r.n + pgs r.n - 1 : Nat) : Int)) := Iff.rfl
  unfold I64 at ha
  have key : ∀ v : Int, (isUs r.n a → v = a - ((frs r.n : Int) + 1)) → (¬ isUs r.n a → v = -1) → Calls Tryz.prog 95 #[.pointer (some ⟨b, 0, none⟩), .int .i64 a] w fun e w' => e = .returned (.int .i64 v) ∧ w = w' := by
    intro v hv1 hv2
    rw [hq] at hv1 hv2
    clear hq
    generalize r.pages.length = c at *
    generalize frs r.n = F at *
    generalize pgs r.n = m at *
    have hw1 : IntKind.i64.wrap ((F : Int) + 1) = (F : Int) + 1 := by rw [IntKind.wrap_i64]; omega
    have hw2 : IntKind.i64.wrap ((F : Int) + 1 + (c : Int)) = (F : Int) + 1 + (c : Int) := by rw [IntKind.wrap_i64]; omega
    clear h r2 r3 hf hlt c1 c3
    by_cases h1 : a < (F : Int) + 1
    · obtain rfl := hv2 (by omega)
      clear hv1 hv2
      go_enter Tryz.func95, Tryz.ntmps95
      go_wp2_with (go_at_call 21; refine hfi.mono ?_; clear hfi; rintro e w1 ⟨rfl, rfl⟩)
      go_ret
      exact ⟨rfl, rfl⟩
    · by_cases h2 : (F : Int) + 1 + (c : Int) ≤ a
      · obtain rfl := hv2 (by omega)
        clear hv1 hv2
        go_enter Tryz.func95, Tryz.ntmps95
        go_wp2_with (go_at_call 21; refine hfi.mono ?_; clear hfi; rintro e w1 ⟨rfl, rfl⟩)
        go_ret
        exact ⟨rfl, rfl⟩
      · have hw3 : IntKind.i64.wrap (a - ((F : Int) + 1)) = a - ((F : Int) + 1) := by rw [IntKind.wrap_i64]; omega
        obtain rfl := hv1 (by omega)
        clear hv1 hv2
        go_enter Tryz.func95, Tryz.ntmps95
        go_wp2_with (go_at_call 21; refine hfi.mono ?_; clear hfi; rintro e w1 ⟨rfl, rfl⟩)
        go_ret
        exact ⟨rfl, rfl⟩
  refine key _ (fun hu => ?_) (fun hu => if_neg hu)
  rw [if_pos hu]
  have := hq.1 hu
  unfold Rsp.ix
  omega
end

section
variable {w W V : World} {S R R' : Nat → Prop} {b : Nat} {r : Rsp}
theorem Rsp.ix_lt (hok : r.Ok) {a : Int} (h : isUs r.n a) : r.ix a < r.pages.length ∧ r.ix a < r.taken.length := by
  obtain ⟨b1, b2, b3, b4, b5⟩ := frs_small hok.lo hok.hi
  have h1 := h.1
  have h2 := h.2
  have := hok.pl
  have := hok.tl
  unfold Rsp.ix
  omega
theorem may_any (a : Int) (ha : I64 a) (hok : r.Ok) (h : Rr w R b r) : Calls Tryz.prog 62 #[.pointer (some ⟨b, 0, none⟩), .int .i64 a] w fun e w' => e = .returned (.tuple #[.int .i64 (if r.gE a = 0 then (r.ix a : Int) else 0), .int .i64 (r.gE a : Nat)]) ∧ w = w' := by
  obtain ⟨pa, pc, ta, tc, c0, c1, c2, c3, r2, r3, hf, hlt⟩ := h.read
  have hp := place_any a ha hok h
  by_cases hu : isUs r.n a
  · rw [if_pos hu] at hp
    obtain ⟨i1, i2⟩ := Rsp.ix_lt hok hu
    obtain ⟨x, hx⟩ : ∃ x, r.taken[r.ix a]? = some x := ⟨_, List.getElem?_eq_getElem i2⟩
    obtain ⟨g, e1, _, _, d0, _⟩ := r3.at hx
    subst e1
    have hgE : r.gE a = if x = true then 0 else 8 := by
      unfold Rsp.gE
      rw [if_neg (fun z => z hu), List.getD_eq_getElem?_getD, hx]
      rfl
    generalize r.taken.length = m at *
    generalize r.gE a = q at *
    generalize r.ix a = i at *
    have hi0 : ¬ (i : Int) < 0 := by omega
    have him : (i : Int) < (m : Int) := by omega
    clear h r2 r3 hf hx hu hok ha c0 c1 c2
    cases x with
    | true =>
      rw [if_pos rfl] at hgE
      subst hgE
      rw [if_pos rfl]
      go_enter Tryz.func62, Tryz.ntmps62
      go_wp2_with (go_at_call 95; refine hp.mono ?_; clear hp; rintro e w1 ⟨rfl, rfl⟩)
      go_ret2
      exact ⟨rfl, rfl⟩
    | false =>
      rw [if_neg (by decide)] at hgE
      subst hgE
      rw [if_neg (by decide)]
      go_enter Tryz.func62, Tryz.ntmps62
      go_wp2_with (go_at_call 95; refine hp.mono ?_; clear hp; rintro e w1 ⟨rfl, rfl⟩)
      go_ret2
      exact ⟨rfl, rfl⟩
  · rw [if_neg hu] at hp
    have hgE : r.gE a = 1 := by
      unfold Rsp.gE
      rw [if_pos hu]
    rw [hgE, if_neg (by decide)]
    clear h r2 r3 hf hu hok ha c0 c1 c2 c3 hgE
    go_enter Tryz.func62, Tryz.ntmps62
    go_wp2_with (go_at_call 95; refine hp.mono ?_; clear hp; rintro e w1 ⟨rfl, rfl⟩)
    go_ret2
    exact ⟨rfl, rfl⟩
theorem rGet_any (a : Int) (ha : I64 a) (hok : r.Ok) (h : Rr w R b r) : Calls Tryz.prog 32 #[.pointer (some ⟨b, 0, none⟩), .int .i64 a] w fun e w' => e = .returned (.tuple #[.string (r.gS a), .int .i64 (r.gE a : Nat)]) ∧ w = w' := by
  obtain ⟨pa, pc, ta, tc, c0, c1, c2, c3, r2, r3, hf, hlt⟩ := h.read
  have hm := may_any a ha hok h
  unfold Rsp.gS
  by_cases hg : r.gE a = 0
  · rw [hg, if_pos rfl] at hm
    rw [hg, if_pos rfl]
    have hu : isUs r.n a := by
      unfold Rsp.gE at hg
      by_cases hu : isUs r.n a
      · exact hu
      · rw [if_pos hu] at hg; cases hg
    obtain ⟨i1, i2⟩ := Rsp.ix_lt hok hu
    obtain ⟨x, hx⟩ : ∃ x, r.pages[r.ix a]? = some x := ⟨_, List.getElem?_eq_getElem i1⟩
    obtain ⟨g, e1, _, _⟩ := row_some r2 (by omega)
    subst e1
    have d0 := (r2.at hx).1
    rw [List.getD_eq_getElem?_getD, hx]
    simp only [Option.getD_some]
    generalize r.pages.length = m at *
    generalize r.ix a = i at *
    have him : (i : Int) < (m : Int) := by omega
    clear h r2 r3 hf hx hu hok ha c0 c1 c3 hg
    go_enter Tryz.func32, Tryz.ntmps32
    go_wp2_with (go_at_call 62; refine hm.mono ?_; clear hm; rintro e w1 ⟨rfl, rfl⟩)
    go_ret2
    exact ⟨rfl, rfl⟩
  · rw [if_neg hg] at hm
    rw [if_neg hg]
    generalize r.gE a = x at *
    have hxn : ((x : Int) == 0) = false := by simp; omega
    have hxz : ¬ (x : Int) = 0 := by omega
    clear h r2 r3 hf hok ha c0 c1 c2 c3 hg
    go_enter Tryz.func32, Tryz.ntmps32
    go_wp2_with (go_at_call 62; refine hm.mono ?_; clear hm; rintro e w1 ⟨rfl, rfl⟩)
    go_ret2
    exact ⟨rfl, rfl⟩
def Rsp.pE (r : Rsp) (a : Int) (x : ByteArray) : Nat := if r.gE a = 0 then (if x.size = 256 then 0 else 3) else r.gE a
theorem rPut_any (a : Int) (ha : I64 a) (x : ByteArray) (hok : r.Ok) (h : Rr w R b r) : Calls Tryz.prog 34 #[.pointer (some ⟨b, 0, none⟩), .int .i64 a, .string x] w fun e w' => e = .returned (.int .i64 (r.pE a x : Nat)) ∧ Rn w R b (if r.pE a x = 0 then { r with pages := r.pages.set (r.ix a) x } else r) w' := by
  obtain ⟨pa, pc, ta, tc, c0, c1, c2, c3, r2, r3, hf, hlt⟩ := h.read
  have hm := may_any a ha hok h
  have HH := hid h
  unfold Rsp.pE
  by_cases hg : r.gE a = 0
  · rw [hg, if_pos rfl] at hm
    rw [if_pos hg]
    have hu : isUs r.n a := by
      unfold Rsp.gE at hg
      by_cases hu : isUs r.n a
      · exact hu
      · rw [if_pos hu] at hg; cases hg
    obtain ⟨i1, i2⟩ := Rsp.ix_lt hok hu
    by_cases hx : x.size = 256
    · rw [if_pos hx, if_pos rfl]
      obtain ⟨y, hy⟩ : ∃ y, r.pages[r.ix a]? = some y := ⟨_, List.getElem?_eq_getElem i1⟩
      obtain ⟨g, e1, _, _⟩ := row_some r2 (by omega)
      subst e1
      obtain ⟨d0, f0⟩ := r2.at hy
      have HR := hid (HH.out.page c2 (r.ix a) x)
      have hxi : (x.size : Int) = 256 := by omega
      generalize r.pages.length = m at *
      generalize ({ r with pages := r.pages.set (r.ix a) x } : Rsp) = rr at *
      generalize r.ix a = i at *
      have him : (i : Int) < (m : Int) := by omega
      clear h r2 r3 hf hu hok ha c0 c1 c3 hg hx hy HH
      go_enter Tryz.func34, Tryz.ntmps34
      go_wp2_with (go_at_call 62; refine hm.mono ?_; clear hm; rintro e w1 ⟨rfl, rfl⟩)
      go_ret
      exact ⟨rfl, HR.out⟩
    · rw [if_neg hx, if_neg (by decide)]
      have hxi : ((x.size : Int) == 256) = false := by simp; omega
      have hxj : ¬ (x.size : Int) = 256 := by omega
      clear h r2 r3 hf hu hok ha c0 c1 c2 c3 hg hx
      go_enter Tryz.func34, Tryz.ntmps34
      go_wp2_with (go_at_call 62; refine hm.mono ?_; clear hm; rintro e w1 ⟨rfl, rfl⟩)
      go_ret
      exact ⟨rfl, Rn.refl HH.out⟩
  · rw [if_neg hg] at hm
    rw [if_neg hg, if_neg hg]
    generalize r.gE a = y at *
    have hxn : ((y : Int) == 0) = false := by simp; omega
    have hxz : ¬ (y : Int) = 0 := by omega
    clear h r2 r3 hf hok ha c0 c1 c2 c3 hg
    go_enter Tryz.func34, Tryz.ntmps34
    go_wp2_with (go_at_call 62; refine hm.mono ?_; clear hm; rintro e w1 ⟨rfl, rfl⟩)
    go_ret
    exact ⟨rfl, Rn.refl HH.out⟩
theorem rRelease_any (a : Int) (ha : I64 a) (hok : r.Ok) (h : Rr w R b r) : Calls Tryz.prog 36 #[.pointer (some ⟨b, 0, none⟩), .int .i64 a] w fun e w' => e = .returned (.int .i64 (r.gE a : Nat)) ∧ Rn w R b (if r.gE a = 0 then { r with taken := r.taken.set (r.ix a) false } else r) w' := by
  obtain ⟨pa, pc, ta, tc, c0, c1, c2, c3, r2, r3, hf, hlt⟩ := h.read
  have hm := may_any a ha hok h
  have HH := hid h
  by_cases hg : r.gE a = 0
  · rw [hg, if_pos rfl] at hm
    rw [hg, if_pos rfl]
    have hu : isUs r.n a := by
      unfold Rsp.gE at hg
      by_cases hu : isUs r.n a
      · exact hu
      · rw [if_pos hu] at hg; cases hg
    obtain ⟨i1, i2⟩ := Rsp.ix_lt hok hu
    obtain ⟨y, hy⟩ : ∃ y, r.taken[r.ix a]? = some y := ⟨_, List.getElem?_eq_getElem i2⟩
    obtain ⟨g, e1, _, _, d0, f0⟩ := r3.at hy
    subst e1
    have HR := hid (HH.out.take c3 (r.ix a) false)
    generalize r.taken.length = m at *
    generalize ({ r with taken := r.taken.set (r.ix a) false } : Rsp) = rr at *
    generalize r.ix a = i at *
    have him : (i : Int) < (m : Int) := by omega
    clear h r2 r3 hf hu hok ha c0 c1 c2 hg hy HH
    go_enter Tryz.func36, Tryz.ntmps36
    go_wp2_with (go_at_call 62; refine hm.mono ?_; clear hm; rintro e w1 ⟨rfl, rfl⟩)
    go_ret
    exact ⟨rfl, HR.out⟩
  · rw [if_neg hg] at hm
    rw [if_neg hg]
    generalize r.gE a = y at *
    have hxn : ((y : Int) == 0) = false := by simp; omega
    have hxz : ¬ (y : Int) = 0 := by omega
    clear h r2 r3 hf hok ha c0 c1 c2 c3 hg
    go_enter Tryz.func36, Tryz.ntmps36
    go_wp2_with (go_at_call 62; refine hm.mono ?_; clear hm; rintro e w1 ⟨rfl, rfl⟩)
    go_ret
    exact ⟨rfl, Rn.refl HH.out⟩
theorem rSetHead_any (x : ByteArray) (h : Rr w R b r) : Calls Tryz.prog 37 #[.pointer (some ⟨b, 0, none⟩), .string x] w fun e w' => e = .returned (.int .i64 (if x.size = 248 then 0 else 3 : Nat)) ∧ Rn w R b (if x.size = 248 then { r with top := x } else r) w' := by
  obtain ⟨pa, pc, ta, tc, c0, c1, c2, c3, r2, r3, hf, hlt⟩ := h.read
  have HH := hid h
  by_cases hx : x.size = 248
  · rw [if_pos hx, if_pos hx]
    have HR := hid (HH.out.head x)
    have f1 := hf 1
    have hxi : (x.size : Int) = 248 := by omega
    generalize ({ r with top := x } : Rsp) = rr at *
    clear h r2 r3 hf c0 c2 c3 hx HH
    go_enter Tryz.func37, Tryz.ntmps37
    go_wp2_with fail
    go_ret
    exact ⟨rfl, HR.out⟩
  · rw [if_neg hx, if_neg hx]
    have hxi : ((x.size : Int) == 248) = false := by simp; omega
    have hxj : ¬ (x.size : Int) = 248 := by omega
    clear h r2 r3 hf c0 c1 c2 c3 hx
    go_enter Tryz.func37, Tryz.ntmps37
    go_wp2_with fail
    go_ret
    exact ⟨rfl, Rn.refl HH.out⟩
end

end Go.Proofs.YtglallhblcjffaaGreatDoor
