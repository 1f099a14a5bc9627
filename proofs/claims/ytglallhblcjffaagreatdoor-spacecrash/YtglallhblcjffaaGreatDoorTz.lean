/-
  An act, done to both.
-/
import Derived.Test.YtglallhblcjffaaGreatDoorTr
namespace Go.Proofs.YtglallhblcjffaaGreatDoor
open Go.RowKit
set_option linter.unusedVariables false
set_option linter.unusedSimpArgs false
set_option maxRecDepth 100000

def wcs (k s b1 b2 : Nat) : Array Value := #[.pointer (some ⟨k, 0, none⟩), .pointer (some ⟨s, 0, none⟩), .pointer (some ⟨b1, 0, none⟩), .pointer (some ⟨b2, 0, none⟩)]
/-- the world of the laws, with a block that is none of its parts' -/
def Wx (w0 w : World) (g k q s b1 b2 : Nat) (d : Ds) (f : Int → ByteArray) (N : Nat) (now was : Rsp) (p : Nat) (cs : Array Value) : Prop :=
  ∃ S R1 R2, Sv w S k q s d f N ∧ Rr w R1 b1 now ∧ Rr w R2 b2 was ∧ Blk w g (wcs k s b1 b2) 34 ∧ Blk w p cs 28 ∧
    (∀ j, S j → ¬ R1 j ∧ ¬ R2 j ∧ j ≠ g ∧ j ≠ p ∧ w0.heap.size ≤ j) ∧ (∀ j, R1 j → ¬ R2 j ∧ j ≠ g ∧ j ≠ p ∧ w0.heap.size ≤ j) ∧ (∀ j, R2 j → j ≠ g ∧ j ≠ p ∧ w0.heap.size ≤ j) ∧ w0.heap.size ≤ g ∧ w0.heap.size ≤ p ∧ p ≠ g ∧ Below w0.heap.size w0 w
section
variable {w0 w W V : World} {g k q s b1 b2 n p : Nat} {cs : Array Value} {d d' : Ds} {f f' : Int → ByteArray} {N N' : Nat} {now was now' : Rsp} {F : Ending → World → Prop} {args : Array Value}
theorem Wx.below (h : Wx w0 w g k q s b1 b2 d f N now was p cs) : Below w0.heap.size w0 w := by obtain ⟨_, _, _, _, _, _, _, _, _, _, _, _, _, _, h⟩ := h; exact h
theorem Wx.good (h : Wx w0 w g k q s b1 b2 d f N now was p cs) : d.Ok ∧ d.dn = false ∧ ∀ a, isPg d.bs.length a → (f a).size = 256 := by obtain ⟨_, _, _, h, _⟩ := h; exact h.good
theorem Wx.wcell (h : Wx w0 w g k q s b1 b2 d f N now was p cs) {i : Nat} {x : Value} (hx : (wcs k s b1 b2)[i]? = some x) : w.cell? ⟨g, i, none⟩ = some x := by obtain ⟨_, _, _, _, _, _, h, _⟩ := h; exact h.cell hx
theorem Wx.pcell (h : Wx w0 w g k q s b1 b2 d f N now was p cs) {i : Nat} {x : Value} (hx : cs[i]? = some x) : w.cell? ⟨p, i, none⟩ = some x := by obtain ⟨_, _, _, _, _, _, _, h, _⟩ := h; exact h.cell hx
theorem Wx.free (h : Wx w0 w g k q s b1 b2 d f N now was p cs) (i : Nat) : w.frozen? ⟨g, i, none⟩ = false := by obtain ⟨_, _, _, _, _, _, h, _⟩ := h; exact h.free i
theorem Wx.top (h : Wx w0 w g k q s b1 b2 d f N now was p cs) : w.cell? ⟨b1, 1, none⟩ = some (.string now.top) := by
  obtain ⟨_, _, _, _, h, _⟩ := h
  obtain ⟨_, _, _, _, _, c, _⟩ := h.read
  exact c
theorem Wx.start (h : Wo w0 w g k q s b1 b2 d f N now was) (cs : Array Value) : Wx w0 (w.alloc (.cells cs 28)) g k q s b1 b2 d f N now was w.heap.size cs := by
  obtain ⟨S, R1, R2, h1, h2, h3, h4, h5, h6, h7, h8, h9⟩ := h
  have hb : Below w.heap.size w (w.alloc (.cells cs 28)) := (Below.refl _ w).alloc (Nat.le_refl _) _
  refine ⟨S, R1, R2, h1.on hb, h2.on hb, h3.on hb, (Keep.of_below (S := fun _ => False) hb).blk h4 (fun h => h), Blk.made w cs 28, fun j hj => ?_, fun j hj => ?_, fun j hj => ?_, h8, h9.size, ?_, h9.trans (hb.mono h9.size)⟩
  · have := h1.lt j hj
    exact ⟨(h5 j hj).1, (h5 j hj).2.1, (h5 j hj).2.2.1, by omega, (h5 j hj).2.2.2⟩
  · have := h2.1 j hj
    exact ⟨(h6 j hj).1, (h6 j hj).2.1, by omega, (h6 j hj).2.2⟩
  · have := h3.1 j hj
    exact ⟨(h7 j hj).1, by omega, (h7 j hj).2⟩
  · have := h4.lt
    omega
theorem Wx.wo (h : Wx w0 w g k q s b1 b2 d f N now was p cs) : Wo w0 w g k q s b1 b2 d f N now was := by
  obtain ⟨S, R1, R2, h1, h2, h3, h4, h5, h6, h7, h8, h9, h10, h11, h12⟩ := h
  exact ⟨S, R1, R2, h1, h2, h3, h4, fun j hj => ⟨(h6 j hj).1, (h6 j hj).2.1, (h6 j hj).2.2.1, (h6 j hj).2.2.2.2⟩, fun j hj => ⟨(h7 j hj).1, (h7 j hj).2.1, (h7 j hj).2.2.2⟩, fun j hj => ⟨(h8 j hj).1, (h8 j hj).2.2⟩, h9, h12⟩
theorem Wx.on (h : Wx w0 w g k q s b1 b2 d f N now was p cs) (hb : Below w.heap.size w W) : Wx w0 W g k q s b1 b2 d f N now was p cs := by
  obtain ⟨S, R1, R2, h1, h2, h3, h4, h5, h6, h7, h8, h9, h10, h11, h12⟩ := h
  exact ⟨S, R1, R2, h1.on hb, h2.on hb, h3.on hb, (Keep.of_below (S := fun _ => False) hb).blk h4 (fun h => h), (Keep.of_below (S := fun _ => False) hb).blk h5 (fun h => h), h6, h7, h8, h9, h10, h11, h12.trans (hb.mono h12.size)⟩
theorem Wx.ext (h : Wx w0 w g k q s b1 b2 d f N now was p cs) (he : ∀ b, f b = f' b) : Wx w0 w g k q s b1 b2 d f' N now was p cs := by
  obtain ⟨S, R1, R2, h1, h2⟩ := h
  exact ⟨S, R1, R2, h1.ext he, h2⟩
/-- a call of the space -/
theorem Wx.space (hE : Env w0) (h : Wx w0 w g k q s b1 b2 d f N now was p cs) (hc : ∀ S, Sv w S k q s d f N → Env w → ¬ S 0 → Calls Tryz.prog n args w fun e V => F e V ∧ Sn w S k q s d' f' N' V) : Calls Tryz.prog n args w fun e V => F e V ∧ Wx w0 V g k q s b1 b2 d' f' N' now was p cs := by
  obtain ⟨S, R1, R2, h1, h2, h3, h4, h5, h6, h7, h8, h9, h10, h11, h12⟩ := h
  have hp := hE.pos
  refine (hc S h1 (hE.on hp h12) (fun h0 => by have := (h6 0 h0).2.2.2.2; omega)).mono fun e V hh => ⟨hh.1, ?_⟩
  obtain ⟨S', s1, s2⟩ := hh.2.sv
  have hk := hh.2.keep
  refine ⟨S', R1, R2, s1, hk.rr h2 (fun j hj hs => (h6 j hs).1 hj), hk.rr h3 (fun j hj hs => (h6 j hs).2.1 hj), hk.blk h4 (fun hg => (h6 g hg).2.2.1 rfl), hk.blk h5 (fun hg => (h6 p hg).2.2.2.1 rfl), fun j hj => ?_, h7, h8, h9, h10, h11, h12.trans (hk.below (fun j hj => (h6 j hj).2.2.2.2) h12.size)⟩
  rcases s2 j hj with t | t
  · exact h6 j t
  · have l1 := h4.lt
    have l2 := h5.lt
    exact ⟨fun hr => by have := h2.1 j hr; omega, fun hr => by have := h3.1 j hr; omega, by omega, by omega, Nat.le_trans h12.size t⟩
/-- a call of what it is -/
theorem Wx.ref (h : Wx w0 w g k q s b1 b2 d f N now was p cs) (hc : ∀ R, Rr w R b1 now → Calls Tryz.prog n args w fun e V => F e V ∧ Rn w R b1 now' V) : Calls Tryz.prog n args w fun e V => F e V ∧ Wx w0 V g k q s b1 b2 d f N now' was p cs := by
  obtain ⟨S, R1, R2, h1, h2, h3, h4, h5, h6, h7, h8, h9, h10, h11, h12⟩ := h
  refine (hc R1 h2).mono fun e V hh => ⟨hh.1, ?_⟩
  obtain ⟨R', r1, r2⟩ := hh.2.rr
  have hk := hh.2.keep
  refine ⟨S, R', R2, hk.sv h1 (fun j hj => (h6 j hj).1), r1, hk.rr h3 (fun j hj hs => (h7 j hs).1 hj), hk.blk h4 (fun hg => (h7 g hg).2.1 rfl), hk.blk h5 (fun hg => (h7 p hg).2.2.1 rfl), fun j hj => ?_, fun j hj => ?_, h8, h9, h10, h11, h12.trans (hk.below (fun j hj => (h7 j hj).2.2.2) h12.size)⟩
  · refine ⟨fun hr => ?_, (h6 j hj).2⟩
    rcases r2 j hr with t | t
    · exact (h6 j hj).1 t
    · have := h1.lt j hj
      omega
  · rcases r2 j hj with t | t
    · exact h7 j t
    · have l1 := h4.lt
      have l2 := h5.lt
      exact ⟨fun hr => by have := h3.1 j hr; omega, by omega, by omega, Nat.le_trans h12.size t⟩
theorem Wx.refRead (h : Wx w0 w g k q s b1 b2 d f N now was p cs) (hc : ∀ R, Rr w R b1 now → Calls Tryz.prog n args w fun e V => F e V ∧ w = V) : Calls Tryz.prog n args w fun e V => F e V ∧ Wx w0 V g k q s b1 b2 d f N now was p cs := by
  have h' := h
  obtain ⟨S, R1, R2, h1, h2, _⟩ := h'
  refine (hc R1 h2).mono fun e V hh => ⟨hh.1, ?_⟩
  rw [← hh.2]
  exact h
/-- what it was is now a copy of what it is -/
theorem Wx.setWas {b : Nat} (h : Wx w0 w g k q s b1 b2 d f N now was p cs) (hr : Nr w W b now) : Wx w0 (W.setCell ⟨g, 3, none⟩ (.pointer (some ⟨b, 0, none⟩))) g k q s b1 b d f N now now p cs := by
  obtain ⟨S, R1, R2, h1, h2, h3, h4, h5, h6, h7, h8, h9, h10, h11, h12⟩ := h
  have hb := hr.below
  have hk : Keep (fun j => j = g) W (W.setCell ⟨g, 3, none⟩ (.pointer (some ⟨b, 0, none⟩))) := Keep.set (S := fun j => j = g) W rfl 3 _
  have l1 := h4.lt
  have l2 := h5.lt
  have g4 := (Keep.of_below (S := fun _ => False) hb).blk h4 (fun h => h)
  have g5 := (Keep.of_below (S := fun _ => False) hb).blk h5 (fun h => h)
  refine ⟨S, R1, fun j => w.heap.size ≤ j ∧ j < W.heap.size, hk.sv (h1.on hb) (fun j hj => (h6 j hj).2.2.1), hk.rr (h2.on hb) (fun j hj => (h7 j hj).2.1), hk.rr hr.rr (fun j hj e => by omega), ?_, hk.blk g5 (fun e => h11 e), fun j hj => ?_, fun j hj => ?_, fun j hj => ?_, h9, h10, h11, (h12.trans (hb.mono h12.size)).trans (hk.below (fun j hj => by rw [hj]; exact h9) (Nat.le_trans h12.size hb.size))⟩
  · exact g4.set 3 _
  · have := h1.lt j hj
    exact ⟨(h6 j hj).1, fun hx => by omega, (h6 j hj).2.2⟩
  · have := h2.1 j hj
    exact ⟨fun hx => by omega, (h7 j hj).2⟩
  · have := h12.size
    exact ⟨by omega, by omega, by omega⟩
/-- what it is is now a copy of what it was -/
theorem Wx.setNow {b : Nat} (h : Wx w0 w g k q s b1 b2 d f N now was p cs) (hr : Nr w W b was) : Wx w0 (W.setCell ⟨g, 2, none⟩ (.pointer (some ⟨b, 0, none⟩))) g k q s b b2 d f N was was p cs := by
  obtain ⟨S, R1, R2, h1, h2, h3, h4, h5, h6, h7, h8, h9, h10, h11, h12⟩ := h
  have hb := hr.below
  have hk : Keep (fun j => j = g) W (W.setCell ⟨g, 2, none⟩ (.pointer (some ⟨b, 0, none⟩))) := Keep.set (S := fun j => j = g) W rfl 2 _
  have l1 := h4.lt
  have l2 := h5.lt
  have g4 := (Keep.of_below (S := fun _ => False) hb).blk h4 (fun h => h)
  have g5 := (Keep.of_below (S := fun _ => False) hb).blk h5 (fun h => h)
  refine ⟨S, fun j => w.heap.size ≤ j ∧ j < W.heap.size, R2, hk.sv (h1.on hb) (fun j hj => (h6 j hj).2.2.1), hk.rr hr.rr (fun j hj e => by omega), hk.rr (h3.on hb) (fun j hj => (h8 j hj).1), ?_, hk.blk g5 (fun e => h11 e), fun j hj => ?_, fun j hj => ?_, h8, h9, h10, h11, (h12.trans (hb.mono h12.size)).trans (hk.below (fun j hj => by rw [hj]; exact h9) (Nat.le_trans h12.size hb.size))⟩
  · exact g4.set 2 _
  · have := h1.lt j hj
    exact ⟨fun hx => by omega, (h6 j hj).2⟩
  · have := h12.size
    exact ⟨fun hr => by have := h3.1 j hr; omega, by omega, by omega, by omega⟩
theorem Wx.copyNow (hok : now.Ok) (h : Wx w0 w g k q s b1 b2 d f N now was p cs) : Calls Tryz.prog 17 #[.pointer (some ⟨b1, 0, none⟩)] w fun e W => ∃ b, e = .returned (.pointer (some ⟨b, 0, none⟩)) ∧ Wx w0 W g k q s b1 b2 d f N now was p cs ∧ Wx w0 (W.setCell ⟨g, 3, none⟩ (.pointer (some ⟨b, 0, none⟩))) g k q s b1 b d f N now now p cs := by
  have h' := h
  obtain ⟨S, R1, R2, h1, h2, _⟩ := h'
  refine (rCopy_any hok h2).mono fun e W hh => ?_
  obtain ⟨b, e1, hr⟩ := hh
  exact ⟨b, e1, h.on hr.below, h.setWas hr⟩
theorem Wx.copyWas (hok : was.Ok) (h : Wx w0 w g k q s b1 b2 d f N now was p cs) : Calls Tryz.prog 17 #[.pointer (some ⟨b2, 0, none⟩)] w fun e W => ∃ b, e = .returned (.pointer (some ⟨b, 0, none⟩)) ∧ Wx w0 W g k q s b1 b2 d f N now was p cs ∧ Wx w0 (W.setCell ⟨g, 2, none⟩ (.pointer (some ⟨b, 0, none⟩))) g k q s b b2 d f N was was p cs := by
  have h' := h
  obtain ⟨S, R1, R2, h1, h2, h3, _⟩ := h'
  refine (rCopy_any hok h3).mono fun e W hh => ?_
  obtain ⟨b, e1, hr⟩ := hh
  exact ⟨b, e1, h.on hr.below, h.setNow hr⟩
end

/-- the space shows what the document's is, its disk what it was; nothing waits, no cut is told -/
structure Pl (n : Nat) (d : Ds) (f : Int → ByteArray) (now was : Rsp) : Prop where
  len : d.bs.length = n
  n1 : now.n = n
  n2 : was.n = n
  ok1 : now.Ok
  ok2 : was.Ok
  sh : Shw n f now
  sw : Shw n (onD d) was
  lf : d.lf < 0
  z : d.bs[1]? = some Z
  l0 : laid n (f 0) = true
  l1 : laid n (onD d 0) = true
section
variable {n : Nat} {d d' : Ds} {f f' : Int → ByteArray} {now was now' : Rsp}
theorem Pl.shd (h : Pl n d f now was) : Shw d.bs.length f now := by rw [h.len]; exact h.sh
theorem Pl.nd (h : Pl n d f now was) : now.n = d.bs.length := h.n1.trans h.len.symm
theorem Pl.to (h : Pl n d f now was) (h1 : now'.n = n) (h2 : now'.Ok) (h3 : Shw n f' now') (h4 : f' 0 = f 0) : Pl n d f' now' was := ⟨h.len, h1, h.n2, h2, h.ok2, h3, h.sw, h.lf, h.z, by rw [h4]; exact h.l0, h.l1⟩
theorem Pl.get (h : Pl n d f now was) (a : Int) : gtS d f a = now.gS a ∧ gtE d f a = now.gE a := ⟨h.shd.gS h.ok1 h.nd a, h.shd.gE h.ok1 h.nd a⟩
theorem us_pos {m : Nat} {a : Int} (h : isUs m a) : a ≠ 0 := by
  have := h.1
  omega
theorem Pl.put (h : Pl n d f now was) (a : Int) (x : ByteArray) : ptE d f a x = now.pE a x ∧ Pl n d (if ptE d f a x = 0 then (fun b => if b = a then x else f b) else f) (if now.pE a x = 0 then { now with pages := now.pages.set (now.ix a) x } else now) was := by
  have he := h.shd.pE h.ok1 h.nd a x
  refine ⟨he, ?_⟩
  rw [he]
  by_cases h0 : now.pE a x = 0
  · rw [if_pos h0, if_pos h0]
    have hg : now.gE a = 0 := by
      unfold Rsp.pE at h0
      by_cases hg : now.gE a = 0
      · exact hg
      · rw [if_neg hg] at h0
        exact absurd h0 hg
    have := h.shd.put h.ok1 h.nd x hg
    rw [h.len] at this
    have hu := (gE_zero h.ok1 hg).1
    refine h.to (now' := { now with pages := now.pages.set (now.ix a) x }) h.n1 ⟨h.ok1.lo, h.ok1.hi, ?_, h.ok1.tl⟩ this (by show (if (0 : Int) = a then x else f 0) = f 0; rw [if_neg (fun e => us_pos hu e.symm)])
    show (now.pages.set (now.ix a) x).length = _
    rw [List.length_set]
    exact h.ok1.pl
  · rw [if_neg h0, if_neg h0]
    exact h
theorem Pl.rel (h : Pl n d f now was) (hm : (f (mpg d)).size = 256) (a : Int) : gtE d f a = now.gE a ∧ Pl n d (if gtE d f a = 0 then rlF d f a else f) (if now.gE a = 0 then { now with taken := now.taken.set (now.ix a) false } else now) was := by
  have he := (h.get a).2
  refine ⟨he, ?_⟩
  rw [he]
  by_cases h0 : now.gE a = 0
  · rw [if_pos h0, if_pos h0]
    have := h.shd.rel h.ok1 h.nd hm h0
    rw [h.len] at this
    obtain ⟨_, _, _, _, b5⟩ := frs_small h.ok1.lo h.ok1.hi
    refine h.to (now' := { now with taken := now.taken.set (now.ix a) false }) h.n1 ⟨h.ok1.lo, h.ok1.hi, h.ok1.pl, ?_⟩ this ?_
    · show (now.taken.set (now.ix a) false).length = _
      rw [List.length_set]
      exact h.ok1.tl
    · unfold rlF
      rw [if_neg (by unfold mpg; rw [← h.nd]; omega)]
  · rw [if_neg h0, if_neg h0]
    exact h
theorem Pl.al (h : Pl n d f now was) (hm : (f (mpg d)).size = 256) (hf : frI now.taken < now.taken.length) : Pl n d (alF d f ((frs now.n : Int) + 1 + (frI now.taken : Int))) now.al was := by
  have := h.shd.al h.ok1 h.nd hm hf
  rw [h.len] at this
  have e : now.al = { now with pages := now.pages.set (frI now.taken) ⟨(zs 256).toArray⟩, taken := now.taken.set (frI now.taken) true } := by unfold Rsp.al; rw [if_pos hf]
  obtain ⟨_, _, _, _, b5⟩ := frs_small h.ok1.lo h.ok1.hi
  refine h.to (by rw [e]; exact h.n1) (by rw [e]; exact ⟨h.ok1.lo, h.ok1.hi, (by show (now.pages.set _ _).length = _; rw [List.length_set]; exact h.ok1.pl), (by show (now.taken.set _ _).length = _; rw [List.length_set]; exact h.ok1.tl)⟩) this ?_
  unfold alF
  rw [if_neg (by unfold mpg; rw [← h.nd]; omega), if_neg (by omega)]
theorem al_full (hf : ¬ frI now.taken < now.taken.length) : now.al = now := by unfold Rsp.al; rw [if_neg hf]
theorem Pl.hd (h : Pl n d f now was) (x : ByteArray) : Pl n d (if x.size = 248 then (fun b => if b = 0 then mkB d.bs.length ++ x else f b) else f) (if x.size = 248 then { now with top := x } else now) was := by
  by_cases hx : x.size = 248
  · rw [if_pos hx, if_pos hx]
    have := h.sh.head h.ok1 h.n1 d.bs.length x hx
    exact ⟨h.len, h.n1, h.n2, ⟨h.ok1.lo, h.ok1.hi, h.ok1.pl, h.ok1.tl⟩, h.ok2, this, h.sw, h.lf, h.z, by show laid n (if (0 : Int) = 0 then _ else _) = true; rw [if_pos rfl, h.len]; exact laid_mk n x, h.l1⟩
  · rw [if_neg hx, if_neg hx]
    exact h
theorem Pl.commit (h : Pl n d f now was) (hlen : d'.bs.length = d.bs.length) (hc : Cz f d'.bs) (hl : d'.lf < 0) : Pl n d' (onD d') now now := by
  have hl2 : d'.bs.length = n := hlen.trans h.len
  have hs : Shw n (onD d') now := h.sh.congr h.ok1 h.n1 (fun a ha => hc.onD (by rw [hl2]; exact ha))
  have h0 : onD d' 0 = f 0 := hc.onD (zero_pg _)
  exact ⟨hl2, h.n1, h.n1, h.ok1, h.ok1, hs, hs, hl, hc.1, by rw [h0]; exact h.l0, by rw [h0]; exact h.l0⟩
theorem Pl.undo (h : Pl n d f now was) : Pl n d (onD d) was was := ⟨h.len, h.n2, h.n2, h.ok2, h.ok2, h.sw, h.sw, h.lf, h.z, h.l1, h.l1⟩
/-- the disk's own pages -/
theorem Pl.cz (h : Pl n d f now was) (hok : d.Ok) : Cz (onD d) d.bs := ⟨h.z, fun a ha => onD_some hok ha⟩
end
/-- a Commit with the power on and no cut told -/
theorem commit_on {w : World} {S : Nat → Prop} {k q s N n : Nat} {d : Ds} {f : Int → ByteArray} {now was : Rsp} (hE : Env w) (h0 : ¬ S 0) (hz : Fit (d.lg.length + 5000)) (hp : Pl n d f now was) (h : Sv w S k q s d f N) :
    ∃ d', Pl n d' (onD d') now now ∧ d'.lg.length ≤ d.lg.length + 4000 ∧ Calls Tryz.prog 15 #[.pointer (some ⟨s, 0, none⟩)] w fun e w' => e = .returned (.int .i64 0) ∧ Sn w S k q s d' (onD d') N w' := by
  obtain ⟨hok, hdn, _⟩ := h.good
  obtain ⟨L, g1, g2, g3, _⟩ := scommit_sp hE h0 hz h
  obtain ⟨s1, c1⟩ := rz_cmt hok hdn (hp.cz hok) g1 g2
  rcases c1 with ⟨e0, h1, h2, h3⟩ | ⟨hl, _⟩
  · exact ⟨(cmt d L).2, hp.commit s1.len h2 (by rw [h3 hp.lf]; exact hp.lf), s1.lg, g3 e0⟩
  · have := hp.lf
    omega

/-- how the world stands between two acts -/
def Ws (w0 w : World) (g k q s n N G : Nat) : Prop := ∃ b1 b2 d f now was, Wo w0 w g k q s b1 b2 d f N now was ∧ Pl n d f now was ∧ d.lg.length ≤ G
section
variable {w0 w : World} {g k q s b1 b2 n : Nat} {d : Ds} {f : Int → ByteArray} {N : Nat} {now was : Rsp}
theorem Wo.good (h : Wo w0 w g k q s b1 b2 d f N now was) : d.Ok ∧ d.dn = false ∧ ∀ a, isPg d.bs.length a → (f a).size = 256 := by obtain ⟨_, _, _, h, _⟩ := h; exact h.good
theorem Wo.mono {M : Nat} (h : Wo w0 w g k q s b1 b2 d f N now was) (hm : N ≤ M) : Wo w0 w g k q s b1 b2 d f M now was := by
  obtain ⟨S, R1, R2, h1, h2⟩ := h
  exact ⟨S, R1, R2, h1.mono hm, h2⟩

theorem Wx.commit {p : Nat} {cs : Array Value} (hE : Env w0) (hz : Fit (d.lg.length + 5000)) (hp : Pl n d f now was) (h : Wx w0 w g k q s b1 b2 d f N now now p cs) : Calls Tryz.prog 15 #[.pointer (some ⟨s, 0, none⟩)] w fun e V => ∃ d', Pl n d' (onD d') now now ∧ d'.lg.length ≤ d.lg.length + 4000 ∧ e = .returned (.int .i64 0) ∧ Wx w0 V g k q s b1 b2 d' (onD d') N now now p cs := by
  have h' := h
  obtain ⟨S, R1, R2, h1, h2, h3, h4, h5, h6, h7, h8, h9, h10, h11, h12⟩ := h'
  have hpos := hE.pos
  obtain ⟨d', g1, g2, g3⟩ := commit_on (hE.on hpos h12) (fun h0 => by have := (h6 0 h0).2.2.2.2; omega) hz hp h1
  refine g3.mono fun e V hh => ⟨d', g1, g2, hh.1, ?_⟩
  obtain ⟨S', s1, s2⟩ := hh.2.sv
  have hk := hh.2.keep
  refine ⟨S', R1, R2, s1, hk.rr h2 (fun j hj hs => (h6 j hs).1 hj), hk.rr h3 (fun j hj hs => (h6 j hs).2.1 hj), hk.blk h4 (fun hg => (h6 g hg).2.2.1 rfl), hk.blk h5 (fun hg => (h6 p hg).2.2.2.1 rfl), fun j hj => ?_, h7, h8, h9, h10, h11, h12.trans (hk.below (fun j hj => (h6 j hj).2.2.2.2) h12.size)⟩
  rcases s2 j hj with t | t
  · exact h6 j t
  · have l1 := h4.lt
    have l2 := h5.lt
    exact ⟨fun hr => by have := h2.1 j hr; omega, fun hr => by have := h3.1 j hr; omega, by omega, by omega, Nat.le_trans h12.size t⟩

end

end Go.Proofs.YtglallhblcjffaaGreatDoor
