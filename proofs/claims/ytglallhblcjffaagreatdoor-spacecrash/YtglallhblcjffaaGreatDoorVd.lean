/-
  Plain: a Commit that was cut, and the openings behind it.
-/
import Derived.Test.YtglallhblcjffaaGreatDoorZ4
import Derived.Test.YtglallhblcjffaaGreatDoorZ9
import Derived.Test.YtglallhblcjffaaGreatDoorTz
namespace Go.Proofs.YtglallhblcjffaaGreatDoor
open Go.RowKit
set_option linter.unusedVariables false
set_option linter.unusedSimpArgs false
set_option maxRecDepth 100000

section
variable {w0 w : World} {g k q s b1 b2 n : Nat} {d : Ds} {f : Int → ByteArray} {N G : Nat} {now was : Rsp}
theorem Ws.mono {G' : Nat} (h : Ws w0 w g k q s n N G) (hg : G ≤ G') : Ws w0 w g k q s n N G' := by
  obtain ⟨b1, b2, d, f, now, was, h1, h2, h3⟩ := h
  exact ⟨b1, b2, d, f, now, was, h1, h2, Nat.le_trans h3 hg⟩
theorem Ws.below (h : Ws w0 w g k q s n N G) : Below w0.heap.size w0 w := by
  obtain ⟨b1, b2, d, f, now, was, ⟨_, _, _, _, _, _, _, _, _, _, _, h1⟩, _⟩ := h
  exact h1
theorem does_any (ak ap : Int) (ax : ByteArray) (hap : I64 ap) (hE : Env w0) (hN : N < 4611686018427380000) (hz : Fit (G + 5000)) (h : Ws w0 w g k q s n N G) :
    Calls Tryz.prog 10 #[.pointer (some ⟨g, 0, none⟩), .agg #[.int .i64 ak, .int .i64 ap, .string ax]] w fun e V => e = .returned (.bool true) ∧ Ws w0 V g k q s n (N + 5) (G + 4000) := by
  obtain ⟨b1, b2, d, f, now, was, h1, h2, h3⟩ := h
  have hz' : Fit (d.lg.length + 5000) := hz.le (by omega)
  have k1 := kd_lo ak (n := 10) (by decide)
  have k2 := kd_hi ak (n := 10) (by decide)
  have hc : Calls Tryz.prog 10 #[.pointer (some ⟨g, 0, none⟩), .agg #[.int .i64 ak, .int .i64 ap, .string ax]] w fun e V => e = .returned (.bool true) ∧ Ws w0 V g k q s n (N + 5) (d.lg.length + 4000) := by
    have hk : kd ak 10 = 0 ∨ kd ak 10 = 1 ∨ kd ak 10 = 2 ∨ kd ak 10 = 3 ∨ kd ak 10 = 4 ∨ kd ak 10 = 5 ∨ kd ak 10 = 6 ∨ kd ak 10 = 7 ∨ kd ak 10 = 8 ∨ kd ak 10 = 9 := by omega
    rcases hk with e | e | e | e | e | e | e | e | e | e
    · exact does_0 ak ap ax hap e hE hN hz' h2 h1
    · exact does_1 ak ap ax hap e hE hN hz' h2 h1
    · exact does_2 ak ap ax hap e hE hN hz' h2 h1
    · exact does_3 ak ap ax hap e hE hN hz' h2 h1
    · exact does_4 ak ap ax hap e hE hN hz' h2 h1
    · exact does_5 ak ap ax hap e hE hN hz' h2 h1
    · exact does_6 ak ap ax hap e hE hN hz' h2 h1
    · exact does_7 ak ap ax hap e hE hN hz' h2 h1
    · exact does_8 ak ap ax hap e hE hN hz' h2 h1
    · exact does_9 ak ap ax hap e hE hN hz' h2 h1
  exact hc.mono fun e V hh => ⟨hh.1, hh.2.mono (by omega)⟩
/-- how it begins -/
theorem begin_ws (a room : Int) (w : World) : Calls Tryz.prog 9 #[.int .i64 a, .int .i64 room] w fun e w' => ∃ g k q s, e = .returned (.pointer (some ⟨g, 0, none⟩)) ∧ Ws w w' g k q s (sz a) 1 5000 := by
  obtain ⟨y1, y2⟩ := sz_in a
  have kr : 1 ≤ 1 + (kd room 20).toNat ∧ 1 + (kd room 20).toNat ≤ 1024 := by
    have k1 := kd_lo room (n := 20) (by decide)
    have k2 := kd_hi room (n := 20) (by decide)
    omega
  obtain ⟨d, hd, hdl, hdo, hdn, hdf, hdg, hdz, hsh⟩ := Shw.nw y1 (by omega : sz a ≤ 2048) kr
  obtain ⟨_, _, _, _, c5, _⟩ := cmt_lay (nw_ok' y1 (by omega : sz a ≤ 2048)) (show (nw (sz a)).dn = false from rfl) kr (show (nw (sz a)).lf < 0 by show (-1 : Int) < 0; decide)
  rw [hd] at c5
  have h0 : onD d 0 = pg0 (sz a) := by
    rw [c5 0 (zero_pg _)]
    obtain ⟨_, _, _, _, b5⟩ := frs_small y1 (by omega : sz a ≤ 2048)
    unfold nwF mpg
    rw [nw_bs, if_neg (by omega), if_pos rfl]
  obtain ⟨d9, hd9, hc⟩ := lbegin_any a room w
  rw [hd] at hd9
  subst hd9
  rw [hdl] at hsh
  refine hc.mono fun e w' hh => ?_
  obtain ⟨g, k, q, s, b1, b2, e1, hw⟩ := hh
  have hok := rNewP_ok y1 (by omega : sz a ≤ 2048)
  exact ⟨g, k, q, s, e1, b1, b2, d, onD d, rNewP (sz a), rNewP (sz a), hw, ⟨hdl, rfl, rfl, hok, hok, hsh, hsh, by rw [hdf]; decide, hdz, by rw [h0]; exact laid_pg0 _, by rw [h0]; exact laid_pg0 _⟩, hdg⟩
theorem Wo.on {W : World} (h : Wo w0 w g k q s b1 b2 d f N now was) (hb : Below w.heap.size w W) : Wo w0 W g k q s b1 b2 d f N now was := by
  obtain ⟨S, R1, R2, h1, h2, h3, h4, h5, h6, h7, h8, h9⟩ := h
  exact ⟨S, R1, R2, h1.on hb, h2.on hb, h3.on hb, (Keep.of_below (S := fun _ => False) hb).blk h4 (fun h => h), h5, h6, h7, h8, h9.trans (hb.mono h9.size)⟩
theorem Wo.wcell (h : Wo w0 w g k q s b1 b2 d f N now was) {i : Nat} {x : Value} (hx : (wcs k s b1 b2)[i]? = some x) : w.cell? ⟨g, i, none⟩ = some x := by obtain ⟨_, _, _, _, _, _, h, _⟩ := h; exact h.cell hx
/-- same, of the space and what it is -/
theorem same_wo (hE : Env w0) (hN : N < 4611686018427380000) (hp : Pl n d f now was) (h : Wo w0 w g k q s b1 b2 d f N now was) :
    Calls Tryz.prog 11 #[.pointer (some ⟨s, 0, none⟩), .pointer (some ⟨b1, 0, none⟩)] w fun e V => e = .returned (.bool true) ∧ Wo w0 V g k q s b1 b2 d f (N + 3000) now was := by
  obtain ⟨S, R1, R2, h1, h2, h3, h4, h5, h6, h7, h8, h9⟩ := h
  have hpos := hE.pos
  refine (same_any (hE.on hpos h9) (fun h0 => by have := (h5 0 h0).2.2.2; omega) hN hp.ok1 hp.nd h1 h2 (fun j hj => (h5 j hj).1)).mono fun e V hh => ?_
  obtain ⟨⟨bl, e1, e2⟩, hs⟩ := hh
  rw [e2.2 hp.shd] at e1
  refine ⟨e1, ?_⟩
  obtain ⟨S', s1, s2⟩ := hs.sv
  have hk := hs.keep
  refine ⟨S', R1, R2, s1, hk.rr h2 (fun j hj hs => (h5 j hs).1 hj), hk.rr h3 (fun j hj hs => (h5 j hs).2.1 hj), hk.blk h4 (fun hg => (h5 g hg).2.2.1 rfl), fun j hj => ?_, h6, h7, h8, h9.trans (hk.below (fun j hj => (h5 j hj).2.2.2) h9.size)⟩
  rcases s2 j hj with t | t
  · exact h5 j t
  · have l1 := h4.lt
    exact ⟨fun hr => by have := h2.1 j hr; omega, fun hr => by have := h3.1 j hr; omega, by omega, Nat.le_trans h9.size t⟩
/-- a space opened on the disk, beside what was -/
def Wp (w0 w : World) (g k q s sx b1 b2 : Nat) (d : Ds) (N : Nat) (was : Rsp) : Prop :=
  ∃ S R2, Sv w S k q s d (onD d) N ∧ Rr w R2 b2 was ∧ Blk w g (wcs k sx b1 b2) 34 ∧ (∀ j, S j → ¬ R2 j ∧ w0.heap.size ≤ j) ∧ Below w0.heap.size w0 w
theorem Wp.cell {sx : Nat} (h : Wp w0 w g k q s sx b1 b2 d N was) : w.cell? ⟨g, 3, none⟩ = some (.pointer (some ⟨b2, 0, none⟩)) := by
  obtain ⟨_, _, _, _, h, _⟩ := h
  exact h.cell (i := 3) rfl
theorem open_wo (r : Nat) (hr : 1 ≤ r ∧ r ≤ 1024) (hE : Env w0) (hz : Fit (d.lg.length + 10000)) (hp : Pl n d f now was) (h : Wo w0 w g k q s b1 b2 d f N now was) :
    Calls Tryz.prog 12 #[.pointer (some ⟨k, 0, none⟩), .int .i64 (r : Nat)] w fun e W => ∃ q' s' d', e = .returned (.tuple #[.pointer (some ⟨s', 0, none⟩), .int .i64 0]) ∧ d'.bs.length = n ∧ Shw n (onD d') was ∧ Wp w0 W g k q' s' s b1 b2 d' 1 was := by
  obtain ⟨S, R1, R2, h1, h2, h3, h4, h5, h6, h7, h8, h9⟩ := h
  have hpos := hE.pos
  obtain ⟨hok, hdn, _⟩ := h1.good
  obtain ⟨D, hd, hg⟩ := (Sn.refl h1).sd.dk
  have hDS : ∀ j, D j → S j := fun j hj => by
    rcases hg j hj with t | t
    · exact t
    · have := hd.lt j hj
      omega
  refine (open_all r hr (hE.on hpos h9) (fun h0 => by have := (h5 0 (hDS 0 h0)).2.2.2; omega) hz hdn (.inl (hp.cz hok)) hd).mono fun e W hh => ?_
  rcases hh with ⟨q', s', d', e1, e2, e3, e4, e5, e6⟩ | ⟨hl, _⟩
  · rw [hp.len, LF_laid hp.l1] at e5
    have hln : d'.bs.length = n := e3.trans hp.len
    obtain ⟨S', s1, s2⟩ := e2.sv
    have hk := e2.keep
    refine ⟨q', s', d', e1, hln, hp.sw.congr hp.ok2 hp.n2 (fun a ha => e5.onD (by rw [hln]; exact ha)), S', R2, s1, hk.rr h3 (fun j hj hs => (h5 j (hDS j hs)).2.1 hj), hk.blk h4 (fun hg => (h5 g (hDS g hg)).2.2.1 rfl), fun j hj => ?_, h9.trans (hk.below (fun j hj => (h5 j (hDS j hj)).2.2.2) h9.size)⟩
    rcases s2 j hj with t | t
    · exact ⟨(h5 j (hDS j t)).2.1, (h5 j (hDS j t)).2.2.2⟩
    · exact ⟨fun hr => by have := h3.1 j hr; omega, Nat.le_trans h9.size t⟩
  · have := hp.lf
    omega
theorem same_wp {sx : Nat} (hE : Env w0) (hN : N < 4611686018427380000) (hok : was.Ok) (hn : was.n = n) (hl : d.bs.length = n) (hs : Shw n (onD d) was) (h : Wp w0 w g k q s sx b1 b2 d N was) :
    Calls Tryz.prog 11 #[.pointer (some ⟨s, 0, none⟩), .pointer (some ⟨b2, 0, none⟩)] w fun e V => e = .returned (.bool true) ∧ Below w0.heap.size w0 V := by
  obtain ⟨S, R2, h1, h2, h3, h4, h5⟩ := h
  have hpos := hE.pos
  refine (same_any (hE.on hpos h5) (fun h0 => by have := (h4 0 h0).2; omega) hN hok (hn.trans hl.symm) h1 h2 (fun j hj => (h4 j hj).1)).mono fun e V hh => ?_
  obtain ⟨⟨bl, e1, e2⟩, hsn⟩ := hh
  rw [e2.2 (by rw [hl]; exact hs)] at e1
  exact ⟨e1, h5.trans (hsn.keep.below (fun j hj => (h4 j hj).2) h5.size)⟩
end

/-- all of a space but its disk -/
def Sown (w : World) (U : Nat → Prop) (k q s : Nat) (d : Ds) (f : Int → ByteArray) (N : Nat) : Prop :=
  ∃ (p : Pp) (T : Nat → Prop), (∀ j, U j ↔ T j ∨ j = s) ∧ ¬ T s ∧ Sh w T k q p.room p.rd p.hs p.ch ∧ Blk w s #[.pointer (some ⟨k, 0, none⟩), .pointer (some ⟨q, 0, none⟩), .slice none 0 0] 80 ∧ SpG p N ∧ p.d = d ∧ ∀ b, vw p b = f b
section
variable {w W V : World} {S D U R : Nat → Prop} {k q s N : Nat} {d : Ds} {f : Int → ByteArray}
theorem Sv.split (h : Sv w S k q s d f N) : ∃ D U, Dk w D k d ∧ Sown w U k q s d f N ∧ (∀ j, S j ↔ D j ∨ U j) ∧ ∀ j, D j → ¬ U j := by
  obtain ⟨p, ⟨P, ⟨D, T, h1, h2, h3, h4⟩, h5, h6, h7⟩, h8, rfl, h9⟩ := h
  refine ⟨D, fun j => T j ∨ j = s, h3, ⟨p, T, fun j => Iff.rfl, fun ht => h7 ((h1 s).2 (.inr ht)), h4, h5, h8, rfl, h9⟩, fun j => ?_, fun j hj hu => ?_⟩
  · rw [h6, h1]
    constructor
    · rintro ((a | a) | a)
      · exact .inl a
      · exact .inr (.inl a)
      · exact .inr (.inr a)
    · rintro (a | a | a)
      · exact .inl (.inl a)
      · exact .inl (.inr a)
      · exact .inr a
  · rcases hu with a | rfl
    · exact h2 j hj a
    · exact h7 ((h1 j).2 (.inl hj))
theorem Sown.join (h : Sown w U k q s d f N) (hd : Dk w D k d) (hn : ∀ j, D j → ¬ U j) : Sv w (fun j => D j ∨ U j) k q s d f N := by
  obtain ⟨p, T, h1, h2, h3, h4, h5, rfl, h6⟩ := h
  refine ⟨p, ⟨fun j => D j ∨ T j, ⟨D, T, fun j => Iff.rfl, fun j hj ht => hn j hj ((h1 j).2 (.inl ht)), hd, h3⟩, h4, fun j => ?_, fun hs => ?_⟩, h5, rfl, h6⟩
  · show D j ∨ U j ↔ (D j ∨ T j) ∨ j = s
    rw [h1]
    constructor
    · rintro (a | a | a)
      · exact .inl (.inl a)
      · exact .inl (.inr a)
      · exact .inr a
    · rintro ((a | a) | a)
      · exact .inl a
      · exact .inr (.inl a)
      · exact .inr (.inr a)
  · rcases hs with a | a
    · exact hn s a ((h1 s).2 (.inr rfl))
    · exact h2 a
theorem Keep.sown (hk : Keep R w W) (h : Sown w U k q s d f N) (hn : ∀ j, U j → ¬ R j) : Sown W U k q s d f N := by
  obtain ⟨p, T, h1, h2, h3, h4, h5⟩ := h
  exact ⟨p, T, h1, h2, hk.sh h3 (fun j hj => hn j ((h1 j).2 (.inl hj))), hk.blk h4 (hn s ((h1 s).2 (.inr rfl))), h5⟩
theorem Sown.lt (h : Sown w U k q s d f N) : ∀ j, U j → j < w.heap.size := by
  obtain ⟨p, T, h1, h2, h3, h4, h5⟩ := h
  intro j hj
  rcases (h1 j).1 hj with a | rfl
  · exact h3.1 j a
  · exact h4.lt
theorem Sown.cut (h : Sown w U k q s d f N) (c : Int) (hc : -9223372036854775808 ≤ c ∧ c ≤ 9223372036854775807) : Sown w U k q s { d with lf := c } f N := by
  obtain ⟨p, T, h1, h2, h3, h4, h5, rfl, h6⟩ := h
  refine ⟨{ p with d := { p.d with lf := c } }, T, h1, h2, h3, h4, ⟨?_, h5.on, h5.vs, h5.np⟩, rfl, h6⟩
  have ho := h5.ok
  exact { ho with d := { ho.d with lf := hc } }
end

/-- the world, with a space that need not be the one that it names -/
def Wg (w0 w : World) (g k q s sx b1 b2 : Nat) (d : Ds) (f : Int → ByteArray) (N : Nat) (now was : Rsp) : Prop :=
  ∃ S R1 R2, Sv w S k q s d f N ∧ Rr w R1 b1 now ∧ Rr w R2 b2 was ∧ Blk w g (wcs k sx b1 b2) 34 ∧
    (∀ j, S j → ¬ R1 j ∧ ¬ R2 j ∧ j ≠ g ∧ w0.heap.size ≤ j) ∧ (∀ j, R1 j → ¬ R2 j ∧ j ≠ g ∧ w0.heap.size ≤ j) ∧ (∀ j, R2 j → j ≠ g ∧ w0.heap.size ≤ j) ∧ w0.heap.size ≤ g ∧ Below w0.heap.size w0 w
/-- the world, with its disk alone -/
def Wk (w0 w : World) (g k sx b1 b2 : Nat) (d : Ds) (now was : Rsp) : Prop :=
  ∃ D R1 R2, Dk w D k d ∧ Rr w R1 b1 now ∧ Rr w R2 b2 was ∧ Blk w g (wcs k sx b1 b2) 34 ∧
    (∀ j, D j → ¬ R1 j ∧ ¬ R2 j ∧ j ≠ g ∧ w0.heap.size ≤ j) ∧ (∀ j, R1 j → ¬ R2 j ∧ j ≠ g ∧ w0.heap.size ≤ j) ∧ (∀ j, R2 j → j ≠ g ∧ w0.heap.size ≤ j) ∧ w0.heap.size ≤ g ∧ Below w0.heap.size w0 w
section
variable {w0 w W V : World} {g k q s sx b1 b2 n q9 s9 : Nat} {d d' : Ds} {f f' h : Int → ByteArray} {N N' : Nat} {now was : Rsp} {F : Ending → World → Prop} {args : Array Value}
theorem Wo.wg (h : Wo w0 w g k q s b1 b2 d f N now was) : Wg w0 w g k q s s b1 b2 d f N now was := h
theorem Wg.wo (h : Wg w0 w g k q s s b1 b2 d f N now was) : Wo w0 w g k q s b1 b2 d f N now was := h
theorem Wg.below (h : Wg w0 w g k q s sx b1 b2 d f N now was) : Below w0.heap.size w0 w := by obtain ⟨_, _, _, _, _, _, _, _, _, _, _, h⟩ := h; exact h
theorem Wk.below (h : Wk w0 w g k sx b1 b2 d now was) : Below w0.heap.size w0 w := by obtain ⟨_, _, _, _, _, _, _, _, _, _, _, h⟩ := h; exact h
theorem Wg.good (h : Wg w0 w g k q s sx b1 b2 d f N now was) : d.Ok ∧ d.dn = false ∧ ∀ a, isPg d.bs.length a → (f a).size = 256 := by obtain ⟨_, _, _, h, _⟩ := h; exact h.good
theorem Wk.ok (h : Wk w0 w g k sx b1 b2 d now was) : d.Ok := by obtain ⟨_, _, _, h, _⟩ := h; exact h.ok
theorem Wg.wcell (h : Wg w0 w g k q s sx b1 b2 d f N now was) {i : Nat} {x : Value} (hx : (wcs k sx b1 b2)[i]? = some x) : w.cell? ⟨g, i, none⟩ = some x := by obtain ⟨_, _, _, _, _, _, h, _⟩ := h; exact h.cell hx
theorem Wg.free (h : Wg w0 w g k q s sx b1 b2 d f N now was) (i : Nat) : w.frozen? ⟨g, i, none⟩ = false := by obtain ⟨_, _, _, _, _, _, h, _⟩ := h; exact h.free i
theorem Wk.wcell (h : Wk w0 w g k sx b1 b2 d now was) {i : Nat} {x : Value} (hx : (wcs k sx b1 b2)[i]? = some x) : w.cell? ⟨g, i, none⟩ = some x := by obtain ⟨_, _, _, _, _, _, h, _⟩ := h; exact h.cell hx
theorem Wk.on (h : Wk w0 w g k sx b1 b2 d now was) (hb : Below w.heap.size w W) : Wk w0 W g k sx b1 b2 d now was := by
  obtain ⟨D, R1, R2, h1, h2, h3, h4, h5, h6, h7, h8, h9⟩ := h
  exact ⟨D, R1, R2, h1.on hb, h2.on hb, h3.on hb, (Keep.of_below (S := fun _ => False) hb).blk h4 (fun h => h), h5, h6, h7, h8, h9.trans (hb.mono h9.size)⟩
/-- a step that touches the space alone -/
theorem Wg.sn (h1 : ∃ S, Sv w S k q s d f N ∧ (∃ R1 R2, Rr w R1 b1 now ∧ Rr w R2 b2 was ∧ Blk w g (wcs k sx b1 b2) 34 ∧ (∀ j, S j → ¬ R1 j ∧ ¬ R2 j ∧ j ≠ g ∧ w0.heap.size ≤ j) ∧ (∀ j, R1 j → ¬ R2 j ∧ j ≠ g ∧ w0.heap.size ≤ j) ∧ (∀ j, R2 j → j ≠ g ∧ w0.heap.size ≤ j) ∧ w0.heap.size ≤ g ∧ Below w0.heap.size w0 w) ∧ Sn w S k q s d' f' N' V) : Wg w0 V g k q s sx b1 b2 d' f' N' now was := by
  obtain ⟨S, hs, ⟨R1, R2, h2, h3, h4, h5, h6, h7, h8, h9⟩, hn⟩ := h1
  obtain ⟨S', s1, s2⟩ := hn.sv
  have hk := hn.keep
  refine ⟨S', R1, R2, s1, hk.rr h2 (fun j hj hs => (h5 j hs).1 hj), hk.rr h3 (fun j hj hs => (h5 j hs).2.1 hj), hk.blk h4 (fun hg => (h5 g hg).2.2.1 rfl), fun j hj => ?_, h6, h7, h8, h9.trans (hk.below (fun j hj => (h5 j hj).2.2.2) h9.size)⟩
  rcases s2 j hj with t | t
  · exact h5 j t
  · have l1 := h4.lt
    exact ⟨fun hr => by have := h2.1 j hr; omega, fun hr => by have := h3.1 j hr; omega, by omega, Nat.le_trans h9.size t⟩
/-- a step that leaves the disk -/
theorem Wk.sd {D R1 R2 : Nat → Prop} (h2 : Rr w R1 b1 now) (h3 : Rr w R2 b2 was) (h4 : Blk w g (wcs k sx b1 b2) 34) (h5 : ∀ j, D j → ¬ R1 j ∧ ¬ R2 j ∧ j ≠ g ∧ w0.heap.size ≤ j) (h6 : ∀ j, R1 j → ¬ R2 j ∧ j ≠ g ∧ w0.heap.size ≤ j) (h7 : ∀ j, R2 j → j ≠ g ∧ w0.heap.size ≤ j) (h8 : w0.heap.size ≤ g) (h9 : Below w0.heap.size w0 w) (hn : Sd w D k d' V) : Wk w0 V g k sx b1 b2 d' now was := by
  obtain ⟨D', s1, s2⟩ := hn.dk
  have hk := hn.keep
  refine ⟨D', R1, R2, s1, hk.rr h2 (fun j hj hs => (h5 j hs).1 hj), hk.rr h3 (fun j hj hs => (h5 j hs).2.1 hj), hk.blk h4 (fun hg => (h5 g hg).2.2.1 rfl), fun j hj => ?_, h6, h7, h8, h9.trans (hk.below (fun j hj => (h5 j hj).2.2.2) h9.size)⟩
  rcases s2 j hj with t | t
  · exact h5 j t
  · have l1 := h4.lt
    exact ⟨fun hr => by have := h2.1 j hr; omega, fun hr => by have := h3.1 j hr; omega, by omega, Nat.le_trans h9.size t⟩
theorem cut_wg (c : Int) (hc : -9223372036854775808 ≤ c ∧ c ≤ 9223372036854775807) (h : Wg w0 w g k q s sx b1 b2 d f N now was) : Calls Tryz.prog 14 #[.pointer (some ⟨k, 0, none⟩), .int .i64 c] w fun e w' => e = .returned (.tuple #[]) ∧ Wg w0 w' g k q s sx b1 b2 { d with lf := c } f N now was := by
  obtain ⟨S, R1, R2, h1, h2, h3, h4, h5, h6, h7, h8, h9⟩ := h
  obtain ⟨D, U, d1, d2, d3, d4⟩ := h1.split
  refine (cut_any c hc w D k d d1).mono fun e V hh => ⟨hh.1, ?_⟩
  have hk := hh.2.2
  have hDS : ∀ j, D j → S j := fun j hj => (d3 j).2 (.inl hj)
  exact ⟨fun j => D j ∨ U j, R1, R2, (hk.sown (d2.cut c hc) (fun j hu hd => d4 j hd hu)).join hh.2.1 d4, hk.rr h2 (fun j hj hs => (h5 j (hDS j hs)).1 hj), hk.rr h3 (fun j hj hs => (h5 j (hDS j hs)).2.1 hj), hk.blk h4 (fun hg => (h5 g (hDS g hg)).2.2.1 rfl), fun j hj => h5 j ((d3 j).2 hj), h6, h7, h8, h9.trans (hk.below (fun j hj => (h5 j (hDS j hj)).2.2.2) h9.size)⟩
/-- what a Commit with a cut told leaves -/
theorem commit_wg (hE : Env w0) (hz : Fit (d.lg.length + 5000)) (hc : Cz f' d.bs) (h : Wg w0 w g k q s sx b1 b2 d f N now was) : Calls Tryz.prog 15 #[.pointer (some ⟨s, 0, none⟩)] w fun e V => ∃ (x : Nat) (d' : Ds) (hh : Int → ByteArray), e = .returned (.int .i64 (x : Nat)) ∧ Wk w0 V g k sx b1 b2 d' now was ∧ Rz hh d'.bs ∧ Stp d d' ∧ (hh = f ∨ (hh = f' ∧ x = 17)) ∧ (x = 0 ∨ x = 17) := by
  obtain ⟨S, R1, R2, h1, h2, h3, h4, h5, h6, h7, h8, h9⟩ := h
  have hpos := hE.pos
  obtain ⟨hok, hdn, _⟩ := h1.good
  obtain ⟨L, g1, g2, g3, g4⟩ := scommit_sp (hE.on hpos h9) (fun h0 => by have := (h5 0 h0).2.2.2; omega) hz h1
  obtain ⟨s1, c1⟩ := rz_cmt hok hdn hc g1 g2
  rcases c1 with ⟨e0, _, e2, _⟩ | ⟨_, e17, e2⟩
  · exact (g3 e0).mono fun e V hh => ⟨0, _, f, hh.1, Wk.sd h2 h3 h4 h5 h6 h7 h8 h9 hh.2.sd, .inl e2, s1, .inl rfl, .inl rfl⟩
  · rcases e2 with e2 | e2
    · exact (g4 e17).mono fun e V hh => ⟨17, _, f', hh.1, Wk.sd h2 h3 h4 h5 h6 h7 h8 h9 hh.2, e2, s1, .inr ⟨rfl, rfl⟩, .inr rfl⟩
    · exact (g4 e17).mono fun e V hh => ⟨17, _, f, hh.1, Wk.sd h2 h3 h4 h5 h6 h7 h8 h9 hh.2, e2, s1, .inl rfl, .inr rfl⟩
theorem cut_wk (c : Int) (hc : -9223372036854775808 ≤ c ∧ c ≤ 9223372036854775807) (h : Wk w0 w g k sx b1 b2 d now was) : Calls Tryz.prog 14 #[.pointer (some ⟨k, 0, none⟩), .int .i64 c] w fun e V => e = .returned (.tuple #[]) ∧ Wk w0 V g k sx b1 b2 { d with lf := c } now was := by
  obtain ⟨D, R1, R2, h1, h2, h3, h4, h5, h6, h7, h8, h9⟩ := h
  exact (cut_any c hc w D k d h1).mono fun e V hh => ⟨hh.1, Wk.sd h2 h3 h4 h5 h6 h7 h8 h9 ⟨⟨D, hh.2.1, Grows.refl _ _⟩, hh.2.2⟩⟩
theorem restore_wk (h : Wk w0 w g k sx b1 b2 d now was) : Calls Tryz.prog 16 #[.pointer (some ⟨k, 0, none⟩)] w fun e V => e = .returned (.tuple #[]) ∧ Wk w0 V g k sx b1 b2 { d with lf := -1, dn := false } now was := by
  obtain ⟨D, R1, R2, h1, h2, h3, h4, h5, h6, h7, h8, h9⟩ := h
  exact (restore_any w D k d h1).mono fun e V hh => ⟨hh.1, Wk.sd h2 h3 h4 h5 h6 h7 h8 h9 ⟨⟨D, hh.2.1, Grows.refl _ _⟩, hh.2.2⟩⟩
theorem Wg.wk (h : Wg w0 w g k q s sx b1 b2 d f N now was) : Wk w0 w g k sx b1 b2 d now was := by
  obtain ⟨S, R1, R2, h1, h2, h3, h4, h5, h6, h7, h8, h9⟩ := h
  exact Wk.sd h2 h3 h4 h5 h6 h7 h8 h9 (Sn.refl h1).sd
/-- opened -/
theorem open_wk (r : Nat) (hr : 1 ≤ r ∧ r ≤ 1024) (hE : Env w0) (hz : Fit (d.lg.length + 10000)) (hdn : d.dn = false) (hf : Rz h d.bs) (hla : laid d.bs.length (h 0) = true) (hw : Wk w0 w g k sx b1 b2 d now was) :
    Calls Tryz.prog 12 #[.pointer (some ⟨k, 0, none⟩), .int .i64 (r : Nat)] w fun e V => (∃ q s d', e = .returned (.tuple #[.pointer (some ⟨s, 0, none⟩), .int .i64 0]) ∧ Wg w0 V g k q s sx b1 b2 d' (onD d') 1 now was ∧ d'.bs.length = d.bs.length ∧ d'.lg.length ≤ d.lg.length + 8000 ∧ Cz h d'.bs ∧ (d.lf < 0 → d'.lf = d.lf)) ∨ (0 ≤ d.lf ∧ e = .returned (.tuple #[.pointer none, .int .i64 17]) ∧ ∃ d', Wk w0 V g k sx b1 b2 d' now was ∧ d'.bs.length = d.bs.length ∧ d'.lg.length ≤ d.lg.length + 8000 ∧ Rz h d'.bs) := by
  obtain ⟨D, R1, R2, h1, h2, h3, h4, h5, h6, h7, h8, h9⟩ := hw
  have hpos := hE.pos
  refine (open_all r hr (hE.on hpos h9) (fun h0 => by have := (h5 0 h0).2.2.2; omega) hz hdn hf h1).mono fun e V hh => ?_
  rcases hh with ⟨q, s, d', e1, e2, e3, e4, e5, e6⟩ | ⟨e0, e1, d', e2, e3, e4, e5⟩
  · rw [LF_laid hla] at e5
    refine .inl ⟨q, s, d', e1, ?_, e3, e4, e5, e6⟩
    obtain ⟨S', s1, s2⟩ := e2.sv
    have hk := e2.keep
    refine ⟨S', R1, R2, s1, hk.rr h2 (fun j hj hs => (h5 j hs).1 hj), hk.rr h3 (fun j hj hs => (h5 j hs).2.1 hj), hk.blk h4 (fun hg => (h5 g hg).2.2.1 rfl), fun j hj => ?_, h6, h7, h8, h9.trans (hk.below (fun j hj => (h5 j hj).2.2.2) h9.size)⟩
    rcases s2 j hj with t | t
    · exact h5 j t
    · have l1 := h4.lt
      exact ⟨fun hr => by have := h2.1 j hr; omega, fun hr => by have := h3.1 j hr; omega, by omega, Nat.le_trans h9.size t⟩
  · rw [LF_laid hla] at e5
    exact .inr ⟨e0, e1, d', Wk.sd h2 h3 h4 h5 h6 h7 h8 h9 e2, e3, e4, e5.elim id id⟩
/-- same, with what it is; with what it was -/
theorem same_wg1 (hE : Env w0) (hN : N < 4611686018427380000) (hok : now.Ok) (hn : now.n = d.bs.length) (h : Wg w0 w g k q s sx b1 b2 d f N now was) :
    Calls Tryz.prog 11 #[.pointer (some ⟨s, 0, none⟩), .pointer (some ⟨b1, 0, none⟩)] w fun e V => Same e d.bs.length f now ∧ Wg w0 V g k q s sx b1 b2 d f (N + 3000) now was := by
  obtain ⟨S, R1, R2, h1, h2, h3, h4, h5, h6, h7, h8, h9⟩ := h
  have hpos := hE.pos
  exact (same_any (hE.on hpos h9) (fun h0 => by have := (h5 0 h0).2.2.2; omega) hN hok hn h1 h2 (fun j hj => (h5 j hj).1)).mono fun e V hh => ⟨hh.1, Wg.sn ⟨S, h1, ⟨R1, R2, h2, h3, h4, h5, h6, h7, h8, h9⟩, hh.2⟩⟩
theorem same_wg2 (hE : Env w0) (hN : N < 4611686018427380000) (hok : was.Ok) (hn : was.n = d.bs.length) (h : Wg w0 w g k q s sx b1 b2 d f N now was) :
    Calls Tryz.prog 11 #[.pointer (some ⟨s, 0, none⟩), .pointer (some ⟨b2, 0, none⟩)] w fun e V => Same e d.bs.length f was ∧ Wg w0 V g k q s sx b1 b2 d f (N + 3000) now was := by
  obtain ⟨S, R1, R2, h1, h2, h3, h4, h5, h6, h7, h8, h9⟩ := h
  have hpos := hE.pos
  exact (same_any (hE.on hpos h9) (fun h0 => by have := (h5 0 h0).2.2.2; omega) hN hok hn h1 h3 (fun j hj => (h5 j hj).2.1)).mono fun e V hh => ⟨hh.1, Wg.sn ⟨S, h1, ⟨R1, R2, h2, h3, h4, h5, h6, h7, h8, h9⟩, hh.2⟩⟩
/-- copies -/
theorem Wg.copyNow (hok : now.Ok) (h : Wg w0 w g k q s sx b1 b2 d f N now was) : Calls Tryz.prog 17 #[.pointer (some ⟨b1, 0, none⟩)] w fun e W => ∃ b, e = .returned (.pointer (some ⟨b, 0, none⟩)) ∧ W.cell? ⟨g, 3, none⟩ = some (.pointer (some ⟨b2, 0, none⟩)) ∧ W.frozen? ⟨g, 3, none⟩ = false ∧ Wg w0 (W.setCell ⟨g, 3, none⟩ (.pointer (some ⟨b, 0, none⟩))) g k q s sx b1 b d f N now now := by
  obtain ⟨S, R1, R2, h1, h2, h3, h4, h5, h6, h7, h8, h9⟩ := h
  refine (rCopy_any hok h2).mono fun e W hh => ?_
  obtain ⟨b, e1, hr⟩ := hh
  have hb := hr.below
  have hk : Keep (fun j => j = g) W (W.setCell ⟨g, 3, none⟩ (.pointer (some ⟨b, 0, none⟩))) := Keep.set (S := fun j => j = g) W rfl 3 _
  have l1 := h4.lt
  have g4 := (Keep.of_below (S := fun _ => False) hb).blk h4 (fun h => h)
  refine ⟨b, e1, g4.cell (i := 3) rfl, g4.free 3, S, R1, fun j => w.heap.size ≤ j ∧ j < W.heap.size, hk.sv (h1.on hb) (fun j hj => (h5 j hj).2.2.1), hk.rr (h2.on hb) (fun j hj => (h6 j hj).2.1), hk.rr hr.rr (fun j hj e => by omega), g4.set 3 _, fun j hj => ?_, fun j hj => ?_, fun j hj => ?_, h8, (h9.trans (hb.mono h9.size)).trans (hk.below (fun j hj => by rw [hj]; exact h8) (Nat.le_trans h9.size hb.size))⟩
  · have := h1.lt j hj
    exact ⟨(h5 j hj).1, fun hx => by omega, (h5 j hj).2.2⟩
  · have := h2.1 j hj
    exact ⟨fun hx => by omega, (h6 j hj).2⟩
  · have := h9.size
    exact ⟨by omega, by omega⟩
theorem Wg.copyWas (hok : was.Ok) (h : Wg w0 w g k q s sx b1 b2 d f N now was) : Calls Tryz.prog 17 #[.pointer (some ⟨b2, 0, none⟩)] w fun e W => ∃ b, e = .returned (.pointer (some ⟨b, 0, none⟩)) ∧ W.cell? ⟨g, 2, none⟩ = some (.pointer (some ⟨b1, 0, none⟩)) ∧ W.frozen? ⟨g, 2, none⟩ = false ∧ Wg w0 (W.setCell ⟨g, 2, none⟩ (.pointer (some ⟨b, 0, none⟩))) g k q s sx b b2 d f N was was := by
  obtain ⟨S, R1, R2, h1, h2, h3, h4, h5, h6, h7, h8, h9⟩ := h
  refine (rCopy_any hok h3).mono fun e W hh => ?_
  obtain ⟨b, e1, hr⟩ := hh
  have hb := hr.below
  have hk : Keep (fun j => j = g) W (W.setCell ⟨g, 2, none⟩ (.pointer (some ⟨b, 0, none⟩))) := Keep.set (S := fun j => j = g) W rfl 2 _
  have l1 := h4.lt
  have g4 := (Keep.of_below (S := fun _ => False) hb).blk h4 (fun h => h)
  refine ⟨b, e1, g4.cell (i := 2) rfl, g4.free 2, S, fun j => w.heap.size ≤ j ∧ j < W.heap.size, R2, hk.sv (h1.on hb) (fun j hj => (h5 j hj).2.2.1), hk.rr hr.rr (fun j hj e => by omega), hk.rr (h3.on hb) (fun j hj => (h7 j hj).1), g4.set 2 _, fun j hj => ?_, fun j hj => ?_, h7, h8, (h9.trans (hb.mono h9.size)).trans (hk.below (fun j hj => by rw [hj]; exact h8) (Nat.le_trans h9.size hb.size))⟩
  · have := h1.lt j hj
    exact ⟨fun hx => by omega, (h5 j hj).2⟩
  · have := h9.size
    exact ⟨fun hr => by have := h3.1 j hr; omega, by omega, by omega⟩
/-- the world names the space -/
theorem Wg.setS (h : Wg w0 w g k q s sx b1 b2 d f N now was) : Wg w0 (w.setCell ⟨g, 1, none⟩ (.pointer (some ⟨s, 0, none⟩))) g k q s s b1 b2 d f N now was := by
  obtain ⟨S, R1, R2, h1, h2, h3, h4, h5, h6, h7, h8, h9⟩ := h
  have hk : Keep (fun j => j = g) w (w.setCell ⟨g, 1, none⟩ (.pointer (some ⟨s, 0, none⟩))) := Keep.set (S := fun j => j = g) w rfl 1 _
  exact ⟨S, R1, R2, hk.sv h1 (fun j hj => (h5 j hj).2.2.1), hk.rr h2 (fun j hj => (h6 j hj).2.1), hk.rr h3 (fun j hj => (h7 j hj).1), h4.set 1 _, h5, h6, h7, h8, h9.trans (hk.below (fun j hj => by rw [hj]; exact h8) h9.size)⟩
/-- two spaces over one disk -/
def W2 (w0 w : World) (g k q s sx b1 b2 : Nat) (d : Ds) (f : Int → ByteArray) (N : Nat) (now was : Rsp) (q9 s9 : Nat) : Prop :=
  ∃ S U R1 R2, Sv w S k q9 s9 d (onD d) 1 ∧ Sown w U k q s d f N ∧ Rr w R1 b1 now ∧ Rr w R2 b2 was ∧ Blk w g (wcs k sx b1 b2) 34 ∧
    (∀ j, S j → ¬ U j ∧ ¬ R1 j ∧ ¬ R2 j ∧ j ≠ g ∧ w0.heap.size ≤ j) ∧ (∀ j, U j → ¬ R1 j ∧ ¬ R2 j ∧ j ≠ g ∧ w0.heap.size ≤ j) ∧ (∀ j, R1 j → ¬ R2 j ∧ j ≠ g ∧ w0.heap.size ≤ j) ∧ (∀ j, R2 j → j ≠ g ∧ w0.heap.size ≤ j) ∧ w0.heap.size ≤ g ∧ Below w0.heap.size w0 w
theorem W2.wcell (h : W2 w0 w g k q s sx b1 b2 d f N now was q9 s9) {i : Nat} {x : Value} (hx : (wcs k sx b1 b2)[i]? = some x) : w.cell? ⟨g, i, none⟩ = some x := by obtain ⟨_, _, _, _, _, _, _, _, h, _⟩ := h; exact h.cell hx
theorem again_wg (r : Nat) (hr : 1 ≤ r ∧ r ≤ 1024) (hE : Env w0) (hz : Fit (d.lg.length + 1500)) (hb1 : d.bs[1]? = some Z) (hla : laid d.bs.length (onD d 0) = true) (h : Wg w0 w g k q s sx b1 b2 d f N now was) :
    Calls Tryz.prog 12 #[.pointer (some ⟨k, 0, none⟩), .int .i64 (r : Nat)] w fun e V => ∃ q9 s9, e = .returned (.tuple #[.pointer (some ⟨s9, 0, none⟩), .int .i64 0]) ∧ W2 w0 V g k q s sx b1 b2 d f N now was q9 s9 := by
  obtain ⟨S, R1, R2, h1, h2, h3, h4, h5, h6, h7, h8, h9⟩ := h
  obtain ⟨hok, hdn, _⟩ := h1.good
  obtain ⟨D, U, d1, d2, d3, d4⟩ := h1.split
  have hrc := recv_old hdn hb1
  have hop := open_laid (w := w) (D := D) (k := k) (d := d) r hr hz (by rw [hrc]) (by rw [hrc]; exact hdn) (by rw [hrc]; exact hla) d1
  rw [hrc] at hop
  refine hop.mono fun e V hh => ?_
  obtain ⟨q9, s9, e1, hn⟩ := hh
  obtain ⟨S9, s1, s2⟩ := hn.sv
  have hk := hn.keep
  have hDS : ∀ j, D j → S j := fun j hj => (d3 j).2 (.inl hj)
  have hUS : ∀ j, U j → S j := fun j hj => (d3 j).2 (.inr hj)
  refine ⟨q9, s9, e1, S9, U, R1, R2, s1, hk.sown d2 (fun j hu hd => d4 j hd hu), hk.rr h2 (fun j hj hs => (h5 j (hDS j hs)).1 hj), hk.rr h3 (fun j hj hs => (h5 j (hDS j hs)).2.1 hj), hk.blk h4 (fun hg => (h5 g (hDS g hg)).2.2.1 rfl), fun j hj => ?_, fun j hj => h5 j (hUS j hj), h6, h7, h8, h9.trans (hk.below (fun j hj => (h5 j (hDS j hj)).2.2.2) h9.size)⟩
  rcases s2 j hj with t | t
  · exact ⟨d4 j t, h5 j (hDS j t)⟩
  · have l1 := h4.lt
    exact ⟨fun hu => by have := d2.lt j hu; omega, fun hr => by have := h2.1 j hr; omega, fun hr => by have := h3.1 j hr; omega, by omega, Nat.le_trans h9.size t⟩
theorem same_w2 (hE : Env w0) (hok : was.Ok) (hn : was.n = d.bs.length) (h : W2 w0 w g k q s sx b1 b2 d f N now was q9 s9) :
    Calls Tryz.prog 11 #[.pointer (some ⟨s9, 0, none⟩), .pointer (some ⟨b2, 0, none⟩)] w fun e V => Same e d.bs.length (onD d) was ∧ Wg w0 V g k q s sx b1 b2 d f N now was := by
  obtain ⟨S, U, R1, R2, h1, h2, h3, h4, h5, h6, h7, h8, h9, h10, h11⟩ := h
  have hpos := hE.pos
  refine (same_any (hE.on hpos h11) (fun h0 => by have := (h6 0 h0).2.2.2.2; omega) (by decide) hok hn h1 h4 (fun j hj => (h6 j hj).2.2.1)).mono fun e V hh => ⟨hh.1, ?_⟩
  obtain ⟨S', s1, s2⟩ := hh.2.sv
  have hk := hh.2.keep
  obtain ⟨D', U', d1, d2, d3, d4⟩ := s1.split
  have hD' : ∀ j, D' j → ¬ U j ∧ ¬ R1 j ∧ ¬ R2 j ∧ j ≠ g ∧ w0.heap.size ≤ j := fun j hj => by
    rcases s2 j ((d3 j).2 (.inl hj)) with t | t
    · exact h6 j t
    · have l1 := h5.lt
      exact ⟨fun hu => by have := h2.lt j hu; omega, fun hr => by have := h3.1 j hr; omega, fun hr => by have := h4.1 j hr; omega, by omega, Nat.le_trans h11.size t⟩
  refine ⟨fun j => D' j ∨ U j, R1, R2, (hk.sown h2 (fun j hu hs => (h6 j hs).1 hu)).join d1 (fun j hj => (hD' j hj).1), hk.rr h3 (fun j hj hs => (h6 j hs).2.1 hj), hk.rr h4 (fun j hj hs => (h6 j hs).2.2.1 hj), hk.blk h5 (fun hg => (h6 g hg).2.2.2.1 rfl), fun j hj => ?_, h8, h9, h10, h11.trans (hk.below (fun j hj => (h6 j hj).2.2.2.2) h11.size)⟩
  rcases hj with a | a
  · exact (hD' j a).2
  · exact h7 j a
end

/-- a disk behind a cut: what its pages come to -/
structure Lk (n : Nat) (hh : Int → ByteArray) (G : Nat) (d : Ds) : Prop where
  len : d.bs.length = n
  lg : d.lg.length ≤ G
  dn : d.dn = false
  lf : d.lf < 0
  rz : Rz hh d.bs
/-- what a Commit that answered x left of the pages -/
structure Cr (n : Nat) (hh : Int → ByteArray) (now was : Rsp) (x : Nat) : Prop where
  la : laid n (hh 0) = true
  sh : Shw n hh now ∨ (Shw n hh was ∧ x = 17)
section
variable {w0 w : World} {g k q s sx b1 b2 n : Nat} {d d' : Ds} {f hh : Int → ByteArray} {N G x : Nat} {now was : Rsp}
theorem Pl.cr (h : Pl n d f now was) (hc : hh = f ∨ (hh = onD d ∧ x = 17)) : Cr n hh now was x := by
  rcases hc with rfl | ⟨rfl, rfl⟩
  · exact ⟨h.l0, .inl h.sh⟩
  · exact ⟨h.l1, .inr ⟨h.sw, rfl⟩⟩
/-- opened with a cut told, its answer let go -/
theorem open_lk (r : Nat) (hr : 1 ≤ r ∧ r ≤ 1024) (hE : Env w0) (lf : Int) (hz : Fit (G + 10000)) (hl : Lk n hh G d) (hla : laid n (hh 0) = true) (h : Wk w0 w g k sx b1 b2 { d with lf := lf } now was) :
    Calls Tryz.prog 12 #[.pointer (some ⟨k, 0, none⟩), .int .i64 (r : Nat)] w fun e V => ∃ (p : Option Addr) (y : Int) (d' : Ds), e = .returned (.tuple #[.pointer p, .int .i64 y]) ∧ Wk w0 V g k sx b1 b2 d' now was ∧ Lk n hh (G + 8000) { d' with lf := -1, dn := false } := by
  have hln := hl.len
  refine (open_wk (d := { d with lf := lf }) (h := hh) r hr hE (hz.le (by show d.lg.length + 10000 ≤ _; have := hl.lg; omega)) hl.dn hl.rz (by show laid d.bs.length _ = true; rw [hln]; exact hla) h).mono fun e V h5 => ?_
  rcases h5 with ⟨q, s, d', e1, e2, e3, e4, e5, _⟩ | ⟨_, e1, d', e2, e3, e4, e5⟩
  · have e4' : d'.lg.length ≤ d.lg.length + 8000 := e4
    exact ⟨_, _, d', e1, e2.wk, ⟨e3.trans hln, by have := hl.lg; show d'.lg.length ≤ _; omega, rfl, by show (-1 : Int) < 0; decide, .inl e5⟩⟩
  · have e4' : d'.lg.length ≤ d.lg.length + 8000 := e4
    exact ⟨_, _, d', e1, e2, ⟨e3.trans hln, by have := hl.lg; show d'.lg.length ≤ _; omega, rfl, by show (-1 : Int) < 0; decide, e5⟩⟩
/-- opened with no cut told -/
theorem open_end (r : Nat) (hr : 1 ≤ r ∧ r ≤ 1024) (hE : Env w0) (hz : Fit (G + 10000)) (hl : Lk n hh G d) (hla : laid n (hh 0) = true) (h : Wk w0 w g k sx b1 b2 d now was) :
    Calls Tryz.prog 12 #[.pointer (some ⟨k, 0, none⟩), .int .i64 (r : Nat)] w fun e V => ∃ q s d', e = .returned (.tuple #[.pointer (some ⟨s, 0, none⟩), .int .i64 0]) ∧ Wg w0 V g k q s sx b1 b2 d' (onD d') 1 now was ∧ d'.bs.length = n ∧ d'.lg.length ≤ G + 8000 ∧ Cz hh d'.bs ∧ d'.lf < 0 := by
  have hln := hl.len
  refine (open_wk (d := d) (h := hh) r hr hE (hz.le (by have := hl.lg; omega)) hl.dn hl.rz (by rw [hln]; exact hla) h).mono fun e V h5 => ?_
  rcases h5 with ⟨q, s, d', e1, e2, e3, e4, e5, e6⟩ | ⟨h0, _⟩
  · exact ⟨q, s, d', e1, e2, e3.trans hln, by have := hl.lg; omega, e5, by rw [e6 hl.lf]; exact hl.lf⟩
  · have := hl.lf
    omega
/-- what is shown behind the opening -/
theorem Cr.shown (h : Cr n hh now was x) (h1 : now.Ok) (h2 : was.Ok) (n1 : now.n = n) (n2 : was.n = n) (hl : d.bs.length = n) (hc : Cz hh d.bs) : laid n (onD d 0) = true ∧ (Shw n (onD d) now ∨ (Shw n (onD d) was ∧ x = 17)) := by
  refine ⟨by rw [hc.onD (zero_pg _)]; exact h.la, ?_⟩
  rcases h.sh with a | ⟨a, b⟩
  · exact .inl (a.congr h1 n1 (fun c hp => hc.onD (by rw [hl]; exact hp)))
  · exact .inr ⟨a.congr h2 n2 (fun c hp => hc.onD (by rw [hl]; exact hp)), b⟩
/-- and so it goes on -/
theorem crash_ws (hok : was.Ok) (hn : was.n = n) (hl : d.bs.length = n) (hlg : d.lg.length ≤ G) (hlf : d.lf < 0) (hz : d.bs[1]? = some Z) (hs : Shw n (onD d) was) (hla : laid n (onD d 0) = true) {M : Nat} (hM : N ≤ M) (h : Wg w0 w g k q s s b1 b2 d (onD d) N was was) : Ws w0 w g k q s n M G :=
  ⟨b1, b2, d, onD d, was, was, Wo.mono h.wo hM, ⟨hl, hn, hn, hok, hok, hs, hs, hlf, hz, hla, hla⟩, hlg⟩
theorem Ws.monoN {M : Nat} (h : Ws w0 w g k q s n N G) (hm : N ≤ M) : Ws w0 w g k q s n M G := by
  obtain ⟨b1, b2, d, f, now, was, h1, h2, h3⟩ := h
  exact ⟨b1, b2, d, f, now, was, Wo.mono h1 hm, h2, h3⟩
end

end Go.Proofs.YtglallhblcjffaaGreatDoor
