/-
  Acts one behind the other; the space and its disk at the end.
-/
import Derived.Test.YtglallhblcjffaaGreatDoorZ4
import Derived.Test.YtglallhblcjffaaGreatDoorZ9
namespace Go.Proofs.YtglallhblcjffaaGreatDoor
open Go.RowKit
set_option linter.unusedVariables false
set_option linter.unusedSimpArgs false
set_option maxRecDepth 100000

section
variable {w0 w : World} {g k q s b1 b2 n : Nat} {d : Ds} {f : Int → ByteArray} {N G : Nat} {now was : Rsp}
theorem Ws.mono {G' : Nat} (h : Ws w0 w g k q s n N G) (hg : G ≤ G') : Ws w0 w g k q s n N G' := by
  obtain ⟨b1, b2, d, f, now, was, h1, h2, h3⟩ := h
  exact ⟨b1, b2, d, f, now, was, h1, h2, Nat.le_trans h3 hg⟩
theorem Ws.below (h : Ws w0 w g k q s n N G) : Below w0.heap.size w0 w := by
  obtain ⟨b1, b2, d, f, now, was, ⟨_, _, _, _, _, _, _, _, _, _, _, h1⟩, _⟩ := h
  exact h1
theorem does_any (ak ap : Int) (ax : ByteArray) (hap : I64 ap) (hE : Env w0) (hN : N < 4611686018427380000) (hz : Fit (G + 5000)) (h : Ws w0 w g k q s n N G) :
    Calls Tryz.prog 10 #[.pointer (some ⟨g, 0, none⟩), .agg #[.int .i64 ak, .int .i64 ap, .string ax]] w fun e V => e = .returned (.bool true) ∧ Ws w0 V g k q s n (N + 5) (G + 4000) := by
  obtain ⟨b1, b2, d, f, now, was, h1, h2, h3⟩ := h
  have hz' : Fit (d.lg.length + 5000) := hz.le (by omega)
  have k1 := kd_lo ak (n := 10) (by decide)
  have k2 := kd_hi ak (n := 10) (by decide)
  have hc : Calls Tryz.prog 10 #[.pointer (some ⟨g, 0, none⟩), .agg #[.int .i64 ak, .int .i64 ap, .string ax]] w fun e V => e = .returned (.bool true) ∧ Ws w0 V g k q s n (N + 5) (d.lg.length + 4000) := by
    have hk : kd ak 10 = 0 ∨ kd ak 10 = 1 ∨ kd ak 10 = 2 ∨ kd ak 10 = 3 ∨ kd ak 10 = 4 ∨ kd ak 10 = 5 ∨ kd ak 10 = 6 ∨ kd ak 10 = 7 ∨ kd ak 10 = 8 ∨ kd ak 10 = 9 := by omega
    rcases hk with e | e | e | e | e | e | e | e | e | e
    · exact does_0 ak ap ax hap e hE hN hz' h2 h1
    · exact does_1 ak ap ax hap e hE hN hz' h2 h1
    · exact does_2 ak ap ax hap e hE hN hz' h2 h1
    · exact does_3 ak ap ax hap e hE hN hz' h2 h1
    · exact does_4 ak ap ax hap e hE hN hz' h2 h1
    · exact does_5 ak ap ax hap e hE hN hz' h2 h1
    · exact does_6 ak ap ax hap e hE hN hz' h2 h1
    · exact does_7 ak ap ax hap e hE hN hz' h2 h1
    · exact does_8 ak ap ax hap e hE hN hz' h2 h1
    · exact does_9 ak ap ax hap e hE hN hz' h2 h1
  exact hc.mono fun e V hh => ⟨hh.1, hh.2.mono (by omega)⟩
/-- how it begins -/
theorem begin_ws (a room : Int) (w : World) : Calls Tryz.prog 9 #[.int .i64 a, .int .i64 room] w fun e w' => ∃ g k q s, e = .returned (.pointer (some ⟨g, 0, none⟩)) ∧ Ws w w' g k q s (sz a) 1 5000 := by
  obtain ⟨y1, y2⟩ := sz_in a
  have kr : 1 ≤ 1 + (kd room 20).toNat ∧ 1 + (kd room 20).toNat ≤ 1024 := by
    have k1 := kd_lo room (n := 20) (by decide)
    have k2 := kd_hi room (n := 20) (by decide)
    omega
  obtain ⟨d, hd, hdl, hdo, hdn, hdf, hdg, hdz, hsh⟩ := Shw.nw y1 (by omega : sz a ≤ 2048) kr
  obtain ⟨_, _, _, _, c5, _⟩ := cmt_lay (nw_ok' y1 (by omega : sz a ≤ 2048)) (show (nw (sz a)).dn = false from rfl) kr (show (nw (sz a)).lf < 0 by show (-1 : Int) < 0; decide)
  rw [hd] at c5
  have h0 : onD d 0 = pg0 (sz a) := by
    rw [c5 0 (zero_pg _)]
    obtain ⟨_, _, _, _, b5⟩ := frs_small y1 (by omega : sz a ≤ 2048)
    unfold nwF mpg
    rw [nw_bs, if_neg (by omega), if_pos rfl]
  obtain ⟨d9, hd9, hc⟩ := lbegin_any a room w
  rw [hd] at hd9
  subst hd9
  rw [hdl] at hsh
  refine hc.mono fun e w' hh => ?_
  obtain ⟨g, k, q, s, b1, b2, e1, hw⟩ := hh
  have hok := rNewP_ok y1 (by omega : sz a ≤ 2048)
  exact ⟨g, k, q, s, e1, b1, b2, d, onD d, rNewP (sz a), rNewP (sz a), hw, ⟨hdl, rfl, rfl, hok, hok, hsh, hsh, by rw [hdf]; decide, hdz, by rw [h0]; exact laid_pg0 _, by rw [h0]; exact laid_pg0 _⟩, hdg⟩
theorem Wo.on {W : World} (h : Wo w0 w g k q s b1 b2 d f N now was) (hb : Below w.heap.size w W) : Wo w0 W g k q s b1 b2 d f N now was := by
  obtain ⟨S, R1, R2, h1, h2, h3, h4, h5, h6, h7, h8, h9⟩ := h
  exact ⟨S, R1, R2, h1.on hb, h2.on hb, h3.on hb, (Keep.of_below (S := fun _ => False) hb).blk h4 (fun h => h), h5, h6, h7, h8, h9.trans (hb.mono h9.size)⟩
theorem Wo.wcell (h : Wo w0 w g k q s b1 b2 d f N now was) {i : Nat} {x : Value} (hx : (wcs k s b1 b2)[i]? = some x) : w.cell? ⟨g, i, none⟩ = some x := by obtain ⟨_, _, _, _, _, _, h, _⟩ := h; exact h.cell hx
/-- same, of the space and what it is -/
theorem same_wo (hE : Env w0) (hN : N < 4611686018427380000) (hp : Pl n d f now was) (h : Wo w0 w g k q s b1 b2 d f N now was) :
    Calls Tryz.prog 11 #[.pointer (some ⟨s, 0, none⟩), .pointer (some ⟨b1, 0, none⟩)] w fun e V => e = .returned (.bool true) ∧ Wo w0 V g k q s b1 b2 d f (N + 3000) now was := by
  obtain ⟨S, R1, R2, h1, h2, h3, h4, h5, h6, h7, h8, h9⟩ := h
  have hpos := hE.pos
  refine (same_any (hE.on hpos h9) (fun h0 => by have := (h5 0 h0).2.2.2; omega) hN hp.ok1 hp.nd h1 h2 (fun j hj => (h5 j hj).1)).mono fun e V hh => ?_
  obtain ⟨⟨bl, e1, e2⟩, hs⟩ := hh
  rw [e2.2 hp.shd] at e1
  refine ⟨e1, ?_⟩
  obtain ⟨S', s1, s2⟩ := hs.sv
  have hk := hs.keep
  refine ⟨S', R1, R2, s1, hk.rr h2 (fun j hj hs => (h5 j hs).1 hj), hk.rr h3 (fun j hj hs => (h5 j hs).2.1 hj), hk.blk h4 (fun hg => (h5 g hg).2.2.1 rfl), fun j hj => ?_, h6, h7, h8, h9.trans (hk.below (fun j hj => (h5 j hj).2.2.2) h9.size)⟩
  rcases s2 j hj with t | t
  · exact h5 j t
  · have l1 := h4.lt
    exact ⟨fun hr => by have := h2.1 j hr; omega, fun hr => by have := h3.1 j hr; omega, by omega, Nat.le_trans h9.size t⟩
/-- a space opened on the disk, beside what was -/
def Wp (w0 w : World) (g k q s sx b1 b2 : Nat) (d : Ds) (N : Nat) (was : Rsp) : Prop :=
  ∃ S R2, Sv w S k q s d (onD d) N ∧ Rr w R2 b2 was ∧ Blk w g (wcs k sx b1 b2) 34 ∧ (∀ j, S j → ¬ R2 j ∧ w0.heap.size ≤ j) ∧ Below w0.heap.size w0 w
theorem Wp.cell {sx : Nat} (h : Wp w0 w g k q s sx b1 b2 d N was) : w.cell? ⟨g, 3, none⟩ = some (.pointer (some ⟨b2, 0, none⟩)) := by
  obtain ⟨_, _, _, _, h, _⟩ := h
  exact h.cell (i := 3) rfl
theorem open_wo (r : Nat) (hr : 1 ≤ r ∧ r ≤ 1024) (hE : Env w0) (hz : Fit (d.lg.length + 10000)) (hp : Pl n d f now was) (h : Wo w0 w g k q s b1 b2 d f N now was) :
    Calls Tryz.prog 12 #[.pointer (some ⟨k, 0, none⟩), .int .i64 (r : Nat)] w fun e W => ∃ q' s' d', e = .returned (.tuple #[.pointer (some ⟨s', 0, none⟩), .int .i64 0]) ∧ d'.bs.length = n ∧ Shw n (onD d') was ∧ Wp w0 W g k q' s' s b1 b2 d' 1 was := by
  obtain ⟨S, R1, R2, h1, h2, h3, h4, h5, h6, h7, h8, h9⟩ := h
  have hpos := hE.pos
  obtain ⟨hok, hdn, _⟩ := h1.good
  obtain ⟨D, hd, hg⟩ := (Sn.refl h1).sd.dk
  have hDS : ∀ j, D j → S j := fun j hj => by
    rcases hg j hj with t | t
    · exact t
    · have := hd.lt j hj
      omega
  refine (open_all r hr (hE.on hpos h9) (fun h0 => by have := (h5 0 (hDS 0 h0)).2.2.2; omega) hz hdn (.inl (hp.cz hok)) hd).mono fun e W hh => ?_
  rcases hh with ⟨q', s', d', e1, e2, e3, e4, e5, e6⟩ | ⟨hl, _⟩
  · rw [hp.len, LF_laid hp.l1] at e5
    have hln : d'.bs.length = n := e3.trans hp.len
    obtain ⟨S', s1, s2⟩ := e2.sv
    have hk := e2.keep
    refine ⟨q', s', d', e1, hln, hp.sw.congr hp.ok2 hp.n2 (fun a ha => e5.onD (by rw [hln]; exact ha)), S', R2, s1, hk.rr h3 (fun j hj hs => (h5 j (hDS j hs)).2.1 hj), hk.blk h4 (fun hg => (h5 g (hDS g hg)).2.2.1 rfl), fun j hj => ?_, h9.trans (hk.below (fun j hj => (h5 j (hDS j hj)).2.2.2) h9.size)⟩
    rcases s2 j hj with t | t
    · exact ⟨(h5 j (hDS j t)).2.1, (h5 j (hDS j t)).2.2.2⟩
    · exact ⟨fun hr => by have := h3.1 j hr; omega, Nat.le_trans h9.size t⟩
  · have := hp.lf
    omega
theorem same_wp {sx : Nat} (hE : Env w0) (hN : N < 4611686018427380000) (hok : was.Ok) (hn : was.n = n) (hl : d.bs.length = n) (hs : Shw n (onD d) was) (h : Wp w0 w g k q s sx b1 b2 d N was) :
    Calls Tryz.prog 11 #[.pointer (some ⟨s, 0, none⟩), .pointer (some ⟨b2, 0, none⟩)] w fun e V => e = .returned (.bool true) ∧ Below w0.heap.size w0 V := by
  obtain ⟨S, R2, h1, h2, h3, h4, h5⟩ := h
  have hpos := hE.pos
  refine (same_any (hE.on hpos h5) (fun h0 => by have := (h4 0 h0).2; omega) hN hok (hn.trans hl.symm) h1 h2 (fun j hj => (h4 j hj).1)).mono fun e V hh => ?_
  obtain ⟨⟨bl, e1, e2⟩, hsn⟩ := hh
  rw [e2.2 (by rw [hl]; exact hs)] at e1
  exact ⟨e1, h5.trans (hsn.keep.below (fun j hj => (h4 j hj).2) h5.size)⟩
end
end Go.Proofs.YtglallhblcjffaaGreatDoor

