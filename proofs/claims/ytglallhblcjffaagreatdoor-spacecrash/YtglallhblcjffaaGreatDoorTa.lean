/-
  same: whether a space is as the document's.
-/
import Derived.Test.YtglallhblcjffaaGreatDoorRb4
namespace Go.Proofs.YtglallhblcjffaaGreatDoor
open Go.RowKit
set_option linter.unusedVariables false
set_option linter.unusedSimpArgs false
set_option maxRecDepth 100000

theorem tkL_mem {F c : Nat} {T : List Bool} {a : Int} : a ∈ tkL F c T ↔ ∃ i : Nat, i < c ∧ T.getD i false = true ∧ a = (F : Int) + 1 + (i : Int) := by
  unfold tkL
  rw [List.mem_map]
  constructor
  · rintro ⟨i, hi, rfl⟩
    rw [List.mem_filter, List.mem_range] at hi
    exact ⟨i, hi.1, hi.2, rfl⟩
  · rintro ⟨i, h1, h2, rfl⟩
    exact ⟨i, List.mem_filter.2 ⟨List.mem_range.2 h1, h2⟩, rfl⟩
section
variable {f : Int → ByteArray} {r : Rsp} {d : Ds}
theorem getD_some {T : List Bool} {i : Nat} {x : Bool} (h : T[i]? = some x) : T.getD i false = x := by rw [List.getD_eq_getElem?_getD, h]; rfl
theorem usr_us {n : Nat} (h1 : 64 ≤ n) (h2 : n ≤ 2048) {i : Nat} (hi : i < pgs n - 2) : isUs n ((frs n : Int) + 1 + (i : Int)) ∧ (((frs n : Int) + 1 + (i : Int)) - (frs n : Int)).toNat = i + 1 := by
  obtain ⟨b1, b2, b3, b4, b5⟩ := frs_small h1 h2
  exact ⟨⟨by omega, by omega⟩, by omega⟩
theorem lists_tk (hok : r.Ok) (hn : r.n = d.bs.length) (he : usr d.bs.length (f (mpg d)) true = tkL (frs r.n) r.taken.length r.taken) : ∀ (i : Nat) (x : Bool), r.taken[i]? = some x → hasB (f (frs d.bs.length : Nat)) (i + 1) = x := by
  intro i x hx
  have hi : i < r.taken.length := (List.getElem?_eq_some_iff.1 hx).1
  have htl := hok.tl
  obtain ⟨u1, u2⟩ := usr_us hok.lo hok.hi (i := i) (by omega)
  have hm : ((frs r.n : Int) + 1 + (i : Int)) ∈ usr d.bs.length (f (mpg d)) true ↔ ((frs r.n : Int) + 1 + (i : Int)) ∈ tkL (frs r.n) r.taken.length r.taken := by rw [he]
  rw [← hn, usr_mem hok.lo hok.hi, u2, tkL_mem] at hm
  unfold mpg at hm
  rw [← hn] at hm ⊢
  rw [Bool.eq_iff_iff]
  constructor
  · intro h
    obtain ⟨j, j1, j2, j3⟩ := hm.1 ⟨u1, h⟩
    obtain rfl : j = i := by omega
    rw [getD_some hx] at j2
    exact j2
  · intro h
    exact (hm.2 ⟨i, hi, by rw [getD_some hx]; exact h, rfl⟩).2
theorem lists_free (hok : r.Ok) (hn : r.n = d.bs.length) (he : usr d.bs.length (f (mpg d)) true = tkL (frs r.n) r.taken.length r.taken) : (usr d.bs.length (f (mpg d)) false).length + (tkL (frs r.n) r.taken.length r.taken).length = r.pages.length := by
  rw [← he]
  unfold usr usrL
  rw [List.length_map, List.length_map]
  have h := filter_both (fun j => hasB (f (mpg d)) (j + 1)) (pgs d.bs.length - 2)
  have hpl := hok.pl
  rw [hn] at hpl
  rw [hpl]
  have e : (fun j : Nat => hasB (f (mpg d)) (j + 1) == true) = fun j : Nat => hasB (f (mpg d)) (j + 1) := by funext j; cases hasB (f (mpg d)) (j + 1) <;> rfl
  rw [e]
  exact h
theorem in_list (hok : r.Ok) (hn : r.n = d.bs.length) (he : usr d.bs.length (f (mpg d)) true = tkL (frs r.n) r.taken.length r.taken) {a : Int} (ha : a ∈ tkL (frs r.n) r.taken.length r.taken) : gtE d f a = 0 ∧ gtS d f a = f a ∧ r.gE a = 0 := by
  obtain ⟨i, h1, h2, rfl⟩ := tkL_mem.1 ha
  have htl := hok.tl
  obtain ⟨u1, u2⟩ := usr_us hok.lo hok.hi (i := i) (by omega)
  have h3 := ha
  rw [← he, ← hn, usr_mem hok.lo hok.hi] at h3
  have g1 : gtE d f ((frs r.n : Int) + 1 + (i : Int)) = 0 := by
    unfold gtE tkn
    rw [← hn, if_neg (by simpa using u1)]
    have h4 := h3.2
    have hmp : mpg d = (frs r.n : Int) := by unfold mpg; rw [hn]
    rw [hmp] at h4 ⊢
    rw [if_pos h4]
  refine ⟨g1, by unfold gtS; rw [if_pos g1], ?_⟩
  unfold Rsp.gE
  rw [if_neg (by simpa using u1)]
  have hix : r.ix ((frs r.n : Int) + 1 + (i : Int)) = i := by unfold Rsp.ix; omega
  rw [hix, if_pos h2]
theorem shw_of (hok : r.Ok) (hn : r.n = d.bs.length) (ht : (f 0).extract 8 256 = r.top) (he : usr d.bs.length (f (mpg d)) true = tkL (frs r.n) r.taken.length r.taken) (hp : ∀ a ∈ tkL (frs r.n) r.taken.length r.taken, f a = r.gS a) : Shw d.bs.length f r := by
  refine ⟨ht, lists_tk hok hn he, fun i y h1 h2 => ?_⟩
  have hi : i < r.taken.length := (List.getElem?_eq_some_iff.1 h1).1
  have hm : ((frs r.n : Int) + 1 + (i : Int)) ∈ tkL (frs r.n) r.taken.length r.taken := tkL_mem.2 ⟨i, hi, getD_some h1, rfl⟩
  have h3 := hp _ hm
  have h4 := (in_list hok hn he hm).2.2
  rw [← hn, show (((frs r.n + 1 + i : Nat) : Nat) : Int) = (frs r.n : Int) + 1 + (i : Int) by omega, h3]
  unfold Rsp.gS
  have hix : r.ix ((frs r.n : Int) + 1 + (i : Int)) = i := by unfold Rsp.ix; omega
  rw [if_pos h4, hix, List.getD_eq_getElem?_getD, h2]
  rfl
theorem shw_page (hok : r.Ok) (hn : r.n = d.bs.length) (h : Shw d.bs.length f r) {a : Int} (ha : a ∈ tkL (frs r.n) r.taken.length r.taken) : f a = r.gS a := by
  rw [← h.gS hok hn, (in_list hok hn (h.taken hok hn) ha).2.1]
end

/-- a space, since w0, with a row of numbers that is not its own -/
def Sl (w0 w : World) (S0 : Nat → Prop) (k q s : Nat) (d : Ds) (f : Int → ByteArray) (N : Nat) (v : Value) (L : List Int) : Prop :=
  ∃ S, Sv w S k q s d f N ∧ Grows S0 S w0 ∧ Keep S0 w0 w ∧ RowI w 0 v L ∧ ∀ g, v.ownBlock = some g → ¬ S g
section
variable {w0 w W V : World} {S0 S R : Nat → Prop} {b k q s n : Nat} {v : Value} {L : List Int} {d d' : Ds} {f f' : Int → ByteArray} {N N' : Nat} {r : Rsp}
theorem Sl.row (h : Sl w0 w S0 k q s d f N v L) : RowI w 0 v L := by obtain ⟨_, _, _, _, h, _⟩ := h; exact h
theorem Sl.sn (h : Sl w0 w S0 k q s d f N v L) : Sn w0 S0 k q s d f N w := by
  obtain ⟨S, h1, h2, h3, _⟩ := h
  exact ⟨⟨S, h1, h2⟩, h3⟩
theorem Sl.keep (h : Sl w0 w S0 k q s d f N v L) : Keep S0 w0 w := h.sn.keep
theorem Sl.on (h : Sl w0 w S0 k q s d f N v L) (hb : Below w.heap.size w W) : Sl w0 W S0 k q s d f N v L := by
  obtain ⟨S, h1, h2, h3, h4, h5⟩ := h
  exact ⟨S, h1.on hb, h2, h3.trans (Keep.of_below (S := fun _ => False) hb) (fun _ _ h => h.elim), h4.on hb, h5⟩
theorem Sl.start (h : Sn w0 S0 k q s d f N w) (hr : RowI W w.heap.size v L) (hb : Below w.heap.size w W) : Sl w0 W S0 k q s d f N v L := by
  obtain ⟨S, h1, h2⟩ := h.sv
  refine ⟨S, h1.on hb, h2, h.keep.trans (Keep.of_below (S := fun _ => False) hb) (fun _ _ h => h.elim), own_base hr (Nat.zero_le _), fun g hg hS => ?_⟩
  have := (World.ownsRow.lt hr g hg).1
  have := h1.lt g hS
  omega
theorem Sl.call {F : Ending → World → Prop} {args : Array Value} (hE : Env w0) (h0 : ¬ S0 0) (h : Sl w0 w S0 k q s d f N v L) (hc : ∀ S, Sv w S k q s d f N → Env w → ¬ S 0 → Calls Tryz.prog n args w fun e V => F e V ∧ Sn w S k q s d' f' N' V) : Calls Tryz.prog n args w fun e V => F e V ∧ Sl w0 V S0 k q s d' f' N' v L := by
  obtain ⟨S, h1, h2, h3, h4, h5⟩ := h
  have hp := hE.pos
  refine (hc S h1 (h3.env hE h0) (fun hS => ?_)).mono fun e V hh => ⟨hh.1, ?_⟩
  · rcases h2 0 hS with t | t
    · exact h0 t
    · omega
  · obtain ⟨S', s1, s2⟩ := hh.2.sv
    have hk := hh.2.keep
    refine ⟨S', s1, h2.trans s2 h3.size, h3.trans hk (fun j hj hs => ?_), hk.row h4 h5, fun g hg hS => ?_⟩
    · rcases h2 j hs with t | t
      · exact t
      · omega
    · rcases s2 g hS with t | t
      · exact h5 g hg t
      · have := (World.ownsRow.lt h4 g hg).2
        omega
/-- what the document's space holds, after what was done with the space -/
theorem Sn.rr (h : Sn w0 S0 k q s d f N w) (hr : Rr w0 R b r) (ha : ∀ j, S0 j → ¬ R j) : Rr w R b r := h.keep.rr hr (fun j hj hs => ha j hs hj)
/-- what same answers -/
def Same (e : Ending) (n : Nat) (f : Int → ByteArray) (r : Rsp) : Prop := ∃ bl, e = .returned (.bool bl) ∧ (bl = true ↔ Shw n f r)
theorem Same.yes {n : Nat} (h : Shw n f r) : Same (.returned (.bool true)) n f r := ⟨true, rfl, fun _ => h, fun _ => rfl⟩
theorem Same.no {n : Nat} (h : ¬ Shw n f r) : Same (.returned (.bool false)) n f r := ⟨false, rfl, (fun e => by cases e), fun e => absurd e h⟩

set_option maxHeartbeats 4000000 in
theorem same_any (hE : Env w) (h0 : ¬ S 0) (hN : N < 4611686018427380000) (hok : r.Ok) (hn : r.n = d.bs.length) (h : Sv w S k q s d f N) (hr : Rr w R b r) (hap : ∀ j, S j → ¬ R j) :
    Calls Tryz.prog 11 #[.pointer (some ⟨s, 0, none⟩), .pointer (some ⟨b, 0, none⟩)] w fun e V => Same e d.bs.length f r ∧ Sn w S k q s d f (N + 3000) V := by
  have HHD := hid (head_sp (by omega) h)
  have HSN := hid (Sn.refl h)
  have HRL : Hid (∀ w1 N1, Sn w S k q s d f N1 w1 → Calls Tryz.prog 38 #[.pointer (some ⟨b, 0, none⟩)] w1 fun e w' => ∃ v', e = .returned v' ∧ Sl w w' S k q s d f N1 v' (tkL (frs r.n) r.taken.length r.taken)) := fun w1 N1 h1 => (rList_any hok (h1.rr hr hap)).mono fun e w' hh => by
    obtain ⟨v', e1, hr', hb⟩ := hh
    exact ⟨v', e1, Sl.start h1 hr' hb⟩
  have HTP := hid (fun ht he hp => shw_of (f := f) hok hn ht he hp)
  have HSH : Hid (Shw d.bs.length f r → (f 0).extract 8 256 = r.top ∧ usr d.bs.length (f (mpg d)) true = tkL (frs r.n) r.taken.length r.taken ∧ ∀ a ∈ tkL (frs r.n) r.taken.length r.taken, f a = r.gS a) := fun hs => ⟨hs.top, hs.taken hok hn, fun a ha => shw_page hok hn hs ha⟩
  have HFR := hid (lists_free (f := f) hok hn)
  have HIN : Hid (usr d.bs.length (f (mpg d)) true = tkL (frs r.n) r.taken.length r.taken → ∀ a ∈ tkL (frs r.n) r.taken.length r.taken, gtE d f a = 0 ∧ gtS d f a = f a ∧ r.gE a = 0) := fun he a ha => in_list hok hn he ha
  have HI64 : Hid (∀ a ∈ tkL (frs r.n) r.taken.length r.taken, I64 a) := fun a ha => by
    obtain ⟨i, i1, i2, rfl⟩ := tkL_mem.1 ha
    obtain ⟨b1, b2, b3, b4, b5⟩ := frs_small hok.lo hok.hi
    have := hok.tl
    unfold I64
    omega
  have hll : (tkL (frs r.n) r.taken.length r.taken).length ≤ 1100 := by
    unfold tkL
    rw [List.length_map]
    have h1 := List.length_filter_le (fun j => r.taken.getD j false) (List.range r.taken.length)
    rw [List.length_range] at h1
    obtain ⟨b1, b2, b3, b4, b5⟩ := frs_small hok.lo hok.hi
    have := hok.tl
    omega
  have hul : (usr d.bs.length (f (mpg d)) true).length ≤ 1100 := by
    have h1 := usrL_len (frs d.bs.length) (pgs d.bs.length - 2) (f (mpg d)) true
    obtain ⟨hd, _, _⟩ := h.good
    obtain ⟨b1, b2, b3, b4, b5⟩ := frs_small hd.lo hd.hi
    unfold usr
    omega
  obtain ⟨hd, _, _⟩ := h.good
  have hufl : (usr d.bs.length (f (mpg d)) false).length ≤ 1100 := by
    have h1 := usrL_len (frs d.bs.length) (pgs d.bs.length - 2) (f (mpg d)) false
    obtain ⟨b1, b2, b3, b4, b5⟩ := frs_small hd.lo hd.hi
    unfold usr
    omega
  have hpl : r.pages.length ≤ 1100 := by
    have := hok.pl
    obtain ⟨b1, b2, b3, b4, b5⟩ := frs_small hok.lo hok.hi
    omega
  have HCL : Hid (∀ w1, Keep S w w1 → ∃ pa pc, w1.cell? ⟨b, 1, none⟩ = some (.string r.top) ∧ w1.cell? ⟨b, 2, none⟩ = some (.slice pa r.pages.length pc)) := fun w1 hk => by
    obtain ⟨pa, pc, ta, tc, c0, c1, c2, _⟩ := (hk.rr hr (fun j hj hs => hap j hs hj)).read
    exact ⟨pa, pc, c1, c2⟩
  have HCE : Hid (∀ w1 i, Keep S w w1 → w1.cell? ⟨b, i, none⟩ = w.cell? ⟨b, i, none⟩) := fun w1 i hk => by
    have hb := hr.2.1
    exact hk.cell (hr.1 b hb) (fun hs => hap b hs hb)
  have HTK : Hid (∀ w1 N1 v', N1 < 4611686018427387000 → Sl w w1 S k q s d f N1 v' (tkL (frs r.n) r.taken.length r.taken) → Calls Tryz.prog 31 #[.pointer (some ⟨s, 0, none⟩)] w1 fun e w' => (∃ a c, e = .returned (.slice a (usr d.bs.length (f (mpg d)) true).length c) ∧ RowI w' w1.heap.size (.slice a (usr d.bs.length (f (mpg d)) true).length c) (usr d.bs.length (f (mpg d)) true)) ∧ Sl w w' S k q s d f (N1 + 1) v' (tkL (frs r.n) r.taken.length r.taken)) := fun w1 N1 v' h1 h2 => h2.call hE h0 fun S' hs _ _ => (taken_sp (by omega) hs).mono fun e w' hh => by
    obtain ⟨a, c, e1, e2, e3⟩ := hh
    exact ⟨⟨a, c, e1, e2⟩, e3⟩
  have HFE : Hid (∀ w1 N1 v', N1 < 4611686018427387000 → Sl w w1 S k q s d f N1 v' (tkL (frs r.n) r.taken.length r.taken) → Calls Tryz.prog 24 #[.pointer (some ⟨s, 0, none⟩)] w1 fun e w' => e = .returned (.int .i64 ((usr d.bs.length (f (mpg d)) false).length : Nat)) ∧ Sl w w' S k q s d f (N1 + 1) v' (tkL (frs r.n) r.taken.length r.taken)) := fun w1 N1 v' h1 h2 => h2.call hE h0 fun S' hs _ _ => free_sp (by omega) hs
  have HGT : Hid (∀ w1 N1 v' a, N1 < 4611686018427387000 → Sl w w1 S k q s d f N1 v' (tkL (frs r.n) r.taken.length r.taken) → Calls Tryz.prog 28 #[.pointer (some ⟨s, 0, none⟩), .int .i64 a] w1 fun e w' => e = .returned (.tuple #[.string (gtS d f a), .int .i64 (gtE d f a : Nat)]) ∧ Sl w w' S k q s d f (N1 + 2) v' (tkL (frs r.n) r.taken.length r.taken)) := fun w1 N1 v' a h1 h2 => h2.call hE h0 fun S' hs he hz => get_sp a he hz (by omega) hs
  have HRG : Hid (∀ w1 a, Keep S w w1 → I64 a → Calls Tryz.prog 32 #[.pointer (some ⟨b, 0, none⟩), .int .i64 a] w1 fun e w' => e = .returned (.tuple #[.string (r.gS a), .int .i64 (r.gE a : Nat)]) ∧ w1 = w') := fun w1 a hk hi => rGet_any a hi hok (hk.rr hr (fun j hj hs => hap j hs hj))
  have HSI : Hid (∀ w1 (B B' : Nat) (u v' : Value) (L M : List Int), RowI w1 B u L → RowI w1 B' v' M → L.length ≤ 1100 → M.length ≤ 1100 → Calls Tryz.prog 39 #[u, v'] w1 fun e w' => e = .returned (.bool (decide (L = M))) ∧ Below w1.heap.size w1 w') := fun w1 B B' u v' L M h1 h2 h3 h4 => sameInts_any w1 B B' u v' L M h1 h2 (by omega) (by omega)
  clear hok hn h hr hap hE h0 hd
  obtain ⟨pa, pc, c1, c2⟩ := HCL.out w HSN.out.keep
  have HC1 := hid c1
  have HC2 := hid c2
  clear c1 c2 HSN HCL
  generalize tkL (frs r.n) r.taken.length r.taken = L at *
  generalize usr d.bs.length (f (mpg d)) true = U at *
  generalize usr d.bs.length (f (mpg d)) false = FU at *
  obtain ⟨ln, hln⟩ : ∃ ln, L.length = ln := ⟨_, rfl⟩
  obtain ⟨un, hun⟩ : ∃ un, U.length = un := ⟨_, rfl⟩
  obtain ⟨fn, hfn⟩ : ∃ fn, FU.length = fn := ⟨_, rfl⟩
  obtain ⟨pn, hpn⟩ : ∃ pn, r.pages.length = pn := ⟨_, rfl⟩
  obtain ⟨tp, htp⟩ : ∃ tp, (f 0).extract 8 256 = tp := ⟨_, rfl⟩
  have HLN := hid hln
  have HUN := hid hun
  rw [hln, hfn, hpn] at HFR
  rw [hfn] at HFE hufl
  rw [hpn] at hpl HC2
  rw [htp] at HHD HTP HSH
  rw [hun] at HTK hul
  rw [hln] at hll
  have HUL := hid hul
  generalize r.top = rt at *
  clear hln hun hfn hpn htp hul
  go_enter Tryz.func11, Tryz.ntmps11
  go_wp2_with (first
    | (go_at_call 27; refine HHD.out.mono ?_; clear HHD; rintro e w1 ⟨rfl, hs1⟩; have HS1 := hid hs1; clear hs1)
    | (go_at_call 38; refine (HRL.out _ _ HS1.out).mono ?_; clear HRL HS1; rintro e w2 ⟨v2, rfl, hs2⟩; obtain ⟨va, vc, ev⟩ := hs2.row.form; rw [HLN.out] at ev; subst ev; have HS2 := hid hs2; clear hs2))
  have k2 := HS2.out.keep
  refine wp_region_d (fun w' => w'.cell? ⟨b, 1, none⟩ = some (.string rt) ∧ w'.cell? ⟨b, 2, none⟩ = some (.slice pa pn pc)) (fun _ => true) (by kernel_rfl) ?_
  have HSD := hid (HS2.out.on ((Below.refl _ w2).drew))
  clear HS2 k2
  generalize w2.drew = wd at *
  have hS : wd.cell? ⟨b, 1, none⟩ = some (.string rt) ∧ wd.cell? ⟨b, 2, none⟩ = some (.slice pa pn pc) := ⟨(HCE.out wd 1 HSD.out.keep).trans HC1.out, (HCE.out wd 2 HSD.out.keep).trans HC2.out⟩
  by_cases h1 : tp = rt
  · have hq : (tp.toList == rt.toList) = true := by rw [h1]; simp
    refine wpAnyM_pick (i := 0) (some 20) (v := ?vz1) rfl rfl (by kernel_rfl) (by kernel_rfl) (by kernel_rfl) (by kernel_rfl) (fun _ _ _ h => h) (Or.inl ⟨by rfl, ?hz1⟩) hS ?rz1
    case hz1 => intro w hSw; (try have hs1 := hSw.1); (try have hs2 := hSw.2); go_simp; try with_reducible rfl
    try simp only [Act.put, List.setIfInBounds_toArray, List.set_cons_zero, List.set_cons_succ]
    refine wpAnyM_pick (i := 1) (some 21) (v := ?vz2) rfl rfl (by kernel_rfl) (by kernel_rfl) (by kernel_rfl) (by kernel_rfl) (fun _ _ _ h => h) (Or.inl ⟨by rfl, ?hz2⟩) hS ?rz2
    case hz2 => intro w hSw; (try have hs1 := hSw.1); (try have hs2 := hSw.2); go_simp; try with_reducible rfl
    try simp only [Act.put, List.setIfInBounds_toArray, List.set_cons_zero, List.set_cons_succ]
    refine wpAnyM_pick (i := 2) (some 22) (v := ?vz3) rfl rfl (by kernel_rfl) (by kernel_rfl) (by kernel_rfl) (by kernel_rfl) (fun _ _ _ h => h) (Or.inl ⟨by rfl, ?hz3⟩) hS ?rz3
    case hz3 => intro w hSw; (try have hs1 := hSw.1); (try have hs2 := hSw.2); go_simp; try with_reducible rfl
    try simp only [Act.put, List.setIfInBounds_toArray, List.set_cons_zero, List.set_cons_succ]
    refine wpAnyM_pick (i := 3) (some 23) (v := ?vz4) rfl rfl (by kernel_rfl) (by kernel_rfl) (by kernel_rfl) (by kernel_rfl) (fun _ _ _ h => h) (Or.inl ⟨by rfl, ?hz4⟩) hS ?rz4
    case hz4 => intro w hSw; (try have hs1 := hSw.1); (try have hs2 := hSw.2); go_simp; try with_reducible rfl
    try simp only [Act.put, List.setIfInBounds_toArray, List.set_cons_zero, List.set_cons_succ]
    refine wpAnyM_pick (i := 4) (some 24) (v := ?vz5) rfl rfl (by kernel_rfl) (by kernel_rfl) (by kernel_rfl) (by kernel_rfl) (fun _ _ _ h => h) (Or.inl ⟨by rfl, ?hz5⟩) hS ?rz5
    case hz5 => intro w hSw; (try have hs1 := hSw.1); (try have hs2 := hSw.2); go_simp; try with_reducible rfl
    try simp only [Act.put, List.setIfInBounds_toArray, List.set_cons_zero, List.set_cons_succ]
    refine wpAnyM_pick (i := 5) (some 25) (v := ?vz6) rfl rfl (by kernel_rfl) (by kernel_rfl) (by kernel_rfl) (by kernel_rfl) (fun _ _ _ h => h) (Or.inl ⟨by rfl, ?hz6⟩) hS ?rz6
    case hz6 => intro w hSw; (try have hs1 := hSw.1); (try have hs2 := hSw.2); go_simp; try with_reducible rfl
    try simp only [Act.put, List.setIfInBounds_toArray, List.set_cons_zero, List.set_cons_succ]
    refine wpAnyM_pick (i := 6) (some 26) (v := ?vz7) rfl rfl (by kernel_rfl) (by kernel_rfl) (by kernel_rfl) (by kernel_rfl) (fun _ _ _ h => h) (Or.inl ⟨by rfl, ?hz7⟩) hS ?rz7
    case hz7 => intro w hSw; (try have hs1 := hSw.1); (try have hs2 := hSw.2); go_simp; try with_reducible rfl
    try simp only [Act.put, List.setIfInBounds_toArray, List.set_cons_zero, List.set_cons_succ]
    refine wpAnyM_pick (i := 7) (some 27) (v := ?vz8) rfl rfl (by kernel_rfl) (by kernel_rfl) (by kernel_rfl) (by kernel_rfl) (fun _ _ _ h => h) (Or.inl ⟨by rfl, ?hz8⟩) hS ?rz8
    case hz8 => intro w hSw; (try have hs1 := hSw.1); (try have hs2 := hSw.2); go_simp; try with_reducible rfl
    try simp only [Act.put, List.setIfInBounds_toArray, List.set_cons_zero, List.set_cons_succ]
    refine wpAnyM_pick (i := 8) (some 28) (v := ?vz9) rfl rfl (by kernel_rfl) (by kernel_rfl) (by kernel_rfl) (by kernel_rfl) (fun _ _ _ h => h) (Or.inl ⟨by rfl, ?hz9⟩) hS ?rz9
    case hz9 => intro w hSw; (try have hs1 := hSw.1); (try have hs2 := hSw.2); go_simp; try with_reducible rfl
    try simp only [Act.put, List.setIfInBounds_toArray, List.set_cons_zero, List.set_cons_succ]
    refine wpAnyM_pick (i := 9) (some 29) (v := ?vz10) rfl rfl (by kernel_rfl) (by kernel_rfl) (by kernel_rfl) (by kernel_rfl) (fun _ _ _ h => h) (Or.inl ⟨by rfl, ?hz10⟩) hS ?rz10
    case hz10 => intro w hSw; (try have hs1 := hSw.1); (try have hs2 := hSw.2); go_simp; try with_reducible rfl
    try simp only [Act.put, List.setIfInBounds_toArray, List.set_cons_zero, List.set_cons_succ]
    refine wpAnyM_pick (i := 10) (some 30) (v := ?vz11) rfl rfl (by kernel_rfl) (by kernel_rfl) (by kernel_rfl) (by kernel_rfl) (fun _ _ _ h => h) (Or.inl ⟨by rfl, ?hz11⟩) hS ?rz11
    case hz11 => intro w hSw; (try have hs1 := hSw.1); (try have hs2 := hSw.2); go_simp; try with_reducible rfl
    try simp only [Act.put, List.setIfInBounds_toArray, List.set_cons_zero, List.set_cons_succ]
    refine wpAnyM_pick (i := 11) (some 31) (v := ?vz12) rfl rfl (by kernel_rfl) (by kernel_rfl) (by kernel_rfl) (by kernel_rfl) (fun _ _ _ h => h) (Or.inl ⟨by rfl, ?hz12⟩) hS ?rz12
    case hz12 => intro w hSw; (try have hs1 := hSw.1); (try have hs2 := hSw.2); go_simp; try with_reducible rfl
    try simp only [Act.put, List.setIfInBounds_toArray, List.set_cons_zero, List.set_cons_succ]
    refine wpAnyM_pick (i := 13) (some 33) (v := ?vz13) rfl rfl (by kernel_rfl) (by kernel_rfl) (by kernel_rfl) (by kernel_rfl) (fun _ _ _ h => h) (Or.inl ⟨by rfl, ?hz13⟩) hS ?rz13
    case hz13 => intro w hSw; (try have hs1 := hSw.1); (try have hs2 := hSw.2); go_simp; try with_reducible rfl
    try simp only [Act.put, List.setIfInBounds_toArray, List.set_cons_zero, List.set_cons_succ]
    clear hq
    have HH1 := hid h1
    clear h1
    refine wpAnyM_one (i := 12) (by kernel_rfl) rfl (fun K hK => ?_)
    go_simp
    go_at_call 31
    refine (HTK.out wd _ _ (by omega) HSD.out).mono ?_
    clear HTK HSD
    rintro e w3 ⟨⟨ua, uc, rfl, hr3⟩, hs3⟩
    have HR3 := hid hr3
    have HS3 := hid hs3
    clear hr3 hs3 hS
    have hS : w3.cell? ⟨b, 1, none⟩ = some (.string rt) ∧ w3.cell? ⟨b, 2, none⟩ = some (.slice pa pn pc) := ⟨(HCE.out w3 1 HS3.out.keep).trans HC1.out, (HCE.out w3 2 HS3.out.keep).trans HC2.out⟩
    go_wp2_with fail
    refine hK.out _ _ (fun _ => hS) ?_
    clear hK K
    try simp only [Act.put, List.setIfInBounds_toArray, List.set_cons_zero, List.set_cons_succ]
    refine wpAnyM_one (i := 14) (by kernel_rfl) rfl (fun K hK => ?_)
    go_simp
    go_at_call 39
    refine (HSI.out w3 _ _ _ _ _ _ HR3.out HS3.out.row (by rw [HUN.out]; exact HUL.out) (by rw [HLN.out]; exact hll)).mono ?_
    clear HSI HR3
    rintro e w4 ⟨rfl, hb4⟩
    have HS4 := hid (HS3.out.on hb4)
    clear HS3 hb4 hS
    have hS : w4.cell? ⟨b, 1, none⟩ = some (.string rt) ∧ w4.cell? ⟨b, 2, none⟩ = some (.slice pa pn pc) := ⟨(HCE.out w4 1 HS4.out.keep).trans HC1.out, (HCE.out w4 2 HS4.out.keep).trans HC2.out⟩
    by_cases h2 : U = L
    · have HH2 := hid h2
      rw [decide_eq_true h2]
      clear h2
      go_wp2_with fail
      refine hK.out _ _ (fun _ => hS) ?_
      clear hK K
      try simp only [Act.put, List.setIfInBounds_toArray, List.set_cons_zero, List.set_cons_succ]
      have hfr := HFR.out HH2.out
      have hsub : IntKind.i64.wrap ((pn : Int) - (ln : Int)) = (fn : Int) := by rw [IntKind.wrap_i64]; omega
      have hne : ((fn : Int) != (fn : Int)) = false := by simp
      clear hfr HFR
      refine wpAnyM_pick (i := 15) (some 35) (v := ?vz14) rfl rfl (by kernel_rfl) (by kernel_rfl) (by kernel_rfl) (by kernel_rfl) (fun _ _ _ h => h) (Or.inl ⟨by rfl, ?hz14⟩) hS ?rz14
      case hz14 => intro w hSw; (try have hs1 := hSw.1); (try have hs2 := hSw.2); go_simp; try with_reducible rfl
      try simp only [Act.put, List.setIfInBounds_toArray, List.set_cons_zero, List.set_cons_succ]
      refine wpAnyM_pick (i := 16) (some 36) (v := ?vz15) rfl rfl (by kernel_rfl) (by kernel_rfl) (by kernel_rfl) (by kernel_rfl) (fun _ _ _ h => h) (Or.inl ⟨by rfl, ?hz15⟩) hS ?rz15
      case hz15 => intro w hSw; (try have hs1 := hSw.1); (try have hs2 := hSw.2); go_simp; try with_reducible rfl
      try simp only [Act.put, List.setIfInBounds_toArray, List.set_cons_zero, List.set_cons_succ]
      refine wpAnyM_pick (i := 17) (some 37) (v := ?vz16) rfl rfl (by kernel_rfl) (by kernel_rfl) (by kernel_rfl) (by kernel_rfl) (fun _ _ _ h => h) (Or.inl ⟨by rfl, ?hz16⟩) hS ?rz16
      case hz16 => intro w hSw; (try have hs1 := hSw.1); (try have hs2 := hSw.2); go_simp; try with_reducible rfl
      try simp only [Act.put, List.setIfInBounds_toArray, List.set_cons_zero, List.set_cons_succ]
      refine wpAnyM_pick (i := 18) (some 38) (v := ?vz17) rfl rfl (by kernel_rfl) (by kernel_rfl) (by kernel_rfl) (by kernel_rfl) (fun _ _ _ h => h) (Or.inl ⟨by rfl, ?hz17⟩) hS ?rz17
      case hz17 => intro w hSw; (try have hs1 := hSw.1); (try have hs2 := hSw.2); go_simp; try with_reducible rfl
      try simp only [Act.put, List.setIfInBounds_toArray, List.set_cons_zero, List.set_cons_succ]
      refine wpAnyM_pick (i := 20) (some 40) (v := ?vz18) rfl rfl (by kernel_rfl) (by kernel_rfl) (by kernel_rfl) (by kernel_rfl) (fun _ _ _ h => h) (Or.inl ⟨by rfl, ?hz18⟩) hS ?rz18
      case hz18 => intro w hSw; (try have hs1 := hSw.1); (try have hs2 := hSw.2); go_simp; try with_reducible rfl
      try simp only [Act.put, List.setIfInBounds_toArray, List.set_cons_zero, List.set_cons_succ]
      refine wpAnyM_pick (i := 21) (some 41) (v := ?vz19) rfl rfl (by kernel_rfl) (by kernel_rfl) (by kernel_rfl) (by kernel_rfl) (fun _ _ _ h => h) (Or.inl ⟨by rfl, ?hz19⟩) hS ?rz19
      case hz19 => intro w hSw; (try have hs1 := hSw.1); (try have hs2 := hSw.2); go_simp; try with_reducible rfl
      try simp only [Act.put, List.setIfInBounds_toArray, List.set_cons_zero, List.set_cons_succ]
      refine wpAnyM_pick (i := 22) (some 42) (v := ?vz20) rfl rfl (by kernel_rfl) (by kernel_rfl) (by kernel_rfl) (by kernel_rfl) (fun _ _ _ h => h) (Or.inl ⟨by rfl, ?hz20⟩) hS ?rz20
      case hz20 => intro w hSw; (try have hs1 := hSw.1); (try have hs2 := hSw.2); go_simp; try with_reducible rfl
      try simp only [Act.put, List.setIfInBounds_toArray, List.set_cons_zero, List.set_cons_succ]
      refine wpAnyM_pick (i := 23) (some 43) (v := ?vz21) rfl rfl (by kernel_rfl) (by kernel_rfl) (by kernel_rfl) (by kernel_rfl) (fun _ _ _ h => h) (Or.inl ⟨by rfl, ?hz21⟩) hS ?rz21
      case hz21 => intro w hSw; (try have hs1 := hSw.1); (try have hs2 := hSw.2); go_simp; try with_reducible rfl
      try simp only [Act.put, List.setIfInBounds_toArray, List.set_cons_zero, List.set_cons_succ]
      refine wpAnyM_pick (i := 24) (some 44) (v := ?vz22) rfl rfl (by kernel_rfl) (by kernel_rfl) (by kernel_rfl) (by kernel_rfl) (fun _ _ _ h => h) (Or.inl ⟨by rfl, ?hz22⟩) hS ?rz22
      case hz22 => intro w hSw; (try have hs1 := hSw.1); (try have hs2 := hSw.2); go_simp; try with_reducible rfl
      try simp only [Act.put, List.setIfInBounds_toArray, List.set_cons_zero, List.set_cons_succ]
      refine wpAnyM_pick (i := 25) (some 45) (v := ?vz23) rfl rfl (by kernel_rfl) (by kernel_rfl) (by kernel_rfl) (by kernel_rfl) (fun _ _ _ h => h) (Or.inl ⟨by rfl, ?hz23⟩) hS ?rz23
      case hz23 => intro w hSw; (try have hs1 := hSw.1); (try have hs2 := hSw.2); go_simp; try with_reducible rfl
      try simp only [Act.put, List.setIfInBounds_toArray, List.set_cons_zero, List.set_cons_succ]
      refine wpAnyM_pick (i := 26) (some 46) (v := ?vz24) rfl rfl (by kernel_rfl) (by kernel_rfl) (by kernel_rfl) (by kernel_rfl) (fun _ _ _ h => h) (Or.inl ⟨by rfl, ?hz24⟩) hS ?rz24
      case hz24 => intro w hSw; (try have hs1 := hSw.1); (try have hs2 := hSw.2); go_simp; try with_reducible rfl
      try simp only [Act.put, List.setIfInBounds_toArray, List.set_cons_zero, List.set_cons_succ]
      refine wpAnyM_pick (i := 27) (some 47) (v := ?vz25) rfl rfl (by kernel_rfl) (by kernel_rfl) (by kernel_rfl) (by kernel_rfl) (fun _ _ _ h => h) (Or.inl ⟨by rfl, ?hz25⟩) hS ?rz25
      case hz25 => intro w hSw; (try have hs1 := hSw.1); (try have hs2 := hSw.2); go_simp; try with_reducible rfl
      try simp only [Act.put, List.setIfInBounds_toArray, List.set_cons_zero, List.set_cons_succ]
      refine wpAnyM_one (i := 19) (by kernel_rfl) rfl (fun K hK => ?_)
      go_simp
      go_at_call 24
      refine (HFE.out w4 _ _ (by omega) HS4.out).mono ?_
      clear HFE HS4
      rintro e w5 ⟨rfl, hs5⟩
      have HS5 := hid hs5
      clear hs5 hS
      have hS : w5.cell? ⟨b, 1, none⟩ = some (.string rt) ∧ w5.cell? ⟨b, 2, none⟩ = some (.slice pa pn pc) := ⟨(HCE.out w5 1 HS5.out.keep).trans HC1.out, (HCE.out w5 2 HS5.out.keep).trans HC2.out⟩
      go_wp2_with fail
      refine hK.out _ _ (fun _ => hS) ?_
      clear hK K
      try simp only [Act.put, List.setIfInBounds_toArray, List.set_cons_zero, List.set_cons_succ]
      refine wpAnyM_pick (i := 28) (some 48) (v := ?vz26) rfl rfl (by kernel_rfl) (by kernel_rfl) (by kernel_rfl) (by kernel_rfl) (fun _ _ _ h => h) (Or.inl ⟨by rfl, ?hz26⟩) hS ?rz26
      case hz26 => intro w hSw; (try have hs1 := hSw.1); (try have hs2 := hSw.2); go_simp; try with_reducible rfl
      try simp only [Act.put, List.setIfInBounds_toArray, List.set_cons_zero, List.set_cons_succ]
      refine wpAnyM_pick (i := 29) (some 49) (v := ?vz27) rfl rfl (by kernel_rfl) (by kernel_rfl) (by kernel_rfl) (by kernel_rfl) (fun _ _ _ h => h) (Or.inl ⟨by rfl, ?hz27⟩) hS ?rz27
      case hz27 => intro w hSw; (try have hs1 := hSw.1); (try have hs2 := hSw.2); go_simp; try with_reducible rfl
      try simp only [Act.put, List.setIfInBounds_toArray, List.set_cons_zero, List.set_cons_succ]
      refine wpAnyM_done (by kernel_rfl) ?_ _
      try simp only [Act.put, List.setIfInBounds_toArray, List.set_cons_zero, List.set_cons_succ]
      clear hS hsub hne HCE HC1 HC2
      go_wp2_with fail
      go_loopw [52] (fun i wr => ∃ j : Nat, j ≤ ln ∧ i = .int .i64 (j : Nat) ∧ Hid (Sl w wr S k q s d f (N + 3 + 2 * j) (.slice va ln vc) L) ∧ Hid (∀ (i : Nat) (a : Int), i < j → L[i]? = some a → f a = r.gS a)) (fun i _ => ln - (intOf i).toNat)
      case atStart => exact ⟨0, Nat.zero_le _, rfl, HS5, (fun i a h => absurd h (Nat.not_lt_zero _))⟩
      case round =>
        obtain ⟨j, hj, rfl, HS, HP⟩ := hrel
        clear HS5
        by_cases hjm : j < ln
        · have hji : (j : Int) < (ln : Int) := by omega
          obtain ⟨a, ha⟩ : ∃ a, L[j]? = some a := ⟨_, List.getElem?_eq_getElem (by rw [HLN.out]; exact hjm)⟩
          have hmem := List.mem_of_getElem? ha
          obtain ⟨g1, g2, g3⟩ := HIN.out HH2.out a hmem
          have hi64 := HI64.out a hmem
          have HA := hid ha
          obtain ⟨g, hg, _, _, cg, _⟩ := HS.out.row.at ha
          subst hg
          have HG1 := hid (HGT.out wr _ _ a (by omega) HS.out)
          have HG2 : Hid (∀ w1, Sl w w1 S k q s d f (N + 3 + 2 * j + 2) (.slice (some ⟨g, 0, none⟩) ln vc) L → w1.cell? ⟨g, j, none⟩ = some (.int .i64 a) ∧ Calls Tryz.prog 32 #[.pointer (some ⟨b, 0, none⟩), .int .i64 a] w1 fun e w' => e = .returned (.tuple #[.string (r.gS a), .int .i64 (r.gE a : Nat)]) ∧ w1 = w') := fun w1 h1 => by
            obtain ⟨g', hg', _, _, cg', _⟩ := h1.row.at HA.out
            cases hg'
            exact ⟨cg', HRG.out w1 a h1.keep hi64⟩
          rw [g1, g2] at HG1
          rw [g3] at HG2
          clear g1 g2 g3 hi64 HS
          obtain ⟨fa, hfa⟩ : ∃ fa, f a = fa := ⟨_, rfl⟩
          obtain ⟨ra, hra⟩ : ∃ ra, r.gS a = ra := ⟨_, rfl⟩
          rw [hfa] at HG1
          rw [hra] at HG2
          have HFA := hid hfa
          have HRA := hid hra
          have HME := hid hmem
          clear hfa hra ha hmem
          by_cases h3 : fa = ra
          · have hq : (fa.toList == ra.toList) = true := by rw [h3]; simp
            have HP2 : Hid (∀ (i : Nat) (a : Int), i < j + 1 → L[i]? = some a → f a = r.gS a) := fun i a' hi ha' => by
              rcases Nat.lt_or_ge i j with c | c
              · exact HP.out i a' c ha'
              · obtain rfl : i = j := by omega
                have := HA.out
                rw [ha'] at this
                cases this
                rw [HFA.out, HRA.out, h3]
            clear h3 HP HA HFA HRA
            go_wp2_with (first
              | (go_at_call 28; refine HG1.out.mono ?_; clear HG1; rintro e x1 ⟨rfl, hs1⟩; obtain ⟨cx, hx⟩ := HG2.out _ hs1; have HX := hid hx; have HSX := hid hs1; clear HG2 hx hs1)
              | (go_at_call 32; refine HX.out.mono ?_; clear HX; rintro e x2 ⟨rfl, rfl⟩))
            go_roundw
            case rel => exact ⟨j + 1, by omega, by go_num, (by show Sl _ _ _ _ _ _ _ _ _ _ _; rw [show N + 3 + 2 * (j + 1) = N + 3 + 2 * j + 2 by omega]; exact HSX.out), HP2⟩
            case measure => simp [intOf]; omega
          · have hq : (fa.toList == ra.toList) = false := other_texts h3
            have HNO : Hid (¬ Shw d.bs.length f r) := fun hs => h3 (by rw [← HFA.out, ← HRA.out]; exact (HSH.out hs).2.2 a HME.out)
            clear h3 HP HA HFA HRA
            go_wp2_with (first
              | (go_at_call 28; refine HG1.out.mono ?_; clear HG1; rintro e x1 ⟨rfl, hs1⟩; obtain ⟨cx, hx⟩ := HG2.out _ hs1; have HX := hid hx; have HSX := hid hs1; clear HG2 hx hs1)
              | (go_at_call 32; refine HX.out.mono ?_; clear HX; rintro e x2 ⟨rfl, rfl⟩))
            go_ret
            exact ⟨Same.no HNO.out, HSX.out.sn.mono (by omega)⟩
        · obtain rfl : j = ln := by omega
          have hji : ¬ (j : Int) < (j : Int) := by omega
          have HYES : Hid (Shw d.bs.length f r) := HTP.out HH1.out HH2.out (fun a ha => by
            obtain ⟨i, hi⟩ := List.mem_iff_getElem?.1 ha
            exact HP.out i a (by have := (List.getElem?_eq_some_iff.1 hi).1; rw [HLN.out] at this; exact this) hi)
          go_wp2_with fail
          go_ret
          exact ⟨Same.yes HYES.out, HS.out.sn.mono (by omega)⟩
    · have HNO : Hid (¬ Shw d.bs.length f r) := fun hs => h2 (HSH.out hs).2.1
      rw [decide_eq_false h2]
      clear h2
      go_wp2_with fail
      refine hK.out _ _ (fun _ => hS) ?_
      clear hK K
      try simp only [Act.put, List.setIfInBounds_toArray, List.set_cons_zero, List.set_cons_succ]
      refine wpAnyM_pick (i := 15) (some 35) (v := ?vz28) rfl rfl (by kernel_rfl) (by kernel_rfl) (by kernel_rfl) (by kernel_rfl) (fun _ _ _ h => h) (Or.inl ⟨by rfl, ?hz28⟩) hS ?rz28
      case hz28 => intro w hSw; (try have hs1 := hSw.1); (try have hs2 := hSw.2); go_simp; try with_reducible rfl
      try simp only [Act.put, List.setIfInBounds_toArray, List.set_cons_zero, List.set_cons_succ]
      refine wpAnyM_pick (i := 16) (some 36) (v := ?vz29) rfl rfl (by kernel_rfl) (by kernel_rfl) (by kernel_rfl) (by kernel_rfl) (fun _ _ _ h => h) (Or.inl ⟨by rfl, ?hz29⟩) hS ?rz29
      case hz29 => intro w hSw; (try have hs1 := hSw.1); (try have hs2 := hSw.2); go_simp; try with_reducible rfl
      try simp only [Act.put, List.setIfInBounds_toArray, List.set_cons_zero, List.set_cons_succ]
      refine wpAnyM_pick (i := 17) (some 37) (v := ?vz30) rfl rfl (by kernel_rfl) (by kernel_rfl) (by kernel_rfl) (by kernel_rfl) (fun _ _ _ h => h) (Or.inl ⟨by rfl, ?hz30⟩) hS ?rz30
      case hz30 => intro w hSw; (try have hs1 := hSw.1); (try have hs2 := hSw.2); go_simp; try with_reducible rfl
      try simp only [Act.put, List.setIfInBounds_toArray, List.set_cons_zero, List.set_cons_succ]
      refine wpAnyM_pick (i := 18) (some 38) (v := undef) rfl rfl (by kernel_rfl) (by kernel_rfl) (by kernel_rfl) (by kernel_rfl) (fun _ _ _ h => h) (Or.inr ⟨by rfl, rfl⟩) hS ?rz31
      try simp only [Act.put, List.setIfInBounds_toArray, List.set_cons_zero, List.set_cons_succ]
      refine wpAnyM_pick (i := 19) (some 39) (v := undef) rfl rfl (by kernel_rfl) (by kernel_rfl) (by kernel_rfl) (by kernel_rfl) (fun _ _ _ h => h) (Or.inr ⟨by rfl, rfl⟩) hS ?rz32
      try simp only [Act.put, List.setIfInBounds_toArray, List.set_cons_zero, List.set_cons_succ]
      refine wpAnyM_pick (i := 20) (some 40) (v := undef) rfl rfl (by kernel_rfl) (by kernel_rfl) (by kernel_rfl) (by kernel_rfl) (fun _ _ _ h => h) (Or.inr ⟨by rfl, rfl⟩) hS ?rz33
      try simp only [Act.put, List.setIfInBounds_toArray, List.set_cons_zero, List.set_cons_succ]
      refine wpAnyM_pick (i := 21) (some 41) (v := undef) rfl rfl (by kernel_rfl) (by kernel_rfl) (by kernel_rfl) (by kernel_rfl) (fun _ _ _ h => h) (Or.inr ⟨by rfl, rfl⟩) hS ?rz34
      try simp only [Act.put, List.setIfInBounds_toArray, List.set_cons_zero, List.set_cons_succ]
      refine wpAnyM_pick (i := 22) (some 42) (v := undef) rfl rfl (by kernel_rfl) (by kernel_rfl) (by kernel_rfl) (by kernel_rfl) (fun _ _ _ h => h) (Or.inr ⟨by rfl, rfl⟩) hS ?rz35
      try simp only [Act.put, List.setIfInBounds_toArray, List.set_cons_zero, List.set_cons_succ]
      refine wpAnyM_pick (i := 23) (some 43) (v := undef) rfl rfl (by kernel_rfl) (by kernel_rfl) (by kernel_rfl) (by kernel_rfl) (fun _ _ _ h => h) (Or.inr ⟨by rfl, rfl⟩) hS ?rz36
      try simp only [Act.put, List.setIfInBounds_toArray, List.set_cons_zero, List.set_cons_succ]
      refine wpAnyM_pick (i := 24) (some 44) (v := undef) rfl rfl (by kernel_rfl) (by kernel_rfl) (by kernel_rfl) (by kernel_rfl) (fun _ _ _ h => h) (Or.inr ⟨by rfl, rfl⟩) hS ?rz37
      try simp only [Act.put, List.setIfInBounds_toArray, List.set_cons_zero, List.set_cons_succ]
      refine wpAnyM_pick (i := 25) (some 45) (v := undef) rfl rfl (by kernel_rfl) (by kernel_rfl) (by kernel_rfl) (by kernel_rfl) (fun _ _ _ h => h) (Or.inr ⟨by rfl, rfl⟩) hS ?rz38
      try simp only [Act.put, List.setIfInBounds_toArray, List.set_cons_zero, List.set_cons_succ]
      refine wpAnyM_pick (i := 26) (some 46) (v := undef) rfl rfl (by kernel_rfl) (by kernel_rfl) (by kernel_rfl) (by kernel_rfl) (fun _ _ _ h => h) (Or.inr ⟨by rfl, rfl⟩) hS ?rz39
      try simp only [Act.put, List.setIfInBounds_toArray, List.set_cons_zero, List.set_cons_succ]
      refine wpAnyM_pick (i := 27) (some 47) (v := undef) rfl rfl (by kernel_rfl) (by kernel_rfl) (by kernel_rfl) (by kernel_rfl) (fun _ _ _ h => h) (Or.inr ⟨by rfl, rfl⟩) hS ?rz40
      try simp only [Act.put, List.setIfInBounds_toArray, List.set_cons_zero, List.set_cons_succ]
      refine wpAnyM_pick (i := 28) (some 48) (v := undef) rfl rfl (by kernel_rfl) (by kernel_rfl) (by kernel_rfl) (by kernel_rfl) (fun _ _ _ h => h) (Or.inr ⟨by rfl, rfl⟩) hS ?rz41
      try simp only [Act.put, List.setIfInBounds_toArray, List.set_cons_zero, List.set_cons_succ]
      refine wpAnyM_pick (i := 29) (some 49) (v := ?vz42) rfl rfl (by kernel_rfl) (by kernel_rfl) (by kernel_rfl) (by kernel_rfl) (fun _ _ _ h => h) (Or.inl ⟨by rfl, ?hz42⟩) hS ?rz42
      case hz42 => intro w hSw; (try have hs1 := hSw.1); (try have hs2 := hSw.2); go_simp; try with_reducible rfl
      try simp only [Act.put, List.setIfInBounds_toArray, List.set_cons_zero, List.set_cons_succ]
      refine wpAnyM_done (by kernel_rfl) ?_ _
      try simp only [Act.put, List.setIfInBounds_toArray, List.set_cons_zero, List.set_cons_succ]
      go_wp2_with fail
      go_ret
      exact ⟨Same.no HNO.out, HS4.out.sn.mono (by omega)⟩
  · have hq : (tp.toList == rt.toList) = false := other_texts h1
    have HNO : Hid (¬ Shw d.bs.length f r) := fun hs => h1 (HSH.out hs).1
    clear h1
    refine wpAnyM_pick (i := 0) (some 20) (v := ?vz43) rfl rfl (by kernel_rfl) (by kernel_rfl) (by kernel_rfl) (by kernel_rfl) (fun _ _ _ h => h) (Or.inl ⟨by rfl, ?hz43⟩) hS ?rz43
    case hz43 => intro w hSw; (try have hs1 := hSw.1); (try have hs2 := hSw.2); go_simp; try with_reducible rfl
    try simp only [Act.put, List.setIfInBounds_toArray, List.set_cons_zero, List.set_cons_succ]
    refine wpAnyM_pick (i := 1) (some 21) (v := ?vz44) rfl rfl (by kernel_rfl) (by kernel_rfl) (by kernel_rfl) (by kernel_rfl) (fun _ _ _ h => h) (Or.inl ⟨by rfl, ?hz44⟩) hS ?rz44
    case hz44 => intro w hSw; (try have hs1 := hSw.1); (try have hs2 := hSw.2); go_simp; try with_reducible rfl
    try simp only [Act.put, List.setIfInBounds_toArray, List.set_cons_zero, List.set_cons_succ]
    refine wpAnyM_pick (i := 2) (some 22) (v := ?vz45) rfl rfl (by kernel_rfl) (by kernel_rfl) (by kernel_rfl) (by kernel_rfl) (fun _ _ _ h => h) (Or.inl ⟨by rfl, ?hz45⟩) hS ?rz45
    case hz45 => intro w hSw; (try have hs1 := hSw.1); (try have hs2 := hSw.2); go_simp; try with_reducible rfl
    try simp only [Act.put, List.setIfInBounds_toArray, List.set_cons_zero, List.set_cons_succ]
    refine wpAnyM_pick (i := 3) (some 23) (v := ?vz46) rfl rfl (by kernel_rfl) (by kernel_rfl) (by kernel_rfl) (by kernel_rfl) (fun _ _ _ h => h) (Or.inl ⟨by rfl, ?hz46⟩) hS ?rz46
    case hz46 => intro w hSw; (try have hs1 := hSw.1); (try have hs2 := hSw.2); go_simp; try with_reducible rfl
    try simp only [Act.put, List.setIfInBounds_toArray, List.set_cons_zero, List.set_cons_succ]
    refine wpAnyM_pick (i := 4) (some 24) (v := ?vz47) rfl rfl (by kernel_rfl) (by kernel_rfl) (by kernel_rfl) (by kernel_rfl) (fun _ _ _ h => h) (Or.inl ⟨by rfl, ?hz47⟩) hS ?rz47
    case hz47 => intro w hSw; (try have hs1 := hSw.1); (try have hs2 := hSw.2); go_simp; try with_reducible rfl
    try simp only [Act.put, List.setIfInBounds_toArray, List.set_cons_zero, List.set_cons_succ]
    refine wpAnyM_pick (i := 5) (some 25) (v := ?vz48) rfl rfl (by kernel_rfl) (by kernel_rfl) (by kernel_rfl) (by kernel_rfl) (fun _ _ _ h => h) (Or.inl ⟨by rfl, ?hz48⟩) hS ?rz48
    case hz48 => intro w hSw; (try have hs1 := hSw.1); (try have hs2 := hSw.2); go_simp; try with_reducible rfl
    try simp only [Act.put, List.setIfInBounds_toArray, List.set_cons_zero, List.set_cons_succ]
    refine wpAnyM_pick (i := 6) (some 26) (v := ?vz49) rfl rfl (by kernel_rfl) (by kernel_rfl) (by kernel_rfl) (by kernel_rfl) (fun _ _ _ h => h) (Or.inl ⟨by rfl, ?hz49⟩) hS ?rz49
    case hz49 => intro w hSw; (try have hs1 := hSw.1); (try have hs2 := hSw.2); go_simp; try with_reducible rfl
    try simp only [Act.put, List.setIfInBounds_toArray, List.set_cons_zero, List.set_cons_succ]
    refine wpAnyM_pick (i := 7) (some 27) (v := ?vz50) rfl rfl (by kernel_rfl) (by kernel_rfl) (by kernel_rfl) (by kernel_rfl) (fun _ _ _ h => h) (Or.inl ⟨by rfl, ?hz50⟩) hS ?rz50
    case hz50 => intro w hSw; (try have hs1 := hSw.1); (try have hs2 := hSw.2); go_simp; try with_reducible rfl
    try simp only [Act.put, List.setIfInBounds_toArray, List.set_cons_zero, List.set_cons_succ]
    refine wpAnyM_pick (i := 8) (some 28) (v := ?vz51) rfl rfl (by kernel_rfl) (by kernel_rfl) (by kernel_rfl) (by kernel_rfl) (fun _ _ _ h => h) (Or.inl ⟨by rfl, ?hz51⟩) hS ?rz51
    case hz51 => intro w hSw; (try have hs1 := hSw.1); (try have hs2 := hSw.2); go_simp; try with_reducible rfl
    try simp only [Act.put, List.setIfInBounds_toArray, List.set_cons_zero, List.set_cons_succ]
    refine wpAnyM_pick (i := 9) (some 29) (v := ?vz52) rfl rfl (by kernel_rfl) (by kernel_rfl) (by kernel_rfl) (by kernel_rfl) (fun _ _ _ h => h) (Or.inl ⟨by rfl, ?hz52⟩) hS ?rz52
    case hz52 => intro w hSw; (try have hs1 := hSw.1); (try have hs2 := hSw.2); go_simp; try with_reducible rfl
    try simp only [Act.put, List.setIfInBounds_toArray, List.set_cons_zero, List.set_cons_succ]
    refine wpAnyM_pick (i := 10) (some 30) (v := ?vz53) rfl rfl (by kernel_rfl) (by kernel_rfl) (by kernel_rfl) (by kernel_rfl) (fun _ _ _ h => h) (Or.inl ⟨by rfl, ?hz53⟩) hS ?rz53
    case hz53 => intro w hSw; (try have hs1 := hSw.1); (try have hs2 := hSw.2); go_simp; try with_reducible rfl
    try simp only [Act.put, List.setIfInBounds_toArray, List.set_cons_zero, List.set_cons_succ]
    refine wpAnyM_pick (i := 11) (some 31) (v := undef) rfl rfl (by kernel_rfl) (by kernel_rfl) (by kernel_rfl) (by kernel_rfl) (fun _ _ _ h => h) (Or.inr ⟨by rfl, rfl⟩) hS ?rz54
    try simp only [Act.put, List.setIfInBounds_toArray, List.set_cons_zero, List.set_cons_succ]
    refine wpAnyM_pick (i := 12) (some 32) (v := undef) rfl rfl (by kernel_rfl) (by kernel_rfl) (by kernel_rfl) (by kernel_rfl) (fun _ _ _ h => h) (Or.inr ⟨by rfl, rfl⟩) hS ?rz55
    try simp only [Act.put, List.setIfInBounds_toArray, List.set_cons_zero, List.set_cons_succ]
    refine wpAnyM_pick (i := 13) (some 33) (v := undef) rfl rfl (by kernel_rfl) (by kernel_rfl) (by kernel_rfl) (by kernel_rfl) (fun _ _ _ h => h) (Or.inr ⟨by rfl, rfl⟩) hS ?rz56
    try simp only [Act.put, List.setIfInBounds_toArray, List.set_cons_zero, List.set_cons_succ]
    refine wpAnyM_pick (i := 14) (some 34) (v := undef) rfl rfl (by kernel_rfl) (by kernel_rfl) (by kernel_rfl) (by kernel_rfl) (fun _ _ _ h => h) (Or.inr ⟨by rfl, rfl⟩) hS ?rz57
    try simp only [Act.put, List.setIfInBounds_toArray, List.set_cons_zero, List.set_cons_succ]
    refine wpAnyM_pick (i := 15) (some 35) (v := undef) rfl rfl (by kernel_rfl) (by kernel_rfl) (by kernel_rfl) (by kernel_rfl) (fun _ _ _ h => h) (Or.inr ⟨by rfl, rfl⟩) hS ?rz58
    try simp only [Act.put, List.setIfInBounds_toArray, List.set_cons_zero, List.set_cons_succ]
    refine wpAnyM_pick (i := 16) (some 36) (v := ?vz59) rfl rfl (by kernel_rfl) (by kernel_rfl) (by kernel_rfl) (by kernel_rfl) (fun _ _ _ h => h) (Or.inl ⟨by rfl, ?hz59⟩) hS ?rz59
    case hz59 => intro w hSw; (try have hs1 := hSw.1); (try have hs2 := hSw.2); go_simp; try with_reducible rfl
    try simp only [Act.put, List.setIfInBounds_toArray, List.set_cons_zero, List.set_cons_succ]
    refine wpAnyM_pick (i := 17) (some 37) (v := ?vz60) rfl rfl (by kernel_rfl) (by kernel_rfl) (by kernel_rfl) (by kernel_rfl) (fun _ _ _ h => h) (Or.inl ⟨by rfl, ?hz60⟩) hS ?rz60
    case hz60 => intro w hSw; (try have hs1 := hSw.1); (try have hs2 := hSw.2); go_simp; try with_reducible rfl
    try simp only [Act.put, List.setIfInBounds_toArray, List.set_cons_zero, List.set_cons_succ]
    refine wpAnyM_pick (i := 18) (some 38) (v := undef) rfl rfl (by kernel_rfl) (by kernel_rfl) (by kernel_rfl) (by kernel_rfl) (fun _ _ _ h => h) (Or.inr ⟨by rfl, rfl⟩) hS ?rz61
    try simp only [Act.put, List.setIfInBounds_toArray, List.set_cons_zero, List.set_cons_succ]
    refine wpAnyM_pick (i := 19) (some 39) (v := undef) rfl rfl (by kernel_rfl) (by kernel_rfl) (by kernel_rfl) (by kernel_rfl) (fun _ _ _ h => h) (Or.inr ⟨by rfl, rfl⟩) hS ?rz62
    try simp only [Act.put, List.setIfInBounds_toArray, List.set_cons_zero, List.set_cons_succ]
    refine wpAnyM_pick (i := 20) (some 40) (v := undef) rfl rfl (by kernel_rfl) (by kernel_rfl) (by kernel_rfl) (by kernel_rfl) (fun _ _ _ h => h) (Or.inr ⟨by rfl, rfl⟩) hS ?rz63
    try simp only [Act.put, List.setIfInBounds_toArray, List.set_cons_zero, List.set_cons_succ]
    refine wpAnyM_pick (i := 21) (some 41) (v := undef) rfl rfl (by kernel_rfl) (by kernel_rfl) (by kernel_rfl) (by kernel_rfl) (fun _ _ _ h => h) (Or.inr ⟨by rfl, rfl⟩) hS ?rz64
    try simp only [Act.put, List.setIfInBounds_toArray, List.set_cons_zero, List.set_cons_succ]
    refine wpAnyM_pick (i := 22) (some 42) (v := undef) rfl rfl (by kernel_rfl) (by kernel_rfl) (by kernel_rfl) (by kernel_rfl) (fun _ _ _ h => h) (Or.inr ⟨by rfl, rfl⟩) hS ?rz65
    try simp only [Act.put, List.setIfInBounds_toArray, List.set_cons_zero, List.set_cons_succ]
    refine wpAnyM_pick (i := 23) (some 43) (v := undef) rfl rfl (by kernel_rfl) (by kernel_rfl) (by kernel_rfl) (by kernel_rfl) (fun _ _ _ h => h) (Or.inr ⟨by rfl, rfl⟩) hS ?rz66
    try simp only [Act.put, List.setIfInBounds_toArray, List.set_cons_zero, List.set_cons_succ]
    refine wpAnyM_pick (i := 24) (some 44) (v := undef) rfl rfl (by kernel_rfl) (by kernel_rfl) (by kernel_rfl) (by kernel_rfl) (fun _ _ _ h => h) (Or.inr ⟨by rfl, rfl⟩) hS ?rz67
    try simp only [Act.put, List.setIfInBounds_toArray, List.set_cons_zero, List.set_cons_succ]
    refine wpAnyM_pick (i := 25) (some 45) (v := undef) rfl rfl (by kernel_rfl) (by kernel_rfl) (by kernel_rfl) (by kernel_rfl) (fun _ _ _ h => h) (Or.inr ⟨by rfl, rfl⟩) hS ?rz68
    try simp only [Act.put, List.setIfInBounds_toArray, List.set_cons_zero, List.set_cons_succ]
    refine wpAnyM_pick (i := 26) (some 46) (v := undef) rfl rfl (by kernel_rfl) (by kernel_rfl) (by kernel_rfl) (by kernel_rfl) (fun _ _ _ h => h) (Or.inr ⟨by rfl, rfl⟩) hS ?rz69
    try simp only [Act.put, List.setIfInBounds_toArray, List.set_cons_zero, List.set_cons_succ]
    refine wpAnyM_pick (i := 27) (some 47) (v := undef) rfl rfl (by kernel_rfl) (by kernel_rfl) (by kernel_rfl) (by kernel_rfl) (fun _ _ _ h => h) (Or.inr ⟨by rfl, rfl⟩) hS ?rz70
    try simp only [Act.put, List.setIfInBounds_toArray, List.set_cons_zero, List.set_cons_succ]
    refine wpAnyM_pick (i := 28) (some 48) (v := undef) rfl rfl (by kernel_rfl) (by kernel_rfl) (by kernel_rfl) (by kernel_rfl) (fun _ _ _ h => h) (Or.inr ⟨by rfl, rfl⟩) hS ?rz71
    try simp only [Act.put, List.setIfInBounds_toArray, List.set_cons_zero, List.set_cons_succ]
    refine wpAnyM_pick (i := 29) (some 49) (v := ?vz72) rfl rfl (by kernel_rfl) (by kernel_rfl) (by kernel_rfl) (by kernel_rfl) (fun _ _ _ h => h) (Or.inl ⟨by rfl, ?hz72⟩) hS ?rz72
    case hz72 => intro w hSw; (try have hs1 := hSw.1); (try have hs2 := hSw.2); go_simp; try with_reducible rfl
    try simp only [Act.put, List.setIfInBounds_toArray, List.set_cons_zero, List.set_cons_succ]
    refine wpAnyM_done (by kernel_rfl) ?_ _
    try simp only [Act.put, List.setIfInBounds_toArray, List.set_cons_zero, List.set_cons_succ]
    go_wp2_with fail
    go_ret
    exact ⟨Same.no HNO.out, HSD.out.sn.mono (by omega)⟩
end

end Go.Proofs.YtglallhblcjffaaGreatDoor
