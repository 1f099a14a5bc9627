/-
  What wakes answers.
-/
import Derived.Test.YtjcbaiohpdihoaaGreatDoorSi1
namespace Go.Proofs.YtjcbaiohpdihoaaGreatDoor
open Go.RowKit
set_option linter.unusedVariables false
set_option linter.unusedSimpArgs false
set_option maxRecDepth 100000

theorem open_nil (r : Int) (w : World) : Calls Tryz.prog 35 #[.pointer none, .int .i64 r] w fun e w' => e = .returned (.tuple #[.pointer none, .int .i64 18]) ∧ w = w' := by
  have hn := pnew_nil r w
  go_enter Tryz.func35, Tryz.ntmps35
  go_wp2_with (go_at_call 66; refine hn.mono ?_; rintro e w1 ⟨rfl, rfl⟩)
  go_ret2
  exact ⟨rfl, rfl⟩
theorem open_no (k : Nat) (r : Int) (hr : ¬ (1 ≤ r ∧ r ≤ 1024)) (w : World) : Calls Tryz.prog 35 #[.pointer (some ⟨k, 0, none⟩), .int .i64 r] w fun e w' => e = .returned (.tuple #[.pointer none, .int .i64 1]) ∧ w = w' := by
  have hn := pnew_no k r hr w
  go_enter Tryz.func35, Tryz.ntmps35
  go_wp2_with (go_at_call 66; refine hn.mono ?_; rintro e w1 ⟨rfl, rfl⟩)
  go_ret2
  exact ⟨rfl, rfl⟩
theorem recv_ok {d : Ds} (h : d.Ok) : (recv d).2.2.Ok := by
  unfold recv
  split
  · exact h
  · split
    · exact h
    · split
      · exact h.wrs
      · exact h.wrs
/-- a pager that is new, over a disk -/
def nwP (d : Ds) (r : Nat) : Pp := ⟨d, r, [], [], 0⟩
/-- the pages that lay a space out -/
def layL (d : Ds) (r : Nat) : List Pg := (layP (nwP d r)).ch
section
variable {w W V : World} {S S' P R D : Nat → Prop} {k q s : Nat} {p : Pp} {d : Ds} {f g : Int → ByteArray} {N M : Nat}
structure Opn (w : World) (D : Nat → Prop) (k q : Nat) (p : Pp) (W : World) : Prop where
  pk : ∃ S', Pk W S' k q p ∧ Grows D S' w
  keep : Keep D w W
theorem Opn.sd (h : Opn w D k q p W) : Sd w D k p.d W := by
  obtain ⟨S', ⟨D', T, t1, _, hd, _⟩, hg⟩ := h.pk
  exact ⟨⟨D', hd, fun j hj => hg j ((t1 j).2 (.inl hj))⟩, h.keep⟩
/-- a new space's block -/
theorem Opn.se (h : Opn w D k q p W) : Se w D k q W.heap.size p (W.alloc (.cells #[.pointer (some ⟨k, 0, none⟩), .pointer (some ⟨q, 0, none⟩), .slice none 0 0] 108)) := by
  obtain ⟨S', h1, hg⟩ := h.pk
  have hb : Below W.heap.size W (W.alloc (.cells #[.pointer (some ⟨k, 0, none⟩), .pointer (some ⟨q, 0, none⟩), .slice none 0 0] 108)) := (Below.refl _ _).alloc (Nat.le_refl _) _
  refine ⟨⟨fun j => S' j ∨ j = W.heap.size, ⟨S', h1.on hb, Blk.made _ _ _, fun j => Iff.rfl, fun hj => by have := h1.lt _ hj; omega⟩, fun j hj => ?_⟩, h.keep.trans (Keep.of_below (S := fun _ => False) hb) (fun _ _ h => h.elim)⟩
  rcases hj with hj | rfl
  · exact hg j hj
  · exact .inr h.keep.size
theorem Se.sn (h : Se w S k q s p W) (hg : SpG p N) (he : ∀ b, vw p b = f b) : Sn w S k q s p.d f N W := by
  obtain ⟨S', h1, h2⟩ := h.sk
  exact ⟨⟨S', ⟨p, h1, hg, rfl, he⟩, h2⟩, h.keep⟩
set_option maxHeartbeats 1000000 in
theorem open_err (r : Nat) (hr : 1 ≤ r ∧ r ≤ 1024) (hz1 : Fit (d.lg.length + 1500)) (he : ¬ (recv d).2.1 = 0) (hd : Dk w D k d) :
    Calls Tryz.prog 35 #[.pointer (some ⟨k, 0, none⟩), .int .i64 (r : Nat)] w fun e w' => e = .returned (.tuple #[.pointer none, .int .i64 ((recv d).2.1 : Nat)]) ∧ Sd w D k (recv d).2.2 w' := by
  have HNW : Hid (Calls Tryz.prog 66 #[.pointer (some ⟨k, 0, none⟩), .int .i64 (r : Nat)] w fun e w' => ∃ q, e = .returned (.tuple #[.pointer (some ⟨q, 0, none⟩), .int .i64 0]) ∧ Opn w D k q (nwP d r) w') := (pnew_any D k d r hr w hd).mono fun e w' hh => by
    obtain ⟨q, e1, ⟨S', h4, h5⟩, h6⟩ := hh
    exact ⟨q, e1, ⟨⟨S', h4, h5⟩, Keep.of_below h6⟩⟩
  have HRC : Hid (∀ w1 q, Opn w D k q (nwP d r) w1 → Calls Tryz.prog 67 #[.pointer (some ⟨k, 0, none⟩)] w1 fun e w' => e = .returned (.tuple #[.int .i64 ((recv d).1 : Nat), .int .i64 ((recv d).2.1 : Nat)]) ∧ Opn w D k q (nwP (recv d).2.2 r) w') := fun w1 q hn => by
    obtain ⟨S', ⟨D', T, t1, t2, hd', hsh⟩, hg⟩ := hn.pk
    refine (recover_any w1 D' k d hd' hz1).mono fun e w' hh => ⟨hh.1, ?_⟩
    have hm := Pm.disk (p := nwP d r) t1 t2 hsh hh.2
    obtain ⟨S2, g1, g2⟩ := hm.pk
    refine ⟨⟨S2, g1, hg.trans g2 hn.keep.size⟩, hn.keep.trans hm.keep (fun j hj h' => ?_)⟩
    rcases hg j h' with t | t
    · exact t
    · omega
  have HSD : Hid (∀ w1 q, Opn w D k q (nwP (recv d).2.2 r) w1 → Sd w D k (recv d).2.2 w1) := fun w1 q h => h.sd
  have hei : (((recv d).2.1 : Int) == 0) = false := by simp; omega
  have hej : ¬ ((recv d).2.1 : Int) = 0 := by omega
  generalize (recv d).2.1 = x at *
  generalize (recv d).1 = y at *
  generalize (recv d).2.2 = d1 at *
  clear hd hz1 hr he
  go_enter Tryz.func35, Tryz.ntmps35
  go_wp2_with (first
    | (go_at_call 66; refine HNW.out.mono ?_; clear HNW; rintro e w1 ⟨q, rfl, h1⟩; have H1 := hid h1; clear h1)
    | (go_at_call 67; refine (HRC.out _ _ H1.out).mono ?_; clear HRC; rintro e w2 ⟨rfl, h2⟩; have H2 := hid h2; clear h2 H1))
  go_ret2
  exact ⟨rfl, HSD.out _ _ H2.out⟩
set_option maxHeartbeats 2000000 in
theorem open_laid (r : Nat) (hr : 1 ≤ r ∧ r ≤ 1024) (hz1 : Fit (d.lg.length + 1500)) (he : (recv d).2.1 = 0) (hdn : (recv d).2.2.dn = false) (hl : laid (recv d).2.2.bs.length (onD (recv d).2.2 0) = true) (hd : Dk w D k d) :
    Calls Tryz.prog 35 #[.pointer (some ⟨k, 0, none⟩), .int .i64 (r : Nat)] w fun e w' => ∃ q s, e = .returned (.tuple #[.pointer (some ⟨s, 0, none⟩), .int .i64 0]) ∧ Sn w D k q s (recv d).2.2 (onD (recv d).2.2) 1 w' := by
  have HNW : Hid (Calls Tryz.prog 66 #[.pointer (some ⟨k, 0, none⟩), .int .i64 (r : Nat)] w fun e w' => ∃ q, e = .returned (.tuple #[.pointer (some ⟨q, 0, none⟩), .int .i64 0]) ∧ Opn w D k q (nwP d r) w') := (pnew_any D k d r hr w hd).mono fun e w' hh => by
    obtain ⟨q, e1, ⟨S', h4, h5⟩, h6⟩ := hh
    exact ⟨q, e1, ⟨⟨S', h4, h5⟩, Keep.of_below h6⟩⟩
  have HRC : Hid (∀ w1 q, Opn w D k q (nwP d r) w1 → Calls Tryz.prog 67 #[.pointer (some ⟨k, 0, none⟩)] w1 fun e w' => e = .returned (.tuple #[.int .i64 ((recv d).1 : Nat), .int .i64 ((recv d).2.1 : Nat)]) ∧ Opn w D k q (nwP (recv d).2.2 r) w') := fun w1 q hn => by
    obtain ⟨S', ⟨D', T, t1, t2, hd', hsh⟩, hg⟩ := hn.pk
    refine (recover_any w1 D' k d hd' hz1).mono fun e w' hh => ⟨hh.1, ?_⟩
    have hm := Pm.disk (p := nwP d r) t1 t2 hsh hh.2
    obtain ⟨S2, g1, g2⟩ := hm.pk
    refine ⟨⟨S2, g1, hg.trans g2 hn.keep.size⟩, hn.keep.trans hm.keep (fun j hj h' => ?_)⟩
    rcases hg j h' with t | t
    · exact t
    · omega
  have hd1 : (recv d).2.2.Ok := recv_ok hd.1
  obtain ⟨v1, v2⟩ : SpG (nwP (recv d).2.2 r) 0 ∧ ∀ b, vw (nwP (recv d).2.2 r) b = onD (recv d).2.2 b := new_view hd1 hdn hr
  rw [he] at HRC
  have HBG : Hid (∀ w1 q s, Se w D k q s (nwP (recv d).2.2 r) w1 → Calls Tryz.prog 68 #[.pointer (some ⟨s, 0, none⟩)] w1 fun e w' => e = .returned .nilIface ∧ Sn w D k q s (recv d).2.2 (onD (recv d).2.2) 1 w') := fun w1 q s hn => (hn.sn v1 v2).step (fun S' h1 _ => begin_laid hl (by omega) h1)
  generalize (recv d).2.2 = d1 at *
  generalize (recv d).1 = y at *
  clear hd hz1 hr he
  go_enter Tryz.func35, Tryz.ntmps35
  go_wp2_with (first
    | (go_at_call 66; refine HNW.out.mono ?_; clear HNW; rintro e w1 ⟨q, rfl, h1⟩; have H1 := hid h1; clear h1)
    | (go_at_call 67; refine (HRC.out _ _ H1.out).mono ?_; clear HRC; rintro e w2 ⟨rfl, h2⟩; have H2 := hid h2; have H3 := hid h2.se; obtain ⟨s, hs⟩ : ∃ s, w2.heap.size = s := ⟨_, rfl⟩; obtain ⟨W3, hW3⟩ : ∃ W3, w2.alloc (.cells #[.pointer (some ⟨k, 0, none⟩), .pointer (some ⟨q, 0, none⟩), .slice none 0 0] 108) = W3 := ⟨_, rfl⟩; clear h2 H1))
  simp only [hs, hW3] at *
  clear hs hW3 H2
  go_wp2_with (first
    | (go_at_call 68; refine (HBG.out _ _ _ H3.out).mono ?_; clear HBG; rintro e w4 ⟨rfl, h4⟩; have H4 := hid h4; clear h4))
  go_ret2
  exact ⟨_, _, rfl, H4.out⟩
set_option maxHeartbeats 2000000 in
theorem open_new (r : Nat) (hr : 1 ≤ r ∧ r ≤ 1024) (hz1 : Fit (d.lg.length + 1500)) (he : (recv d).2.1 = 0) (hdn : (recv d).2.2.dn = false) (hl : laid (recv d).2.2.bs.length (onD (recv d).2.2 0) = false) (hz2 : Fit ((recv d).2.2.lg.length + 5000)) (h0 : (cmt (recv d).2.2 (layL (recv d).2.2 r)).1 = 0) (hd : Dk w D k d) :
    Calls Tryz.prog 35 #[.pointer (some ⟨k, 0, none⟩), .int .i64 (r : Nat)] w fun e w' => ∃ q s, e = .returned (.tuple #[.pointer (some ⟨s, 0, none⟩), .int .i64 0]) ∧ Sn w D k q s (cmt (recv d).2.2 (layL (recv d).2.2 r)).2 (onD (cmt (recv d).2.2 (layL (recv d).2.2 r)).2) 1 w' := by
  have HNW : Hid (Calls Tryz.prog 66 #[.pointer (some ⟨k, 0, none⟩), .int .i64 (r : Nat)] w fun e w' => ∃ q, e = .returned (.tuple #[.pointer (some ⟨q, 0, none⟩), .int .i64 0]) ∧ Opn w D k q (nwP d r) w') := (pnew_any D k d r hr w hd).mono fun e w' hh => by
    obtain ⟨q, e1, ⟨S', h4, h5⟩, h6⟩ := hh
    exact ⟨q, e1, ⟨⟨S', h4, h5⟩, Keep.of_below h6⟩⟩
  have HRC : Hid (∀ w1 q, Opn w D k q (nwP d r) w1 → Calls Tryz.prog 67 #[.pointer (some ⟨k, 0, none⟩)] w1 fun e w' => e = .returned (.tuple #[.int .i64 ((recv d).1 : Nat), .int .i64 ((recv d).2.1 : Nat)]) ∧ Opn w D k q (nwP (recv d).2.2 r) w') := fun w1 q hn => by
    obtain ⟨S', ⟨D', T, t1, t2, hd', hsh⟩, hg⟩ := hn.pk
    refine (recover_any w1 D' k d hd' hz1).mono fun e w' hh => ⟨hh.1, ?_⟩
    have hm := Pm.disk (p := nwP d r) t1 t2 hsh hh.2
    obtain ⟨S2, g1, g2⟩ := hm.pk
    refine ⟨⟨S2, g1, hg.trans g2 hn.keep.size⟩, hn.keep.trans hm.keep (fun j hj h' => ?_)⟩
    rcases hg j h' with t | t
    · exact t
    · omega
  have hd1 : (recv d).2.2.Ok := recv_ok hd.1
  obtain ⟨v1, v2⟩ : SpG (nwP (recv d).2.2 r) 0 ∧ ∀ b, vw (nwP (recv d).2.2 r) b = onD (recv d).2.2 b := new_view hd1 hdn hr
  rw [he] at HRC
  have HBG : Hid (∀ w1 q s, Se w D k q s (nwP (recv d).2.2 r) w1 → Calls Tryz.prog 68 #[.pointer (some ⟨s, 0, none⟩)] w1 fun e w' => e = .returned .nilIface ∧ Sn w D k q s (cmt (recv d).2.2 (layL (recv d).2.2 r)).2 (onD (cmt (recv d).2.2 (layL (recv d).2.2 r)).2) 1 w') := fun w1 q s hn => by
    obtain ⟨S', h1, h2⟩ := hn.sk
    exact ((begin_new (p := nwP (recv d).2.2 r) (by rw [v2]; exact hl) (by omega) hz2 h1 v1).1 h0).mono fun e w' hh => ⟨hh.1, Sn.trans h2 hn.keep hh.2⟩
  generalize (cmt (recv d).2.2 (layL (recv d).2.2 r)).2 = d2 at *
  generalize (recv d).2.2 = d1 at *
  clear h0 hz2
  generalize (recv d).1 = y at *
  clear hd hz1 hr he
  go_enter Tryz.func35, Tryz.ntmps35
  go_wp2_with (first
    | (go_at_call 66; refine HNW.out.mono ?_; clear HNW; rintro e w1 ⟨q, rfl, h1⟩; have H1 := hid h1; clear h1)
    | (go_at_call 67; refine (HRC.out _ _ H1.out).mono ?_; clear HRC; rintro e w2 ⟨rfl, h2⟩; have H2 := hid h2; have H3 := hid h2.se; obtain ⟨s, hs⟩ : ∃ s, w2.heap.size = s := ⟨_, rfl⟩; obtain ⟨W3, hW3⟩ : ∃ W3, w2.alloc (.cells #[.pointer (some ⟨k, 0, none⟩), .pointer (some ⟨q, 0, none⟩), .slice none 0 0] 108) = W3 := ⟨_, rfl⟩; clear h2 H1))
  simp only [hs, hW3] at *
  clear hs hW3 H2
  go_wp2_with (first
    | (go_at_call 68; refine (HBG.out _ _ _ H3.out).mono ?_; clear HBG; rintro e w4 ⟨rfl, h4⟩; have H4 := hid h4; clear h4))
  go_ret2
  exact ⟨_, _, rfl, H4.out⟩
set_option maxHeartbeats 2000000 in
theorem open_bad (r : Nat) (hr : 1 ≤ r ∧ r ≤ 1024) (hz1 : Fit (d.lg.length + 1500)) (he : (recv d).2.1 = 0) (hdn : (recv d).2.2.dn = false) (hE : Env w) (h00 : ¬ D 0) (hl : laid (recv d).2.2.bs.length (onD (recv d).2.2 0) = false) (hz2 : Fit ((recv d).2.2.lg.length + 5000)) (h0 : (cmt (recv d).2.2 (layL (recv d).2.2 r)).1 = 17) (hd : Dk w D k d) :
    Calls Tryz.prog 35 #[.pointer (some ⟨k, 0, none⟩), .int .i64 (r : Nat)] w fun e w' => e = .returned (.tuple #[.pointer none, .int .i64 17]) ∧ Sd w D k (cmt (recv d).2.2 (layL (recv d).2.2 r)).2 w' := by
  have HNW : Hid (Calls Tryz.prog 66 #[.pointer (some ⟨k, 0, none⟩), .int .i64 (r : Nat)] w fun e w' => ∃ q, e = .returned (.tuple #[.pointer (some ⟨q, 0, none⟩), .int .i64 0]) ∧ Opn w D k q (nwP d r) w') := (pnew_any D k d r hr w hd).mono fun e w' hh => by
    obtain ⟨q, e1, ⟨S', h4, h5⟩, h6⟩ := hh
    exact ⟨q, e1, ⟨⟨S', h4, h5⟩, Keep.of_below h6⟩⟩
  have HRC : Hid (∀ w1 q, Opn w D k q (nwP d r) w1 → Calls Tryz.prog 67 #[.pointer (some ⟨k, 0, none⟩)] w1 fun e w' => e = .returned (.tuple #[.int .i64 ((recv d).1 : Nat), .int .i64 ((recv d).2.1 : Nat)]) ∧ Opn w D k q (nwP (recv d).2.2 r) w') := fun w1 q hn => by
    obtain ⟨S', ⟨D', T, t1, t2, hd', hsh⟩, hg⟩ := hn.pk
    refine (recover_any w1 D' k d hd' hz1).mono fun e w' hh => ⟨hh.1, ?_⟩
    have hm := Pm.disk (p := nwP d r) t1 t2 hsh hh.2
    obtain ⟨S2, g1, g2⟩ := hm.pk
    refine ⟨⟨S2, g1, hg.trans g2 hn.keep.size⟩, hn.keep.trans hm.keep (fun j hj h' => ?_)⟩
    rcases hg j h' with t | t
    · exact t
    · omega
  have hd1 : (recv d).2.2.Ok := recv_ok hd.1
  obtain ⟨v1, v2⟩ : SpG (nwP (recv d).2.2 r) 0 ∧ ∀ b, vw (nwP (recv d).2.2 r) b = onD (recv d).2.2 b := new_view hd1 hdn hr
  rw [he] at HRC
  have HBG : Hid (∀ w1 q s, Se w D k q s (nwP (recv d).2.2 r) w1 → Calls Tryz.prog 68 #[.pointer (some ⟨s, 0, none⟩)] w1 fun e w' => (∃ a, e = .returned (.iface 216 (.agg #[.int .i64 a, .iface 26 (.int .i64 17)]))) ∧ Sd w D k (cmt (recv d).2.2 (layL (recv d).2.2 r)).2 w') := fun w1 q s hn => by
    obtain ⟨S', h1, h2⟩ := hn.sk
    refine ((begin_new (p := nwP (recv d).2.2 r) (by rw [v2]; exact hl) (by omega) hz2 h1 v1).2 h0).mono fun e w' hh => ⟨hh.1, ?_⟩
    obtain ⟨D', g1, g2⟩ := hh.2.dk
    refine ⟨⟨D', g1, h2.trans g2 hn.keep.size⟩, hn.keep.trans hh.2.keep (fun j hj h' => ?_)⟩
    rcases h2 j h' with t | t
    · exact t
    · omega
  have HNU : Hid (∀ w1 a, Sd w D k (cmt (recv d).2.2 (layL (recv d).2.2 r)).2 w1 → Calls Tryz.prog 49 #[.iface 216 (.agg #[.int .i64 a, .iface 26 (.int .i64 17)])] w1 fun e w' => e = .returned (.int .i64 17) ∧ Sd w D k (cmt (recv d).2.2 (layL (recv d).2.2 r)).2 w') := fun w1 a hn => (number_any (.wrapped a 17) w1 (hn.keep.env hE h00)).mono fun e w' hh => ⟨hh.1, hn.on hh.2⟩
  generalize (cmt (recv d).2.2 (layL (recv d).2.2 r)).2 = d2 at *
  generalize (recv d).2.2 = d1 at *
  clear h0 hz2
  generalize (recv d).1 = y at *
  clear hd hz1 hr he
  go_enter Tryz.func35, Tryz.ntmps35
  go_wp2_with (first
    | (go_at_call 66; refine HNW.out.mono ?_; clear HNW; rintro e w1 ⟨q, rfl, h1⟩; have H1 := hid h1; clear h1)
    | (go_at_call 67; refine (HRC.out _ _ H1.out).mono ?_; clear HRC; rintro e w2 ⟨rfl, h2⟩; have H2 := hid h2; have H3 := hid h2.se; obtain ⟨s, hs⟩ : ∃ s, w2.heap.size = s := ⟨_, rfl⟩; obtain ⟨W3, hW3⟩ : ∃ W3, w2.alloc (.cells #[.pointer (some ⟨k, 0, none⟩), .pointer (some ⟨q, 0, none⟩), .slice none 0 0] 108) = W3 := ⟨_, rfl⟩; clear h2 H1))
  simp only [hs, hW3] at *
  clear hs hW3 H2
  go_wp2_with (first
    | (go_at_call 68; refine (HBG.out _ _ _ H3.out).mono ?_; clear HBG; rintro e w4 ⟨⟨a, rfl⟩, h4⟩; have H4 := hid h4; clear h4)
    | (go_at_call 49; refine (HNU.out _ _ H4.out).mono ?_; clear HNU; rintro e w5 ⟨rfl, h5⟩; have H5 := hid h5; clear h5))
  go_ret2
  exact ⟨rfl, H5.out⟩
end

theorem recv_nw {n : Nat} (h : 64 ≤ n) : recv (nw n) = (0, 0, nw n) := recv_old rfl (nw_Z (by omega))
theorem Z_list : Z.data.toList = List.replicate 256 0 := rfl
theorem laid_Z (n : Nat) : laid n Z = false := by
  unfold laid mkB
  rw [Z_list, ByteArray.data_append, Array.toList_append]
  rfl
theorem onD_nw {n : Nat} {a : Int} (h : 0 ≤ a ∧ a < n) : onD (nw n) a = Z := onD_of (by show (List.replicate n Z)[a.toNat]? = some Z; rw [List.getElem?_replicate, if_pos (by omega)])
theorem byteAt_Z (k : Nat) : byteAt Z k = 0 := by
  unfold byteAt
  rw [Z_list, List.getD_eq_getElem?_getD, List.getElem?_replicate]
  split <;> rfl
theorem hasB_Z (j : Nat) : hasB Z j = false := by unfold hasB; rw [byteAt_Z]; simp
theorem hasB_fm0 (j : Nat) : hasB fm0 j = decide (j = 0) := by
  unfold fm0
  rw [hasB_with (by decide) (by decide), hasB_Z]
  by_cases h : j = 0 <;> simp [h]
theorem usrL_congr {F c : Nat} {b : ByteArray} {t : Bool} (g : Nat → Bool) (h : ∀ j, j < c → (hasB b (j + 1) == t) = g j) : usrL F c b t = ((List.range c).filter g).map fun (j : Nat) => (F : Int) + 1 + (j : Int) := by
  unfold usrL
  congr 1
  exact List.filter_congr (fun j hj => h j (List.mem_range.1 hj))
theorem st_ne {p : Pp} {a : Int} {s : ByteArray} (h : p.stE a s = 0) : (p.st a s).ch ≠ [] := by
  unfold Pp.st
  rw [if_pos h]
  simp [insC]
/-- a space is laid out on a disk with the power on and no cut told -/
theorem cmt_lay {d : Ds} (hd : d.Ok) (hdn : d.dn = false) {r : Nat} (hr : 1 ≤ r ∧ r ≤ 1024) (hl : d.lf < 0) : (cmt d (layL d r)).1 = 0 ∧ (cmt d (layL d r)).2.dn = false ∧ (cmt d (layL d r)).2.lf = d.lf ∧ (cmt d (layL d r)).2.bs.length = d.bs.length ∧ (∀ a, isPg d.bs.length a → onD (cmt d (layL d r)).2 a = nwF d (onD d) a) ∧ (cmt d (layL d r)).2.Ok ∧ (cmt d (layL d r)).2.lg.length ≤ d.lg.length + 5000 ∧ (cmt d (layL d r)).2.bs[1]? = some Z := by
  obtain ⟨v1, v2⟩ : SpG (nwP d r) 0 ∧ ∀ b, vw (nwP d r) b = onD d b := new_view hd hdn hr
  obtain ⟨l1, l2, l3⟩ := layP_view v1
  have hg := SrtC.gp l1.ok
  have hd2 : (layP (nwP d r)).d = d := l2
  rw [hd2] at hg
  have hne : layL d r ≠ [] := by
    obtain ⟨_, _, a3, a4, a5⟩ := ld_view v1 (zero_pg (nwP d r).d.bs.length)
    obtain ⟨_, b2, b3, _⟩ := st_view (a := 0) a3 (zero_pg _) (pg0_size (nwP d r).d.bs.length)
    exact st_ne (st_view (a := mpg (nwP d r).d) b2 (by rw [b3, a4]; exact mpg_pg hd) fm0_size).1
  have hon := cmt_on hg hne hdn hl
  have h0 : (cmt (layP (nwP d r)).d (layP (nwP d r)).ch).1 = 0 := by rw [hd2, hon]
  obtain ⟨_, c2, c3, c4, c5, c6, c7⟩ := cm_view l1 h0
  rw [hd2] at c3 c4 c5 c7
  have hok2 : (cmt d (layL d r)).2.Ok := by have := c2.ok.d; rw [c3] at this; exact this
  have hlg := cmt_lg d (layL d r)
  have hfew : (layL d r).length ≤ 1019 := l1.ok.few
  refine ⟨by show (cmt d (layP (nwP d r)).ch).1 = 0; rw [hon], by show (cmt d (layP (nwP d r)).ch).2.dn = false; rw [hon]; exact hdn, by show (cmt d (layP (nwP d r)).ch).2.lf = d.lf; rw [hon], c4, fun a ha => ?_, hok2, by unfold lb at hlg; omega, ?_⟩
  · rw [show onD (cmt d (layL d r)).2 a = onD (cmt d (layP (nwP d r)).ch).2 a from rfl, c5 a ha, l3]
    unfold nwF
    simp only [v2]
    rfl
  · rcases c7 with ⟨f1, _⟩ | f1
    · exact absurd f1 hne
    · exact f1

/-- a space made since w0 -/
def Sq (w0 w : World) (k q s : Nat) (d : Ds) (f : Int → ByteArray) (N : Nat) : Prop := ∃ S, Sv w S k q s d f N ∧ (∀ j, S j → w0.heap.size ≤ j) ∧ Below w0.heap.size w0 w
section
variable {w0 w W V : World} {S D : Nat → Prop} {k q s n : Nat} {d d' : Ds} {f f' : Int → ByteArray} {N N' : Nat}
theorem Sn.sq (hS : ∀ j, S j → w0.heap.size ≤ j) (hb : Below w0.heap.size w0 w) (h : Sn w S k q s d f N W) : Sq w0 W k q s d f N := by
  obtain ⟨S', h1, h2⟩ := h.sv
  refine ⟨S', h1, fun j hj => ?_, hb.trans (h.keep.below hS hb.size)⟩
  rcases h2 j hj with t | t
  · exact hS j t
  · exact Nat.le_trans hb.size t
theorem Sq.call {F : Ending → World → Prop} {args : Array Value} (hE : Env w0) (h : Sq w0 w k q s d f N) (hc : ∀ S, Sv w S k q s d f N → Env w → ¬ S 0 → Calls Tryz.prog n args w fun e V => F e V ∧ Sn w S k q s d' f' N' V) : Calls Tryz.prog n args w fun e V => F e V ∧ Sq w0 V k q s d' f' N' := by
  obtain ⟨S, h1, h2, h3⟩ := h
  have hp := hE.pos
  exact (hc S h1 (hE.on hp h3) (fun h0 => by have := h2 0 h0; omega)).mono fun e V hh => ⟨hh.1, hh.2.sq h2 h3⟩
theorem Sq.below (h : Sq w0 w k q s d f N) : Below w0.heap.size w0 w := by obtain ⟨_, _, _, h⟩ := h; exact h
theorem Sq.on (h : Sq w0 w k q s d f N) (hb : Below w.heap.size w W) : Sq w0 W k q s d f N := by
  obtain ⟨S, h1, h2, h3⟩ := h
  exact ⟨S, h1.on hb, h2, h3.trans (hb.mono h3.size)⟩
/-- a disk made since w0 -/
def Dq (w0 w : World) (k : Nat) (d : Ds) : Prop := ∃ D, Dk w D k d ∧ (∀ j, D j → w0.heap.size ≤ j) ∧ Below w0.heap.size w0 w
theorem new_dq (n : Nat) (h1 : 64 ≤ n) (h2 : n ≤ 2048) (hb : Below w0.heap.size w0 w) : Calls Tryz.prog 34 #[.int .i64 (n : Nat)] w fun e w' => ∃ k, e = .returned (.tuple #[.pointer (some ⟨k, 0, none⟩), .int .i64 0]) ∧ Dq w0 w' k (nw n) :=
  (new_any n h1 h2 w).mono fun e w' hh => by
    obtain ⟨k, e1, hd, hb2⟩ := hh
    exact ⟨k, e1, _, hd, fun j hj => Nat.le_trans hb.size hj.1, hb.trans (hb2.mono hb.size)⟩
theorem nw_ok' {n : Nat} (h1 : 64 ≤ n) (h2 : n ≤ 2048) : (nw n).Ok := nw_ok h1 h2
theorem nw_len {n : Nat} : (nw n).bs.length = n := nw_bs n
/-- a space on a new disk -/
theorem open_nw (n : Nat) (h1 : 64 ≤ n) (h2 : n ≤ 2048) (r : Nat) (hr : 1 ≤ r ∧ r ≤ 1024) (h : Dq w0 w k (nw n)) :
    Calls Tryz.prog 35 #[.pointer (some ⟨k, 0, none⟩), .int .i64 (r : Nat)] w fun e w' => ∃ q s, e = .returned (.tuple #[.pointer (some ⟨s, 0, none⟩), .int .i64 0]) ∧ Sq w0 w' k q s (cmt (nw n) (layL (nw n) r)).2 (onD (cmt (nw n) (layL (nw n) r)).2) 1 := by
  obtain ⟨D, hd, hD, hb⟩ := h
  have hrc := recv_nw h1
  have hok : (nw n).Ok := nw_ok' h1 h2
  have hcl := cmt_lay hok rfl hr (show (nw n).lf < 0 by show (-1 : Int) < 0; decide)
  have := open_new (w := w) (D := D) (k := k) (d := nw n) r hr (by show (0 + 1500) * 24 ≤ _; decide) (by rw [hrc]) (by rw [hrc]; rfl) (by rw [hrc]; show laid (nw n).bs.length (onD (nw n) 0) = false; rw [onD_nw ⟨Int.le_refl _, by omega⟩]; exact laid_Z _) (by rw [hrc]; show (0 + 5000) * 24 ≤ _; decide) (by rw [hrc]; exact hcl.1) hd
  rw [hrc] at this
  exact this.mono fun e w' hh => by
    obtain ⟨q, s, e1, hn⟩ := hh
    exact ⟨q, s, e1, hn.sq hD hb⟩
end
theorem frs64 : frs 64 = 34 := by decide
theorem pgs64 : pgs 64 = 31 := by decide
end Go.Proofs.YtjcbaiohpdihoaaGreatDoor
