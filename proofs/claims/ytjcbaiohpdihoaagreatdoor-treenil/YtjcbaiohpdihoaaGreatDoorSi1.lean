/-
  A space's begin and Open.
-/
import Derived.Test.YtjcbaiohpdihoaaGreatDoorSf1
import Derived.Test.YtjcbaiohpdihoaaGreatDoorSb
namespace Go.Proofs.YtjcbaiohpdihoaaGreatDoor
open Go.RowKit
set_option linter.unusedVariables false
set_option linter.unusedSimpArgs false
set_option maxRecDepth 100000

theorem Keep.cell {S : Nat → Prop} {w W : World} (h : Keep S w W) {g i : Nat} (hg : g < w.heap.size) (hn : ¬ S g) : W.cell? ⟨g, i, none⟩ = w.cell? ⟨g, i, none⟩ := by
  unfold World.cell?
  rw [h.block g hg hn]
section
variable {w W V : World} {S S' P R : Nat → Prop} {k q s : Nat} {p : Pp} {d : Ds} {f g : Int → ByteArray} {N M : Nat}
/-- nothing is kept of a Commit that failed -/
theorem Sn.was (h : Sn w S k q s d f N W) (hs : S s) : Sn w S k q s d f N (W.setCell ⟨s, 2, none⟩ (.slice none 0 0)) := by
  obtain ⟨S', ⟨p, ⟨P, h1, h2, h3, h4⟩, h5⟩, hg⟩ := h.sv
  have k2 : Keep (fun j => j = s) W (W.setCell ⟨s, 2, none⟩ (.slice none 0 0)) := Keep.set (S := fun j => j = s) W rfl 2 _
  exact ⟨⟨S', ⟨p, ⟨P, k2.pk h1 (fun j hj e => h4 (e ▸ hj)), h2.set 2 _, h3, h4⟩, h5⟩, hg⟩, h.keep.trans k2 (fun j _ e => by subst e; exact hs)⟩
/-- what a Commit that failed leaves: its disk -/
structure Sd (w : World) (S : Nat → Prop) (k : Nat) (d : Ds) (W : World) : Prop where
  dk : ∃ D, Dk W D k d ∧ Grows S D w
  keep : Keep S w W
theorem Sd.on (h : Sd w S k d W) (hb : Below W.heap.size W V) : Sd w S k d V := by
  obtain ⟨D, h1, h2⟩ := h.dk
  exact ⟨⟨D, h1.on hb, h2⟩, h.keep.trans (Keep.of_below (S := fun _ => False) hb) (fun _ _ h => h.elim)⟩
theorem Sn.sd (h : Sn w S k q s d f N W) : Sd w S k d W := by
  obtain ⟨S', ⟨p, ⟨P, ⟨D, T, t1, _, hd, _⟩, _, h3, _⟩, _, rfl, _⟩, hg⟩ := h.sv
  exact ⟨⟨D, hd, fun j hj => hg j ((h3 j).2 (.inl ((t1 j).2 (.inl hj))))⟩, h.keep⟩
set_option maxHeartbeats 2000000 in
theorem write_sk (hz : Fit (p.d.lg.length + 5000)) (hk : Sk w S k q s p) (hg : SpG p N) :
    ((cmt p.d p.ch).1 = 0 → Calls Tryz.prog 60 #[.pointer (some ⟨s, 0, none⟩)] w fun e w' => e = .returned .nilIface ∧ Sn w S k q s (cmt p.d p.ch).2 (onD (cmt p.d p.ch).2) N w') ∧
    ((cmt p.d p.ch).1 = 17 → Calls Tryz.prog 60 #[.pointer (some ⟨s, 0, none⟩)] w fun e w' => (∃ a, e = .returned (.iface 216 (.agg #[.int .i64 a, .iface 26 (.int .i64 17)]))) ∧ Sd w S k (cmt p.d p.ch).2 w') := by
  have h : Sv w S k q s p.d (vw p) N := ⟨p, hk, hg, rfl, fun _ => rfl⟩
  have hv : ∀ b, vw p b = vw p b := fun _ => rfl
  obtain ⟨c0, c1, c2, f2, hss⟩ := h.cells
  have hsl := h.lt s hss
  have HSV := hid h
  obtain ⟨P, hP, hb, hS, hs⟩ := hk
  have hfew := hg.ok.few
  have HDI : Hid (Calls Tryz.prog 105 #[.pointer (some ⟨q, 0, none⟩)] w fun e w' => ∃ a c, e = .returned (.slice a p.ch.length c) ∧ RowI w' w.heap.size (.slice a p.ch.length c) (p.ch.map Pg.pl) ∧ Below w.heap.size w w') := (dirty_any (by omega) hP).mono fun e w' hh => by
    obtain ⟨v', e1, r, b⟩ := hh
    obtain ⟨a, c, e2⟩ := r.form
    subst e2
    rw [List.length_map] at e1 r
    exact ⟨a, c, e1, r, b⟩
  by_cases hch : p.ch = []
  · have e : cmt p.d p.ch = (0, p.d) := by rw [hch]; exact cmt_nil p.d
    refine ⟨fun _ => ?_, fun h17 => by rw [e] at h17; cases h17⟩
    rw [e]
    rw [hch] at HDI
    have HEX : Hid (Sv w S k q s p.d (onD p.d) N) := HSV.out.ext (fun b => by rw [← hv]; unfold vw; rw [hch]; rfl)
    clear hP hb hS hs hg hv hfew HSV h
    go_enter Tryz.func60, Tryz.ntmps60
    go_wp2_with (first
      | (go_at_call 105; refine HDI.out.mono ?_; clear HDI; rintro e w1 ⟨a, c, rfl, _, hb1⟩; have HB1 := hid hb1; clear hb1))
    go_ret
    exact ⟨rfl, (Sn.refl HEX.out).on HB1.out⟩
  · obtain ⟨c, r, hcr⟩ : ∃ c r, p.ch = c :: r := by
      cases hcc : p.ch with
      | nil => exact absurd hcc hch
      | cons c r => exact ⟨c, r, rfl⟩
    have HBE : Hid (∀ w1 a b, RowI w1 w.heap.size (.slice a p.ch.length b) (p.ch.map Pg.pl) → Below w.heap.size w w1 → Calls Tryz.prog 106 #[.pointer (some ⟨s, 0, none⟩), .slice a p.ch.length b] w1 fun e w' => (∃ a' c', e = .returned (.tuple #[.slice a' p.ch.length c', .nilIface])) ∧ Below w1.heap.size w1 w') := fun w1 a b hr hb1 => before_sp a b p.ch.length w.heap.size _ (by rw [List.length_map]) hr (by omega) (fun x hx => by
      obtain ⟨y, hy, rfl⟩ := List.mem_map.1 hx
      exact (hg.ok.cg y hy).1) (HSV.out.on hb1)
    have HSE : Hid (∀ w1, Below w.heap.size w w1 → Calls Tryz.prog 107 #[.pointer (some ⟨s, 0, none⟩)] w1 fun e w' => e = .returned .nilIface ∧ w1 = w') := fun w1 hb1 => settle_sp (HSV.out.on hb1)
    have HKC : Hid (∀ w1, Below w.heap.size w w1 → w1.cell? ⟨s, 1, none⟩ = some (.pointer (some ⟨q, 0, none⟩))) := fun w1 hb1 => (hb1.cell (p := ⟨s, 1, none⟩) hsl).trans c1
    have HR0 : Hid (∀ (w1 : World) a b, RowI w1 w.heap.size (.slice a p.ch.length b) (p.ch.map Pg.pl) → ∃ g, a = some ⟨g, 0, none⟩ ∧ w.heap.size ≤ g ∧ g < w1.heap.size ∧ w1.cell? ⟨g, 0, none⟩ = some (.int .i64 c.pl)) := fun w1 a b hr => by
      obtain ⟨g, e1, e2, e3, e4, _⟩ := hr.at (k := 0) (x := c.pl) (by rw [hcr]; rfl)
      exact ⟨g, e1, e2, e3, e4⟩
    have hPl := hP.lt
    have HCM : Hid (∀ w1 (g : Nat), Below w.heap.size w w1 → w.heap.size ≤ g → g < w1.heap.size → w1.cell? ⟨g, 0, none⟩ = some (.int .i64 c.pl) → Calls Tryz.prog 108 #[.pointer (some ⟨q, 0, none⟩)] w1 fun e w' => e = .returned (.int .i64 (p.cmE : Nat)) ∧ Pm w1 P k q p.cm w' ∧ w'.cell? ⟨g, 0, none⟩ = some (.int .i64 c.pl) ∧ w'.cell? ⟨s, 1, none⟩ = some (.pointer (some ⟨q, 0, none⟩))) := fun w1 g hb1 hg1 hg2 hg3 => (pcommit_any N hg.ok hz (hP.on hb1)).mono fun e w' hh => ⟨hh.1, hh.2, by rw [hh.2.keep.cell hg2 (fun hj => by have := hPl g hj; omega)]; exact hg3, by rw [hh.2.keep.cell (Nat.lt_of_lt_of_le hsl hb1.size) hs]; exact HKC.out w1 hb1⟩
    have hfo := fun a w1 => faultAt_ok a w1
    have hfa := fun a w1 => faultAt_any a 17 (by decide) w1
    have HIS : Hid (∀ a w1, _) := fun a w1 => is_fault a 17 w1
    obtain ⟨n, hn⟩ : ∃ n, p.ch.length = n := ⟨_, rfl⟩
    have hn0 : 0 < n := by rw [← hn, hcr]; simp
    rw [hn] at HDI HBE HR0 hfew
    have hnz : ((n : Int) == 0) = false := by simp; omega
    have hnn : ¬ (n : Int) = 0 := by omega
    have hnp : (0 : Int) < (n : Int) := by omega
    refine ⟨fun h0 => ?_, fun h17 => ?_⟩
    · obtain ⟨e1, e2, e3, e4, e5, e6, _⟩ := cm_view hg h0
      rw [e1] at HCM
      have HFI : Hid (∀ w1 w2, Below w.heap.size w w1 → Pm w1 P k q p.cm w2 → w2.cell? ⟨s, 2, none⟩ = some (.slice none 0 0) ∧ w2.frozen? ⟨s, 2, none⟩ = false ∧ Sn w S k q s (cmt p.d p.ch).2 (onD (cmt p.d p.ch).2) N (w2.setCell ⟨s, 2, none⟩ (.slice none 0 0))) := fun w1 w2 hb1 hm => by
        have hbl := Keep.blk (Keep.of_below (S := fun _ => False) hb1) hb (fun h => h)
        have := (Sn.pager (hP.on hb1) hbl hS hs hm e2 e6).base hb1
        rw [e3] at this
        exact ⟨(hm.keep.blk hbl hs).cell (i := 2) rfl, (hm.keep.blk hbl hs).free 2, this.was hss⟩
      generalize (cmt p.d p.ch).2 = d2 at *
      generalize p.cm = pc at *
      clear hP hb hS hs hv HSV c0 c2 f2 hg e1 e2 e3 e4 e5 e6 hz hch hcr hn h0 hfa HIS h
      go_enter Tryz.func60, Tryz.ntmps60
      go_wp2_with (first
        | (go_at_call 105; refine HDI.out.mono ?_; clear HDI c1; rintro e w1 ⟨a, b, rfl, r1, hb1⟩; obtain ⟨g, rfl, hg1, hg2, hg3⟩ := HR0.out _ _ _ r1; have HR1 := hid r1; have HB1 := hid hb1; have HC1 := HKC.out _ hb1; have HG := hid (And.intro hg1 (And.intro hg2 hg3)); clear r1 hb1 hg1 hg2 hg3)
        | (go_at_call 106; refine (HBE.out _ _ _ HR1.out HB1.out).mono ?_; clear HBE; rintro e w2 ⟨⟨a2, b2, rfl⟩, hb2⟩; have HB2 := hid (HB1.out.trans (hb2.mono HB1.out.size)); have hg3 := (hb2.cell (p := ⟨g, 0, none⟩) HG.out.2.1).trans HG.out.2.2; have hg2 := Nat.lt_of_lt_of_le HG.out.2.1 hb2.size; have HG2 := hid (And.intro HG.out.1 (And.intro hg2 hg3)); clear hb2 HR1 HG hg3 hg2)
        | (go_at_call 107; refine (HSE.out _ HB2.out).mono ?_; clear HSE HC1; rintro e w3 ⟨rfl, rfl⟩))
      have HBd : Hid (Below w.heap.size w w2.drew) := HB2.out.drew
      have HS0 : w2.drew.cell? ⟨g, 0, none⟩ = some (.int .i64 c.pl) ∧ w2.drew.cell? ⟨s, 1, none⟩ = some (.pointer (some ⟨q, 0, none⟩)) := ⟨HG2.out.2.2, HKC.out _ HBd.out⟩
      have HCD := hid (HCM.out w2.drew g HBd.out HG2.out.1 HG2.out.2.1 HG2.out.2.2)
      clear HCM HB2 HG2
      go_region_held3 (fun w' => w'.cell? ⟨g, 0, none⟩ = some (.int .i64 c.pl) ∧ w'.cell? ⟨s, 1, none⟩ = some (.pointer (some ⟨q, 0, none⟩))) (first | exact HS0 | exact HS1)
        (first
          | (go_at_call 108; refine HCD.out.mono ?_; clear HCD; rintro e w4 ⟨rfl, hm4, hs4, hs5⟩; have HM4 := hid hm4; have HS1 := And.intro hs4 hs5; clear hm4 hs4 hs5)
          | (go_at_call 90; refine (hfo _ _).mono ?_; clear hfo; rintro e w5 ⟨rfl, rfl⟩))
      obtain ⟨c4, f4, hfi⟩ := HFI.out _ _ HBd.out HM4.out
      have HF := hid hfi
      clear HFI HS0 HS1 HM4 hfi HBd
      go_wp2_with fail
      go_ret
      exact ⟨rfl, HF.out⟩
    · have e1 : p.cmE = 17 := h17
      have e4 : p.cm = { p with d := (cmt p.d p.ch).2 } := by unfold Pp.cm; rw [if_neg (by rw [h17]; decide)]
      rw [e1, e4] at HCM
      have HFI : Hid (∀ w1 w2, Below w.heap.size w w1 → Pm w1 P k q { p with d := (cmt p.d p.ch).2 } w2 → w2.cell? ⟨s, 2, none⟩ = some (.slice none 0 0) ∧ ∀ w3 v, Below w2.heap.size w2 w3 → w3.cell? ⟨s, 2, none⟩ = some (.slice none 0 0) ∧ w3.frozen? ⟨s, 2, none⟩ = false ∧ Sd w S k (cmt p.d p.ch).2 (w3.setCell ⟨s, 2, none⟩ v)) := fun w1 w2 hb1 hm => by
        have hbl := Keep.blk (Keep.of_below (S := fun _ => False) hb1) hb (fun h => h)
        have hb2 := hm.keep.blk hbl hs
        refine ⟨hb2.cell (i := 2) rfl, fun w3 v hb3 => ?_⟩
        have hb4 := Keep.blk (Keep.of_below (S := fun _ => False) hb3) hb2 (fun h => h)
        refine ⟨hb4.cell (i := 2) rfl, hb4.free 2, ?_⟩
        obtain ⟨P', ⟨D, T, t1, t2, hd, _⟩, hg2⟩ := hm.pk
        have k2 : Keep (fun j => j = s) w3 (w3.setCell ⟨s, 2, none⟩ v) := Keep.set (S := fun j => j = s) w3 rfl 2 _
        have hds : ¬ D s := fun hj => by
          rcases hg2 s ((t1 s).2 (.inl hj)) with t | t
          · exact hs t
          · have := hbl.lt; omega
        refine ⟨⟨D, k2.dk (hd.on hb3) (fun j hj e => hds (e ▸ hj)), fun j hj => ?_⟩, ?_⟩
        · rcases hg2 j ((t1 j).2 (.inl hj)) with t | t
          · exact .inl ((hS j).2 (.inl t))
          · exact .inr (Nat.le_trans hb1.size t)
        · refine ((Keep.of_below (S := S) hb1).trans (hm.keep.mono (S' := S) (fun j _ hj => (hS j).2 (.inl hj))) (fun _ _ h => h)).trans ((Keep.of_below (S := S) hb3).trans (k2.mono (S' := S) (fun j _ e => by subst e; exact hss)) (fun _ _ h => h)) (fun _ _ h => h)
      generalize (cmt p.d p.ch).2 = d2 at *
      generalize ({ p with d := d2 } : Pp) = pc at *
      clear hP hb hS hs hv HSV c0 c2 f2 hg e1 e4 hz hch hcr hn h17 hfo h
      go_enter Tryz.func60, Tryz.ntmps60
      go_wp2_with (first
        | (go_at_call 105; refine HDI.out.mono ?_; clear HDI c1; rintro e w1 ⟨a, b, rfl, r1, hb1⟩; obtain ⟨g, rfl, hg1, hg2, hg3⟩ := HR0.out _ _ _ r1; have HR1 := hid r1; have HB1 := hid hb1; have HC1 := HKC.out _ hb1; have HG := hid (And.intro hg1 (And.intro hg2 hg3)); clear r1 hb1 hg1 hg2 hg3)
        | (go_at_call 106; refine (HBE.out _ _ _ HR1.out HB1.out).mono ?_; clear HBE; rintro e w2 ⟨⟨a2, b2, rfl⟩, hb2⟩; have HB2 := hid (HB1.out.trans (hb2.mono HB1.out.size)); have hg3 := (hb2.cell (p := ⟨g, 0, none⟩) HG.out.2.1).trans HG.out.2.2; have hg2 := Nat.lt_of_lt_of_le HG.out.2.1 hb2.size; have HG2 := hid (And.intro HG.out.1 (And.intro hg2 hg3)); clear hb2 HR1 HG hg3 hg2)
        | (go_at_call 107; refine (HSE.out _ HB2.out).mono ?_; clear HSE HC1; rintro e w3 ⟨rfl, rfl⟩))
      have HBd : Hid (Below w.heap.size w w2.drew) := HB2.out.drew
      have HS0 : w2.drew.cell? ⟨g, 0, none⟩ = some (.int .i64 c.pl) ∧ w2.drew.cell? ⟨s, 1, none⟩ = some (.pointer (some ⟨q, 0, none⟩)) := ⟨HG2.out.2.2, HKC.out _ HBd.out⟩
      have HCD := hid (HCM.out w2.drew g HBd.out HG2.out.1 HG2.out.2.1 HG2.out.2.2)
      clear HCM HB2 HG2
      go_region_held3 (fun w' => w'.cell? ⟨g, 0, none⟩ = some (.int .i64 c.pl) ∧ w'.cell? ⟨s, 1, none⟩ = some (.pointer (some ⟨q, 0, none⟩))) (first | exact HS0 | exact HS1)
        (first
          | (go_at_call 108; refine HCD.out.mono ?_; clear HCD; rintro e w4 ⟨rfl, hm4, hs4, hs5⟩; have HM4 := hid hm4; have HS1 := And.intro hs4 hs5; clear hm4 hs4 hs5)
          | (go_at_call 90; refine (hfa _ _).mono ?_; clear hfa; rintro e w5 ⟨rfl, rfl⟩))
      have HF := hid (HFI.out _ _ HBd.out HM4.out).2
      clear HFI HS0 HS1 HM4 HBd
      go_wp2_with (go_at_call 109; refine (HIS.out _ _).mono ?_; clear HIS; rintro e w6 ⟨rfl, hb6⟩; obtain ⟨c6, f6, hf6⟩ := HF.out _ (.slice a2 n b2) hb6; have HF6 := hid hf6; clear hf6 hb6 HF)
      go_ret
      exact ⟨⟨_, rfl⟩, HF6.out⟩
theorem write_sp (hz : Fit (d.lg.length + 5000)) (h : Sv w S k q s d f N) : ∃ L, Gp d.bs.length L ∧ (∀ a, isPg d.bs.length a → (appl d.bs L)[a.toNat]? = some (f a)) ∧
    ((cmt d L).1 = 0 → Calls Tryz.prog 60 #[.pointer (some ⟨s, 0, none⟩)] w fun e w' => e = .returned .nilIface ∧ Sn w S k q s (cmt d L).2 (onD (cmt d L).2) N w') ∧
    ((cmt d L).1 = 17 → Calls Tryz.prog 60 #[.pointer (some ⟨s, 0, none⟩)] w fun e w' => (∃ a, e = .returned (.iface 216 (.agg #[.int .i64 a, .iface 26 (.int .i64 17)]))) ∧ Sd w S k (cmt d L).2 w') := by
  obtain ⟨p, hk, hg, rfl, hv⟩ := h
  exact ⟨p.ch, SrtC.gp hg.ok, fun a ha => by rw [appl_view hg ha, hv], write_sk hz hk hg⟩
theorem scommit_nil (w : World) : Calls Tryz.prog 30 #[.pointer none] w fun e w' => e = .returned (.int .i64 18) ∧ w = w' := by
  go_enter Tryz.func30, Tryz.ntmps30
  go_wp2
  go_ret
  exact ⟨rfl, rfl⟩
theorem scommit_sp (hE : Env w) (h0 : ¬ S 0) (hz : Fit (d.lg.length + 5000)) (h : Sv w S k q s d f N) : ∃ L, Gp d.bs.length L ∧ (∀ a, isPg d.bs.length a → (appl d.bs L)[a.toNat]? = some (f a)) ∧
    ((cmt d L).1 = 0 → Calls Tryz.prog 30 #[.pointer (some ⟨s, 0, none⟩)] w fun e w' => e = .returned (.int .i64 0) ∧ Sn w S k q s (cmt d L).2 (onD (cmt d L).2) N w') ∧
    ((cmt d L).1 = 17 → Calls Tryz.prog 30 #[.pointer (some ⟨s, 0, none⟩)] w fun e w' => e = .returned (.int .i64 17) ∧ Sd w S k (cmt d L).2 w') := by
  obtain ⟨L, h1, h2, h3, h4⟩ := write_sp hz h
  refine ⟨L, h1, h2, fun e0 => ?_, fun e17 => ?_⟩
  · have HW := hid (h3 e0)
    have hnn := fun w1 => number_nil w1
    generalize (cmt d L).2 = d2 at *
    clear h1 h2 h3 h4 h e0
    go_enter Tryz.func30, Tryz.ntmps30
    go_wp2_with (first
      | (go_at_call 60; refine HW.out.mono ?_; clear HW; rintro e w1 ⟨rfl, hn1⟩; have HN1 := hid hn1; clear hn1)
      | (go_at_call 49; refine (hnn _).mono ?_; clear hnn; rintro e w3 ⟨rfl, hb3⟩; have HB3 := hid hb3; clear hb3))
    go_ret
    exact ⟨rfl, HN1.out.on HB3.out⟩
  · have HW := hid (h4 e17)
    have HNU : Hid (∀ w1 a, Sd w S k (cmt d L).2 w1 → Calls Tryz.prog 49 #[.iface 216 (.agg #[.int .i64 a, .iface 26 (.int .i64 17)])] w1 fun e w' => e = .returned (.int .i64 17) ∧ Sd w S k (cmt d L).2 w') := fun w1 a hn => (number_any (.wrapped a 17) w1 (hn.keep.env hE h0)).mono fun e w' hh => ⟨hh.1, hn.on hh.2⟩
    generalize (cmt d L).2 = d2 at *
    clear h1 h2 h3 h4 h e17
    go_enter Tryz.func30, Tryz.ntmps30
    go_wp2_with (first
      | (go_at_call 60; refine HW.out.mono ?_; clear HW; rintro e w1 ⟨⟨a, rfl⟩, hn1⟩; have HN1 := hid hn1; clear hn1)
      | (go_at_call 49; refine (HNU.out _ _ HN1.out).mono ?_; clear HNU; rintro e w3 ⟨rfl, hn3⟩; have HN3 := hid hn3; clear hn3))
    go_ret
    exact ⟨rfl, HN3.out⟩
end

/-- the first map, the first head page -/
def fm0 : ByteArray := withB Z 0 true
def pg0 (n : Nat) : ByteArray := Nu.padOf (mkB n) 256
theorem fm0_size : fm0.size = 256 := withB_size (by decide) (by decide) true
theorem pg0_size (n : Nat) : (pg0 n).size = 256 := by
  unfold pg0 Nu.padOf
  show ((mkB n).data.toList ++ List.replicate (256 - (mkB n).size) 0).toArray.size = 256
  have h := mkB_size n
  have h2 : (mkB n).data.toList.length = 8 := by rw [← h]; simp
  rw [h]
  simp only [List.size_toArray, List.length_append, List.length_replicate, h2]
theorem firstMap_any (w : World) : Calls Tryz.prog 124 #[] w fun e w' => e = .returned (.string fm0) ∧ Below w.heap.size w w' := by
  have hp := padded_any ⟨#[]⟩ (by decide) w
  rw [show Nu.padOf ⟨#[]⟩ 256 = Z from pad_nil] at hp
  have HW : Hid (∀ w1, Calls Tryz.prog 127 #[.string Z, .int .i64 0, .bool true] w1 fun e w' => e = .returned (.string fm0) ∧ Below w1.heap.size w1 w') := fun w1 => bwith_any Z 0 true (by decide) (by decide) w1
  generalize fm0 = x at *
  generalize Z = z at *
  go_enter Tryz.func124, Tryz.ntmps124
  go_wp2_with (first
    | (go_at_call 72; refine hp.mono ?_; clear hp; rintro e w1 ⟨rfl, hb1⟩; have HB1 := hid hb1; clear hb1)
    | (go_at_call 127; refine (HW.out _).mono ?_; clear HW; rintro e w2 ⟨rfl, hb2⟩; have HB2 := hid hb2; clear hb2))
  go_ret
  exact ⟨rfl, HB1.out.trans (HB2.out.mono HB1.out.size)⟩
/-- does a head page stand there? -/
def laid (n : Nat) (x : ByteArray) : Bool := Lib.hasPrefix x.data.toList (mkB n).data.toList
/-- what a new space shows -/
def nwF (d : Ds) (f : Int → ByteArray) : Int → ByteArray := fun b => if b = mpg d then fm0 else if b = 0 then pg0 d.bs.length else f b
section
variable {w W V : World} {S S' P R D : Nat → Prop} {k q s : Nat} {p : Pp} {d : Ds} {f g : Int → ByteArray} {N M : Nat}
set_option maxHeartbeats 1000000 in
theorem begin_laid (hl : laid d.bs.length (f 0) = true) (hN : N < 4611686018427387000) (h : Sv w S k q s d f N) :
    Calls Tryz.prog 68 #[.pointer (some ⟨s, 0, none⟩)] w fun e w' => e = .returned .nilIface ∧ Sn w S k q s d f (N + 1) w' := by
  obtain ⟨hd, _, _⟩ := h.good
  have HLD := hid (load_sp 0 (zero_pg _) (by omega) h)
  have HLN : Hid (∀ w1, Sn w S k q s d f (N + 1) w1 → w1.cell? ⟨s, 0, none⟩ = some (.pointer (some ⟨k, 0, none⟩)) ∧ Calls Tryz.prog 84 #[.pointer (some ⟨k, 0, none⟩)] w1 fun e w' => e = .returned (.int .i64 (d.bs.length : Nat)) ∧ w1 = w') := fun w1 hn => by
    obtain ⟨S', h1, _⟩ := hn.sv
    exact ⟨h1.cells.1, slen_any h1⟩
  have HMK : Hid (∀ w1, Calls Tryz.prog 123 #[.int .i64 (d.bs.length : Nat)] w1 fun e w' => e = .returned (.string (mkB d.bs.length)) ∧ Below w1.heap.size w1 w') := fun w1 => markOf_any d.bs.length hd.hi w1
  have HPF : Hid (∀ w1, Calls Tryz.prog 114 #[.string (f 0), .string (mkB d.bs.length)] w1 fun e w' => e = .returned (.bool true) ∧ w' = w1) := fun w1 => by
    have := Tryz.strings_HasPrefix (f 0) (mkB d.bs.length) w1
    rw [show Lib.hasPrefix (f 0).data.toList (mkB d.bs.length).data.toList = true from hl] at this
    exact this
  generalize f 0 = x at *
  generalize mkB d.bs.length = y at *
  generalize d.bs.length = n at *
  clear h hd hl
  go_enter Tryz.func68, Tryz.ntmps68
  go_wp2_with (first
    | (go_at_call 50; refine HLD.out.mono ?_; clear HLD; rintro e w1 ⟨rfl, hn1⟩; obtain ⟨c1, hln⟩ := HLN.out _ hn1; have HN1 := hid hn1; have HL1 := hid hln; clear hn1 hln HLN)
    | (go_at_call 84; refine HL1.out.mono ?_; clear HL1; rintro e w2 ⟨rfl, rfl⟩)
    | (go_at_call 123; refine (HMK.out _).mono ?_; clear HMK c1; rintro e w3 ⟨rfl, hb3⟩; have HN3 := hid (HN1.out.on hb3); clear hb3 HN1)
    | (go_at_call 114; refine (HPF.out _).mono ?_; clear HPF; rintro e w4 ⟨rfl, rfl⟩))
  go_ret
  exact ⟨rfl, HN3.out⟩
/-- what a call leaves, its pager told -/
structure Se (w : World) (S : Nat → Prop) (k q s : Nat) (p : Pp) (W : World) : Prop where
  sk : ∃ S', Sk W S' k q s p ∧ Grows S S' w
  keep : Keep S w W
theorem Se.on (h : Se w S k q s p W) (hb : Below W.heap.size W V) : Se w S k q s p V := by
  obtain ⟨S', h1, h2⟩ := h.sk
  exact ⟨⟨S', (Keep.of_below (S := fun _ => False) hb).sk h1 (fun _ _ h => h), h2⟩, h.keep.trans (Keep.of_below (S := fun _ => False) hb) (fun _ _ h => h.elim)⟩
theorem Se.trans {p' : Pp} (hg : Grows S S' w) (hk : Keep S w W) (h : Se W S' k q s p' V) : Se w S k q s p' V := by
  obtain ⟨T2, h1, h2⟩ := h.sk
  refine ⟨⟨T2, h1, hg.trans h2 hk.size⟩, hk.trans h.keep (fun j hj h' => ?_)⟩
  rcases hg j h' with h' | h'
  · exact h'
  · omega
theorem Se.pager {p' : Pp} (hP : Pk w P k q p) (hb : Blk w s #[.pointer (some ⟨k, 0, none⟩), .pointer (some ⟨q, 0, none⟩), .slice none 0 0] 108) (hS : ∀ j, S j ↔ P j ∨ j = s) (hs : ¬ P s) (h : Pm w P k q p' W) : Se w S k q s p' W := by
  obtain ⟨P', h1, h2⟩ := h.pk
  have hsl := hb.lt
  refine ⟨⟨fun j => P' j ∨ j = s, ⟨P', h1, h.keep.blk hb hs, fun j => Iff.rfl, fun hj => ?_⟩, fun j hj => ?_⟩, h.keep.mono (fun j _ hj => (hS j).2 (.inl hj))⟩
  · rcases h2 s hj with h' | h'
    · exact hs h'
    · omega
  · rcases hj with hj | rfl
    · rcases h2 j hj with h' | h'
      · exact .inl ((hS j).2 (.inl h'))
      · exact .inr h'
    · exact .inl ((hS j).2 (.inr rfl))
theorem Se.step {p' : Pp} {F : Ending → World → Prop} {n : Nat} {args : Array Value} (h : Se w S k q s p W) (hc : ∀ S', Sk W S' k q s p → Calls Tryz.prog n args W fun e V => F e V ∧ Se W S' k q s p' V) : Calls Tryz.prog n args W fun e V => F e V ∧ Se w S k q s p' V := by
  obtain ⟨S', h1, h2⟩ := h.sk
  exact (hc S' h1).mono fun e V hh => ⟨hh.1, Se.trans h2 h.keep hh.2⟩
theorem load_se (a : Int) (ha : isPg p.d.bs.length a) (hN : N < 4611686018427387904) (h : Sk w S k q s p) (hg : SpG p N) :
    Calls Tryz.prog 50 #[.pointer (some ⟨s, 0, none⟩), .int .i64 a] w fun e w' => e = .returned (.tuple #[.string (vw p a), .nilIface]) ∧ Se w S k q s (p.ld a) w' := by
  obtain ⟨c0, c1, c2, _⟩ := (show Sv w S k q s p.d (vw p) N from ⟨p, h, hg, rfl, fun _ => rfl⟩).cells
  have HLD : Hid (Calls Tryz.prog 89 #[.pointer (some ⟨q, 0, none⟩), .int .i64 a] w fun e w' => e = .returned (.tuple #[.string (vw p a), .int .i64 0]) ∧ Se w S k q s (p.ld a) w') := by
    obtain ⟨P, hP, hb, hS, hs⟩ := h
    obtain ⟨e1, e2, _⟩ := ld_view hg ha
    refine (load_any N hN a hg.ok hP).mono fun e w' hh => ?_
    rw [e1, e2] at hh
    exact ⟨hh.1, Se.pager hP hb hS hs hh.2⟩
  have hf := fun w1 => faultAt_ok a w1
  generalize vw p a = t at *
  clear h ha c2 hg
  go_enter Tryz.func50, Tryz.ntmps50
  go_wp2_with (first
    | (go_at_call 89; refine HLD.out.mono ?_; clear HLD c0 c1; rintro e w1 ⟨rfl, hn1⟩; have HN1 := hid hn1; clear hn1)
    | (go_at_call 90; refine (hf _).mono ?_; clear hf; rintro e w2 ⟨rfl, rfl⟩))
  go_ret2
  exact ⟨rfl, HN1.out⟩
theorem store_se (a : Int) (ha : isPg p.d.bs.length a) (x : ByteArray) (hx : x.size = 256) (h : Sk w S k q s p) (hg : SpG p N) :
    Calls Tryz.prog 71 #[.pointer (some ⟨s, 0, none⟩), .int .i64 a, .string x] w fun e w' => e = .returned .nilIface ∧ Se w S k q s (p.st a x) w' := by
  obtain ⟨c0, c1, c2, _⟩ := (show Sv w S k q s p.d (vw p) N from ⟨p, h, hg, rfl, fun _ => rfl⟩).cells
  have HST : Hid (Calls Tryz.prog 59 #[.pointer (some ⟨q, 0, none⟩), .int .i64 a, .string x] w fun e w' => e = .returned (.int .i64 0) ∧ Se w S k q s (p.st a x) w') := by
    obtain ⟨P, hP, hb, hS, hs⟩ := h
    obtain ⟨e1, _⟩ := st_view hg ha hx
    have hai : I64 a := isPg_i64 hg.ok.d.lo hg.ok.d.hi ha
    refine (store_any N a hai x (by rw [hx]; decide) hg.ok hP).mono fun e w' hh => ?_
    rw [e1] at hh
    exact ⟨hh.1, Se.pager hP hb hS hs hh.2⟩
  have hf := fun w1 => faultAt_ok a w1
  clear h ha c2 hx hg
  go_enter Tryz.func71, Tryz.ntmps71
  go_wp2_with (first
    | (go_at_call 59; refine HST.out.mono ?_; clear HST c0 c1; rintro e w1 ⟨rfl, hn1⟩; have HN1 := hid hn1; clear hn1)
    | (go_at_call 90; refine (hf _).mono ?_; clear hf; rintro e w2 ⟨rfl, rfl⟩))
  go_ret
  exact ⟨rfl, HN1.out⟩
/-- the pager of a space that is laid out -/
def layP (p : Pp) : Pp := ((p.ld 0).st 0 (pg0 p.d.bs.length)).st (mpg p.d) fm0
theorem layP_view (h : SpG p N) : SpG (layP p) (N + 1) ∧ (layP p).d = p.d ∧ ∀ b, vw (layP p) b = nwF p.d (vw p) b := by
  obtain ⟨_, _, a3, a4, a5⟩ := ld_view h (zero_pg p.d.bs.length)
  obtain ⟨_, b2, b3, b4⟩ := st_view (a := 0) a3 (zero_pg _) (pg0_size p.d.bs.length)
  have hm : isPg ((p.ld 0).st 0 (pg0 p.d.bs.length)).d.bs.length (mpg p.d) := by rw [b3, a4]; exact mpg_pg h.ok.d
  obtain ⟨_, c2, c3, c4⟩ := st_view b2 hm fm0_size
  refine ⟨c2, c3.trans (b3.trans a4), fun b => ?_⟩
  unfold layP nwF
  rw [c4, b4, a5]
set_option maxHeartbeats 2000000 in
theorem begin_new (hl : laid p.d.bs.length (vw p 0) = false) (hN : N < 4611686018427387000) (hz : Fit (p.d.lg.length + 5000)) (h : Sk w S k q s p) (hg : SpG p N) :
    ((cmt p.d (layP p).ch).1 = 0 → Calls Tryz.prog 68 #[.pointer (some ⟨s, 0, none⟩)] w fun e w' => e = .returned .nilIface ∧ Sn w S k q s (cmt p.d (layP p).ch).2 (onD (cmt p.d (layP p).ch).2) (N + 1) w') ∧
    ((cmt p.d (layP p).ch).1 = 17 → Calls Tryz.prog 68 #[.pointer (some ⟨s, 0, none⟩)] w fun e w' => (∃ a, e = .returned (.iface 216 (.agg #[.int .i64 a, .iface 26 (.int .i64 17)]))) ∧ Sd w S k (cmt p.d (layP p).ch).2 w') := by
  have hd := hg.ok.d
  obtain ⟨_, _, a3, a4, a5⟩ := ld_view hg (zero_pg p.d.bs.length)
  obtain ⟨_, b2, b3, b4⟩ := st_view (a := 0) a3 (zero_pg _) (pg0_size p.d.bs.length)
  have hm : isPg ((p.ld 0).st 0 (pg0 p.d.bs.length)).d.bs.length (mpg p.d) := by rw [b3, a4]; exact mpg_pg hd
  obtain ⟨d1, d2, _⟩ := layP_view hg
  have HLD := hid (load_se 0 (zero_pg _) (by omega) h hg)
  have HLN : Hid (∀ w1, Se w S k q s (p.ld 0) w1 → w1.cell? ⟨s, 0, none⟩ = some (.pointer (some ⟨k, 0, none⟩)) ∧ Calls Tryz.prog 84 #[.pointer (some ⟨k, 0, none⟩)] w1 fun e w' => e = .returned (.int .i64 (p.d.bs.length : Nat)) ∧ w1 = w') := fun w1 hn => by
    obtain ⟨S', h1, _⟩ := hn.sk
    have hsv : Sv w1 S' k q s p.d (vw (p.ld 0)) (N + 1) := ⟨_, h1, a3, a4, fun _ => rfl⟩
    exact ⟨hsv.cells.1, slen_any hsv⟩
  have HMK : Hid (∀ w1, Calls Tryz.prog 123 #[.int .i64 (p.d.bs.length : Nat)] w1 fun e w' => e = .returned (.string (mkB p.d.bs.length)) ∧ Below w1.heap.size w1 w') := fun w1 => markOf_any p.d.bs.length hd.hi w1
  have HPF : Hid (∀ w1, Calls Tryz.prog 114 #[.string (vw p 0), .string (mkB p.d.bs.length)] w1 fun e w' => e = .returned (.bool false) ∧ w' = w1) := fun w1 => by
    have := Tryz.strings_HasPrefix (vw p 0) (mkB p.d.bs.length) w1
    rw [show Lib.hasPrefix (vw p 0).data.toList (mkB p.d.bs.length).data.toList = false from hl] at this
    exact this
  have HPD : Hid (∀ w1, Calls Tryz.prog 72 #[.string (mkB p.d.bs.length)] w1 fun e w' => e = .returned (.string (pg0 p.d.bs.length)) ∧ Below w1.heap.size w1 w') := fun w1 => padded_any _ (by rw [mkB_size]; decide) w1
  have HS1 : Hid (∀ w1, Se w S k q s (p.ld 0) w1 → Calls Tryz.prog 71 #[.pointer (some ⟨s, 0, none⟩), .int .i64 0, .string (pg0 p.d.bs.length)] w1 fun e w' => e = .returned .nilIface ∧ Se w S k q s ((p.ld 0).st 0 (pg0 p.d.bs.length)) w') := fun w1 hn => hn.step (fun S' h1 => store_se 0 (zero_pg _) _ (pg0_size _) h1 a3)
  have hmp := fun w1 => mapAt_any p.d.bs.length hd.lo hd.hi w1
  have HFM : Hid (∀ w1, _) := fun w1 => firstMap_any w1
  have HS2 : Hid (∀ w1, Se w S k q s ((p.ld 0).st 0 (pg0 p.d.bs.length)) w1 → Calls Tryz.prog 71 #[.pointer (some ⟨s, 0, none⟩), .int .i64 ((frs p.d.bs.length : Nat) : Int), .string fm0] w1 fun e w' => e = .returned .nilIface ∧ Se w S k q s (layP p) w') := fun w1 hn => hn.step (fun S' h1 => store_se (mpg p.d) hm _ fm0_size h1 b2)
  have hz2 : Fit ((layP p).d.lg.length + 5000) := by rw [d2]; exact hz
  refine ⟨fun h0 => ?_, fun h17 => ?_⟩
  · have HWR : Hid (∀ w1, Se w S k q s (layP p) w1 → Calls Tryz.prog 60 #[.pointer (some ⟨s, 0, none⟩)] w1 fun e w' => e = .returned .nilIface ∧ Sn w S k q s (cmt p.d (layP p).ch).2 (onD (cmt p.d (layP p).ch).2) (N + 1) w') := fun w1 hn => by
      obtain ⟨S', h1, h2⟩ := hn.sk
      have := (write_sk hz2 h1 d1).1
      rw [d2] at this
      exact (this h0).mono fun e w' hh => ⟨hh.1, Sn.trans h2 hn.keep hh.2⟩
    generalize (cmt p.d (layP p).ch).2 = dd at *
    generalize layP p = p3 at *
    generalize (p.ld 0).st 0 (pg0 p.d.bs.length) = p2 at *
    generalize p.ld 0 = p1 at *
    generalize pg0 p.d.bs.length = x0 at *
    generalize vw p 0 = y0 at *
    generalize mkB p.d.bs.length = m0 at *
    generalize frs p.d.bs.length = F at *
    generalize p.d.bs.length = n at *
    generalize fm0 = z0 at *
    clear h hg hd hl a3 a4 a5 b2 b3 b4 hm d1 d2 hz2 hz h0
    go_enter Tryz.func68, Tryz.ntmps68
    go_wp2_with (first
      | (go_at_call 50; refine HLD.out.mono ?_; clear HLD; rintro e w1 ⟨rfl, hn1⟩; obtain ⟨c1, hln⟩ := HLN.out _ hn1; have HN1 := hid hn1; have HL1 := hid hln; clear hn1 hln HLN)
      | (go_at_call 84; refine HL1.out.mono ?_; clear HL1; rintro e w2 ⟨rfl, rfl⟩)
      | (go_at_call 123; refine (HMK.out _).mono ?_; clear c1; rintro e w3 ⟨rfl, hb3⟩; have HN3 := hid (HN1.out.on hb3); clear hb3 HN1)
      | (go_at_call 114; refine (HPF.out _).mono ?_; clear HPF; rintro e w4 ⟨rfl, rfl⟩)
      | (go_at_call 123; refine (HMK.out _).mono ?_; clear HMK; rintro e w5 ⟨rfl, hb5⟩; have HN5 := hid (HN3.out.on hb5); clear hb5 HN3)
      | (go_at_call 72; refine (HPD.out _).mono ?_; clear HPD; rintro e w6 ⟨rfl, hb6⟩; have HN6 := hid (HN5.out.on hb6); clear hb6 HN5)
      | (go_at_call 71; refine (HS1.out _ HN6.out).mono ?_; clear HS1; rintro e w7 ⟨rfl, hn7⟩; have HN7 := hid hn7; clear hn7 HN6)
      | (go_at_call 87; refine (hmp _).mono ?_; clear hmp; rintro e w8 ⟨rfl, rfl⟩)
      | (go_at_call 124; refine (HFM.out _).mono ?_; clear HFM; rintro e w9 ⟨rfl, hb9⟩; have HN9 := hid (HN7.out.on hb9); clear hb9 HN7)
      | (go_at_call 71; refine (HS2.out _ HN9.out).mono ?_; clear HS2; rintro e wa ⟨rfl, hna⟩; have HNa := hid hna; clear hna HN9)
      | (go_at_call 60; refine (HWR.out _ HNa.out).mono ?_; clear HWR; rintro e wb ⟨rfl, hnb⟩; have HNb := hid hnb; clear hnb HNa))
    go_ret
    exact ⟨rfl, HNb.out⟩
  · have HWR : Hid (∀ w1, Se w S k q s (layP p) w1 → Calls Tryz.prog 60 #[.pointer (some ⟨s, 0, none⟩)] w1 fun e w' => (∃ a, e = .returned (.iface 216 (.agg #[.int .i64 a, .iface 26 (.int .i64 17)]))) ∧ Sd w S k (cmt p.d (layP p).ch).2 w') := fun w1 hn => by
      obtain ⟨S', h1, h2⟩ := hn.sk
      have := (write_sk hz2 h1 d1).2
      rw [d2] at this
      refine (this h17).mono fun e w' hh => ⟨hh.1, ?_⟩
      obtain ⟨D', g1, g2⟩ := hh.2.dk
      refine ⟨⟨D', g1, h2.trans g2 hn.keep.size⟩, hn.keep.trans hh.2.keep (fun j hj h' => ?_)⟩
      rcases h2 j h' with t | t
      · exact t
      · omega
    generalize (cmt p.d (layP p).ch).2 = dd at *
    generalize layP p = p3 at *
    generalize (p.ld 0).st 0 (pg0 p.d.bs.length) = p2 at *
    generalize p.ld 0 = p1 at *
    generalize pg0 p.d.bs.length = x0 at *
    generalize vw p 0 = y0 at *
    generalize mkB p.d.bs.length = m0 at *
    generalize frs p.d.bs.length = F at *
    generalize p.d.bs.length = n at *
    generalize fm0 = z0 at *
    clear h hg hd hl a3 a4 a5 b2 b3 b4 hm d1 d2 hz2 hz h17
    go_enter Tryz.func68, Tryz.ntmps68
    go_wp2_with (first
      | (go_at_call 50; refine HLD.out.mono ?_; clear HLD; rintro e w1 ⟨rfl, hn1⟩; obtain ⟨c1, hln⟩ := HLN.out _ hn1; have HN1 := hid hn1; have HL1 := hid hln; clear hn1 hln HLN)
      | (go_at_call 84; refine HL1.out.mono ?_; clear HL1; rintro e w2 ⟨rfl, rfl⟩)
      | (go_at_call 123; refine (HMK.out _).mono ?_; clear c1; rintro e w3 ⟨rfl, hb3⟩; have HN3 := hid (HN1.out.on hb3); clear hb3 HN1)
      | (go_at_call 114; refine (HPF.out _).mono ?_; clear HPF; rintro e w4 ⟨rfl, rfl⟩)
      | (go_at_call 123; refine (HMK.out _).mono ?_; clear HMK; rintro e w5 ⟨rfl, hb5⟩; have HN5 := hid (HN3.out.on hb5); clear hb5 HN3)
      | (go_at_call 72; refine (HPD.out _).mono ?_; clear HPD; rintro e w6 ⟨rfl, hb6⟩; have HN6 := hid (HN5.out.on hb6); clear hb6 HN5)
      | (go_at_call 71; refine (HS1.out _ HN6.out).mono ?_; clear HS1; rintro e w7 ⟨rfl, hn7⟩; have HN7 := hid hn7; clear hn7 HN6)
      | (go_at_call 87; refine (hmp _).mono ?_; clear hmp; rintro e w8 ⟨rfl, rfl⟩)
      | (go_at_call 124; refine (HFM.out _).mono ?_; clear HFM; rintro e w9 ⟨rfl, hb9⟩; have HN9 := hid (HN7.out.on hb9); clear hb9 HN7)
      | (go_at_call 71; refine (HS2.out _ HN9.out).mono ?_; clear HS2; rintro e wa ⟨rfl, hna⟩; have HNa := hid hna; clear hna HN9)
      | (go_at_call 60; refine (HWR.out _ HNa.out).mono ?_; clear HWR; rintro e wb ⟨⟨a, rfl⟩, hnb⟩; have HNb := hid hnb; clear hnb HNa))
    go_ret
    exact ⟨⟨a, rfl⟩, HNb.out⟩
end

end Go.Proofs.YtjcbaiohpdihoaaGreatDoor
