/-
  The document's Commit.
-/
import Derived.Test.YtoecopmbaoklkaaGreatQj
namespace Go.Proofs.YtoecopmbaoklkaaGreat
open Go.RowKit
set_option linter.unusedVariables false
set_option linter.unusedSimpArgs false
set_option maxRecDepth 100000

section
variable {w : World} {S T : Nat → Prop} {k q room rd : Nat} {hs : List Hp} {ch : List Pg} {p : Pp}
/-- behind the journal's Commit the changed pages are let go -/
theorem Qn.letgo {w2 : World} {va : Option Addr} {n vc : Nat} (hn : p.ch.length = n) (h : Qn w S k q p w2) (hc : w2.cell? ⟨q, 3, none⟩ = some (.slice va n vc)) :
    ∃ D T3 : Nat → Prop, (∀ j, D j → ¬ T3 j) ∧ Rk (w2.setCell ⟨q, 3, none⟩ (.slice none 0 0)) D k p.d ∧ Qh (w2.setCell ⟨q, 3, none⟩ (.slice none 0 0)) T3 k q p.room p.rd p.hs [] ∧ RowP (w2.setCell ⟨q, 3, none⟩ (.slice none 0 0)) 0 (.slice va n vc) p.ch ∧ (∀ g, (Value.slice va n vc).ownBlock = some g → ¬ T3 g) ∧ Keep S w (w2.setCell ⟨q, 3, none⟩ (.slice none 0 0)) ∧ Grows S (fun j => D j ∨ T3 j) w := by
  obtain ⟨S2, ⟨D, T2, h1, h2, h3, h4⟩, hg⟩ := h.qk
  obtain ⟨a, c, e1, e2, e3, e4, e5, e6⟩ := h4.letgo
  subst hn
  have e := e1.symm.trans hc
  injection e with e
  injection e with ea en ec
  subst ea
  subst ec
  refine ⟨D, _, fun j hj ht => h2 j hj ht.1, e6.rk h3 h2, e5, e4, fun g eg ht => ht.2 eg, ?_, fun j hj => ?_⟩
  · refine h.keep.trans e6 (fun j hj ht => ?_)
    rcases hg j ((h1 j).2 (.inr ht)) with h' | h'
    · exact h'
    · omega
  · rcases hj with hj | hj
    · exact hg j ((h1 j).2 (.inl hj))
    · exact hg j ((h1 j).2 (.inr hj.1))

set_option maxHeartbeats 4000000 in
theorem rPCommit_any (N : Nat) (hok : p.Ok N) (hz : Fit (p.d.lg.length + 5000)) (h : Qk w S k q p) :
    Calls Tryz.prog 34 #[.pointer (some ⟨q, 0, none⟩)] w fun e w' => e = .returned (.int .i64 (p.cmE : Nat)) ∧ Qn w S k q p.cm w' := by
  have HP := hid h
  obtain ⟨cv, va, vc, hcv, c0, c1, hlt⟩ : ∃ cv va vc, cv = .slice va p.ch.length vc ∧ w.cell? ⟨q, 0, none⟩ = some (.pointer (some ⟨k, 0, none⟩)) ∧ w.cell? ⟨q, 3, none⟩ = some cv ∧ q < w.heap.size := by
    obtain ⟨D, T, _, _, _, h4⟩ := h
    obtain ⟨va, vc, e1, _, _, e2⟩ := h4.readc
    exact ⟨_, va, vc, rfl, h4.nums.2.2.1, e1, e2⟩
  have HCO : Hid (∀ w1, Below w.heap.size w w1 → Calls Tryz.prog 66 #[.pointer (some ⟨k, 0, none⟩), cv] w1 fun e w' => e = .returned (.int .i64 (p.cmE : Nat)) ∧ Qn w S k q { p with d := (cmt p.d p.ch).2 } w' ∧ w'.cell? ⟨q, 0, none⟩ = some (.pointer (some ⟨k, 0, none⟩)) ∧ w'.cell? ⟨q, 3, none⟩ = some cv ∧ w'.frozen? ⟨q, 3, none⟩ = false) := fun w1 hb => by
    obtain ⟨D, T, s1, s2, s3, s4⟩ := h
    have s5 := s4.on hb
    have s6 := s5
    obtain ⟨t1, t2, lv, cv', t3, t4, t5, t6, t7⟩ := s5
    have e : some cv' = some cv := ((t3.cell (i := 3) rfl).symm.trans (hb.cell (p := ⟨q, 3, none⟩) hlt)).trans c1
    cases e
    have hli : LiesO w1 D cv p.ch := RowP.lies t5 (fun g e hd => s2 g hd (t7 g e)) (fun x hx => by
      have h1 := hok.cg x hx
      have h2 := isPg_small hok.d.lo hok.d.hi h1.1
      refine ⟨by omega, by rw [h1.2]; decide⟩)
    refine (rCommit_any w1 D k p.d (s3.on hb) cv p.ch hli hz).mono fun e w' hh => ⟨hh.1, (Qn.disk (p := p) s1 s2 s6 hh.2).base hb, ?_⟩
    obtain ⟨_, _, kp, _⟩ := hh.2
    have b2 := kp.blk t3 (fun hd => s2 q hd t2)
    exact ⟨b2.cell (i := 0) rfl, b2.cell (i := 3) rfl, b2.free 3⟩
  subst hcv
  have HK : Hid (∀ w5, Below w.heap.size w w5 → w5.cell? ⟨q, 0, none⟩ = some (.pointer (some ⟨k, 0, none⟩)) ∧ w5.cell? ⟨q, 3, none⟩ = some (.slice va p.ch.length vc)) := fun w5 hb => ⟨(hb.cell (p := ⟨q, 0, none⟩) hlt).trans c0, (hb.cell (p := ⟨q, 3, none⟩) hlt).trans c1⟩
  have HBd := hid ((Below.refl w.heap.size w).drew)
  have HS0 := HK.out _ HBd.out
  clear hlt c0 c1
  by_cases hr : p.cmE = 0
  · have e1 : p.cm = { p with d := (cmt p.d p.ch).2, ch := [], hs := holdAll p.room p.hs p.ch } := by unfold Pp.cm; rw [if_pos (show (cmt p.d p.ch).1 = 0 from hr)]
    rw [hr, e1]
    rw [hr] at HCO
    clear e1 hr
    have hfew := hok.few
    have HOK := hid hok
    generalize (cmt p.d p.ch).2 = d2 at *
    obtain ⟨n, hnn⟩ : ∃ n, p.ch.length = n := ⟨_, rfl⟩
    have HN := hid hnn
    rw [hnn] at HCO HK HS0 hfew
    clear hnn h hok HK
    go_enter Tryz.func34, Tryz.ntmps34
    go_wp2_with fail
    go_region_held3 (fun w' => w'.cell? ⟨q, 0, none⟩ = some (.pointer (some ⟨k, 0, none⟩)) ∧ w'.cell? ⟨q, 3, none⟩ = some (.slice va n vc)) (first | exact HS0 | exact HS1)
      (first | (go_at_call 66; refine (HCO.out _ HBd.out).mono ?_; clear HCO; rintro e w2 ⟨rfl, hm2, c20, c21, f21⟩; have HM2 := hid hm2; have HS1 := And.intro c20 c21; clear hm2))
    obtain ⟨D3, T3, hd3, hk3, hp3, hr3, hn3, hkk3, hg3⟩ := Qn.letgo (p := { p with d := d2 }) HN.out HM2.out c21
    obtain ⟨w3, hw3⟩ : ∃ w3, w2.setCell ⟨q, 3, none⟩ (.slice none 0 0) = w3 := ⟨_, rfl⟩
    rw [hw3] at hk3 hp3 hr3 hkk3
    have HP3 := hid hp3
    have HR3 := hid hr3
    have HN3 := hid hn3
    have HFI : Hid (∀ w4 hs4, Qm w3 T3 k q p.room p.rd hs4 [] w4 → Qn w S k q { p with d := d2, ch := [], hs := hs4 } w4) := fun w4 hs4 hq => Qn.trans hg3 hkk3 (Qn.shelf (p := { p with d := d2, ch := [] }) (fun j => Iff.rfl) hd3 hk3 hq)
    clear hd3 hk3 hp3 hr3 hn3 hkk3 hg3 HM2 HS0 HS1
    go_wp2_with fail
    try rw [hw3]
    clear hw3 c20 c21 f21
    go_loopw [27] (fun i wr => ∃ j : Nat, j ≤ n ∧ i = .int .i64 (j : Nat) ∧ Hid (Qm w3 T3 k q p.room p.rd (holdAll p.room p.hs (p.ch.take j)) [] wr)) (fun i _ => n - (intOf i).toNat)
    case atStart => exact ⟨0, Nat.zero_le _, rfl, Qm.refl HP3.out⟩
    case round =>
      obtain ⟨j, hj, rfl, HM⟩ := hrel
      by_cases hjn : j < n
      · have hji : (j : Int) < (n : Int) := by omega
        obtain ⟨c, hc⟩ : ∃ c, p.ch[j]? = some c := ⟨_, List.getElem?_eq_getElem (by rw [HN.out]; exact hjn)⟩
        have hrr := HM.out.keep.row HR3.out HN3.out
        obtain ⟨g, e1, _, hgl⟩ := row_some hrr (by rw [HN.out]; omega)
        subst e1
        obtain ⟨d0, d1, _⟩ := RowP.at hrr hc
        have HS0 : wr.drew.cell? ⟨g, j * 2, none⟩ = some (.int .i64 c.pl) ∧ wr.drew.cell? ⟨g, j * 2 + 1, none⟩ = some (.string c.data) := ⟨d0, d1⟩
        have HHO : Hid (Calls Tryz.prog 59 #[.pointer (some ⟨q, 0, none⟩), .int .i64 c.pl, .string c.data] wr.drew fun e w' => e = .returned (.tuple #[]) ∧ Qm w3 T3 k q p.room p.rd (holdAll p.room p.hs (p.ch.take (j + 1))) [] w') := by
          obtain ⟨q1, q2, q3, q4⟩ := held_part HOK.out hc
          have hm := HM.out.on ((Below.refl _ _).drew)
          obtain ⟨T4, hp4, hg4⟩ := hm.qh
          have hh := rhold_any (w := wr.drew) c.pl c.data q1 (by have := HOK.out.room.2; omega) (by have := HOK.out.room.2; omega) hp4
          refine hh.mono fun e w' hx => ⟨hx.1, ?_⟩
          have := Qm.trans hg4 hm.keep hx.2
          have e9 : holdH p.room (holdAll p.room p.hs (p.ch.take j)) c.pl c.data = holdAll p.room p.hs (p.ch.take (j + 1)) := by
            rw [take_snoc hc, holdAll_append]
            rfl
          rw [e9] at this
          exact this
        obtain ⟨pl, data⟩ := c
        simp only at HS0 HHO d0 d1
        clear hrr hgl HM hc
        go_wp2_with fail
        refine wp_region_d (fun w' => w'.cell? ⟨g, j * 2, none⟩ = some (.int .i64 pl) ∧ w'.cell? ⟨g, j * 2 + 1, none⟩ = some (.string data)) (fun i => i == 5 || i == 10) (by kernel_rfl) ?_
        refine wpAnyM_late (i := 0) (some 30) (v := ?vz1) rfl rfl (by kernel_rfl) (by kernel_rfl) (by kernel_rfl) (by kernel_rfl) (fun _ _ _ h => h) (Or.inl ⟨by rfl, ?hz1⟩) ?rz1
        case hz1 => intro w hSw; go_simp; try with_reducible rfl
        try simp only [Act.put, List.setIfInBounds_toArray, List.set_cons_zero, List.set_cons_succ]
        refine wpAnyM_late (i := 1) (some 31) (v := ?vz2) rfl rfl (by kernel_rfl) (by kernel_rfl) (by kernel_rfl) (by kernel_rfl) (fun _ _ _ h => h) (Or.inl ⟨by rfl, ?hz2⟩) ?rz2
        case hz2 => intro w hSw; go_simp; try with_reducible rfl
        try simp only [Act.put, List.setIfInBounds_toArray, List.set_cons_zero, List.set_cons_succ]
        refine wpAnyM_late (i := 2) (some 32) (v := ?vz3) rfl rfl (by kernel_rfl) (by kernel_rfl) (by kernel_rfl) (by kernel_rfl) (fun _ _ _ h => h) (Or.inl ⟨by rfl, ?hz3⟩) ?rz3
        case hz3 => intro w hSw; go_simp; try with_reducible rfl
        try simp only [Act.put, List.setIfInBounds_toArray, List.set_cons_zero, List.set_cons_succ]
        refine wpAnyM_late (i := 3) (some 33) (v := ?vz4) rfl rfl (by kernel_rfl) (by kernel_rfl) (by kernel_rfl) (by kernel_rfl) (fun _ _ _ h => h) (Or.inl ⟨by rfl, ?hz4⟩) ?rz4
        case hz4 => intro w hSw; go_simp; try with_reducible rfl
        try simp only [Act.put, List.setIfInBounds_toArray, List.set_cons_zero, List.set_cons_succ]
        refine wpAnyM_late (i := 4) (some 34) (v := ?vz5) rfl rfl (by kernel_rfl) (by kernel_rfl) (by kernel_rfl) (by kernel_rfl) (fun _ _ _ h => h) (Or.inl ⟨by rfl, ?hz5⟩) ?rz5
        case hz5 => intro w hSw; go_simp; try with_reducible rfl
        try simp only [Act.put, List.setIfInBounds_toArray, List.set_cons_zero, List.set_cons_succ]
        refine wpAnyM_late (i := 6) (some 36) (v := ?vz6) rfl rfl (by kernel_rfl) (by kernel_rfl) (by kernel_rfl) (by kernel_rfl) (fun _ _ _ h => h) (Or.inl ⟨by rfl, ?hz6⟩) ?rz6
        case hz6 => intro w hSw; go_simp; try with_reducible rfl
        try simp only [Act.put, List.setIfInBounds_toArray, List.set_cons_zero, List.set_cons_succ]
        refine wpAnyM_late (i := 7) (some 37) (v := ?vz7) rfl rfl (by kernel_rfl) (by kernel_rfl) (by kernel_rfl) (by kernel_rfl) (fun _ _ _ h => h) (Or.inl ⟨by rfl, ?hz7⟩) ?rz7
        case hz7 => intro w hSw; go_simp; try with_reducible rfl
        try simp only [Act.put, List.setIfInBounds_toArray, List.set_cons_zero, List.set_cons_succ]
        refine wpAnyM_late (i := 8) (some 38) (v := ?vz8) rfl rfl (by kernel_rfl) (by kernel_rfl) (by kernel_rfl) (by kernel_rfl) (fun _ _ _ h => h) (Or.inl ⟨by rfl, ?hz8⟩) ?rz8
        case hz8 => intro w hSw; go_simp; try with_reducible rfl
        try simp only [Act.put, List.setIfInBounds_toArray, List.set_cons_zero, List.set_cons_succ]
        refine wpAnyM_late (i := 9) (some 39) (v := ?vz9) rfl rfl (by kernel_rfl) (by kernel_rfl) (by kernel_rfl) (by kernel_rfl) (fun _ _ _ h => h) (Or.inl ⟨by rfl, ?hz9⟩) ?rz9
        case hz9 => intro w hSw; go_simp; try with_reducible rfl
        try simp only [Act.put, List.setIfInBounds_toArray, List.set_cons_zero, List.set_cons_succ]
        refine wpAnyM_pick (i := 5) (some 35) (v := ?vz10) rfl rfl (by kernel_rfl) (by kernel_rfl) (by kernel_rfl) (by kernel_rfl) (fun _ _ _ h => h) (Or.inl ⟨by rfl, ?hz10⟩) HS0 ?rz10
        case hz10 => intro w hSw; go_simp; try with_reducible rfl
        try simp only [Act.put, List.setIfInBounds_toArray, List.set_cons_zero, List.set_cons_succ]
        refine wpAnyM_pick (i := 10) (some 40) (v := ?vz11) rfl rfl (by kernel_rfl) (by kernel_rfl) (by kernel_rfl) (by kernel_rfl) (fun _ _ _ h => h) (Or.inl ⟨by rfl, ?hz11⟩) HS0 ?rz11
        case hz11 => intro w hSw; go_simp; try with_reducible rfl
        try simp only [Act.put, List.setIfInBounds_toArray, List.set_cons_zero, List.set_cons_succ]
        refine wpAnyM_one (i := 11) (by kernel_rfl) rfl (fun K hK => ?_)
        go_simp
        go_at_call 59
        refine HHO.out.mono ?_
        clear HHO HS0 d0 d1
        rintro e w4 ⟨rfl, hm4⟩
        have HM4 := hid hm4
        clear hm4
        try go_simp
        refine hK.out _ _ (fun h => absurd h (by decide)) ?_
        clear hK K
        refine wpAnyM_done (by kernel_rfl) ?_ _
        try simp only [Act.put, List.setIfInBounds_toArray, List.set_cons_zero, List.set_cons_succ]
        go_wp2_with fail
        go_roundw
        case rel => exact ⟨j + 1, by omega, by go_num, HM4⟩
        case measure => simp [intOf]; omega
      · obtain rfl : j = n := by omega
        go_wp2_with fail
        go_ret
        refine ⟨rfl, HFI.out _ _ ?_⟩
        have := HM.out
        rw [List.take_of_length_le (by rw [HN.out]; exact Nat.le_refl _)] at this
        exact this
  · have e1 : p.cm = { p with d := (cmt p.d p.ch).2 } := by unfold Pp.cm; rw [if_neg (show ¬ (cmt p.d p.ch).1 = 0 from hr)]
    rw [e1]
    clear e1
    generalize (cmt p.d p.ch).2 = d2 at *
    obtain ⟨r, hrr⟩ : ∃ r, p.cmE = r := ⟨_, rfl⟩
    rw [hrr] at hr HCO ⊢
    have hrn : ((r : Int) != 0) = true := by simp; omega
    have hrz : ¬ (r : Int) = 0 := by omega
    obtain ⟨n, hnn⟩ : ∃ n, p.ch.length = n := ⟨_, rfl⟩
    rw [hnn] at HCO HK HS0
    clear hnn h hok HK hrr
    go_enter Tryz.func34, Tryz.ntmps34
    go_wp2_with fail
    go_region_held3 (fun w' => w'.cell? ⟨q, 0, none⟩ = some (.pointer (some ⟨k, 0, none⟩)) ∧ w'.cell? ⟨q, 3, none⟩ = some (.slice va n vc)) (first | exact HS0 | exact HS1)
      (first | (go_at_call 66; refine (HCO.out _ HBd.out).mono ?_; clear HCO; rintro e w2 ⟨rfl, hm2, c20, c21, f21⟩; have HM2 := hid hm2; have HS1 := And.intro c20 c21; clear hm2))
    clear HS0 HS1 c20 c21 f21
    go_wp2_with fail
    go_ret
    exact ⟨rfl, HM2.out⟩
end

end Go.Proofs.YtoecopmbaoklkaaGreat
