/-
  What the program's copyBlocks, Image, Log, New and Of answer.
-/
import Derived.Test.YtoecopmbaoklkaaGreatWr
namespace Go.Proofs.YtoecopmbaoklkaaGreat
open Go.RowKit
set_option linter.unusedVariables false
set_option linter.unusedSimpArgs false
set_option maxRecDepth 100000

theorem RowS.form {w : World} {B : Nat} {v : Value} {L : List ByteArray} (h : RowS w B v L) : ∃ a c, v = .slice a L.length c := own_form h
theorem RowP.form {w : World} {B : Nat} {v : Value} {L : List Pg} (h : RowP w B v L) : ∃ a c, v = .slice a L.length c := own_form h
/-- copy of a row (nil where there is nothing in it) onto a new one of the same length -/
theorem run_copy_rows {P : Program} (w : World) (dT sT ty elem : TypeId) (size n g B B' : Nat) (sv : Value) (cs ds : List Value) (hu : P.underlying dT = some (.slice elem)) (hsz : (P.info? elem).map (·.size) = some size)
    (hro : w.ownsRow B elem size sv n cs) (hdo : w.ownsRow B' elem size (.slice (some ⟨g, 0, none⟩) n n) n ds) (h1 : ∀ v ∈ cs, v.oneCell' = true) :
    ∃ w', (Builtin.copy_ #[dT, sT] ty #[.slice (some ⟨g, 0, none⟩) n n, sv]).run P w = .ok (.int .i64 n) w' ∧ w'.ownsRow B' elem size (.slice (some ⟨g, 0, none⟩) n n) n cs ∧ w.grownBy w' (some g) := by
  obtain ⟨hl, hn | ⟨g1, cap1, cur1, hv1, hB1, hg1, hc1, hm1, hz1, ht1⟩⟩ := hro
  · obtain ⟨rfl, rfl⟩ := hn
    have hnil : cs = [] := List.eq_nil_of_length_eq_zero (by omega)
    subst hnil
    have hnd : ds = [] := List.eq_nil_of_length_eq_zero (by have := hdo.1; omega)
    subst hnd
    exact ⟨w, run_copy_nil (P := P) w dT sT ty elem ⟨g, 0, none⟩ 0 0 hu (by rw [hsz]; rfl), hdo, ⟨rfl, rfl, rfl, Nat.le_refl _, fun _ _ _ => rfl⟩⟩
  · subst hv1
    obtain ⟨hl2, hn2 | ⟨g2, cap2, cur2, hv2, hB2, hg2, hc2, hm2, hz2, ht2⟩⟩ := hdo
    · cases hn2.1
    · cases hv2
      refine ⟨_, run_copy_same (P := P) w dT sT ty elem size n g n cap1 ⟨g1, 0, none⟩ cur2 elem cs hu hsz hg2 hl ?_ (by rw [hl, hz2]) h1, ?_, ?_⟩
      · intro j v hj
        rw [add_plain, Nat.zero_add, Lib.cell_of_heap hg1]
        rw [← ht1, List.getElem?_take] at hj
        split at hj
        · simpa using hj
        · cases hj
      · refine ⟨hl, .inr ⟨g, n, cs.toArray, rfl, hB2, setRow_heap w g _ _ elem _ hg2, Nat.le_refl _, hm2, by rw [List.size_toArray, hl], ?_⟩⟩
        rw [List.toList_toArray, ← hl, List.take_length]
      · exact ⟨rfl, rfl, rfl, by simp [World.setRow], fun k _ hk => setRow_other w g k _ (fun e => hk (by rw [e]))⟩

theorem set_self {α : Type} {L : List α} {k : Nat} {s : α} (h : L[k]? = some s) : L.set k s = L := by
  obtain ⟨hk, rfl⟩ := List.getElem?_eq_some_iff.1 h
  exact List.set_getElem_self hk

set_option maxHeartbeats 2000000 in
theorem copyBlocks_any (w : World) (B : Nat) (v : Value) (bs : List ByteArray) (hv : RowS w B v bs) (hl : bs.length ≤ 3000) (hs : ∀ s ∈ bs, s.size ≤ 100000) :
    Calls Tryz.prog 38 #[v] w fun e w' => ∃ v', e = .returned v' ∧ RowS w' w.heap.size v' bs ∧ Below w.heap.size w w' := by
  obtain ⟨i0, hi, hz0, hz1, hz2⟩ := info_parts info9
  obtain ⟨va, vc, hvv⟩ := hv.form
  subst hvv
  have HV := hid hv
  have HS := hid hs
  have hni : (bs.length : Int) ≤ 3000 := by omega
  obtain ⟨n, hn⟩ : ∃ n, bs.length = n := ⟨_, rfl⟩
  have HN := hid hn
  rw [hn] at hl hni ⊢
  clear hv hs hn
  go_enter Tryz.func38, Tryz.ntmps38
  go_wp2_with (first
    | (at_make; refine wpList_make_full _ rfl (.tmp 6) (.tmp 6) 46 rfl w.heap.size 9 i0 (.string ⟨#[]⟩) 1 Tryz.underlying46 hi hz0 hz1 .i64 .i64 _ _ n rfl rfl rfl rfl (by rw [hz2]; omega) (by unfold maxLen; omega) (Nat.le_refl _) ?_; intro w1 hown hgrow; have HB1 := hid ((Below.refl _ w).grown hgrow (Nat.le_refl _) (fun k hk => by cases hk)); obtain ⟨w2, hcp, ho2, hg2⟩ := run_copy_rows w1 46 46 3 9 1 n w.heap.size B w.heap.size (.slice va n vc) (flatS bs) _ Tryz.underlying46 info9s (by have h := HV.out.on HB1.out; unfold RowS at h; rw [HN.out] at h; exact h) hown (flatS_one bs); have HB2 := hid (HB1.out.grown hg2 HB1.out.size (fun k hk => by cases hk; exact Nat.le_refl _)); have HO2 := hid ho2; clear hown hgrow ho2 hg2 HB1))
  clear hcp
  go_loopw [13] (fun i wr => ∃ k : Nat, k ≤ n ∧ i = .int .i64 (k : Nat) ∧ Hid (RowS wr w.heap.size (.slice (some ⟨w.heap.size, 0, none⟩) n n) bs) ∧ Hid (Below w.heap.size w wr)) (fun i _ => n - (intOf i).toNat)
  case atStart => exact ⟨0, Nat.zero_le _, rfl, (by unfold RowS; rw [HN.out]; exact HO2.out), HB2⟩
  case round =>
    obtain ⟨k, hk, rfl, HR, HB⟩ := hrel
    clear HO2 HB2
    by_cases hlt : k < n
    · have hki : (k : Int) < (n : Int) := by omega
      obtain ⟨s, hsk⟩ : ∃ s, bs[k]? = some s := ⟨_, List.getElem?_eq_getElem (by rw [HN.out]; exact hlt)⟩
      obtain ⟨c0, f0⟩ := HR.out.at hsk
      have hcl : ∀ w1, _ := fun w1 => clone_any s w1 (by have := HS.out s (List.mem_of_getElem? hsk); omega)
      have HSK := hid hsk
      clear hsk
      go_wp2_with (go_at_call 39; refine (hcl _).mono ?_; clear hcl; rintro e w3 ⟨rfl, hb3⟩; have HR3 := hid (HR.out.on hb3); have HB3 := hid (HB.out.trans (hb3.mono HB.out.size)); obtain ⟨c3, f3⟩ := HR3.out.at HSK.out; clear hb3 c0 f0)
      have HR4 : Hid (RowS (w3.setCell ⟨w.heap.size, k, none⟩ (.string s)) w.heap.size (.slice (some ⟨w.heap.size, 0, none⟩) n n) bs) := by
        have h := HR3.out
        unfold RowS at h
        rw [HN.out] at h
        have h2 := own_set h k (.string s)
        rw [flatS_set, set_self HSK.out] at h2
        unfold RowS
        rw [HN.out]
        exact h2
      have HB4 := hid (HB3.out.setCell (p := ⟨w.heap.size, k, none⟩) (Nat.le_refl _) (.string s))
      clear HR3 HB3 HR HB
      go_roundw
      case rel => exact ⟨k + 1, by omega, by go_num, HR4, HB4⟩
      case measure => simp [intOf]; omega
    · have hki : ¬ (k : Int) < (n : Int) := by omega
      obtain rfl : k = n := by omega
      go_wp2
      go_ret
      exact ⟨_, rfl, HR.out, HB.out⟩

theorem image_nil (w : World) : Calls Tryz.prog 16 #[.pointer none] w fun e w' => e = .returned (.slice none 0 0) ∧ w = w' := by
  go_enter Tryz.func16, Tryz.ntmps16
  go_wp2
  go_ret
  exact ⟨rfl, rfl⟩
theorem image_any (w : World) (S : Nat → Prop) (k : Nat) (d : Ds) (hd : Dk w S k d) : Calls Tryz.prog 16 #[.pointer (some ⟨k, 0, none⟩)] w fun e w' => ∃ v', e = .returned v' ∧ RowS w' w.heap.size v' d.bs ∧ Below w.heap.size w w' := by
  obtain ⟨ok, _, _, bv, lv, hb, h5, _⟩ := hd
  have hc := copyBlocks_any w 0 bv d.bs h5 (by have := ok.hi; omega) (fun s hs => by rw [ok.bs s hs]; decide)
  obtain ⟨ba, bc, hbv⟩ := h5.form
  subst hbv
  have c0 : w.cell? ⟨k, 0, none⟩ = some (.slice ba d.bs.length bc) := hb.cell rfl
  clear h5 hb ok
  go_enter Tryz.func16, Tryz.ntmps16
  go_wp2_with (go_at_call 38; refine hc.mono ?_; clear hc; rintro e w1 ⟨v', rfl, hr1, hb1⟩; have HR1 := hid hr1; obtain ⟨ra, rc, hrv⟩ := hr1.form; subst hrv; clear hr1)
  go_ret
  exact ⟨_, rfl, HR1.out, hb1⟩

theorem log_nil (w : World) : Calls Tryz.prog 18 #[.pointer none] w fun e w' => e = .returned (.slice none 0 0) ∧ w = w' := by
  go_enter Tryz.func18, Tryz.ntmps18
  go_wp2
  go_ret
  exact ⟨rfl, rfl⟩

theorem RowP.at {w : World} {B g n c i : Nat} {L : List Pg} {p : Pg} (h : RowP w B (.slice (some ⟨g, 0, none⟩) n c) L) (hs : L[i]? = some p) : w.cell? ⟨g, i * 2, none⟩ = some (.int .i64 p.pl) ∧ w.cell? ⟨g, i * 2 + 1, none⟩ = some (.string p.data) ∧ w.frozen? ⟨g, i * 2 + 1, none⟩ = false := by
  obtain ⟨a, cap, e1, _, _, hcc⟩ := own_cells h
  obtain ⟨g', hg', _, _, cs, _⟩ := hcc (i * 2) (.int .i64 p.pl) (by rw [flatP_even, hs]; rfl)
  obtain ⟨g2, hg2, _, _, cs2, fz⟩ := hcc (i * 2 + 1) (.string p.data) (by rw [flatP_odd, hs]; rfl)
  injection e1 with e2 _ _
  rw [hg'] at e2 hg2
  injection e2 with e3
  injection e3 with e4 _ _
  injection hg2 with e5
  injection e5 with e6 _ _
  subst e4
  subst e6
  exact ⟨cs, cs2, fz⟩

set_option maxHeartbeats 2000000 in
theorem log_any (w : World) (S : Nat → Prop) (k : Nat) (d : Ds) (hd : Dk w S k d) (hz : d.lg.length * 24 ≤ 140737488355328) : Calls Tryz.prog 18 #[.pointer (some ⟨k, 0, none⟩)] w fun e w' => ∃ v', e = .returned v' ∧ RowP w' w.heap.size v' d.lg ∧ Below w.heap.size w w' := by
  obtain ⟨i0, hi, hz0, hz1, hz2⟩ := info_parts info49
  have hkl := hd.2.1 k hd.2.2.1
  obtain ⟨ok, _, _, bv, lv, hb, h5, h6, _⟩ := hd
  obtain ⟨la, lc, hlv⟩ := h6.form
  subst hlv
  have HV := hid h6
  have HS := hid ok.lg
  have HK := hid hb
  have c1 : w.cell? ⟨k, 1, none⟩ = some (.slice la d.lg.length lc) := hb.cell rfl
  clear h5 h6 hb ok
  obtain ⟨n, hn⟩ : ∃ n, d.lg.length = n := ⟨_, rfl⟩
  have HN := hid hn
  rw [hn] at hz c1
  have hni : (n : Int) ≤ 140737488355328 := by omega
  clear hn
  go_enter Tryz.func18, Tryz.ntmps18
  go_wp2_with (first
    | (at_make; refine wpList_make_full _ rfl (.tmp 11) (.tmp 11) 35 rfl w.heap.size 75 i0 (.agg #[.int .i64 0, .string ⟨#[]⟩]) 2 Tryz.underlying35 hi hz0 hz1 .i64 .i64 _ _ n rfl rfl rfl rfl (by rw [hz2]; omega) (by unfold maxLen; omega) (Nat.le_refl _) ?_; intro w1 hown hgrow; have HB1 := hid ((Below.refl _ w).grown hgrow (Nat.le_refl _) (fun k hk => by cases hk)); have d1 : w1.cell? ⟨k, 1, none⟩ = some (.slice la n lc) := (HB1.out.cell (p := ⟨k, 1, none⟩) hkl).trans c1; obtain ⟨w2, hcp, ho2, hg2⟩ := run_copy_rows w1 35 35 3 75 2 n w.heap.size 0 w.heap.size (.slice la n lc) (flatP d.lg) _ Tryz.underlying35 info49s (by have h := HV.out.on HB1.out; unfold RowP at h; rw [HN.out] at h; exact h) hown (flatP_one d.lg); have HB2 := hid (HB1.out.grown hg2 HB1.out.size (fun k hk => by cases hk; exact Nat.le_refl _)); have HO2 := hid ho2; clear hown hgrow ho2 hg2 HB1))
  clear hcp d1 c1
  go_loopw [21] (fun i wr => ∃ k : Nat, k ≤ n ∧ i = .int .i64 (k : Nat) ∧ Hid (RowP wr w.heap.size (.slice (some ⟨w.heap.size, 0, none⟩) n n) d.lg) ∧ Hid (Below w.heap.size w wr)) (fun i _ => n - (intOf i).toNat)
  case atStart => exact ⟨0, Nat.zero_le _, rfl, (by unfold RowP; rw [HN.out]; exact HO2.out), HB2⟩
  case round =>
    obtain ⟨k2, hk, rfl, HR, HB⟩ := hrel
    clear HO2 HB2
    by_cases hlt : k2 < n
    · have hki : (k2 : Int) < (n : Int) := by omega
      obtain ⟨p, hsk⟩ : ∃ p, d.lg[k2]? = some p := ⟨_, List.getElem?_eq_getElem (by rw [HN.out]; exact hlt)⟩
      obtain ⟨_, c0, f0⟩ := HR.out.at hsk
      have hcl : ∀ w1, _ := fun w1 => clone_any p.data w1 (by have := (HS.out p (List.mem_of_getElem? hsk)).1; omega)
      have HSK := hid hsk
      clear hsk
      go_wp2_with (go_at_call 39; refine (hcl _).mono ?_; clear hcl; rintro e w3 ⟨rfl, hb3⟩; have HR3 := hid (HR.out.on hb3); have HB3 := hid (HB.out.trans (hb3.mono HB.out.size)); obtain ⟨_, c3, f3⟩ := HR3.out.at HSK.out; clear hb3 c0 f0)
      have HR4 : Hid (RowP (w3.setCell ⟨w.heap.size, k2 * 2 + 1, none⟩ (.string p.data)) w.heap.size (.slice (some ⟨w.heap.size, 0, none⟩) n n) d.lg) := by
        have h := HR3.out
        unfold RowP at h
        rw [HN.out] at h
        have h2 := own_set h (k2 * 2 + 1) (.string p.data)
        rw [set_self (by rw [flatP_odd, HSK.out]; rfl)] at h2
        unfold RowP
        rw [HN.out]
        exact h2
      have HB4 := hid (HB3.out.setCell (p := ⟨w.heap.size, k2 * 2 + 1, none⟩) (Nat.le_refl _) (.string p.data))
      clear HR3 HB3 HR HB
      go_roundw
      case rel => exact ⟨k2 + 1, by omega, by go_num, HR4, HB4⟩
      case measure => simp [intOf]; omega
    · have hki : ¬ (k2 : Int) < (n : Int) := by omega
      obtain rfl : k2 = n := by omega
      go_wp2
      go_ret
      exact ⟨_, rfl, HR.out, HB.out⟩

end Go.Proofs.YtoecopmbaoklkaaGreat
