/-
  What the journal's pending and Recover answer.
-/
import Derived.Test.YtjcbaiohpdihoaaGreatDoorRv
import Derived.Test.YtjcbaiohpdihoaaGreatDoorEq
namespace Go.Proofs.YtjcbaiohpdihoaaGreatDoor
open Go.RowKit Go.Shelf
set_option linter.unusedVariables false
set_option linter.unusedSimpArgs false
set_option maxRecDepth 100000

/-- the head of a disk's blocks; its list; its copies; the group that they tell, if they do -/
def hdOf (bs : List ByteArray) : ByteArray := bs.getD 1 ⟨#[]⟩
def lsOf (bs : List ByteArray) : List ByteArray := cutB bs 2 (lb (told (hdOf bs)))
def cpOf (bs : List ByteArray) : List ByteArray := cutB bs (2 + lb (pgs bs.length)) (told (hdOf bs))
def gpOf (bs : List ByteArray) : List Pg := grpL (lsOf bs) (cpOf bs)
/-- the group for which the head vouches -/
def pend (bs : List ByteArray) : List Pg :=
  if 1 ≤ told (hdOf bs) ∧ told (hdOf bs) ≤ pgs bs.length then (if ck bs.length (gpOf bs) = 0 ∧ lsOf bs = rows (gpOf bs) ∧ hdOf bs = hdB (lsOf bs) (gpOf bs) then gpOf bs else []) else []
/-- what is put right -/
def recv (d : Ds) : Nat × Nat × Ds :=
  if d.dn = true then (0, 17, d)
  else if pend d.bs = [] then (0, 0, d)
  else if (d.wrs (settledL (pend d.bs))).1 = 0 then ((pend d.bs).length, 0, (d.wrs (settledL (pend d.bs))).2)
  else (0, (d.wrs (settledL (pend d.bs))).1, (d.wrs (settledL (pend d.bs))).2)

theorem told_lt (h : ByteArray) : told h < 65536 := by
  unfold told
  split
  · have h1 := Nu.val_lt ((h.data.toList.drop 4).take 2)
    have h2 : ((h.data.toList.drop 4).take 2).length ≤ 2 := by rw [List.length_take]; omega
    have h3 := Nat.pow_le_pow_right (n := 256) (by omega) h2
    omega
  · omega
theorem numAt_lt (lst : List ByteArray) (i : Nat) : numAt lst i < 65536 := by
  unfold numAt
  have h1 := Nu.val_lt (((lst.getD (i / 128) ⟨#[]⟩).data.toList.drop (i % 128 * 2)).take 2)
  have h2 : (((lst.getD (i / 128) ⟨#[]⟩).data.toList.drop (i % 128 * 2)).take 2).length ≤ 2 := by rw [List.length_take]; omega
  have h3 := Nat.pow_le_pow_right (n := 256) (by omega) h2
  omega
theorem cutB_mem {bs : List ByteArray} {a c : Nat} {s : ByteArray} (h : s ∈ cutB bs a c) : s ∈ bs := List.mem_of_mem_drop (List.mem_of_mem_take h)
theorem grpL_mem {lst cps : List ByteArray} {p : Pg} (h : p ∈ grpL lst cps) : (0 ≤ p.pl ∧ p.pl < 65536) ∧ p.data ∈ cps := by
  obtain ⟨i, hi⟩ := List.mem_iff_getElem?.1 h
  have hlt : i < cps.length := by have := (List.getElem?_eq_some_iff.1 hi).1; rw [grpL_len] at this; exact this
  rw [grpL_at (List.getElem?_eq_getElem hlt)] at hi
  cases hi
  have := numAt_lt lst i
  exact ⟨⟨by simp, by simp; omega⟩, List.getElem_mem hlt⟩

/-- what pending leaves -/
def PePost (w : World) (L : List Pg) (e : Ending) (w' : World) : Prop := ∃ v', e = .returned (.tuple #[v', .int .i64 0]) ∧ RowP w' w.heap.size v' L ∧ Below w.heap.size w w'

set_option maxHeartbeats 8000000 in
theorem pending_any (w : World) (S : Nat → Prop) (k : Nat) (d : Ds) (hd : Dk w S k d) (hdn : d.dn = false) :
    Calls Tryz.prog 120 #[.pointer (some ⟨k, 0, none⟩), .string (hdOf d.bs)] w fun e w' => PePost w (pend d.bs) e w' := by
  have hlo := hd.1.lo
  have hhi := hd.1.hi
  have hbs := hd.1.bs
  have hln : ∀ w1, Below w.heap.size w w1 → _ := fun w1 hb => len_any w1 S k d (hd.on hb)
  have hpg : ∀ w1, _ := fun w1 => pages_any d.bs.length hlo hhi w1
  have h256 : (hdOf d.bs).size = 256 := by
    unfold hdOf
    rw [List.getD_eq_getElem?_getD, List.getElem?_eq_getElem (show 1 < d.bs.length by omega)]
    exact hbs _ (List.getElem_mem _)
  have htd : ∀ w1, _ := fun w1 => told_any (hdOf d.bs) h256 w1
  have HB0 := hid (Below.refl w.heap.size w)
  by_cases hr : 1 ≤ told (hdOf d.bs) ∧ told (hdOf d.bs) ≤ pgs d.bs.length
  · have f1 := pgs_fit hlo
    have f2 := pgs_hi hhi
    have l1 : lb (told (hdOf d.bs)) ≤ lb (pgs d.bs.length) := lb_mono hr.2
    have l2 : lb (pgs d.bs.length) ≤ 20 := by unfold lb; omega
    have hlb : ∀ w1, _ := fun w1 => listBlocks_any (told (hdOf d.bs)) (by omega) w1
    have hca : ∀ w1, _ := fun w1 => copiesAt_any (pgs d.bs.length) (by omega) w1
    have HR1 : Hid (∀ w1, Below w.heap.size w w1 → Calls Tryz.prog 177 #[.pointer (some ⟨k, 0, none⟩), .int .i64 2, .int .i64 (lb (told (hdOf d.bs)) : Nat)] w1 fun e w' => ∃ v', e = .returned (.tuple #[v', .int .i64 0]) ∧ RowS w' w1.heap.size v' (lsOf d.bs) ∧ Below w1.heap.size w1 w') := fun w1 hb => jread_any w1 S k d (hd.on hb) hdn 2 (lb (told (hdOf d.bs))) (by omega)
    have HR2 : Hid (∀ w1, Below w.heap.size w w1 → Calls Tryz.prog 177 #[.pointer (some ⟨k, 0, none⟩), .int .i64 ((2 + lb (pgs d.bs.length) : Nat) : Int), .int .i64 (told (hdOf d.bs) : Nat)] w1 fun e w' => ∃ v', e = .returned (.tuple #[v', .int .i64 0]) ∧ RowS w' w1.heap.size v' (cpOf d.bs) ∧ Below w1.heap.size w1 w') := fun w1 hb => jread_any w1 S k d (hd.on hb) hdn (2 + lb (pgs d.bs.length)) (told (hdOf d.bs)) (by omega)
    have hll : (lsOf d.bs).length = lb (told (hdOf d.bs)) := cutB_len (by omega)
    have hcl : (cpOf d.bs).length = told (hdOf d.bs) := cutB_len (by omega)
    have hls : ∀ s ∈ lsOf d.bs, s.size = 256 := fun s hs => hbs s (cutB_mem hs)
    have hcs : ∀ s ∈ cpOf d.bs, s.size = 256 := fun s hs => hbs s (cutB_mem hs)
    have HG : Hid (∀ w1 B B' u v, RowS w1 B u (lsOf d.bs) → RowS w1 B' v (cpOf d.bs) → Calls Tryz.prog 180 #[u, v] w1 fun e w' => ∃ v', e = .returned v' ∧ RowP w' w1.heap.size v' (gpOf d.bs) ∧ Below w1.heap.size w1 w') := fun w1 B B' u v hu hv => groupOf_any w1 B B' u v _ _ hu hv (by rw [hcl, hll]; unfold lb; omega) (by rw [hcl]; omega) hls
    have HF : Hid (∀ w1 B v, RowP w1 B v (gpOf d.bs) → LiesO w1 (fun _ => False) v (gpOf d.bs)) := fun w1 B v hv => hv.lies (fun _ _ h => h) (fun p hp => by
      obtain ⟨h1, h2⟩ := grpL_mem hp
      exact ⟨by omega, by rw [hcs _ h2]; decide⟩)
    have hgl : (gpOf d.bs).length = told (hdOf d.bs) := by unfold gpOf; rw [grpL_len, hcl]
    have HC : Hid (∀ w1 B v, RowP w1 B v (gpOf d.bs) → Calls Tryz.prog 181 #[.int .i64 (d.bs.length : Nat), v] w1 fun e w' => e = .returned (.int .i64 (ck d.bs.length (gpOf d.bs) : Nat)) ∧ Below w1.heap.size w1 w') := fun w1 B v hv => check_any d.bs.length hlo hhi w1 _ v (gpOf d.bs) (HF.out w1 B v hv)
    have HH : Hid (∀ w1 B B' u v, RowS w1 B u (lsOf d.bs) → RowP w1 B' v (gpOf d.bs) → Calls Tryz.prog 184 #[u, v] w1 fun e w' => e = .returned (.string (hdB (lsOf d.bs) (gpOf d.bs))) ∧ Below w1.heap.size w1 w') := fun w1 B B' u v hu hv => headOf_any w1 _ B u v _ _ hu (HF.out w1 B' v hv) (by rw [hgl]; omega) (by rw [hll]; omega) hls
    have hpe : pend d.bs = if ck d.bs.length (gpOf d.bs) = 0 ∧ lsOf d.bs = rows (gpOf d.bs) ∧ hdOf d.bs = hdB (lsOf d.bs) (gpOf d.bs) then gpOf d.bs else [] := by unfold pend; rw [if_pos hr]
    have HPE := hid hpe
    have hc1 : decide ((told (hdOf d.bs) : Int) < 1) = false := decide_eq_false (by omega)
    have hc2 : ¬ ((pgs d.bs.length : Nat) : Int) < ((told (hdOf d.bs) : Nat) : Int) := by omega
    have HLO : Hid (∀ w1 B v, RowP w1 B v (gpOf d.bs) → Calls Tryz.prog 183 #[v] w1 fun e w' => ∃ v', e = .returned v' ∧ RowS w' w1.heap.size v' (rows (gpOf d.bs)) ∧ Below w1.heap.size w1 w') := fun w1 B v hv => listOf_any w1 _ v (gpOf d.bs) (HF.out w1 B v hv) (by rw [hgl]; omega) (fun p hp => (grpL_mem hp).1)
    have HEQ : Hid (∀ w1 B B' u v, RowS w1 B u (lsOf d.bs) → RowS w1 B' v (rows (gpOf d.bs)) → Calls Tryz.prog 182 #[u, v] w1 fun e w' => e = .returned (.bool (decide (lsOf d.bs = rows (gpOf d.bs)))) ∧ Below w1.heap.size w1 w') := fun w1 B B' u v hu hv => equal_any w1 B B' u v _ _ hu hv (by rw [hll]; omega) (by rw [rows_len, hgl]; omega)
    rw [hpe]
    clear hpe hd hbs h256 hls hcs hgl hcl hll HF hdn f1 l1 l2
    obtain ⟨c, hc⟩ : ∃ c, told (hdOf d.bs) = c := ⟨_, rfl⟩
    rw [hc] at htd hlb HR1 HR2 hc1 hc2 hr
    obtain ⟨q, hq⟩ : ∃ q, pgs d.bs.length = q := ⟨_, rfl⟩
    rw [hq] at hpg hca HR2 hc2 hr f2
    obtain ⟨x, hx⟩ : ∃ x, lb c = x := ⟨_, rfl⟩
    rw [hx] at hlb HR1
    obtain ⟨y, hy⟩ : ∃ y, 2 + lb q = y := ⟨_, rfl⟩
    rw [hy] at hca HR2
    clear hc hq hx hy
    obtain ⟨h, hh⟩ : ∃ h, hdOf d.bs = h := ⟨_, rfl⟩
    rw [hh] at htd ⊢
    generalize lsOf d.bs = lst at *
    generalize cpOf d.bs = cps at *
    generalize gpOf d.bs = L at *
    generalize d.bs.length = n at *
    clear hh HPE
    obtain ⟨R, hR⟩ : ∃ R, rows L = R := ⟨_, rfl⟩
    rw [hR] at HLO HEQ ⊢
    clear hR
    obtain ⟨ec, hec⟩ : ∃ ec, ck n L = ec := ⟨_, rfl⟩
    rw [hec] at HC ⊢
    obtain ⟨hb, hhb⟩ : ∃ hb, hdB lst L = hb := ⟨_, rfl⟩
    rw [hhb] at HH ⊢
    clear hec hhb
    by_cases hck : ec = 0
    · subst hck
      by_cases hlr : lst = R
      · have hdt : decide (lst = R) = true := decide_eq_true hlr
        rw [hdt] at HEQ
        by_cases hhd : h = hb
        · subst hhd
          rw [if_pos ⟨rfl, hlr, rfl⟩]
          clear hlr hdt
          go_enter Tryz.func120, Tryz.ntmps120
          go_wp2_with (first
            | (go_at_call 84; refine ((fun (hh : Hid (Below w.heap.size w w)) => hln _ hh.out) HB0).mono ?_; clear HB0; rintro e w1 ⟨rfl, rfl⟩)
            | (go_at_call 175; refine (hpg _).mono ?_; clear hpg; rintro e w1 ⟨rfl, rfl⟩)
            | (go_at_call 176; refine (htd _).mono ?_; clear htd; rintro e w1 ⟨rfl, rfl⟩)
            | (go_at_call 178; refine (hlb _).mono ?_; clear hlb; rintro e w1 ⟨rfl, rfl⟩)
            | (go_at_call 177; refine (HR1.out _ (Below.refl _ _)).mono ?_; clear HR1; rintro e w1 ⟨v1, rfl, hr1, hb1⟩; have HL1 := hid hr1; have HB1 := hid hb1; obtain ⟨la, lc, hlv⟩ := hr1.form; subst hlv; clear hr1 hb1)
            | (go_at_call 179; refine (hca _).mono ?_; clear hca; rintro e w2 ⟨rfl, rfl⟩)
            | (go_at_call 177; refine (HR2.out _ HB1.out).mono ?_; clear HR2; rintro e w2 ⟨v2, rfl, hr2, hb2⟩; have HC2 := hid hr2; have HB2 := hid (HB1.out.trans (hb2.mono HB1.out.size)); have HL2 := hid (HL1.out.on hb2); obtain ⟨ca, cc, hcv⟩ := hr2.form; subst hcv; clear hr2 hb2 HL1 HB1)
            | (go_at_call 180; refine (HG.out _ _ _ _ _ HL2.out HC2.out).mono ?_; clear HG; rintro e w3 ⟨v3, rfl, hr3, hb3⟩; have HG3 : Hid (RowP w3 0 v3 L) := own_base hr3 (Nat.zero_le _); have HG3' : Hid (RowP w3 w.heap.size v3 L) := own_base hr3 HB2.out.size; have HB3 := hid (HB2.out.trans (hb3.mono HB2.out.size)); have HL3 := hid (HL2.out.on hb3); obtain ⟨ga, gc, hgv⟩ := hr3.form; subst hgv; clear hr3 hb3 HL2 HB2 HC2)
            | (go_at_call 84; refine (hln _ HB3.out).mono ?_; clear hln; rintro e w4 ⟨rfl, rfl⟩)
            | (go_at_call 181; refine (HC.out _ _ _ HG3.out).mono ?_; clear HC; rintro e w4 ⟨rfl, hb4⟩; have HG4 := hid (HG3.out.on hb4); have HG4' := hid (HG3'.out.on hb4); have HB4 := hid (HB3.out.trans (hb4.mono HB3.out.size)); have HL4 := hid (HL3.out.on hb4); clear hb4 HG3 HG3' HB3 HL3)
            | (go_at_call 183; refine (HLO.out _ _ _ HG4.out).mono ?_; clear HLO; rintro e w5 ⟨v5, rfl, hr5, hb5⟩; have HK5 := hid hr5; have HG5 := hid (HG4.out.on hb5); have HG5' := hid (HG4'.out.on hb5); have HB5 := hid (HB4.out.trans (hb5.mono HB4.out.size)); have HL5 := hid (HL4.out.on hb5); obtain ⟨ka, kc, hkv⟩ := hr5.form; subst hkv; clear hr5 hb5 HG4 HG4' HB4 HL4)
            | (go_at_call 182; refine (HEQ.out _ _ _ _ _ HL5.out HK5.out).mono ?_; clear HEQ; rintro e w6 ⟨rfl, hb6⟩; have HG6 := hid (HG5.out.on hb6); have HG6' := hid (HG5'.out.on hb6); have HB6 := hid (HB5.out.trans (hb6.mono HB5.out.size)); have HL6 := hid (HL5.out.on hb6); clear hb6 HG5 HG5' HB5 HL5 HK5)
            | (go_at_call 184; refine (HH.out _ _ _ _ _ HL6.out HG6.out).mono ?_; clear HH; rintro e w7 ⟨rfl, hb7⟩; have HG7' := hid (HG6'.out.on hb7); have HB7 := hid (HB6.out.trans (hb7.mono HB6.out.size)); clear hb7 HG6 HG6' HB6 HL6))
          go_ret2
          exact ⟨_, rfl, HG7'.out, HB7.out⟩
        · rw [if_neg (fun h' => hhd h'.2.2)]
          have hne := other_texts hhd
          clear hlr hdt
          go_enter Tryz.func120, Tryz.ntmps120
          go_wp2_with (first
            | (go_at_call 84; refine ((fun (hh : Hid (Below w.heap.size w w)) => hln _ hh.out) HB0).mono ?_; clear HB0; rintro e w1 ⟨rfl, rfl⟩)
            | (go_at_call 175; refine (hpg _).mono ?_; clear hpg; rintro e w1 ⟨rfl, rfl⟩)
            | (go_at_call 176; refine (htd _).mono ?_; clear htd; rintro e w1 ⟨rfl, rfl⟩)
            | (go_at_call 178; refine (hlb _).mono ?_; clear hlb; rintro e w1 ⟨rfl, rfl⟩)
            | (go_at_call 177; refine (HR1.out _ (Below.refl _ _)).mono ?_; clear HR1; rintro e w1 ⟨v1, rfl, hr1, hb1⟩; have HL1 := hid hr1; have HB1 := hid hb1; obtain ⟨la, lc, hlv⟩ := hr1.form; subst hlv; clear hr1 hb1)
            | (go_at_call 179; refine (hca _).mono ?_; clear hca; rintro e w2 ⟨rfl, rfl⟩)
            | (go_at_call 177; refine (HR2.out _ HB1.out).mono ?_; clear HR2; rintro e w2 ⟨v2, rfl, hr2, hb2⟩; have HC2 := hid hr2; have HB2 := hid (HB1.out.trans (hb2.mono HB1.out.size)); have HL2 := hid (HL1.out.on hb2); obtain ⟨ca, cc, hcv⟩ := hr2.form; subst hcv; clear hr2 hb2 HL1 HB1)
            | (go_at_call 180; refine (HG.out _ _ _ _ _ HL2.out HC2.out).mono ?_; clear HG; rintro e w3 ⟨v3, rfl, hr3, hb3⟩; have HG3 : Hid (RowP w3 0 v3 L) := own_base hr3 (Nat.zero_le _); have HG3' : Hid (RowP w3 w.heap.size v3 L) := own_base hr3 HB2.out.size; have HB3 := hid (HB2.out.trans (hb3.mono HB2.out.size)); have HL3 := hid (HL2.out.on hb3); obtain ⟨ga, gc, hgv⟩ := hr3.form; subst hgv; clear hr3 hb3 HL2 HB2 HC2)
            | (go_at_call 84; refine (hln _ HB3.out).mono ?_; clear hln; rintro e w4 ⟨rfl, rfl⟩)
            | (go_at_call 181; refine (HC.out _ _ _ HG3.out).mono ?_; clear HC; rintro e w4 ⟨rfl, hb4⟩; have HG4 := hid (HG3.out.on hb4); have HG4' := hid (HG3'.out.on hb4); have HB4 := hid (HB3.out.trans (hb4.mono HB3.out.size)); have HL4 := hid (HL3.out.on hb4); clear hb4 HG3 HG3' HB3 HL3)
            | (go_at_call 183; refine (HLO.out _ _ _ HG4.out).mono ?_; clear HLO; rintro e w5 ⟨v5, rfl, hr5, hb5⟩; have HK5 := hid hr5; have HG5 := hid (HG4.out.on hb5); have HG5' := hid (HG4'.out.on hb5); have HB5 := hid (HB4.out.trans (hb5.mono HB4.out.size)); have HL5 := hid (HL4.out.on hb5); obtain ⟨ka, kc, hkv⟩ := hr5.form; subst hkv; clear hr5 hb5 HG4 HG4' HB4 HL4)
            | (go_at_call 182; refine (HEQ.out _ _ _ _ _ HL5.out HK5.out).mono ?_; clear HEQ; rintro e w6 ⟨rfl, hb6⟩; have HG6 := hid (HG5.out.on hb6); have HG6' := hid (HG5'.out.on hb6); have HB6 := hid (HB5.out.trans (hb6.mono HB5.out.size)); have HL6 := hid (HL5.out.on hb6); clear hb6 HG5 HG5' HB5 HL5 HK5)
            | (go_at_call 184; refine (HH.out _ _ _ _ _ HL6.out HG6.out).mono ?_; clear HH; rintro e w7 ⟨rfl, hb7⟩; have HG7' := hid (HG6'.out.on hb7); have HB7 := hid (HB6.out.trans (hb7.mono HB6.out.size)); clear hb7 HG6 HG6' HB6 HL6))
          go_ret2
          exact ⟨_, rfl, World.ownsRow_nil _ _ _ _, HB7.out⟩
      · have hdt : decide (lst = R) = false := decide_eq_false hlr
        rw [hdt] at HEQ
        rw [if_neg (fun h' => hlr h'.2.1)]
        clear hlr hdt HH
        go_enter Tryz.func120, Tryz.ntmps120
        go_wp2_with (first
          | (go_at_call 84; refine ((fun (hh : Hid (Below w.heap.size w w)) => hln _ hh.out) HB0).mono ?_; clear HB0; rintro e w1 ⟨rfl, rfl⟩)
          | (go_at_call 175; refine (hpg _).mono ?_; clear hpg; rintro e w1 ⟨rfl, rfl⟩)
          | (go_at_call 176; refine (htd _).mono ?_; clear htd; rintro e w1 ⟨rfl, rfl⟩)
          | (go_at_call 178; refine (hlb _).mono ?_; clear hlb; rintro e w1 ⟨rfl, rfl⟩)
          | (go_at_call 177; refine (HR1.out _ (Below.refl _ _)).mono ?_; clear HR1; rintro e w1 ⟨v1, rfl, hr1, hb1⟩; have HL1 := hid hr1; have HB1 := hid hb1; obtain ⟨la, lc, hlv⟩ := hr1.form; subst hlv; clear hr1 hb1)
          | (go_at_call 179; refine (hca _).mono ?_; clear hca; rintro e w2 ⟨rfl, rfl⟩)
          | (go_at_call 177; refine (HR2.out _ HB1.out).mono ?_; clear HR2; rintro e w2 ⟨v2, rfl, hr2, hb2⟩; have HC2 := hid hr2; have HB2 := hid (HB1.out.trans (hb2.mono HB1.out.size)); have HL2 := hid (HL1.out.on hb2); obtain ⟨ca, cc, hcv⟩ := hr2.form; subst hcv; clear hr2 hb2 HL1 HB1)
          | (go_at_call 180; refine (HG.out _ _ _ _ _ HL2.out HC2.out).mono ?_; clear HG; rintro e w3 ⟨v3, rfl, hr3, hb3⟩; have HG3 : Hid (RowP w3 0 v3 L) := own_base hr3 (Nat.zero_le _); have HG3' : Hid (RowP w3 w.heap.size v3 L) := own_base hr3 HB2.out.size; have HB3 := hid (HB2.out.trans (hb3.mono HB2.out.size)); have HL3 := hid (HL2.out.on hb3); obtain ⟨ga, gc, hgv⟩ := hr3.form; subst hgv; clear hr3 hb3 HL2 HB2 HC2)
          | (go_at_call 84; refine (hln _ HB3.out).mono ?_; clear hln; rintro e w4 ⟨rfl, rfl⟩)
          | (go_at_call 181; refine (HC.out _ _ _ HG3.out).mono ?_; clear HC; rintro e w4 ⟨rfl, hb4⟩; have HG4 := hid (HG3.out.on hb4); have HG4' := hid (HG3'.out.on hb4); have HB4 := hid (HB3.out.trans (hb4.mono HB3.out.size)); have HL4 := hid (HL3.out.on hb4); clear hb4 HG3 HG3' HB3 HL3)
          | (go_at_call 183; refine (HLO.out _ _ _ HG4.out).mono ?_; clear HLO; rintro e w5 ⟨v5, rfl, hr5, hb5⟩; have HK5 := hid hr5; have HG5 := hid (HG4.out.on hb5); have HG5' := hid (HG4'.out.on hb5); have HB5 := hid (HB4.out.trans (hb5.mono HB4.out.size)); have HL5 := hid (HL4.out.on hb5); obtain ⟨ka, kc, hkv⟩ := hr5.form; subst hkv; clear hr5 hb5 HG4 HG4' HB4 HL4)
          | (go_at_call 182; refine (HEQ.out _ _ _ _ _ HL5.out HK5.out).mono ?_; clear HEQ; rintro e w6 ⟨rfl, hb6⟩; have HG6 := hid (HG5.out.on hb6); have HG6' := hid (HG5'.out.on hb6); have HB6 := hid (HB5.out.trans (hb6.mono HB5.out.size)); have HL6 := hid (HL5.out.on hb6); clear hb6 HG5 HG5' HB5 HL5 HK5))
        go_ret2
        exact ⟨_, rfl, World.ownsRow_nil _ _ _ _, HB6.out⟩
    · rw [if_neg (fun h' => hck h'.1)]
      have hxn : ((ec : Int) != 0) = true := by simp; omega
      have hxz : ¬ (ec : Int) = 0 := by omega
      clear HH HLO HEQ
      go_enter Tryz.func120, Tryz.ntmps120
      go_wp2_with (first
        | (go_at_call 84; refine ((fun (hh : Hid (Below w.heap.size w w)) => hln _ hh.out) HB0).mono ?_; clear HB0; rintro e w1 ⟨rfl, rfl⟩)
        | (go_at_call 175; refine (hpg _).mono ?_; clear hpg; rintro e w1 ⟨rfl, rfl⟩)
        | (go_at_call 176; refine (htd _).mono ?_; clear htd; rintro e w1 ⟨rfl, rfl⟩)
        | (go_at_call 178; refine (hlb _).mono ?_; clear hlb; rintro e w1 ⟨rfl, rfl⟩)
        | (go_at_call 177; refine (HR1.out _ (Below.refl _ _)).mono ?_; clear HR1; rintro e w1 ⟨v1, rfl, hr1, hb1⟩; have HL1 := hid hr1; have HB1 := hid hb1; obtain ⟨la, lc, hlv⟩ := hr1.form; subst hlv; clear hr1 hb1)
        | (go_at_call 179; refine (hca _).mono ?_; clear hca; rintro e w2 ⟨rfl, rfl⟩)
        | (go_at_call 177; refine (HR2.out _ HB1.out).mono ?_; clear HR2; rintro e w2 ⟨v2, rfl, hr2, hb2⟩; have HC2 := hid hr2; have HB2 := hid (HB1.out.trans (hb2.mono HB1.out.size)); have HL2 := hid (HL1.out.on hb2); obtain ⟨ca, cc, hcv⟩ := hr2.form; subst hcv; clear hr2 hb2 HL1 HB1)
        | (go_at_call 180; refine (HG.out _ _ _ _ _ HL2.out HC2.out).mono ?_; clear HG; rintro e w3 ⟨v3, rfl, hr3, hb3⟩; have HG3 : Hid (RowP w3 0 v3 L) := own_base hr3 (Nat.zero_le _); have HG3' : Hid (RowP w3 w.heap.size v3 L) := own_base hr3 HB2.out.size; have HB3 := hid (HB2.out.trans (hb3.mono HB2.out.size)); have HL3 := hid (HL2.out.on hb3); obtain ⟨ga, gc, hgv⟩ := hr3.form; subst hgv; clear hr3 hb3 HL2 HB2 HC2)
        | (go_at_call 84; refine (hln _ HB3.out).mono ?_; clear hln; rintro e w4 ⟨rfl, rfl⟩)
        | (go_at_call 181; refine (HC.out _ _ _ HG3.out).mono ?_; clear HC; rintro e w4 ⟨rfl, hb4⟩; have HG4 := hid (HG3.out.on hb4); have HG4' := hid (HG3'.out.on hb4); have HB4 := hid (HB3.out.trans (hb4.mono HB3.out.size)); have HL4 := hid (HL3.out.on hb4); clear hb4 HG3 HG3' HB3 HL3))
      go_ret2
      exact ⟨_, rfl, World.ownsRow_nil _ _ _ _, HB4.out⟩
  · have hpe : pend d.bs = [] := by unfold pend; rw [if_neg hr]
    rw [hpe]
    clear hpe hbs h256
    obtain ⟨c, hc⟩ : ∃ c, told (hdOf d.bs) = c := ⟨_, rfl⟩
    rw [hc] at htd hr
    obtain ⟨q, hq⟩ : ∃ q, pgs d.bs.length = q := ⟨_, rfl⟩
    rw [hq] at hpg hr
    generalize hdOf d.bs = h at *
    clear hc hq
    have hln1 := hln w (Below.refl _ _)
    clear hln hd HB0
    generalize d.bs.length = n at *
    by_cases h1 : c < 1
    · have hc1 : decide ((c : Int) < 1) = true := decide_eq_true (by omega)
      go_enter Tryz.func120, Tryz.ntmps120
      go_wp2_with (first
        | (go_at_call 84; refine hln1.mono ?_; clear hln1; rintro e w1 ⟨rfl, rfl⟩)
        | (go_at_call 175; refine (hpg _).mono ?_; clear hpg; rintro e w1 ⟨rfl, rfl⟩)
        | (go_at_call 176; refine (htd _).mono ?_; clear htd; rintro e w1 ⟨rfl, rfl⟩))
      go_ret2
      exact ⟨_, rfl, World.ownsRow_nil _ _ _ _, Below.refl _ _⟩
    · have hc1 : decide ((c : Int) < 1) = false := decide_eq_false (by omega)
      have hc2 : decide ((q : Int) < (c : Int)) = true := decide_eq_true (by omega)
      go_enter Tryz.func120, Tryz.ntmps120
      go_wp2_with (first
        | (go_at_call 84; refine hln1.mono ?_; clear hln1; rintro e w1 ⟨rfl, rfl⟩)
        | (go_at_call 175; refine (hpg _).mono ?_; clear hpg; rintro e w1 ⟨rfl, rfl⟩)
        | (go_at_call 176; refine (htd _).mono ?_; clear htd; rintro e w1 ⟨rfl, rfl⟩))
      go_ret2
      exact ⟨_, rfl, World.ownsRow_nil _ _ _ _, Below.refl _ _⟩

theorem recover_nil (w : World) : Calls Tryz.prog 67 #[.pointer none] w fun e w' => e = .returned (.tuple #[.int .i64 0, .int .i64 18]) ∧ w = w' := by
  go_enter Tryz.func67, Tryz.ntmps67
  go_wp2_with fail
  go_ret2
  exact ⟨rfl, rfl⟩

theorem pend_len (bs : List ByteArray) : (pend bs).length ≤ pgs bs.length := by
  unfold pend
  split
  · rename_i h
    split
    · unfold gpOf
      rw [grpL_len]
      unfold cpOf cutB
      rw [List.length_take]
      omega
    · simp
  · simp
theorem pend_fit {d : Ds} (h : d.Ok) : ∀ p ∈ pend d.bs, (-9223372036854775808 ≤ p.pl ∧ p.pl ≤ 9223372036854775807) ∧ p.data.size ≤ maxLen := by
  intro p hp
  unfold pend at hp
  split at hp
  · split at hp
    · obtain ⟨h1, h2⟩ := grpL_mem hp
      exact ⟨by omega, by rw [h.bs _ (cutB_mem h2)]; decide⟩
    · cases hp
  · cases hp

set_option maxHeartbeats 4000000 in
theorem recover_any (w : World) (S : Nat → Prop) (k : Nat) (d : Ds) (hd : Dk w S k d) (hz : Fit (d.lg.length + 1500)) :
    Calls Tryz.prog 67 #[.pointer (some ⟨k, 0, none⟩)] w fun e w' => e = .returned (.tuple #[.int .i64 ((recv d).1 : Nat), .int .i64 ((recv d).2.1 : Nat)]) ∧ Wm w S k (recv d).2.2 w' := by
  have hrd := read_any 1 w S k d hd
  have HD := hid hd
  have HZ := hid hz
  cases hdn : d.dn with
  | true =>
    have HE : Hid (recv d = (0, 17, d)) := by show _ = _; unfold recv; rw [if_pos hdn]
    have hE := Ds.rdE_down 1 hdn
    have hS : d.rdS 1 = ⟨#[]⟩ := by unfold Ds.rdS; rw [if_neg (by rw [hE]; decide)]
    rw [hE, hS] at hrd
    rw [HE.out]
    clear hE hS hd hz hdn
    go_enter Tryz.func67, Tryz.ntmps67
    go_wp2_with (go_at_call 119; refine hrd.mono ?_; clear hrd; rintro e w1 ⟨rfl, hb1⟩)
    go_ret2
    exact ⟨rfl, (Wm.refl HD.out).on hb1⟩
  | false =>
    have hlo := hd.1.lo
    have hh : d.bs[1]? = some (hdOf d.bs) := by
      unfold hdOf
      rw [List.getD_eq_getElem?_getD, List.getElem?_eq_getElem (show 1 < d.bs.length by omega)]
      rfl
    obtain ⟨hE, hS⟩ := Ds.rd_in (n := 1) hdn hh
    rw [show ((1 : Nat) : Int) = 1 from rfl] at hE hS
    rw [hE, hS] at hrd
    have hpe : ∀ w1, Below w.heap.size w w1 → _ := fun w1 hb => pending_any w1 S k d (hd.on hb) hdn
    have HPF := hid (pend_fit hd.1)
    have hpl := pend_len d.bs
    have hpq := pgs_hi hd.1.hi
    have hRE : recv d = if pend d.bs = [] then (0, 0, d) else if (d.wrs (settledL (pend d.bs))).1 = 0 then ((pend d.bs).length, 0, (d.wrs (settledL (pend d.bs))).2) else (0, (d.wrs (settledL (pend d.bs))).1, (d.wrs (settledL (pend d.bs))).2) := by
      unfold recv; rw [if_neg (by rw [hdn]; decide)]
    rw [hRE]
    clear hRE hE hS hh hdn hlo hd hz
    generalize pend d.bs = L at *
    generalize hdOf d.bs = h at *
    by_cases hL : L = []
    · subst hL
      rw [if_pos rfl]
      go_enter Tryz.func67, Tryz.ntmps67
      go_wp2_with (first
        | (go_at_call 119; refine hrd.mono ?_; clear hrd; rintro e w1 ⟨rfl, hb1⟩; have HB1 := hid hb1; clear hb1)
        | (go_at_call 120; refine (hpe _ HB1.out).mono ?_; clear hpe; rintro e w2 ⟨v2, rfl, hr2, hb2⟩; have HB2 := hid (HB1.out.trans (hb2.mono HB1.out.size)); obtain ⟨la, lc, hlv⟩ := hr2.form; subst hlv; clear hr2 hb2))
      go_ret2
      exact ⟨rfl, (Wm.refl HD.out).on HB2.out⟩
    · have hN0 : 0 < L.length := by cases L with | nil => exact absurd rfl hL | cons _ _ => simp
      rw [if_neg hL]
      have HST : Hid (∀ w1 a c, Below w.heap.size w w1 → RowP w1 w.heap.size (.slice a L.length c) L → Calls Tryz.prog 121 #[.pointer (some ⟨k, 0, none⟩), .func (.func 186) #[] #[.pointer (some ⟨w1.heap.size, 0, none⟩)]] (w1.alloc (.cells #[.slice a L.length c] 106)) fun e w' => e = .returned (.int .i64 ((d.wrs (settledL L)).1 : Nat)) ∧ Wm w S k (d.wrs (settledL L)).2 w') := fun w1 a c hb hr => (settle_any w1 S k d (HD.out.on hb) a c L (hr.lies (fun g hg hs => by
          have h1 := ((hr : w1.ownsRow w.heap.size 110 2 _ _ _).lt g hg).1
          have h2 := HD.out.2.1 g hs
          omega) HPF.out) (by omega) HZ.out).mono fun e w' hh => ⟨hh.1, hh.2.base hb⟩
      obtain ⟨r, hr⟩ : ∃ r, d.wrs (settledL L) = r := ⟨_, rfl⟩
      rw [hr] at HST ⊢
      obtain ⟨N, hN⟩ : ∃ N, L.length = N := ⟨_, rfl⟩
      have HN := hid hN
      rw [hN] at HST hN0 hpl ⊢
      have hN0b : ((N : Int) == 0) = false := by simp; omega
      clear hL hr hN hN0
      obtain ⟨re, rd⟩ := r
      simp only at HST ⊢
      by_cases hr0 : re = 0
      · subst hr0
        rw [if_pos rfl]
        go_enter Tryz.func67, Tryz.ntmps67
        go_wp2_with (first
          | (go_at_call 119; refine hrd.mono ?_; clear hrd; rintro e w1 ⟨rfl, hb1⟩; have HB1 := hid hb1; clear hb1)
          | (go_at_call 120; refine (hpe _ HB1.out).mono ?_; clear hpe; rintro e w2 ⟨v2, rfl, hr2, hb2⟩; have HB2 := hid (HB1.out.trans (hb2.mono HB1.out.size)); have HR2 : Hid (RowP w2 w.heap.size v2 L) := own_base hr2 HB1.out.size; obtain ⟨la, lc, hlv⟩ := hr2.form; rw [HN.out] at hlv; subst hlv; clear hr2 hb2)
          | (go_at_call 122; refine (settled_any la N lc _).mono ?_; rintro e w3 ⟨rfl, rfl⟩)
          | (go_at_call 121; refine (HST.out _ _ _ HB2.out HR2.out).mono ?_; clear HST; rintro e w4 ⟨rfl, h4⟩))
        go_ret2
        exact ⟨rfl, h4⟩
      · rw [if_neg hr0]
        have hrn : ((re : Int) != 0) = true := by simp; omega
        have hrz : ¬ (re : Int) = 0 := by omega
        go_enter Tryz.func67, Tryz.ntmps67
        go_wp2_with (first
          | (go_at_call 119; refine hrd.mono ?_; clear hrd; rintro e w1 ⟨rfl, hb1⟩; have HB1 := hid hb1; clear hb1)
          | (go_at_call 120; refine (hpe _ HB1.out).mono ?_; clear hpe; rintro e w2 ⟨v2, rfl, hr2, hb2⟩; have HB2 := hid (HB1.out.trans (hb2.mono HB1.out.size)); have HR2 : Hid (RowP w2 w.heap.size v2 L) := own_base hr2 HB1.out.size; obtain ⟨la, lc, hlv⟩ := hr2.form; rw [HN.out] at hlv; subst hlv; clear hr2 hb2)
          | (go_at_call 122; refine (settled_any la N lc _).mono ?_; rintro e w3 ⟨rfl, rfl⟩)
          | (go_at_call 121; refine (HST.out _ _ _ HB2.out HR2.out).mono ?_; clear HST; rintro e w4 ⟨rfl, h4⟩))
        go_ret2
        exact ⟨rfl, h4⟩

end Go.Proofs.YtjcbaiohpdihoaaGreatDoor
