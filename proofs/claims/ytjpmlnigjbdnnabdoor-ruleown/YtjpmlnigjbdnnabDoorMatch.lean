/-
  What the program's Match and gather answer.
-/
import Derived.Test.YtjpmlnigjbdnnabDoorBinds
namespace Go.Proofs.YtjpmlnigjbdnnabDoor
open Go.RowKit
set_option linter.unusedVariables false
set_option maxRecDepth 100000
set_option linter.unusedSimpArgs false

/-- what Match answers: the error, and the binds -/
def ce (P T : List Cl) : Nat := if check P = 0 then check T else check P
def mt (P T : List Cl) : Option (List Bd) := if ce P T = 0 then fitL P T [] else none
theorem ce_zero {P T : List Cl} (h : ce P T = 0) : check P = 0 ∧ check T = 0 := by
  unfold ce at h
  split at h
  · rename_i h1; exact ⟨h1, h⟩
  · rename_i h1; exact absurd h h1
theorem mt_some {P T : List Cl} {acc : List Bd} (h : mt P T = some acc) : check P = 0 ∧ check T = 0 ∧ fitL P T [] = some acc := by
  unfold mt at h
  split at h
  · rename_i h1; exact ⟨(ce_zero h1).1, (ce_zero h1).2, h⟩
  · cases h
theorem mt_facts {P T : List Cl} {acc : List Bd} (h : mt P T = some acc) : acc.map (·.nm) = varsOf P ∧ (∀ x ∈ acc, check x.val = 0 ∧ kind x.nm.data.toList = 2) ∧ T = sub (at_ acc) P ∧ ∀ c ∈ P, isV c = true → (look acc c.nm).isSome = true := by
  obtain ⟨h1, h2, h3⟩ := mt_some h
  obtain ⟨e1, e2, e3, e4⟩ := fit_sound P T [] acc h3
  exact ⟨e4, fit_right P T [] acc h3 (cellsErr_zero.1 (check_zero h2).2.1) (check_zero h2).1 (by simp), e2, e3⟩

theorem match_any (w : World) (u v : Value) (P T : List Cl) (hu : Lies w u P) (hv : Lies w v T) :
    Calls Tryd.prog 22 #[u, v] w fun e w' => ∃ v', e = .returned (.tuple #[v', .bool (mt P T).isSome, .int .i64 (ce P T : Nat)]) ∧ OwnsB w' w.heap.size v' ((mt P T).getD []) ∧ Below w.heap.size w w' := by
  have hcp := check_any w u P hu
  have hct : ∀ w1, Below w.heap.size w w1 → _ := fun w1 hb => check_any w1 v T (hv.on hb)
  by_cases hP : check P = 0
  · rw [hP] at hcp
    by_cases hT : check T = 0
    · rw [hT] at hct
      have hce : ce P T = 0 := by unfold ce; rw [if_pos hP]; exact hT
      have hfit : ∀ w1, Below w.heap.size w w1 → _ := fun w1 hb => fit_any w1 u v P T (hu.on hb) (hv.on hb) hP hT
      have hmt : mt P T = fitL P T [] := by unfold mt; rw [if_pos hce]
      rw [hce]
      cases hf : fitL P T [] with
      | none =>
        rw [hf] at hfit
        rw [hmt, hf]
        have hfit2 : ∀ w1, Below w.heap.size w w1 → Calls Tryd.prog 46 #[u, v] w1 fun e w' => e = .returned (.tuple #[.map none, .bool false]) ∧ Below w1.heap.size w1 w' := hfit
        clear hfit hmt hf hce hP hT
        go_enter Tryd.func22, Tryd.ntmps22
        go_wp2_with (first | (go_at_call 35; refine hcp.mono ?_; rintro e w1 ⟨rfl, hb1⟩; clear hcp) | (go_at_call 35; refine (hct _ hb1).mono ?_; rintro e w2 ⟨rfl, hb2⟩; replace hb2 := hb1.trans (hb2.mono hb1.size)) | (go_at_call 46; refine (hfit2 _ hb2).mono ?_; rintro e w3 ⟨rfl, hb3⟩; replace hb3 := hb2.trans (hb3.mono hb2.size)))
        go_ret3
        exact ⟨_, rfl, OwnsB.nil _ _, hb3⟩
      | some acc =>
        rw [hf] at hfit
        have hmt2 : mt P T = some acc := hmt.trans hf
        obtain ⟨n1, n2, _⟩ := mt_facts hmt2
        rw [hmt, hf]
        have hfit2 : ∀ w1, Below w.heap.size w w1 → Calls Tryd.prog 46 #[u, v] w1 fun e w' => (∃ b n f, e = .returned (.tuple #[.map (some b), .bool true]) ∧ MapIs w' b n f ∧ Holds w' f acc) ∧ Below w1.heap.size w1 w' := hfit
        have htell : ∀ w1 b n f, Below w.heap.size w w1 → MapIs w1 b n f → Holds w1 f acc → _ := fun w1 b n f hb hm hH => tell_any w1 u P (hu.on hb) hP b n f acc hm hH n1 n2
        clear hfit hmt hf hce hP hT hmt2 n1 n2
        go_enter Tryd.func22, Tryd.ntmps22
        go_wp2_with (first | (go_at_call 35; refine hcp.mono ?_; rintro e w1 ⟨rfl, hb1⟩; clear hcp) | (go_at_call 35; refine (hct _ hb1).mono ?_; rintro e w2 ⟨rfl, hb2⟩; replace hb2 := hb1.trans (hb2.mono hb1.size)) | (go_at_call 46; refine (hfit2 _ hb2).mono ?_; rintro e w3 ⟨⟨mb, mn, mf, rfl, hm3, hH3⟩, hb3⟩; replace hb3 := hb2.trans (hb3.mono hb2.size)) | (go_at_call 47; refine (htell _ _ _ _ hb3 hm3 hH3).mono ?_; rintro e w4 ⟨v4, rfl, ho4, hb4⟩; have ho5 := ho4.base hb3.size; replace hb4 := hb3.trans (hb4.mono hb3.size); obtain ⟨oa, oc, hov, _⟩ := ho5.form; subst hov))
        go_ret3
        exact ⟨_, rfl, ho5, hb4⟩
    · have hce : ce P T = check T := by unfold ce; rw [if_pos hP]
      have hmt : mt P T = none := by unfold mt; rw [hce, if_neg hT]
      rw [hmt, hce]
      generalize check T = e0 at hct hT ⊢
      have e1 : ((e0 : Int) == 0) = false := by simp only [beq_eq_false_iff_ne]; omega
      have e2 : ¬ (e0 : Int) = 0 := by omega
      clear hce hmt hP
      go_enter Tryd.func22, Tryd.ntmps22
      go_wp2_with (first | (go_at_call 35; refine hcp.mono ?_; rintro e w1 ⟨rfl, hb1⟩; clear hcp) | (go_at_call 35; refine (hct _ hb1).mono ?_; rintro e w2 ⟨rfl, hb2⟩; replace hb2 := hb1.trans (hb2.mono hb1.size)))
      go_ret3
      exact ⟨_, rfl, OwnsB.nil _ _, hb2⟩
  · have hce : ce P T = check P := by unfold ce; rw [if_neg hP]
    have hmt : mt P T = none := by unfold mt; rw [hce, if_neg hP]
    rw [hmt, hce]
    generalize check P = e0 at hcp hP ⊢
    have e1 : ((e0 : Int) == 0) = false := by simp only [beq_eq_false_iff_ne]; omega
    have e2 : ¬ (e0 : Int) = 0 := by omega
    clear hce hmt
    go_enter Tryd.func22, Tryd.ntmps22
    go_wp2_with (first | (go_at_call 35; refine hcp.mono ?_; rintro e w1 ⟨rfl, hb1⟩))
    go_ret3
    exact ⟨_, rfl, OwnsB.nil _ _, hb1⟩

/-- the first fault of binds -/
def gatherE : List ByteArray → List Bd → Nat
  | _, [] => 0
  | seen, b :: r => if kind b.nm.data.toList = 2 then (if inS b.nm seen then 9 else if check b.val = 0 then gatherE (seen ++ [b.nm]) r else check b.val) else 4
theorem gather_right : ∀ (l : List Bd) (seen : List ByteArray), gatherE seen l = 0 → (∀ b ∈ l, check b.val = 0 ∧ kind b.nm.data.toList = 2 ∧ inS b.nm seen = false) ∧ (l.map (·.nm)).Nodup
  | [], seen, _ => by simp
  | b :: r, seen, h => by
    unfold gatherE at h
    by_cases hk : kind b.nm.data.toList = 2
    · rw [if_pos hk] at h
      by_cases hs : inS b.nm seen = true
      · rw [if_pos hs] at h; cases h
      · rw [if_neg hs] at h
        by_cases hc : check b.val = 0
        · rw [if_pos hc] at h
          obtain ⟨h1, h2⟩ := gather_right r _ h
          refine ⟨fun x hx => ?_, ?_⟩
          · rcases List.mem_cons.1 hx with rfl | hx
            · exact ⟨hc, hk, by simpa using hs⟩
            · obtain ⟨a1, a2, a3⟩ := h1 x hx
              refine ⟨a1, a2, ?_⟩
              unfold inS at a3 ⊢
              rw [List.any_append] at a3
              simp only [Bool.or_eq_false_iff] at a3
              exact a3.1
          · rw [List.map_cons, List.nodup_cons]
            refine ⟨?_, h2⟩
            intro hm
            obtain ⟨x, hx, e⟩ := List.mem_map.1 hm
            have := (h1 x hx).2.2
            rw [e] at this
            unfold inS at this
            simp at this
        · rw [if_neg hc] at h; exact absurd h hc
    · rw [if_neg hk] at h; cases h

/-- how gather ends -/
def Gathers (l : List Bd) (r : Nat) (e : Ending) (w' : World) : Prop :=
  if r = 0 then ∃ b n f, e = .returned (.tuple #[.map (some b), .int .i64 0]) ∧ MapIs w' b n f ∧ Holds w' f l else e = .returned (.tuple #[.map none, .int .i64 (r : Nat)])

set_option maxHeartbeats 4000000 in
theorem gather_any (w : World) (v : Value) (l : List Bd) (hv : LiesB w v l) :
    Calls Tryd.prog 44 #[v] w fun e w' => Gathers l (gatherE [] l) e w' ∧ Below w.heap.size w w' := by
  have hmm := @run_makeMap Tryd.prog
  have HV : Hid (LiesB w v l) := hv
  obtain ⟨RES, hRES⟩ : ∃ R, gatherE [] l = R := ⟨_, rfl⟩
  have HRES : Hid (RES = gatherE ((l.take 0).map (·.nm)) (l.drop 0)) := by show _ = _; rw [List.drop_zero]; exact hRES.symm
  have HM0 : Hid (MapIs (w.alloc (.map #[] 0)) w.heap.size 0 fun _ => none) := MapIs.made w
  have HB0 : Hid (Below w.heap.size w (w.alloc (.map #[] 0))) := (Below.refl _ w).alloc (Nat.le_refl _) _
  rw [hRES]
  obtain ⟨la, lc, rfl, hl1, hl2, _⟩ := hv
  have hlm : l.length ≤ 9223372036854775807 := by unfold maxLen at hl2; omega
  clear hRES
  go_enter Tryd.func44, Tryd.ntmps44
  go_wp2_with fail
  go_loopw [13] (fun i wr => ∃ (k : Nat) (f : ByteArray → Option Value), k ≤ l.length ∧ Hid (RES = gatherE ((l.take k).map (·.nm)) (l.drop k)) ∧ MapIs wr w.heap.size k f ∧ Hid (Holds w f (l.take k)) ∧ Below w.heap.size w wr ∧ i = .int .i64 (k : Nat)) (fun i _ => l.length - (intOf i).toNat)
  case atStart => exact ⟨0, _, Nat.zero_le _, HRES, HM0.out, (fun nm => rfl), HB0.out, rfl⟩
  case round =>
    obtain ⟨k, f, hk, HR, hmap, HH, hbr, rfl⟩ := hrel
    clear HM0 HB0 HRES
    have hbs := hbr.size
    by_cases hlt : k < l.length
    · obtain ⟨bd, hbd⟩ : ∃ b, l[k]? = some b := ⟨l[k], List.getElem?_eq_getElem hlt⟩
      obtain ⟨g, off, x, hla, hgl, c1, c2, hlx0, hns⟩ : ∃ g off x, la = some ⟨g, off, none⟩ ∧ g < w.heap.size ∧ w.cell? ⟨g, off + k * 2, none⟩ = some (.string bd.nm) ∧ w.cell? ⟨g, off + k * 2 + 1, none⟩ = some x ∧ Lies w x bd.val ∧ bd.nm.size ≤ 9223372036854775807 := by
        obtain ⟨a', c', hv', _, _, HC'⟩ := HV.out
        cases hv'
        exact HC' k bd hbd
      subst hla
      have d1 := (hbr.cell (p := ⟨g, off + k * 2, none⟩) hgl).trans c1
      have d2 := (hbr.cell (p := ⟨g, off + k * 2 + 1, none⟩) hgl).trans c2
      have hki : (k : Int) < (l.length : Int) := by omega
      obtain ⟨nm, val⟩ := bd
      simp only at d1 d2 hlx0 hns
      have hmx : nm.size ≤ maxLen := by unfold maxLen; omega
      have hkd := fun w => kind_any nm w hmx
      have hdr : l.drop k = ⟨nm, val⟩ :: l.drop (k + 1) := by
        obtain ⟨hkl, e⟩ := List.getElem?_eq_some_iff.1 hbd
        rw [← e]; exact List.drop_eq_getElem_cons hkl
      have htk : l.take (k + 1) = l.take k ++ [⟨nm, val⟩] := by rw [List.take_add_one, hbd]; rfl
      have hR0 := HR.out
      rw [hdr] at hR0
      unfold gatherE at hR0
      simp only at hR0
      have HLX : Hid (Lies w x val) := hlx0
      have hck : ∀ w1, Below w.heap.size w w1 → _ := fun w1 hb => check_any w1 x val (HLX.out.on hb)
      obtain ⟨xa, xc, rfl, _⟩ := hlx0
      have HMA : Hid (MapIs (wr.alloc (.cells #[.string nm, .slice xa val.length xc] 67)) w.heap.size k f) := hmap.alloc _
      have HBA : Hid (Below w.heap.size w (wr.alloc (.cells #[.string nm, .slice xa val.length xc] 67))) := hbr.alloc hbs _
      have HTK : Hid (l.take (k + 1) = l.take k ++ [⟨nm, val⟩]) := htk
      clear hbd c1 c2 hdr htk hmap HR
      generalize kind nm.data.toList = q at hkd hR0
      by_cases hq : q = 2
      · rw [if_pos hq] at hR0
        subst hq
        have hHn := HH.out nm
        by_cases hin : inS nm ((l.take k).map (·.nm)) = true
        · rw [if_pos hin] at hR0
          have HR2 : Hid (RES = 9) := hR0
          obtain ⟨V, hlk⟩ : ∃ V, look (l.take k) nm = some V := by
            cases h : look (l.take k) nm with
            | none => rw [look_none, hin] at h; cases h
            | some V => exact ⟨V, rfl⟩
          rw [hlk] at hHn
          obtain ⟨y, hfy, hly⟩ := hHn
          obtain ⟨ya, yc, rfl, _⟩ := hly
          clear hR0 hin hlk
          go_wp2_with (first | (go_at_call 39; refine (hkd _).mono ?_; rintro x w2 ⟨rfl, rfl⟩) | (at_lookup; refine wpList_look5_some _ rfl _ _ rfl w.heap.size k f rfl HMA.out nm rfl hmx _ hfy ?_))
          go_ret2
          refine ⟨?_, HBA.out.alloc HBA.out.size _⟩
          rw [HR2.out]
          rfl
        · rw [if_neg hin] at hR0
          have hlk : look (l.take k) nm = none := look_none.2 (by simpa using hin)
          rw [hlk] at hHn
          simp only at hHn
          have HB2 : Hid (∀ o, Below w.heap.size w ((wr.alloc (.cells #[.string nm, .slice xa val.length xc] 67)).alloc o)) := fun o => HBA.out.alloc HBA.out.size o
          by_cases hc0 : check val = 0
          · rw [if_pos hc0] at hR0
            rw [hc0] at hck
            have HR2 : Hid (RES = gatherE ((l.take (k + 1)).map (·.nm)) (l.drop (k + 1))) := by show _ = _; rw [hR0, HTK.out, List.map_append]; rfl
            have HH2 : Hid (Holds w (fun s => if s = nm then some (.agg #[.string nm, .slice xa val.length xc]) else f s) (l.take (k + 1))) := by rw [HTK.out]; exact HH.out.more hlk HLX.out
            clear hR0 hin hlk hc0 HH
            go_wp2_with (first | (go_at_call 39; refine (hkd _).mono ?_; rintro x w2 ⟨rfl, rfl⟩) | (at_lookup; refine wpList_look5_none _ rfl _ _ rfl w.heap.size k f rfl HMA.out nm rfl hmx hHn ?_) | (go_at_call 35; refine (hck _ (HB2.out _)).mono ?_; rintro x w3 ⟨rfl, hb3⟩; have hmap3 := (HMA.out.alloc _).on hb3; have hb4 := (HB2.out _).trans (hb3.mono (HB2.out _).size); have q1 : w3.cell? ⟨wr.heap.size, 0, none⟩ = some (.string nm) := (hb3.cell (p := ⟨wr.heap.size, 0, none⟩) (by simp; omega)).trans ((((Below.refl (wr.heap.size + 1) _).alloc (by simp) _).cell (p := ⟨wr.heap.size, 0, none⟩) (by simp)).trans (by simp)); have q2 : w3.cell? ⟨wr.heap.size, 1, none⟩ = some (.slice xa val.length xc) := (hb3.cell (p := ⟨wr.heap.size, 1, none⟩) (by simp; omega)).trans ((((Below.refl (wr.heap.size + 1) _).alloc (by simp) _).cell (p := ⟨wr.heap.size, 1, none⟩) (by simp)).trans (by simp))) | (at_mapUpdate; refine wpList_store5 _ rfl _ _ _ rfl w.heap.size k f rfl hmap3 (by unfold maxLen at hl2 ⊢; omega) nm _ rfl rfl hmx ?_))
            intro w5 hmap5 hgrow5
            have hb5 : Below w.heap.size w w5 := hb4.grown hgrow5 hb4.size (fun k hk => by cases hk; exact Nat.le_refl _)
            clear q1 q2 hb3 hb4 hmap3 hgrow5
            go_wp2_with fail
            go_roundw
            case rel => exact ⟨k + 1, _, by omega, HR2, hmap5, HH2, hb5, by go_num⟩
            case measure => simp [intOf]; omega
          · rw [if_neg hc0] at hR0
            have HR2 : Hid (RES = check val) := hR0
            generalize check val = e0 at hck hc0 HR2
            have e1 : ((e0 : Int) == 0) = false := by simp only [beq_eq_false_iff_ne]; omega
            have e2 : ¬ (e0 : Int) = 0 := by omega
            have HE0 : Hid (e0 ≠ 0) := hc0
            clear hR0 hin hlk HH hc0
            go_wp2_with (first | (go_at_call 39; refine (hkd _).mono ?_; rintro x w2 ⟨rfl, rfl⟩) | (at_lookup; refine wpList_look5_none _ rfl _ _ rfl w.heap.size k f rfl HMA.out nm rfl hmx hHn ?_) | (go_at_call 35; refine (hck _ (HB2.out _)).mono ?_; rintro x w3 ⟨rfl, hb3⟩; have hb4 := (HB2.out _).trans (hb3.mono (HB2.out _).size)))
            go_ret2
            refine ⟨?_, hb4⟩
            rw [HR2.out]
            unfold Gathers
            rw [if_neg HE0.out]
            rfl
      · rw [if_neg hq] at hR0
        have HR2 : Hid (RES = 4) := hR0
        have q1 : ((q : Int) == 2) = false := by simp only [beq_eq_false_iff_ne]; omega
        have q2 : ¬ (q : Int) = 2 := by omega
        clear hR0 hq
        go_wp2_with (first | (go_at_call 39; refine (hkd _).mono ?_; rintro x w2 ⟨rfl, rfl⟩))
        go_ret2
        refine ⟨?_, HBA.out⟩
        rw [HR2.out]
        rfl
    · have hki : ¬ (k : Int) < (l.length : Int) := by omega
      have HX : Hid (RES = 0) := by show _ = _; rw [HR.out, List.drop_eq_nil_of_le (by omega)]; rfl
      have HH2 : Hid (Holds w f l) := by have := HH.out; rwa [List.take_of_length_le (by omega)] at this
      clear HR HH
      go_wp2_with fail
      go_ret2
      refine ⟨?_, hbr⟩
      rw [HX.out]
      unfold Gathers
      rw [if_pos rfl]
      exact ⟨_, _, _, rfl, hmap, HH2.out.on hbr⟩

end Go.Proofs.YtjpmlnigjbdnnabDoor
