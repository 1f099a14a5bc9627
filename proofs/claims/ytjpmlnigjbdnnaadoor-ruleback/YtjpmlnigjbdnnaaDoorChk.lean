/-
  What the program's Check, and the document's, answer of any list of cells.
-/
import Derived.Test.YtjpmlnigjbdnnaaDoorLie
namespace Go.Proofs.YtjpmlnigjbdnnaaDoor
open Go.RowKit
set_option linter.unusedVariables false
set_option maxRecDepth 100000

theorem checkCell_any (c : Cl) (w : World) (hc : c.nm.size ≤ 9223372036854775807) :
    Calls Tryd.prog 61 #[.agg #[.string c.nm, .int .i64 c.ar]] w fun e w' => e = .returned (.int .i64 (cellErr c : Nat)) ∧ Below w.heap.size w w' := by
  have hk := fun w => kind_any c.nm w (by unfold maxLen; omega)
  obtain ⟨q, hq⟩ : ∃ q, kind c.nm.data.toList = q := ⟨_, rfl⟩
  obtain ⟨e, he⟩ : ∃ e, cellErr c = e := ⟨_, rfl⟩
  have HE : Hid (e = if q = 0 then 4 else if c.ar < 0 ∨ (if q = 2 then 0 else 4) < c.ar then 5 else 0) := by
    show _ = _
    rw [← he, ← hq]; rfl
  have hbel : ∀ o, Below w.heap.size w (w.alloc o) := fun o => (Below.refl _ w).alloc (Nat.le_refl _) o
  have HB : Hid (∀ o, Below w.heap.size w (w.alloc o)) := hbel
  rw [hq] at hk
  rw [he]
  clear he hq hbel
  obtain ⟨nm, ar⟩ := c
  simp only at hk HE hc ⊢
  by_cases q0 : q = 0
  · subst q0
    go_enter Tryd.func61, Tryd.ntmps61
    go_wp2_with (go_at_call 33; refine (hk _).mono ?_; rintro e w1 ⟨rfl, rfl⟩)
    go_ret
    exact ⟨by rw [HE.out]; rfl, HB.out _⟩
  · by_cases q2 : q = 2
    · subst q2
      by_cases h0 : ar < 0
      · go_enter Tryd.func61, Tryd.ntmps61
        go_wp2_with (go_at_call 33; refine (hk _).mono ?_; rintro e w1 ⟨rfl, rfl⟩)
        go_ret
        exact ⟨by rw [HE.out, if_neg (by omega), if_pos (by omega)]; rfl, HB.out _⟩
      · by_cases h1 : 0 < ar
        · have d0 : decide (ar < 0) = false := decide_eq_false h0
          go_enter Tryd.func61, Tryd.ntmps61
          go_wp2_with (go_at_call 33; refine (hk _).mono ?_; rintro e w1 ⟨rfl, rfl⟩)
          go_ret
          exact ⟨by rw [HE.out, if_neg (by omega), if_pos (by simp; omega)]; rfl, HB.out _⟩
        · have hz : ar = 0 := by omega
          subst hz
          go_enter Tryd.func61, Tryd.ntmps61
          go_wp2_with (go_at_call 33; refine (hk _).mono ?_; rintro e w1 ⟨rfl, rfl⟩)
          go_ret
          exact ⟨by rw [HE.out]; rfl, HB.out _⟩
    · have e0 : ((q : Int) == 0) = false := by simp only [beq_eq_false_iff_ne]; omega
      have e2 : ((q : Int) == 2) = false := by simp only [beq_eq_false_iff_ne]; omega
      have n0 : ¬ (q : Int) = 0 := by omega
      have n2 : ¬ (q : Int) = 2 := by omega
      have HE2 : Hid (e = if ar < 0 ∨ 4 < ar then 5 else 0) := by
        show _ = _
        rw [HE.out, if_neg q0, if_neg q2]
      clear HE
      by_cases h0 : ar < 0
      · go_enter Tryd.func61, Tryd.ntmps61
        go_wp2_with (go_at_call 33; refine (hk _).mono ?_; rintro e w1 ⟨rfl, rfl⟩)
        go_ret
        exact ⟨by rw [HE2.out, if_pos (.inl h0)]; rfl, HB.out _⟩
      · have d0 : decide (ar < 0) = false := decide_eq_false h0
        by_cases h1 : 4 < ar
        · go_enter Tryd.func61, Tryd.ntmps61
          go_wp2_with (go_at_call 33; refine (hk _).mono ?_; rintro e w1 ⟨rfl, rfl⟩)
          go_ret
          exact ⟨by rw [HE2.out, if_pos (.inr h1)]; rfl, HB.out _⟩
        · have d1 : decide (4 < ar) = false := decide_eq_false h1
          go_enter Tryd.func61, Tryd.ntmps61
          go_wp2_with (go_at_call 33; refine (hk _).mono ?_; rintro e w1 ⟨rfl, rfl⟩)
          go_ret
          exact ⟨by rw [HE2.out, if_neg (by omega)]; rfl, HB.out _⟩

theorem posN_whole {L : List Cl} (hL : L ≠ []) : (posN L 0 = L.length) ↔ fo 1 L = some [] := by
  have hl : 0 < L.length := List.length_pos_iff.2 hL
  unfold posN
  rw [List.drop_zero]
  cases h : fo 1 L with
  | none => simp; omega
  | some r =>
    obtain ⟨a, ha, _, hn⟩ := fo_suffix _ _ _ h
    have hl2 := congrArg List.length ha
    rw [List.length_append] at hl2
    simp only [Option.some.injEq]
    constructor
    · intro e; exact List.eq_nil_of_length_eq_zero (by omega)
    · intro e; subst e; rfl
theorem posZ_whole (L : List Cl) : (posZ L 0 = L.length) ↔ fo 1 L = some [] := by
  unfold posZ
  rw [List.drop_zero]
  cases h : fo 1 L with
  | none => simp
  | some r =>
    obtain ⟨a, ha, _, hn⟩ := fo_suffix _ _ _ h
    have hl2 := congrArg List.length ha
    rw [List.length_append] at hl2
    simp only [Option.some.injEq]
    constructor
    · intro e; exact List.eq_nil_of_length_eq_zero (by omega)
    · intro e; subst e; rfl

set_option maxHeartbeats 1000000 in
theorem check_any (w : World) (v : Value) (L : List Cl) (hv : Lies w v L) :
    Calls Tryd.prog 29 #[v] w fun e w' => e = .returned (.int .i64 (check L : Nat)) ∧ Below w.heap.size w w' := by
  have hv0 := hv
  obtain ⟨a, cap, rfl, hc1, hc2, hF, HC⟩ := hv
  by_cases hbig : 64 < L.length
  · have hr : Hid (check L = 6) := by show _ = _; unfold check; rw [if_pos hbig]
    have hbi : (64 : Int) < (L.length : Int) := by omega
    go_enter Tryd.func29, Tryd.ntmps29
    go_wp2_with fail
    go_ret
    exact ⟨by rw [hr.out]; rfl, Below.refl _ _⟩
  · have hl : L.length ≤ 64 := by omega
    have HFH : Hid (Fine L) := hF
    have HV : Hid (Lies w (.slice a L.length cap) L) := hv0
    obtain ⟨r, hr⟩ : ∃ r, check L = r := ⟨_, rfl⟩
    have HR : Hid (r = if cellsErr L = 0 then (if fo 1 L = some [] then 0 else 3) else cellsErr L) := by
      show _ = _
      rw [← hr]; unfold check; rw [if_neg hbig]
    rw [hr]
    clear hr hF hv0 hbig
    go_enter Tryd.func29, Tryd.ntmps29
    go_wp2_with fail
    go_loopw [11] (fun i wr => ∃ k : Nat, k ≤ L.length ∧ Hid (cellsErr L = cellsErr (L.drop k)) ∧ i = .int .i64 k ∧ Below w.heap.size w wr) (fun i _ => L.length - (intOf i).toNat)
    case atStart => exact ⟨0, Nat.zero_le _, rfl, rfl, Below.refl _ _⟩
    case round =>
      obtain ⟨k, hk, HK, rfl, hb⟩ := hrel
      by_cases hlt : k < L.length
      · obtain ⟨c, hc⟩ : ∃ c, L[k]? = some c := ⟨L[k], List.getElem?_eq_getElem hlt⟩
        obtain ⟨b, off, rfl, hbl, h1', h2'⟩ := HC k c hc
        have h1 := (hb.cell (p := ⟨b, off + k * 2, none⟩) hbl).trans h1'
        have h2 := (hb.cell (p := ⟨b, off + k * 2 + 1, none⟩) hbl).trans h2'
        have hsz := (HFH.out c (List.mem_of_getElem? hc)).1
        have HK2 : Hid (cellsErr L = if cellErr c = 0 then cellsErr (L.drop (k + 1)) else cellErr c) := by
          show _ = _
          rw [HK.out, drop_cl hc]; rfl
        have hcall := fun w => checkCell_any c w hsz
        clear HK hc h1' h2'
        by_cases he : cellErr c = 0
        · have HK3 : Hid (cellsErr L = cellsErr (L.drop (k + 1))) := by show _ = _; rw [HK2.out, if_pos he]
          rw [he] at hcall
          clear HK2 he
          go_wp2_with (go_at_call 61; refine (hcall _).mono ?_; rintro e w1 ⟨rfl, hb1⟩; replace hb1 := ((hb.alloc hb.size _).trans (hb1.mono (by simp; have := hb.size; omega))); clear hb)
          go_wp2_with fail
          go_roundw
          case rel => exact ⟨k + 1, by omega, HK3, by go_num, hb1⟩
          case measure => simp [intOf]; omega
        · have HK3 : Hid (cellsErr L = cellErr c) := by show _ = _; rw [HK2.out, if_neg he]
          obtain ⟨z, hz⟩ : ∃ z, cellErr c = z := ⟨_, rfl⟩
          rw [hz] at hcall HK3 he
          have hze : ((z : Int) == 0) = false := by simp only [beq_eq_false_iff_ne]; omega
          have hzn : ¬ (z : Int) = 0 := by omega
          have HRz : Hid (r = z) := by show _ = _; rw [HR.out, HK3.out, if_neg he]
          clear HK2 hz HK3
          go_wp2_with (go_at_call 61; refine (hcall _).mono ?_; rintro e w1 ⟨rfl, hb1⟩; replace hb1 := ((hb.alloc hb.size _).trans (hb1.mono (by simp; have := hb.size; omega))); clear hb)
          go_wp2_with fail
          go_ret
          exact ⟨by rw [HRz.out]; rfl, hb1⟩
      · obtain rfl : k = L.length := by omega
        have hE : cellsErr L = 0 := by rw [HK.out, List.drop_length]; rfl
        have HR2 : Hid (r = if fo 1 L = some [] then 0 else 3) := by show _ = _; rw [HR.out, if_pos hE]
        have hv2 := HV.out.on hb
        have hcall := behind_any wr _ L hv2 hl hE 0
        clear HK hE HR
        by_cases hnil : L = []
        · subst hnil
          have HR3 : Hid (r = 3) := by show _ = _; rw [HR2.out]; rfl
          clear HR2 hcall
          go_wp2_with fail
          go_ret
          exact ⟨by rw [HR3.out]; rfl, hb⟩
        · have hpos : 0 < L.length := List.length_pos_iff.2 hnil
          have e0 : ((L.length : Int) == 0) = false := by simp only [beq_eq_false_iff_ne]; omega
          have n0 : ¬ (L.length : Int) = 0 := by omega
          have HW := posN_whole hnil
          by_cases hf : fo 1 L = some []
          · have HR3 : Hid (r = 0) := by show _ = _; rw [HR2.out, if_pos hf]
            rw [HW.2 hf] at hcall
            clear HR2 HW hf
            go_wp2_with (go_at_call 62; refine hcall.mono ?_; rintro e w1 ⟨rfl, rfl⟩)
            go_ret
            exact ⟨by rw [HR3.out]; rfl, hb⟩
          · have HR3 : Hid (r = 3) := by show _ = _; rw [HR2.out, if_neg hf]
            have hne : ¬ posN L 0 = L.length := fun e => hf (HW.1 e)
            generalize posN L 0 = z at hcall hne
            have hnz : ((z : Int) != (L.length : Int)) = true := by simp; omega
            have hnz2 : ((z : Int) == (L.length : Int)) = false := by simp only [beq_eq_false_iff_ne]; omega
            clear HR2 HW hf
            go_wp2_with (go_at_call 62; refine hcall.mono ?_; rintro e w1 ⟨rfl, rfl⟩)
            go_ret
            exact ⟨by rw [HR3.out]; rfl, hb⟩

theorem cellErr_parts (c : Cl) : cellErr c = if kind c.nm.data.toList = 0 then 4 else if c.ar < 0 ∨ 4 < c.ar ∨ (kind c.nm.data.toList = 2 ∧ c.ar ≠ 0) then 5 else 0 := by
  unfold cellErr
  split
  · rfl
  · by_cases h2 : kind c.nm.data.toList = 2
    · rw [if_pos h2]
      by_cases h : c.ar < 0 ∨ 0 < c.ar
      · rw [if_pos h, if_pos (by omega)]
      · rw [if_neg h, if_neg (by omega)]
    · rw [if_neg h2]
      by_cases h : c.ar < 0 ∨ 4 < c.ar
      · rw [if_pos h, if_pos (by omega)]
      · rw [if_neg h, if_neg (by omega)]

set_option maxHeartbeats 1000000 in
theorem rCheck_any (w : World) (v : Value) (L : List Cl) (hv : Lies w v L) :
    Calls Tryd.prog 36 #[v] w fun e w' => e = .returned (.int .i64 (check L : Nat)) ∧ w = w' := by
  have hv0 := hv
  obtain ⟨a, cap, rfl, hc1, hc2, hF, HC⟩ := hv
  by_cases hbig : 64 < L.length
  · have hr : Hid (check L = 6) := by show _ = _; unfold check; rw [if_pos hbig]
    have hbi : (64 : Int) < (L.length : Int) := by omega
    go_enter Tryd.func36, Tryd.ntmps36
    go_wp2_with fail
    go_ret
    exact ⟨by rw [hr.out]; rfl, rfl⟩
  · have hl : L.length ≤ 64 := by omega
    have HFH : Hid (Fine L) := hF
    have HV : Hid (Lies w (.slice a L.length cap) L) := hv0
    obtain ⟨r, hr⟩ : ∃ r, check L = r := ⟨_, rfl⟩
    have HR : Hid (r = if cellsErr L = 0 then (if fo 1 L = some [] then 0 else 3) else cellsErr L) := by
      show _ = _
      rw [← hr]; unfold check; rw [if_neg hbig]
    rw [hr]
    clear hr hF hv0 hbig
    go_enter Tryd.func36, Tryd.ntmps36
    go_wp2_with fail
    go_loop [10] (fun i => ∃ k : Nat, k ≤ L.length ∧ Hid (cellsErr L = cellsErr (L.drop k)) ∧ i = .int .i64 k) (fun i => L.length - (intOf i).toNat)
    case atStart => exact ⟨0, Nat.zero_le _, rfl, rfl⟩
    case round =>
      obtain ⟨k, hk, HK, rfl⟩ := hrel
      by_cases hlt : k < L.length
      · obtain ⟨c, hc⟩ : ∃ c, L[k]? = some c := ⟨L[k], List.getElem?_eq_getElem hlt⟩
        obtain ⟨b, off, rfl, hbl, h1, h2⟩ := HC k c hc
        have hsz := (HFH.out c (List.mem_of_getElem? hc)).1
        have HK2 : Hid (cellsErr L = if cellErr c = 0 then cellsErr (L.drop (k + 1)) else cellErr c) := by
          show _ = _
          rw [HK.out, drop_cl hc]; rfl
        have HCE : Hid (cellErr c = _) := cellErr_parts c
        have hcall := fun w => rKind_any c.nm w (by unfold maxLen; omega)
        generalize kind c.nm.data.toList = q at hcall HCE
        clear HK hc
        by_cases q0 : q = 0
        · subst q0
          have HRz : Hid (r = 4) := by
            show _ = _
            have e : cellErr c = 4 := by rw [HCE.out]; rfl
            rw [HR.out, HK2.out, e]; rfl
          clear HK2 HCE
          go_wp2_with (go_at_call 68; refine (hcall _).mono ?_; rintro e w1 ⟨rfl, rfl⟩)
          go_ret
          exact ⟨by rw [HRz.out]; rfl, rfl⟩
        · have e0 : ((q : Int) == 0) = false := by simp only [beq_eq_false_iff_ne]; omega
          have n0 : ¬ (q : Int) = 0 := by omega
          by_cases hok : c.ar < 0 ∨ 4 < c.ar ∨ (q = 2 ∧ c.ar ≠ 0)
          · have HRz : Hid (r = 5) := by
              show _ = _
              have e : cellErr c = 5 := by rw [HCE.out, if_neg q0, if_pos hok]
              rw [HR.out, HK2.out, e]; rfl
            clear HK2 HCE
            by_cases a0 : c.ar < 0
            · clear hok
              go_wp2_with (go_at_call 68; refine (hcall _).mono ?_; rintro e w1 ⟨rfl, rfl⟩)
              go_ret
              exact ⟨by rw [HRz.out]; rfl, rfl⟩
            · have d0 : decide (c.ar < 0) = false := decide_eq_false a0
              by_cases a4 : 4 < c.ar
              · clear hok
                go_wp2_with (go_at_call 68; refine (hcall _).mono ?_; rintro e w1 ⟨rfl, rfl⟩)
                go_ret
                exact ⟨by rw [HRz.out]; rfl, rfl⟩
              · have d4 : decide (4 < c.ar) = false := decide_eq_false a4
                have hq2 : q = 2 := by omega
                have har : (c.ar != 0) = true := by simp; omega
                have har2 : ¬ c.ar = 0 := by omega
                subst hq2
                clear hok
                go_wp2_with (go_at_call 68; refine (hcall _).mono ?_; rintro e w1 ⟨rfl, rfl⟩)
                go_ret
                exact ⟨by rw [HRz.out]; rfl, rfl⟩
          · have HK3 : Hid (cellsErr L = cellsErr (L.drop (k + 1))) := by
              show _ = _
              have e : cellErr c = 0 := by rw [HCE.out, if_neg q0, if_neg hok]
              rw [HK2.out, if_pos e]
            have d0 : decide (c.ar < 0) = false := decide_eq_false (by omega)
            have d4 : decide (4 < c.ar) = false := decide_eq_false (by omega)
            have a0 : ¬ c.ar < 0 := by omega
            have a4 : ¬ 4 < c.ar := by omega
            clear HK2 HCE
            by_cases q2 : q = 2
            · have hz : c.ar = 0 := by omega
              subst q2
              clear hok
              go_wp2_with (go_at_call 68; refine (hcall _).mono ?_; rintro e w1 ⟨rfl, rfl⟩)
              go_wp2_with fail
              go_round
              case rel => exact ⟨k + 1, by omega, HK3, by go_num⟩
              case measure => simp [intOf]; omega
            · have e2 : ((q : Int) == 2) = false := by simp only [beq_eq_false_iff_ne]; omega
              have n2 : ¬ (q : Int) = 2 := by omega
              clear hok
              go_wp2_with (go_at_call 68; refine (hcall _).mono ?_; rintro e w1 ⟨rfl, rfl⟩)
              go_wp2_with fail
              go_round
              case rel => exact ⟨k + 1, by omega, HK3, by go_num⟩
              case measure => simp [intOf]; omega
      · obtain rfl : k = L.length := by omega
        have hE : cellsErr L = 0 := by rw [HK.out, List.drop_length]; rfl
        have HR2 : Hid (r = if fo 1 L = some [] then 0 else 3) := by show _ = _; rw [HR.out, if_pos hE]
        have hcall := rBehind_any w _ L HV.out hl hE L.length 0 (by omega) (by omega)
        have HW := posZ_whole L
        clear HK hE HR
        by_cases hf : fo 1 L = some []
        · have HR3 : Hid (r = 0) := by show _ = _; rw [HR2.out, if_pos hf]
          rw [HW.2 hf] at hcall
          clear HR2 HW hf
          go_wp2_with (go_at_call 69; refine hcall.mono ?_; rintro e w1 ⟨rfl, rfl⟩)
          go_ret
          exact ⟨by rw [HR3.out]; rfl, rfl⟩
        · have HR3 : Hid (r = 3) := by show _ = _; rw [HR2.out, if_neg hf]
          have hne : ¬ posZ L 0 = L.length := fun e => hf (HW.1 e)
          generalize posZ L 0 = z at hcall hne
          have hnz : (z != (L.length : Int)) = true := by simp; omega
          have hnz2 : (z == (L.length : Int)) = false := by simp only [beq_eq_false_iff_ne]; omega
          clear HR2 HW hf
          go_wp2_with (go_at_call 69; refine hcall.mono ?_; rintro e w1 ⟨rfl, rfl⟩)
          go_ret
          exact ⟨by rw [HR3.out]; rfl, rfl⟩

end Go.Proofs.YtjpmlnigjbdnnaaDoor
