/-
  What the program's isRightOp answers, and allOf of ops, terms and names.
-/
import Derived.Test.YtbdlokijednoiaaI7
import Derived.Test.YtbdlokijednoiaaSt7
import Derived.Test.YtbdlokijednoiaaM9
namespace Go.Proofs.Ytbdlokijednoiaa
open Go.RowKit
set_option linter.unusedVariables false
set_option linter.unusedSimpArgs false
set_option maxRecDepth 100000

theorem ground_any (w : World) (v : Value) (L : List Cl) (hv : Lies w v L) :
    Calls Try.prog 19 #[v] w fun e w' => e = .returned (.bool (grd L)) ∧ Below w.heap.size w w' := by
  by_cases hE : check L = 0
  · have hvars := vars_ok w v L hv hE
    have HG : Hid (grd L = decide ((varsOf L).length = 0)) := by
      show _ = _
      unfold grd
      rw [Bool.eq_iff_iff, decide_eq_true_eq, decide_eq_true_eq]
      constructor
      · rintro ⟨_, h⟩; rw [h]; rfl
      · intro h; exact ⟨hE, List.eq_nil_of_length_eq_zero h⟩
    have hvl := varsOf_len L L.length
    rw [List.take_length] at hvl
    have h64 := (check_zero hE).1
    obtain ⟨va, vc, rfl, _⟩ := hv
    obtain ⟨T, hT⟩ : ∃ T, varsOf L = T := ⟨_, rfl⟩
    rw [hT] at hvars HG hvl
    clear hT hE
    generalize hg : grd L = G at HG ⊢
    clear hg
    by_cases h0 : T.length = 0
    · have HG2 : Hid (G = true) := by show _ = _; rw [HG.out]; exact decide_eq_true h0
      obtain rfl : T = [] := List.eq_nil_of_length_eq_zero h0
      clear HG h0
      go_enter Try.func19, Try.ntmps19
      go_wp2_with (go_at_call 33; refine hvars.mono ?_; rintro e w1 ⟨v1, rfl, ho1, hb1⟩; obtain ⟨sa, sc, hsv⟩ := ho1.form; subst hsv; clear ho1)
      go_ret
      exact ⟨by rw [HG2.out]; rfl, hb1⟩
    · have HG2 : Hid (G = false) := by show _ = _; rw [HG.out]; exact decide_eq_false h0
      have h1 : ((T.length : Int) == 0) = false := by simp only [beq_eq_false_iff_ne]; omega
      have h2 : ¬ (T.length : Int) = 0 := by omega
      have h3 : ¬ T = [] := fun e => h0 (by rw [e]; rfl)
      clear HG
      go_enter Try.func19, Try.ntmps19
      go_wp2_with (go_at_call 33; refine hvars.mono ?_; rintro e w1 ⟨v1, rfl, ho1, hb1⟩; obtain ⟨sa, sc, hsv⟩ := ho1.form; subst hsv; clear ho1)
      go_ret
      exact ⟨by rw [HG2.out]; rfl, hb1⟩
  · have hvars := vars_bad w v L hv hE
    have hg : grd L = false := by unfold grd; exact decide_eq_false (fun h => hE h.1)
    rw [hg]
    generalize check L = e0 at hvars hE
    have e1 : ((e0 : Int) == 0) = false := by simp only [beq_eq_false_iff_ne]; omega
    have e2 : ¬ (e0 : Int) = 0 := by omega
    clear hg
    go_enter Try.func19, Try.ntmps19
    go_wp2_with (go_at_call 33; refine hvars.mono ?_; rintro e w1 ⟨rfl, hb1⟩)
    go_ret
    exact ⟨rfl, hb1⟩

theorem symbol_any (s : ByteArray) (w : World) (hs : s.size ≤ maxLen) :
    Calls Try.prog 43 #[.string s] w fun e w' => e = .returned (.bool (decide (kind s.data.toList = 1))) ∧ w = w' := by
  have hk := kind_any s w hs
  generalize kind s.data.toList = q at hk ⊢
  by_cases h : q = 1
  · subst h
    go_enter Try.func43, Try.ntmps43
    go_wp2_with (go_at_call 59; refine hk.mono ?_; rintro e w1 ⟨rfl, rfl⟩)
    go_ret
    exact ⟨rfl, rfl⟩
  · rw [decide_eq_false h]
    have q1 : ((q : Int) == 1) = false := by simp only [beq_eq_false_iff_ne]; omega
    have q2 : ¬ (q : Int) = 1 := by omega
    go_enter Try.func43, Try.ntmps43
    go_wp2_with (go_at_call 59; refine hk.mono ?_; rintro e w1 ⟨rfl, rfl⟩)
    go_ret
    exact ⟨rfl, rfl⟩

theorem below_dd (w : World) (a b : Nat) : Below w.heap.size w ((w.drewN a).drewN b) := by rw [World.drewN_drewN]; exact below_drewN _ _

theorem rising_any (w : World) (v : Value) (S : List ByteArray) (h : LiesS w v S) :
    Calls Try.prog 44 #[v] w fun e w' => e = .returned (.bool (ris S)) ∧ Below w.heap.size w w' := by
  obtain ⟨a, cap, rfl, c1, c2, c3⟩ := h
  have hm : S.length ≤ 9223372036854775807 := by unfold maxLen at c2; omega
  have HC : Hid (∀ (j : Nat) x, S[j]? = some x → ∃ b off, a = some ⟨b, off, none⟩ ∧ b < w.heap.size ∧ w.cell? ⟨b, off + j, none⟩ = some (.string x)) := c3
  obtain ⟨d, hd⟩ : ∃ d, ris S = d := ⟨_, rfl⟩
  have HD : Hid (ris S = d) := hd
  rw [hd]
  clear c3 hd
  go_enter Try.func44, Try.ntmps44
  go_wp2_with fail
  go_loopw [6] (fun i wr => ∃ k : Nat, k ≤ S.length ∧ i = .int .i64 (k : Nat) ∧ Hid (∀ i x y, i + 1 < k → S[i]? = some x → S[i + 1]? = some y → lt x y = true) ∧ ∃ nq, wr = w.drewN nq) (fun i _ => S.length - (intOf i).toNat)
  case atStart => exact ⟨0, Nat.zero_le _, rfl, (fun i x y h => by omega), 0, rfl⟩
  case round =>
    obtain ⟨k, hk, rfl, HK, nq, rfl⟩ := hrel
    by_cases hlt : k < S.length
    · have hki : (k : Int) < (S.length : Int) := by omega
      obtain ⟨y, hy⟩ : ∃ y, S[k]? = some y := ⟨S[k], List.getElem?_eq_getElem hlt⟩
      obtain ⟨b, off, rfl, _, hc⟩ := HC.out k y hy
      cases k with
      | zero =>
        have HK2 : Hid (∀ i x y, i + 1 < 0 + 1 → S[i]? = some x → S[i + 1]? = some y → lt x y = true) := fun i x y h => by omega
        clear HK hy
        go_wp2_with fail
        go_quiet (fail)
        go_wp2_with fail
        go_roundw
        case rel => exact ⟨0 + 1, by omega, by go_num, HK2, _, rfl⟩
        case measure => simp [intOf]; omega
      | succ j =>
        obtain ⟨x, hx⟩ : ∃ x, S[j]? = some x := ⟨S[j]'(by omega), List.getElem?_eq_getElem (by omega)⟩
        obtain ⟨b', off', e, _, hc'⟩ := HC.out j x hx
        cases e
        have hj1 : (((j + 1 : Nat) : Int) - 1) = (j : Int) := by omega
        have hjl : (j : Int) < (S.length : Int) := by omega
        have hj2 : decide (((j + 1 : Nat) : Int) > 0) = true := decide_eq_true (by omega)
        by_cases hxy : lt x y = true
        · have HK2 : Hid (∀ i x y, i + 1 < j + 1 + 1 → S[i]? = some x → S[i + 1]? = some y → lt x y = true) := fun i x' y' h h1 h2 => by
            by_cases e : i = j
            · subst e; rw [hx] at h1; rw [hy] at h2; cases h1; cases h2; exact hxy
            · exact HK.out i x' y' (by omega) h1 h2
          have q1 : Op.bytesLess y.toList x.toList = false := lt_asym hxy
          have q2 : (y.toList == x.toList) = false := bytes_ne (fun e => by subst e; rw [lt_irr] at hxy; cases hxy)
          have q3 : ¬ y.toList = x.toList := by simpa using q2
          clear HK hy hx hxy
          go_wp2_with fail
          go_quiet (fail)
          go_wp2_with fail
          go_roundw
          case rel => exact ⟨j + 1 + 1, by omega, by go_num, HK2, _, rfl⟩
          case measure => simp [intOf]; omega
        · have HRF : Hid (d = false) := by
            show _ = _
            rw [← HD.out]
            cases hr : ris S with
            | false => rfl
            | true => exact absurd ((ris_iff S).1 hr j x y hx hy) hxy
          have q1 : Op.bytesLess y.toList x.toList = true ∨ y = x := by
            cases h2 : Op.bytesLess y.toList x.toList with
            | true => exact .inl rfl
            | false => exact .inr (lt_tot h2 (by simpa using hxy))
          clear HK hy hx hxy
          rcases q1 with q1 | q1
          · go_wp2_with fail
            go_quiet (fail)
            go_wp2_with fail
            go_ret
            exact ⟨by rw [HRF.out]; rfl, (by first | exact below_drewN _ _ | exact below_dd _ _ _)⟩
          · subst q1
            have q2 : (y.toList == y.toList) = true := by simp
            go_wp2_with fail
            go_quiet (fail)
            go_wp2_with fail
            go_ret
            exact ⟨by rw [HRF.out]; rfl, (by first | exact below_drewN _ _ | exact below_dd _ _ _)⟩
    · have HRT : Hid (d = true) := by
        show _ = _
        rw [← HD.out]
        exact (ris_iff S).2 fun i x y h1 h2 => HK.out i x y (by have := (List.getElem?_eq_some_iff.1 h2).1; omega) h1 h2
      have hki : ¬ (k : Int) < (S.length : Int) := by omega
      clear HK
      go_wp2_with fail
      go_ret
      exact ⟨by rw [HRT.out]; rfl, (by first | exact below_drewN _ _ | exact below_dd _ _ _)⟩

def opR (o : Opr) : Bool :=
  if o.k = 1 then decide (kind o.c.nm.data.toList = 1) && decide (0 ≤ o.c.ar) && decide (o.c.ar ≤ 4) && decide (o.v = [])
  else if o.k = 2 then grd o.v && decide (o.c = noCl) else false
theorem opR_iff {o : Opr} : opR o = true ↔ opOk o := by
  unfold opR opOk
  by_cases h1 : o.k = 1
  · simp only [h1, if_true, Bool.and_eq_true, decide_eq_true_eq]
    constructor
    · rintro ⟨⟨⟨a, b⟩, c⟩, d⟩; exact .inl ⟨trivial, a, b, c, d⟩
    · rintro (⟨_, a, b, c, d⟩ | ⟨h, _⟩)
      · exact ⟨⟨⟨a, b⟩, c⟩, d⟩
      · omega
  · rw [if_neg h1]
    by_cases h2 : o.k = 2
    · rw [if_pos h2]
      simp only [Bool.and_eq_true, decide_eq_true_eq]
      constructor
      · rintro ⟨a, b⟩; exact .inr ⟨h2, a, b⟩
      · rintro (⟨h, _⟩ | ⟨_, a, b⟩)
        · exact absurd h h1
        · exact ⟨a, b⟩
    · rw [if_neg h2]
      constructor
      · intro h; cases h
      · rintro (⟨h, _⟩ | ⟨h, _⟩)
        · exact absurd h h1
        · exact absurd h h2

set_option maxHeartbeats 2000000 in
theorem rightOp_any (w : World) (o : Opr) (x : Value) (hx : Lies w x o.v) (hs : o.c.nm.size ≤ maxLen) :
    Calls Try.prog 40 #[.agg #[.int .i64 o.k, .string o.c.nm, .int .i64 o.c.ar, x]] w fun e w' => e = .returned (.bool (opR o)) ∧ Below w.heap.size w w' := by
  obtain ⟨k, ⟨nm, ar⟩, v⟩ := o
  simp only at hx hs ⊢
  have HB0 : Hid (Below w.heap.size w (w.alloc (.cells #[.int .i64 k, .string nm, .int .i64 ar, x] 51))) := (Below.refl _ w).alloc (Nat.le_refl _) _
  have hX := Blk.made w #[.int .i64 k, .string nm, .int .i64 ar, x] 51
  have hsy := symbol_any nm (w.alloc (.cells #[.int .i64 k, .string nm, .int .i64 ar, x] 51)) hs
  have hgr := ground_any (w.alloc (.cells #[.int .i64 k, .string nm, .int .i64 ar, x] 51)) x v (hx.on HB0.out)
  have hlen : decide (v = []) = decide (v.length = 0) := by
    rw [Bool.eq_iff_iff, decide_eq_true_eq, decide_eq_true_eq]; exact List.length_eq_zero_iff.symm
  obtain ⟨xa, xc, rfl, _⟩ := hx
  by_cases h1 : k = 1
  · subst h1
    have HR : Hid (opR ⟨1, ⟨nm, ar⟩, v⟩ = (decide (kind nm.data.toList = 1) && decide (0 ≤ ar) && decide (ar ≤ 4) && decide (v.length = 0))) := by
      show _ = _
      unfold opR
      rw [if_pos rfl]
      simp only [hlen]
    generalize opR ⟨1, ⟨nm, ar⟩, v⟩ = d at HR ⊢
    generalize hq : decide (kind nm.data.toList = 1) = q1 at hsy HR
    clear hq hgr hX hlen
    have HX : Hid (∀ w', Below (w.heap.size + 1) (w.alloc (.cells #[.int .i64 1, .string nm, .int .i64 ar, .slice xa v.length xc] 51)) w' → True) := fun _ _ => trivial
    cases q1 with
    | false =>
      have HD : Hid (d = false) := HR.out
      clear HR HX
      go_enter Try.func40, Try.ntmps40
      go_wp2_with (go_at_call 43; refine hsy.mono ?_; rintro e w1 ⟨rfl, rfl⟩)
      go_ret
      exact ⟨by rw [HD.out]; rfl, HB0.out⟩
    | true =>
      by_cases ha : 0 ≤ ar
      · by_cases hb : ar ≤ 4
        · have HD : Hid (d = ((v.length : Int) == 0)) := by
            show _ = _
            rw [HR.out, decide_eq_true ha, decide_eq_true hb, Bool.true_and, Bool.true_and, Bool.true_and, Bool.eq_iff_iff, decide_eq_true_eq, beq_iff_eq]
            omega
          clear HR HX
          go_enter Try.func40, Try.ntmps40
          go_wp2_with (go_at_call 43; refine hsy.mono ?_; rintro e w1 ⟨rfl, rfl⟩)
          go_ret
          exact ⟨by rw [HD.out]; rfl, HB0.out⟩
        · have HD : Hid (d = false) := by show _ = _; rw [HR.out, decide_eq_true ha, decide_eq_false hb]; rfl
          clear HR HX
          go_enter Try.func40, Try.ntmps40
          go_wp2_with (go_at_call 43; refine hsy.mono ?_; rintro e w1 ⟨rfl, rfl⟩)
          go_ret
          exact ⟨by rw [HD.out]; rfl, HB0.out⟩
      · have HD : Hid (d = false) := by show _ = _; rw [HR.out, decide_eq_false ha]; rfl
        clear HR HX
        go_enter Try.func40, Try.ntmps40
        go_wp2_with (go_at_call 43; refine hsy.mono ?_; rintro e w1 ⟨rfl, rfl⟩)
        go_ret
        exact ⟨by rw [HD.out]; rfl, HB0.out⟩
  · by_cases h2 : k = 2
    · subst h2
      have HR : Hid (opR ⟨2, ⟨nm, ar⟩, v⟩ = (grd v && decide ((⟨nm, ar⟩ : Cl) = ⟨⟨#[]⟩, 0⟩))) := rfl
      have heq := eql59 nm ⟨#[]⟩ ar 0
      generalize opR ⟨2, ⟨nm, ar⟩, v⟩ = d at HR ⊢
      generalize grd v = gg at hgr HR
      generalize decide ((⟨nm, ar⟩ : Cl) = ⟨⟨#[]⟩, 0⟩) = ee at heq HR
      have HX : Hid (Blk (w.alloc (.cells #[.int .i64 2, .string nm, .int .i64 ar, .slice xa v.length xc] 51)) w.heap.size #[.int .i64 2, .string nm, .int .i64 ar, .slice xa v.length xc] 51) := hX
      clear hsy hX hlen h1
      cases gg with
      | false =>
        have HD : Hid (d = false) := HR.out
        clear HR
        go_enter Try.func40, Try.ntmps40
        go_wp2_with (go_at_call 19; refine hgr.mono ?_; rintro e w1 ⟨rfl, hb1⟩; have hX1 := HX.out.on hb1 HX.out.lt; have d1 := hX1.cell (i := 1) rfl; have d2 := hX1.cell (i := 2) rfl)
        go_ret
        exact ⟨by rw [HD.out]; rfl, HB0.out.trans (hb1.mono HB0.out.size)⟩
      | true =>
        have HD : Hid (d = ee) := HR.out
        clear HR
        go_enter Try.func40, Try.ntmps40
        go_wp2_with (go_at_call 19; refine hgr.mono ?_; rintro e w1 ⟨rfl, hb1⟩; have hX1 := HX.out.on hb1 HX.out.lt; have d1 := hX1.cell (i := 1) rfl; have d2 := hX1.cell (i := 2) rfl)
        go_ret
        exact ⟨by rw [HD.out]; rfl, HB0.out.trans (hb1.mono HB0.out.size)⟩
    · have HR : Hid (opR ⟨k, ⟨nm, ar⟩, v⟩ = false) := by
        show _ = _
        unfold opR
        rw [if_neg h1, if_neg h2]
      generalize opR ⟨k, ⟨nm, ar⟩, v⟩ = d at HR ⊢
      clear hsy hgr hX hlen
      go_enter Try.func40, Try.ntmps40
      go_wp2_with fail
      go_ret
      exact ⟨by rw [HR.out]; rfl, HB0.out⟩

theorem LiesO.size {w : World} {v : Value} {ops : List Opr} (h : LiesO w v ops) {i : Nat} {o : Opr} (hi : ops[i]? = some o) : o.c.nm.size ≤ maxLen := by
  obtain ⟨a', c', hv', _, _, HC'⟩ := h
  obtain ⟨g, off, x, h1, h2, h3, h4, h5, h6, h7, h8, _⟩ := HC' i _ hi
  unfold maxLen
  exact h8

theorem cell_lt {w : World} {b : Nat} {v : Value} (h : w.cell? ⟨b, 0, none⟩ = some v) : b < w.heap.size := by
  rcases Nat.lt_or_ge b w.heap.size with h1 | h1
  · exact h1
  · simp [World.cell?, Array.getElem?_eq_none h1] at h

set_option maxHeartbeats 2000000 in
theorem clo_ops (w : World) (b : Nat) (o : Opr) (x : Value) (hx : Lies w x o.v) (hs : o.c.nm.size ≤ maxLen) (hc : w.cell? ⟨b, 0, none⟩ = some (.func (.func 40) #[] #[])) :
    Calls Try.prog 66 #[.agg #[.int .i64 o.k, .string o.c.nm, .int .i64 o.c.ar, x], .pointer (some ⟨b, 0, none⟩)] w fun e w' => e = .returned (.bool (!opR o)) ∧ Below w.heap.size w w' := by
  have hbl := cell_lt hc
  have HB0 : Hid (Below w.heap.size w (w.alloc (.cells #[.int .i64 o.k, .string o.c.nm, .int .i64 o.c.ar, x] 51))) := (Below.refl _ w).alloc (Nat.le_refl _) _
  have hcall := rightOp_any (w.alloc (.cells #[.int .i64 o.k, .string o.c.nm, .int .i64 o.c.ar, x] 51)) o x (hx.on HB0.out) hs
  obtain ⟨xa, xc, rfl, _⟩ := hx
  have hc0 := (HB0.out.cell (p := ⟨b, 0, none⟩) hbl).trans hc
  generalize opR o = d at hcall ⊢
  go_enter Try.func66, Try.ntmps66
  go_wp2_with (go_at_call 40; refine hcall.mono ?_; rintro e w1 ⟨rfl, hb1⟩)
  go_ret
  exact ⟨rfl, HB0.out.trans (hb1.mono HB0.out.size)⟩

set_option maxHeartbeats 2000000 in
theorem idx_ops (w : World) (v : Value) (S : List Opr) (hv : LiesO w v S)  (b : Nat) (hc : w.cell? ⟨b, 0, none⟩ = some (.func (.func 40) #[] #[])) :
    Calls Try.prog 79 #[v, .func (.func 66) #[] #[.pointer (some ⟨b, 0, none⟩)]] w fun e w' => ∃ z : Int, e = .returned (.int .i64 z) ∧ Hid (decide (0 ≤ z) = S.any fun x => !opR x) ∧ Below w.heap.size w w' := by
  have HV : Hid (LiesO w v S) := hv
  obtain ⟨a, cap, rfl, c1, c2, _⟩ := hv
  have hm : S.length ≤ 9223372036854775807 := by unfold maxLen at c2; omega
  have hbl := cell_lt hc
  have HC : Hid (w.cell? ⟨b, 0, none⟩ = some (.func (.func 40) #[] #[])) := hc
  clear hc
  go_enter Try.func79, Try.ntmps79
  go_wp2_with fail
  go_loopw [8] (fun i wr => ∃ k : Nat, k ≤ S.length ∧ i = .int .i64 k ∧ Hid (∀ x ∈ S.take k, opR x = true) ∧ Below w.heap.size w wr) (fun i _ => S.length - (intOf i).toNat)
  case atStart => exact ⟨0, Nat.zero_le _, rfl, (by intro x hx; simp at hx), Below.refl _ _⟩
  case round =>
    obtain ⟨k, hk, rfl, HK, hbr⟩ := hrel
    by_cases hlt : k < S.length
    · obtain ⟨o, hy⟩ : ∃ y, S[k]? = some y := ⟨S[k], List.getElem?_eq_getElem hlt⟩
      obtain ⟨g, off, x, hga, hgl, c0', c1', c2', c3', hlx⟩ := HV.out.at hy
      subst hga
      have hsz := HV.out.size hy
      have d0 := (hbr.cell (p := ⟨g, off + k * 4, none⟩) hgl).trans c0'
      have d1 := (hbr.cell (p := ⟨g, off + k * 4 + 1, none⟩) hgl).trans c1'
      have d2 := (hbr.cell (p := ⟨g, off + k * 4 + 2, none⟩) hgl).trans c2'
      have d3 := (hbr.cell (p := ⟨g, off + k * 4 + 3, none⟩) hgl).trans c3'
      have hly := clo_ops wr b o x (hlx.on hbr) hsz ((hbr.cell (p := ⟨b, 0, none⟩) hbl).trans HC.out)
      obtain ⟨xa, xc, hxv, _⟩ := hlx
      subst hxv
      have hki : (k : Int) < (S.length : Int) := by omega
      have HY : Hid (S[k]? = some o) := hy
      have HBR : Hid (Below w.heap.size w wr) := hbr
      have hbs := hbr.size
      clear hy hbr
      cases hin : opR o with
      | true =>
        rw [hin] at hly
        have HN : Hid (∀ x ∈ S.take (k + 1), opR x = true) := by
          intro x hx
          rw [List.take_add_one, HY.out, List.mem_append] at hx
          rcases hx with hx | hx
          · exact HK.out x hx
          · simp at hx; subst hx; exact hin
        clear hin HK
        go_wp2_with (go_at_call 66; refine hly.mono ?_; rintro e w1 ⟨rfl, hb1⟩)
        go_roundw
        case rel => exact ⟨k + 1, by omega, by go_num, HN, HBR.out.trans (hb1.mono hbs)⟩
        case measure => simp [intOf]; omega
      | false =>
        rw [hin] at hly
        have HN : Hid (true = S.any fun x => !opR x) := by
          show _ = _
          symm
          rw [List.any_eq_true]
          exact ⟨o, List.mem_of_getElem? HY.out, by rw [hin]; rfl⟩
        clear hin HK
        go_wp2_with (go_at_call 66; refine hly.mono ?_; rintro e w1 ⟨rfl, hb1⟩)
        go_ret
        refine ⟨(k : Int), rfl, ?_, HBR.out.trans (hb1.mono hbs)⟩
        show _ = _
        rw [← HN.out]
        simp
    · have hki : ¬ (k : Int) < (S.length : Int) := by omega
      have HN : Hid (false = S.any fun x => !opR x) := by
        show _ = _
        symm
        rw [List.any_eq_false]
        intro x hx
        have := HK.out x (by rw [List.take_of_length_le (by omega)]; exact hx)
        rw [this]; simp
      clear HK
      go_wp2_with fail
      go_ret
      refine ⟨-1, rfl, ?_, hbr⟩
      show _ = _
      rw [← HN.out]
      rfl

theorem all_ops (w : World) (v : Value) (S : List Opr) (hv : LiesO w v S)  :
    Calls Try.prog 39 #[v, .func (.func 40) #[] #[]] w fun e w' => e = .returned (.bool (S.all opR)) ∧ Below w.heap.size w w' := by
  have hmf : ∀ (fn : Fn) (first cap : Array Value) (w : World), (Instr.makeFunc fn first cap).run Try.prog w = .ok (.func fn first cap) w := fun _ _ _ _ => rfl
  have con : ∀ (w1 : World) (b : Nat), LiesO w1 v S → w1.cell? ⟨b, 0, none⟩ = some (.func (.func 40) #[] #[]) → Calls Try.prog 65 #[v, .func (.func 66) #[] #[.pointer (some ⟨b, 0, none⟩)]] w1 fun e w' => e = .returned (.bool (S.any fun x => !opR x)) ∧ Below w1.heap.size w1 w' := by
    intro w1 b h1 h2
    have hi := idx_ops w1 v S h1 b h2
    obtain ⟨a, cap, rfl, _⟩ := h1
    generalize (S.any fun x => !opR x) = d at hi ⊢
    go_enter Try.func65, Try.ntmps65
    go_wp2_with (go_at_call 79; refine hi.mono ?_; rintro e w2 ⟨z, rfl, HZ, hb2⟩)
    go_ret
    exact ⟨by rw [← HZ.out]; rfl, hb2⟩
  have HS : Hid (S.all opR = !(S.any fun x => !opR x)) := by
    show _ = _
    rw [List.any_eq_not_all_not]
    simp
  have hb0 : ∀ o, Below w.heap.size w (w.alloc o) := fun o => (Below.refl _ w).alloc (Nat.le_refl _) o
  have hcc : ∀ t, _ := fun t => con (w.alloc (.cells #[.func (.func 40) #[] #[]] t)) w.heap.size (hv.on (hb0 _)) ((Blk.made w #[.func (.func 40) #[] #[]] t).cell rfl)
  obtain ⟨a, cap, rfl, _⟩ := hv
  generalize (S.any fun x => !opR x) = d at hcc HS
  go_enter Try.func39, Try.ntmps39
  go_wp2_with (go_at_call 65; refine (hcc _).mono ?_; rintro e w1 ⟨rfl, hb1⟩)
  go_ret
  exact ⟨by rw [HS.out]; rfl, (hb0 _).trans (hb1.mono (hb0 _).size)⟩

set_option maxHeartbeats 2000000 in
theorem clo_terms (w : World) (b : Nat) (o : List Cl) (x : Value) (hx : Lies w x o) (hc : w.cell? ⟨b, 0, none⟩ = some (.func (.func 19) #[] #[])) :
    Calls Try.prog 68 #[x, .pointer (some ⟨b, 0, none⟩)] w fun e w' => e = .returned (.bool (!grd o)) ∧ Below w.heap.size w w' := by
  have hbl := cell_lt hc
  have HB0 : Hid (Below w.heap.size w (w.alloc (.cells #[x] 24))) := (Below.refl _ w).alloc (Nat.le_refl _) _
  have hcall := ground_any w x o hx
  obtain ⟨xa, xc, rfl, _⟩ := hx
  generalize grd o = d at hcall ⊢
  go_enter Try.func68, Try.ntmps68
  go_wp2_with (go_at_call 19; refine hcall.mono ?_; rintro e w1 ⟨rfl, hb1⟩)
  go_ret
  exact ⟨rfl, hb1⟩

set_option maxHeartbeats 2000000 in
theorem idx_terms (w : World) (v : Value) (S : List (List Cl)) (hv : LiesT w v S)  (b : Nat) (hc : w.cell? ⟨b, 0, none⟩ = some (.func (.func 19) #[] #[])) :
    Calls Try.prog 80 #[v, .func (.func 68) #[] #[.pointer (some ⟨b, 0, none⟩)]] w fun e w' => ∃ z : Int, e = .returned (.int .i64 z) ∧ Hid (decide (0 ≤ z) = S.any fun x => !grd x) ∧ Below w.heap.size w w' := by
  have HV : Hid (LiesT w v S) := hv
  obtain ⟨a, cap, rfl, c1, c2, _⟩ := hv
  have hm : S.length ≤ 9223372036854775807 := by unfold maxLen at c2; omega
  have hbl := cell_lt hc
  have HC : Hid (w.cell? ⟨b, 0, none⟩ = some (.func (.func 19) #[] #[])) := hc
  clear hc
  go_enter Try.func80, Try.ntmps80
  go_wp2_with fail
  go_loopw [8] (fun i wr => ∃ k : Nat, k ≤ S.length ∧ i = .int .i64 k ∧ Hid (∀ x ∈ S.take k, grd x = true) ∧ Below w.heap.size w wr) (fun i _ => S.length - (intOf i).toNat)
  case atStart => exact ⟨0, Nat.zero_le _, rfl, (by intro x hx; simp at hx), Below.refl _ _⟩
  case round =>
    obtain ⟨k, hk, rfl, HK, hbr⟩ := hrel
    by_cases hlt : k < S.length
    · obtain ⟨o, hy⟩ : ∃ y, S[k]? = some y := ⟨S[k], List.getElem?_eq_getElem hlt⟩
      obtain ⟨g, off, x, hga, hgl, c0', hlx⟩ : ∃ g off x, a = some ⟨g, off, none⟩ ∧ g < w.heap.size ∧ w.cell? ⟨g, off + k, none⟩ = some x ∧ Lies w x o := by
        obtain ⟨a', c', hv', _, _, HC'⟩ := HV.out
        cases hv'
        exact HC' k o hy
      subst hga
      have d0 := (hbr.cell (p := ⟨g, off + k, none⟩) hgl).trans c0'
      have hly := clo_terms wr b o x (hlx.on hbr) ((hbr.cell (p := ⟨b, 0, none⟩) hbl).trans HC.out)
      obtain ⟨xa, xc, hxv, _⟩ := hlx
      subst hxv
      have hki : (k : Int) < (S.length : Int) := by omega
      have HY : Hid (S[k]? = some o) := hy
      have HBR : Hid (Below w.heap.size w wr) := hbr
      have hbs := hbr.size
      clear hy hbr
      cases hin : grd o with
      | true =>
        rw [hin] at hly
        have HN : Hid (∀ x ∈ S.take (k + 1), grd x = true) := by
          intro x hx
          rw [List.take_add_one, HY.out, List.mem_append] at hx
          rcases hx with hx | hx
          · exact HK.out x hx
          · simp at hx; subst hx; exact hin
        clear hin HK
        go_wp2_with (go_at_call 68; refine hly.mono ?_; rintro e w1 ⟨rfl, hb1⟩)
        go_roundw
        case rel => exact ⟨k + 1, by omega, by go_num, HN, HBR.out.trans (hb1.mono hbs)⟩
        case measure => simp [intOf]; omega
      | false =>
        rw [hin] at hly
        have HN : Hid (true = S.any fun x => !grd x) := by
          show _ = _
          symm
          rw [List.any_eq_true]
          exact ⟨o, List.mem_of_getElem? HY.out, by rw [hin]; rfl⟩
        clear hin HK
        go_wp2_with (go_at_call 68; refine hly.mono ?_; rintro e w1 ⟨rfl, hb1⟩)
        go_ret
        refine ⟨(k : Int), rfl, ?_, HBR.out.trans (hb1.mono hbs)⟩
        show _ = _
        rw [← HN.out]
        simp
    · have hki : ¬ (k : Int) < (S.length : Int) := by omega
      have HN : Hid (false = S.any fun x => !grd x) := by
        show _ = _
        symm
        rw [List.any_eq_false]
        intro x hx
        have := HK.out x (by rw [List.take_of_length_le (by omega)]; exact hx)
        rw [this]; simp
      clear HK
      go_wp2_with fail
      go_ret
      refine ⟨-1, rfl, ?_, hbr⟩
      show _ = _
      rw [← HN.out]
      rfl

theorem all_terms (w : World) (v : Value) (S : List (List Cl)) (hv : LiesT w v S)  :
    Calls Try.prog 41 #[v, .func (.func 19) #[] #[]] w fun e w' => e = .returned (.bool (S.all grd)) ∧ Below w.heap.size w w' := by
  have hmf : ∀ (fn : Fn) (first cap : Array Value) (w : World), (Instr.makeFunc fn first cap).run Try.prog w = .ok (.func fn first cap) w := fun _ _ _ _ => rfl
  have con : ∀ (w1 : World) (b : Nat), LiesT w1 v S → w1.cell? ⟨b, 0, none⟩ = some (.func (.func 19) #[] #[]) → Calls Try.prog 67 #[v, .func (.func 68) #[] #[.pointer (some ⟨b, 0, none⟩)]] w1 fun e w' => e = .returned (.bool (S.any fun x => !grd x)) ∧ Below w1.heap.size w1 w' := by
    intro w1 b h1 h2
    have hi := idx_terms w1 v S h1 b h2
    obtain ⟨a, cap, rfl, _⟩ := h1
    generalize (S.any fun x => !grd x) = d at hi ⊢
    go_enter Try.func67, Try.ntmps67
    go_wp2_with (go_at_call 80; refine hi.mono ?_; rintro e w2 ⟨z, rfl, HZ, hb2⟩)
    go_ret
    exact ⟨by rw [← HZ.out]; rfl, hb2⟩
  have HS : Hid (S.all grd = !(S.any fun x => !grd x)) := by
    show _ = _
    rw [List.any_eq_not_all_not]
    simp
  have hb0 : ∀ o, Below w.heap.size w (w.alloc o) := fun o => (Below.refl _ w).alloc (Nat.le_refl _) o
  have hcc : ∀ t, _ := fun t => con (w.alloc (.cells #[.func (.func 19) #[] #[]] t)) w.heap.size (hv.on (hb0 _)) ((Blk.made w #[.func (.func 19) #[] #[]] t).cell rfl)
  obtain ⟨a, cap, rfl, _⟩ := hv
  generalize (S.any fun x => !grd x) = d at hcc HS
  go_enter Try.func41, Try.ntmps41
  go_wp2_with (go_at_call 67; refine (hcc _).mono ?_; rintro e w1 ⟨rfl, hb1⟩)
  go_ret
  exact ⟨by rw [HS.out]; rfl, (hb0 _).trans (hb1.mono (hb0 _).size)⟩

def symB (s : ByteArray) : Bool := decide (kind s.data.toList = 1)

set_option maxHeartbeats 2000000 in
theorem clo_texts (w : World) (b : Nat) (o : ByteArray) (hs : o.size ≤ maxLen) (hc : w.cell? ⟨b, 0, none⟩ = some (.func (.func 43) #[] #[])) :
    Calls Try.prog 70 #[.string o, .pointer (some ⟨b, 0, none⟩)] w fun e w' => e = .returned (.bool (!symB o)) ∧ Below w.heap.size w w' := by
  have hbl := cell_lt hc
  have HB0 : Hid (Below w.heap.size w w) := Below.refl _ _
  have hcall := symbol_any o w hs
  change Calls _ _ _ _ (fun e w' => e = .returned (.bool (symB o)) ∧ w = w') at hcall
  generalize symB o = d at hcall ⊢
  go_enter Try.func70, Try.ntmps70
  go_wp2_with (go_at_call 43; refine hcall.mono ?_; rintro e w1 ⟨rfl, rfl⟩)
  go_ret
  exact ⟨rfl, HB0.out⟩

set_option maxHeartbeats 2000000 in
theorem idx_texts (w : World) (v : Value) (S : List ByteArray) (hv : LiesS w v S) (hsz : ∀ x ∈ S, x.size ≤ maxLen) (b : Nat) (hc : w.cell? ⟨b, 0, none⟩ = some (.func (.func 43) #[] #[])) :
    Calls Try.prog 81 #[v, .func (.func 70) #[] #[.pointer (some ⟨b, 0, none⟩)]] w fun e w' => ∃ z : Int, e = .returned (.int .i64 z) ∧ Hid (decide (0 ≤ z) = S.any fun x => !symB x) ∧ Below w.heap.size w w' := by
  have HV : Hid (LiesS w v S) := hv
  obtain ⟨a, cap, rfl, c1, c2, _⟩ := hv
  have hm : S.length ≤ 9223372036854775807 := by unfold maxLen at c2; omega
  have hbl := cell_lt hc
  have HC : Hid (w.cell? ⟨b, 0, none⟩ = some (.func (.func 43) #[] #[])) := hc
  clear hc
  go_enter Try.func81, Try.ntmps81
  go_wp2_with fail
  go_loopw [8] (fun i wr => ∃ k : Nat, k ≤ S.length ∧ i = .int .i64 k ∧ Hid (∀ x ∈ S.take k, symB x = true) ∧ Below w.heap.size w wr) (fun i _ => S.length - (intOf i).toNat)
  case atStart => exact ⟨0, Nat.zero_le _, rfl, (by intro x hx; simp at hx), Below.refl _ _⟩
  case round =>
    obtain ⟨k, hk, rfl, HK, hbr⟩ := hrel
    by_cases hlt : k < S.length
    · obtain ⟨o, hy⟩ : ∃ y, S[k]? = some y := ⟨S[k], List.getElem?_eq_getElem hlt⟩
      obtain ⟨g, off, hga, hgl, c0'⟩ : ∃ g off, a = some ⟨g, off, none⟩ ∧ g < w.heap.size ∧ w.cell? ⟨g, off + k, none⟩ = some (.string o) := by
        obtain ⟨a', c', hv', _, _, HC'⟩ := HV.out
        cases hv'
        exact HC' k o hy
      subst hga
      have d0 := (hbr.cell (p := ⟨g, off + k, none⟩) hgl).trans c0'
      have hly := clo_texts wr b o (hsz o (List.mem_of_getElem? hy)) ((hbr.cell (p := ⟨b, 0, none⟩) hbl).trans HC.out)
      have hki : (k : Int) < (S.length : Int) := by omega
      have HY : Hid (S[k]? = some o) := hy
      have HBR : Hid (Below w.heap.size w wr) := hbr
      have hbs := hbr.size
      clear hy hbr
      cases hin : symB o with
      | true =>
        rw [hin] at hly
        have HN : Hid (∀ x ∈ S.take (k + 1), symB x = true) := by
          intro x hx
          rw [List.take_add_one, HY.out, List.mem_append] at hx
          rcases hx with hx | hx
          · exact HK.out x hx
          · simp at hx; subst hx; exact hin
        clear hin HK
        go_wp2_with (go_at_call 70; refine hly.mono ?_; rintro e w1 ⟨rfl, hb1⟩)
        go_roundw
        case rel => exact ⟨k + 1, by omega, by go_num, HN, HBR.out.trans (hb1.mono hbs)⟩
        case measure => simp [intOf]; omega
      | false =>
        rw [hin] at hly
        have HN : Hid (true = S.any fun x => !symB x) := by
          show _ = _
          symm
          rw [List.any_eq_true]
          exact ⟨o, List.mem_of_getElem? HY.out, by rw [hin]; rfl⟩
        clear hin HK
        go_wp2_with (go_at_call 70; refine hly.mono ?_; rintro e w1 ⟨rfl, hb1⟩)
        go_ret
        refine ⟨(k : Int), rfl, ?_, HBR.out.trans (hb1.mono hbs)⟩
        show _ = _
        rw [← HN.out]
        simp
    · have hki : ¬ (k : Int) < (S.length : Int) := by omega
      have HN : Hid (false = S.any fun x => !symB x) := by
        show _ = _
        symm
        rw [List.any_eq_false]
        intro x hx
        have := HK.out x (by rw [List.take_of_length_le (by omega)]; exact hx)
        rw [this]; simp
      clear HK
      go_wp2_with fail
      go_ret
      refine ⟨-1, rfl, ?_, hbr⟩
      show _ = _
      rw [← HN.out]
      rfl

theorem all_texts (w : World) (v : Value) (S : List ByteArray) (hv : LiesS w v S) (hsz : ∀ x ∈ S, x.size ≤ maxLen) :
    Calls Try.prog 42 #[v, .func (.func 43) #[] #[]] w fun e w' => e = .returned (.bool (S.all symB)) ∧ Below w.heap.size w w' := by
  have hmf : ∀ (fn : Fn) (first cap : Array Value) (w : World), (Instr.makeFunc fn first cap).run Try.prog w = .ok (.func fn first cap) w := fun _ _ _ _ => rfl
  have con : ∀ (w1 : World) (b : Nat), LiesS w1 v S → w1.cell? ⟨b, 0, none⟩ = some (.func (.func 43) #[] #[]) → Calls Try.prog 69 #[v, .func (.func 70) #[] #[.pointer (some ⟨b, 0, none⟩)]] w1 fun e w' => e = .returned (.bool (S.any fun x => !symB x)) ∧ Below w1.heap.size w1 w' := by
    intro w1 b h1 h2
    have hi := idx_texts w1 v S h1 hsz b h2
    obtain ⟨a, cap, rfl, _⟩ := h1
    generalize (S.any fun x => !symB x) = d at hi ⊢
    go_enter Try.func69, Try.ntmps69
    go_wp2_with (go_at_call 81; refine hi.mono ?_; rintro e w2 ⟨z, rfl, HZ, hb2⟩)
    go_ret
    exact ⟨by rw [← HZ.out]; rfl, hb2⟩
  have HS : Hid (S.all symB = !(S.any fun x => !symB x)) := by
    show _ = _
    rw [List.any_eq_not_all_not]
    simp
  have hb0 : ∀ o, Below w.heap.size w (w.alloc o) := fun o => (Below.refl _ w).alloc (Nat.le_refl _) o
  have hcc : ∀ t, _ := fun t => con (w.alloc (.cells #[.func (.func 43) #[] #[]] t)) w.heap.size (hv.on (hb0 _)) ((Blk.made w #[.func (.func 43) #[] #[]] t).cell rfl)
  obtain ⟨a, cap, rfl, _⟩ := hv
  generalize (S.any fun x => !symB x) = d at hcc HS
  go_enter Try.func42, Try.ntmps42
  go_wp2_with (go_at_call 69; refine (hcc _).mono ?_; rintro e w1 ⟨rfl, hb1⟩)
  go_ret
  exact ⟨by rw [HS.out]; rfl, (hb0 _).trans (hb1.mono (hb0 _).size)⟩

/-- the first rule that is not right tells -/
def chkAll : List Rl → Nat
  | [] => 0
  | r :: t => if chk r.id r.l r.r = 0 then chkAll t else chk r.id r.l r.r
def risI : List Rl → Bool
  | [] => true
  | r :: t => (match t with | [] => true | s :: _ => decide (r.id < s.id)) && risI t
def chkRs (rs : List Rl) : Nat := if chkAll rs = 0 then (if risI rs = true then 0 else 19) else chkAll rs
theorem chkAll_zero : ∀ {rs : List Rl}, chkAll rs = 0 ↔ RsOk rs
  | [] => by simp [chkAll, RsOk]
  | r :: t => by
    unfold chkAll
    have ih := @chkAll_zero t
    constructor
    · intro h x hx
      split at h
      · rename_i h0
        rcases List.mem_cons.1 hx with rfl | hx
        · exact h0
        · exact ih.1 h x hx
      · rename_i h0; exact absurd h h0
    · intro h
      rw [if_pos (h r (by simp))]
      exact ih.2 (fun x hx => h x (by simp [hx]))
theorem chkAll_at : ∀ {rs : List Rl} {k : Nat} {r : Rl}, rs[k]? = some r → (∀ i x, i < k → rs[i]? = some x → chk x.id x.l x.r = 0) → chk r.id r.l r.r ≠ 0 → chkAll rs = chk r.id r.l r.r
  | [], k, r, h, _, _ => by simp at h
  | d :: t, 0, r, h, _, hn => by
    simp at h
    subst h
    unfold chkAll
    rw [if_neg hn]
  | d :: t, k + 1, r, h, ha, hn => by
    unfold chkAll
    rw [if_pos (ha 0 d (by omega) rfl)]
    exact chkAll_at (by simpa using h) (fun i x hi hx => ha (i + 1) x (by omega) (by simpa using hx)) hn
theorem risI_iff : ∀ rs : List Rl, risI rs = true ↔ ∀ (i : Nat) x y, rs[i]? = some x → rs[i + 1]? = some y → x.id < y.id
  | [] => by simp [risI]
  | [r] => by
    simp only [risI, Bool.and_self, true_iff]
    intro i x y _ h
    simp at h
  | r :: s :: t => by
    have ih := risI_iff (s :: t)
    rw [risI, Bool.and_eq_true, ih]
    constructor
    · rintro ⟨h1, h2⟩ i x y hx hy
      cases i with
      | zero => simp at hx hy; subst hx; subst hy; simpa using h1
      | succ i => exact h2 i x y (by simpa using hx) (by simpa using hy)
    · intro h
      refine ⟨by simpa using h 0 r s rfl rfl, fun i x y hx hy => h (i + 1) x y (by simpa using hx) (by simpa using hy)⟩
set_option maxHeartbeats 4000000 in
theorem checkRules_any (w : World) (rv : Value) (rs : List Rl) (hr : LiesR w rv rs) :
    Calls Try.prog 16 #[rv] w fun e w' => e = .returned (.int .i64 (chkRs rs : Nat)) ∧ Below w.heap.size w w' := by
  have HR : Hid (LiesR w rv rs) := hr
  obtain ⟨ra, rc, rfl, rl1, rl2, _⟩ := hr
  have hrm : rs.length ≤ 9223372036854775807 := by unfold maxLen at rl2; omega
  obtain ⟨d, hd⟩ : ∃ d, chkRs rs = d := ⟨_, rfl⟩
  have HD : Hid (chkRs rs = d) := hd
  rw [hd]
  clear hd
  go_enter Try.func16, Try.ntmps16
  go_wp2_with fail
  go_loopw [9] (fun i wr => ∃ k : Nat, k ≤ rs.length ∧ i = .int .i64 (k : Nat) ∧ Hid (∀ i x, i < k → rs[i]? = some x → chk x.id x.l x.r = 0) ∧ Below w.heap.size w wr) (fun i _ => rs.length - (intOf i).toNat)
  case atStart => exact ⟨0, Nat.zero_le _, rfl, (fun i x h => by omega), Below.refl _ _⟩
  case round =>
    obtain ⟨k, hk, rfl, HF, hbr⟩ := hrel
    have hbs := hbr.size
    by_cases hlt : k < rs.length
    · obtain ⟨r, hrk⟩ : ∃ r, rs[k]? = some r := ⟨rs[k], List.getElem?_eq_getElem hlt⟩
      have hki : (k : Int) < (rs.length : Int) := by omega
      obtain ⟨g, off, x, y, hra, hgl, c0, c1, c2, hlx, hly⟩ := HR.out.at hrk
      subst hra
      have d0 := (hbr.cell (p := ⟨g, off + k * 3, none⟩) hgl).trans c0
      have d1 := (hbr.cell (p := ⟨g, off + k * 3 + 1, none⟩) hgl).trans c1
      have d2 := (hbr.cell (p := ⟨g, off + k * 3 + 2, none⟩) hgl).trans c2
      have hba : Below wr.heap.size wr (wr.alloc (.cells #[.int .i64 r.id, x, y] 56)) := (Below.refl _ _).alloc (Nat.le_refl _) _
      have hcall := chk_any (wr.alloc (.cells #[.int .i64 r.id, x, y] 56)) r.id x y r.l r.r ((hlx.on hbr).on hba) ((hly.on hbr).on hba)
      have HBA : Hid (Below w.heap.size w (wr.alloc (.cells #[.int .i64 r.id, x, y] 56))) := hbr.trans (hba.mono hbs)
      obtain ⟨xa, xc, hxv, _⟩ := hlx
      subst hxv
      obtain ⟨ya, yc, hyv, _⟩ := hly
      subst hyv
      obtain ⟨E, hE⟩ : ∃ E, chk r.id r.l r.r = E := ⟨_, rfl⟩
      rw [hE] at hcall
      by_cases hE0 : E = 0
      · have HF2 : Hid (∀ i x, i < k + 1 → rs[i]? = some x → chk x.id x.l x.r = 0) := fun i x' h1 h2 => by
          by_cases e : i = k
          · subst e; rw [hrk] at h2; cases h2; rw [hE]; exact hE0
          · exact HF.out i x' (by omega) h2
        subst hE0
        clear HF hE hrk c0 c1 c2 hba
        go_wp2_with (go_at_call 29; refine hcall.mono ?_; rintro e w3 ⟨rfl, hb3⟩)
        go_roundw
        case rel => exact ⟨k + 1, by omega, by go_num, HF2, HBA.out.trans (hb3.mono HBA.out.size)⟩
        case measure => simp [intOf]; omega
      · have HZ : Hid (d = E) := by
          show _ = _
          rw [← HD.out, ← hE]
          unfold chkRs
          have := chkAll_at hrk HF.out (by rw [hE]; exact hE0)
          rw [this, if_neg (by rw [hE]; exact hE0)]
        have hE1 : ¬ (E : Int) = 0 := by omega
        clear HF hE hrk c0 c1 c2 hba
        go_wp2_with (go_at_call 29; refine hcall.mono ?_; rintro e w3 ⟨rfl, hb3⟩)
        go_ret
        exact ⟨by rw [HZ.out]; rfl, HBA.out.trans (hb3.mono HBA.out.size)⟩
    · have hki : ¬ (k : Int) < (rs.length : Int) := by omega
      have HA : Hid (chkAll rs = 0) := chkAll_zero.2 fun x hx => by
        obtain ⟨i, hi⟩ := List.getElem?_of_mem hx
        exact HF.out i x (by have := (List.getElem?_eq_some_iff.1 hi).1; omega) hi
      clear HF
      have HB2 : Hid (Below w.heap.size w wr) := hbr
      have HR2 : Hid (LiesR wr (.slice ra rs.length rc) rs) := HR.out.on hbr
      clear HR
      go_wp2_with fail
      go_loopw [21] (fun i w2 => ∃ j : Nat, j ≤ rs.length ∧ i = .int .i64 (j : Nat) ∧ Hid (∀ (i : Nat) x y, i + 1 < j → rs[i]? = some x → rs[i + 1]? = some y → x.id < y.id) ∧ ∃ nq, w2 = wr.drewN nq) (fun i _ => rs.length - (intOf i).toNat)
      case atStart => exact ⟨0, Nat.zero_le _, rfl, (fun i x y h => by omega), 0, rfl⟩
      case round =>
        obtain ⟨j, hj, rfl, HJ, nq, rfl⟩ := hrel
        by_cases hlt2 : j < rs.length
        · have hji : (j : Int) < (rs.length : Int) := by omega
          obtain ⟨y, hy⟩ : ∃ y, rs[j]? = some y := ⟨rs[j], List.getElem?_eq_getElem hlt2⟩
          obtain ⟨g, off, x1, y1, hra, hgl, c0, _⟩ := HR2.out.at hy
          subst hra
          cases j with
          | zero =>
            have HK2 : Hid (∀ (i : Nat) x y, i + 1 < 0 + 1 → rs[i]? = some x → rs[i + 1]? = some y → x.id < y.id) := fun i x y h => by omega
            clear HJ hy
            go_wp2_with fail
            go_quiet (fail)
            go_wp2_with fail
            go_roundw
            case rel => exact ⟨0 + 1, by omega, by go_num, HK2, _, rfl⟩
            case measure => simp [intOf]; omega
          | succ m =>
            obtain ⟨x, hx⟩ : ∃ x, rs[m]? = some x := ⟨rs[m]'(by omega), List.getElem?_eq_getElem (by omega)⟩
            obtain ⟨g', off', x2, y2, e, _, c0', _⟩ := HR2.out.at hx
            cases e
            have hj1 : (((m + 1 : Nat) : Int) - 1) = (m : Int) := by omega
            have hjl : (m : Int) < (rs.length : Int) := by omega
            have hj2 : decide (((m + 1 : Nat) : Int) > 0) = true := decide_eq_true (by omega)
            by_cases hxy : x.id < y.id
            · have HK2 : Hid (∀ (i : Nat) x y, i + 1 < m + 1 + 1 → rs[i]? = some x → rs[i + 1]? = some y → x.id < y.id) := fun i x' y' h h1 h2 => by
                by_cases e : i = m
                · subst e; rw [hx] at h1; rw [hy] at h2; cases h1; cases h2; exact hxy
                · exact HJ.out i x' y' (by omega) h1 h2
              have q1 : ¬ y.id ≤ x.id := by omega
              clear HJ hy hx hxy
              go_wp2_with fail
              go_quiet (fail)
              go_wp2_with fail
              go_roundw
              case rel => exact ⟨m + 1 + 1, by omega, by go_num, HK2, _, rfl⟩
              case measure => simp [intOf]; omega
            · have HRF : Hid (d = 19) := by
                show _ = _
                rw [← HD.out]
                unfold chkRs
                rw [if_pos HA.out, if_neg]
                intro hc
                exact hxy ((risI_iff rs).1 hc m x y hx hy)
              have q1 : y.id ≤ x.id := by omega
              clear HJ hy hx hxy
              go_wp2_with fail
              go_quiet (fail)
              go_wp2_with fail
              go_ret
              exact ⟨by rw [HRF.out]; rfl, HB2.out.trans ((by first | exact below_drewN _ _ | exact below_dd _ _ _ : Below wr.heap.size wr _).mono HB2.out.size)⟩
        · have HRT : Hid (d = 0) := by
            show _ = _
            rw [← HD.out]
            unfold chkRs
            rw [if_pos HA.out, if_pos]
            exact (risI_iff rs).2 fun i x y h1 h2 => HJ.out i x y (by have := (List.getElem?_eq_some_iff.1 h2).1; omega) h1 h2
          have hji : ¬ (j : Int) < (rs.length : Int) := by omega
          clear HJ
          go_wp2_with fail
          go_ret
          exact ⟨by rw [HRT.out]; rfl, HB2.out.trans ((by first | exact below_drewN _ _ | exact below_dd _ _ _ : Below wr.heap.size wr _).mono HB2.out.size)⟩

end Go.Proofs.Ytbdlokijednoiaa
