/-
  What the program's fit answers.
-/
import Derived.Test.YtjpmlnigjbdnnaaDoorMaps
import Derived.Deep.QuietTactic
import Derived.BigQuiet
namespace Go.Proofs.YtjpmlnigjbdnnaaDoor
open Go.RowKit
set_option linter.unusedVariables false
set_option maxRecDepth 100000
set_option linter.unusedSimpArgs false

/-- the library's answer whether two lists of cells are alike -/
theorem equal_any (w : World) (u v : Value) (L M : List Cl) (hu : Lies w u L) (hv : Lies w v M) :
    Calls Tryd.prog 99 #[u, v] w fun e w' => e = .returned (.bool (decide (L = M))) ∧ Below w.heap.size w w' := by
  obtain ⟨a, cap, rfl, hc1, hc2, _, HC⟩ := hu
  obtain ⟨a', cap', rfl, hc1', hc2', _, HC'⟩ := hv
  have hml : L.length ≤ 9223372036854775807 := by unfold maxLen at hc2; omega
  have hml' : M.length ≤ 9223372036854775807 := by unfold maxLen at hc2'; omega
  by_cases hlen : L.length = M.length
  · obtain ⟨r, hr⟩ : ∃ r, decide (L = M) = r := ⟨_, rfl⟩
    have HR : Hid (r = decide (L = M)) := hr.symm
    have hHC : Hid (CellsAt w a L) := HC
    have hHC' : Hid (CellsAt w a' M) := HC'
    rw [hr]
    clear hr HC HC'
    have hle1 : ((L.length : Int) == (M.length : Int)) = true := by simp [hlen]
    have hle2 : (L.length : Int) = (M.length : Int) := by omega
    have hlc : cap' = cap' := rfl
    go_enter Tryd.func99, Tryd.ntmps99
    go_wp2_with fail
    go_loopw [13] (fun i wr => ∃ k : Nat, k ≤ L.length ∧ Hid (L.take k = M.take k) ∧ i = .int .i64 k ∧ Below w.heap.size w wr) (fun i _ => L.length - (intOf i).toNat)
    case atStart => exact ⟨0, Nat.zero_le _, by show _ = _; simp, rfl, Below.refl _ _⟩
    case round =>
      obtain ⟨k, hk, HK, rfl, hb⟩ := hrel
      by_cases hlt : k < L.length
      · obtain ⟨c, hc⟩ : ∃ c, L[k]? = some c := ⟨L[k], List.getElem?_eq_getElem hlt⟩
        obtain ⟨d, hd⟩ : ∃ d, M[k]? = some d := ⟨M[k]'(by omega), List.getElem?_eq_getElem (by omega)⟩
        obtain ⟨b1, o1, rfl, p1, p2⟩ := cell_at hHC.out hb hc
        obtain ⟨b2, o2, rfl, q1, q2⟩ := cell_at hHC'.out hb hd
        have hltM : (k : Int) < (M.length : Int) := by omega
        have hltL : (k : Int) < (L.length : Int) := by omega
        have hEq := neq59 c.nm d.nm c.ar d.ar
        have hb0 : ∀ nq, Below w.heap.size w (wr.drewN nq) := fun nq => hb.trans ((below_drewN wr nq).mono hb.size)
        have HB0 : Hid (∀ nq, Below w.heap.size w (wr.drewN nq)) := hb0
        clear hb0
        by_cases hcd : c = d
        · subst hcd
          have hde : (!decide ((⟨c.nm, c.ar⟩ : Cl) = ⟨c.nm, c.ar⟩)) = false := by simp
          rw [hde] at hEq
          have HK2 : Hid (L.take (k + 1) = M.take (k + 1)) := by
            show _ = _
            rw [List.take_add_one, List.take_add_one, HK.out, hc, hd]
          clear HK hc hd
          go_wp2_with fail
          go_quiet (fail)
          go_wp2_with fail
          go_roundw
          case rel => exact ⟨k + 1, by omega, HK2, by go_num, HB0.out _⟩
          case measure => simp [intOf]; omega
        · have hde : (!decide ((⟨c.nm, c.ar⟩ : Cl) = ⟨d.nm, d.ar⟩)) = true := by
            have hn : ¬ ((⟨c.nm, c.ar⟩ : Cl) = ⟨d.nm, d.ar⟩) := hcd
            rw [decide_eq_false hn]; rfl
          rw [hde] at hEq
          have HRF : Hid (r = false) := by
            show _ = _
            rw [HR.out, decide_eq_false_iff_not]
            rintro rfl
            rw [hc] at hd; cases hd; exact hcd rfl
          clear HK hc hd hde hcd
          go_wp2_with fail
          go_quiet (fail)
          go_wp2_with fail
          go_ret
          exact ⟨by rw [HRF.out]; rfl, HB0.out _⟩
      · obtain rfl : k = L.length := by omega
        have HRT : Hid (r = true) := by
          show _ = _
          rw [HR.out, decide_eq_true_iff]
          have := HK.out
          rw [List.take_length, hlen, List.take_length] at this
          exact this
        clear HK
        go_wp2_with fail
        go_ret
        exact ⟨by rw [HRT.out]; rfl, hb⟩
  · have HR : Hid (decide (L = M) = false) := by show _ = _; rw [decide_eq_false_iff_not]; rintro rfl; exact hlen rfl
    have hle1 : ((L.length : Int) != (M.length : Int)) = true := by simp; omega
    have hle2 : ¬ (L.length : Int) = (M.length : Int) := by omega
    have hle3 : ((L.length : Int) == (M.length : Int)) = false := by simp; omega
    go_enter Tryd.func99, Tryd.ntmps99
    go_wp2_with fail
    go_ret
    exact ⟨by rw [HR.out]; rfl, Below.refl _ _⟩


theorem fo_pos {m : Nat} {c : Cl} {r : List Cl} (h : fo m (c :: r) = some []) : ∃ k, m = k + 1 := by
  cases m with
  | zero => rw [fo_zero] at h; simp at h
  | succ k => exact ⟨k, rfl⟩
/-- the next cell is a variable -/
theorem step_var {P T : List Cl} {i a m : Nat} {c : Cl} (hc : P[i]? = some c) (hv : isV c = true) (har : c.ar = 0) (h1 : fo m (P.drop i) = some []) (h2 : fo m (T.drop a) = some []) (ha : a ≤ T.length) :
    ∃ X e, T.drop a = X ++ T.drop e ∧ X.length = e - a ∧ a < e ∧ e ≤ T.length ∧ posN T a = e ∧ (∃ m', fo m' (P.drop (i + 1)) = some [] ∧ fo m' (T.drop e) = some []) ∧
      ∀ acc, fitL (P.drop i) (T.drop a) acc = match look acc c.nm with | none => fitL (P.drop (i + 1)) (T.drop e) (acc ++ [⟨c.nm, X⟩]) | some v => if v = X then fitL (P.drop (i + 1)) (T.drop e) acc else none := by
  rw [drop_cl hc] at h1
  obtain ⟨k, rfl⟩ := fo_pos h1
  rw [fo_cons, har] at h1
  simp only [Int.toNat_zero, Nat.zero_add] at h1
  rw [show k + 1 = 1 + k by omega, fo_add] at h2
  cases h3 : fo 1 (T.drop a) with
  | none => rw [h3] at h2; cases h2
  | some r =>
    rw [h3] at h2
    obtain ⟨d1, d2, d3⟩ := fo_drop h3 ha
    obtain ⟨q1, q2⟩ := piece_of h3
    have hlen := congrArg List.length q1
    rw [List.length_append] at hlen
    have hdl : (T.drop a).length = T.length - a := List.length_drop
    refine ⟨(T.drop a).take ((T.drop a).length - r.length), T.length - r.length, by rw [d1]; exact q1, by omega, by omega, by omega, posN_some h3, ⟨k, h1, by rw [d1]; exact h2⟩, fun acc => ?_⟩
    rw [drop_cl hc, fitL.eq_def, d1]
    simp only [hv, if_true, h3]
    rfl
/-- the next cell is no variable -/
theorem step_non {P T : List Cl} {i a m : Nat} {c : Cl} (hc : P[i]? = some c) (hv : isV c = false) (h1 : fo m (P.drop i) = some []) (h2 : fo m (T.drop a) = some []) :
    ∃ d, T[a]? = some d ∧ (d = c → ∃ m', fo m' (P.drop (i + 1)) = some [] ∧ fo m' (T.drop (a + 1)) = some []) ∧ ∀ acc, fitL (P.drop i) (T.drop a) acc = if d = c then fitL (P.drop (i + 1)) (T.drop (a + 1)) acc else none := by
  rw [drop_cl hc] at h1
  obtain ⟨k, rfl⟩ := fo_pos h1
  cases h3 : T.drop a with
  | nil => rw [h3] at h2; cases h2
  | cons d r =>
    obtain ⟨g1, g2, _⟩ := get_drop h3
    refine ⟨d, g1, fun e => ?_, fun acc => ?_⟩
    · subst e
      rw [h3, fo_cons] at h2
      rw [fo_cons] at h1
      exact ⟨_, h1, by rw [g2]; exact h2⟩
    · rw [drop_cl hc, fitL.eq_def, g2]
      simp [hv]

/-- what the map holds are the binds so far -/
def Holds (w : World) (f : ByteArray → Option Value) (acc : List Bd) : Prop := ∀ nm, match look acc nm with | some v => ∃ x, f nm = some (.agg #[.string nm, x]) ∧ Lies w x v | none => f nm = none
theorem Holds.on {w w' : World} {f : ByteArray → Option Value} {acc : List Bd} (h : Holds w f acc) (hb : Below w.heap.size w w') : Holds w' f acc := by
  intro nm
  have := h nm
  cases hl : look acc nm with
  | none => rw [hl] at this; exact this
  | some v => rw [hl] at this; obtain ⟨x, h1, h2⟩ := this; exact ⟨x, h1, h2.on hb⟩
theorem Holds.more {w : World} {f : ByteArray → Option Value} {acc : List Bd} (h : Holds w f acc) {nm : ByteArray} {X : List Cl} {x : Value} (hn : look acc nm = none) (hx : Lies w x X) : Holds w (fun s => if s = nm then some (.agg #[.string nm, x]) else f s) (acc ++ [⟨nm, X⟩]) := by
  intro s
  rw [look_append]
  have h1 := h s
  by_cases e : s = nm
  · subst e
    rw [hn]
    simp only [look, if_true]
    exact ⟨x, rfl, hx⟩
  · cases hl : look acc s with
    | some v => rw [hl] at h1; simpa [e] using h1
    | none => rw [hl] at h1; simp only [look]; rw [if_neg (fun e2 => e e2.symm)]; simpa [e] using h1
theorem Holds.again {w : World} {f : ByteArray → Option Value} {acc : List Bd} (h : Holds w f acc) {nm : ByteArray} {X : List Cl} {x : Value} (hn : look acc nm = some X) (hx : Lies w x X) : Holds w (fun s => if s = nm then some (.agg #[.string nm, x]) else f s) acc := by
  intro s
  have h1 := h s
  by_cases e : s = nm
  · subst e
    rw [hn]
    simp only [if_true]
    exact ⟨x, rfl, hx⟩
  · cases hl : look acc s with
    | some v => rw [hl] at h1; simpa [e] using h1
    | none => rw [hl] at h1; simpa [e] using h1

/-- how fit ends -/
def Fits (r : Option (List Bd)) (e : Ending) (w' : World) : Prop :=
  match r with
  | none => e = .returned (.tuple #[.map none, .bool false])
  | some acc => ∃ b n f, e = .returned (.tuple #[.map (some b), .bool true]) ∧ MapIs w' b n f ∧ Holds w' f acc

set_option maxHeartbeats 4000000 in
theorem fit_any (w : World) (u v : Value) (P T : List Cl) (hu : Lies w u P) (hv : Lies w v T) (hP : check P = 0) (hT : check T = 0) :
    Calls Tryd.prog 82 #[u, v] w fun e w' => Fits (fitL P T []) e w' ∧ Below w.heap.size w w' := by
  have hmm := @run_makeMap Tryd.prog
  obtain ⟨hp64, hpE, hpf⟩ := check_zero hP
  obtain ⟨ht64, htE, htf⟩ := check_zero hT
  have HU : Hid (Lies w u P) := hu
  have HV : Hid (Lies w v T) := hv
  have HPE : Hid (∀ c ∈ P, cellErr c = 0) := cellsErr_zero.1 hpE
  have HTC : Hid (check T = 0) := hT
  obtain ⟨RES, hRES⟩ : ∃ R, fitL P T [] = R := ⟨_, rfl⟩
  have HRES : Hid (RES = fitL (P.drop 0) (T.drop 0) []) := by show _ = _; rw [List.drop_zero, List.drop_zero]; exact hRES.symm
  have HFO : Hid (∃ m, fo m (P.drop 0) = some [] ∧ fo m (T.drop 0) = some []) := ⟨1, hpf, htf⟩
  have HM0 : Hid (MapIs (w.alloc (.map #[] 0)) w.heap.size 0 fun _ => none) := MapIs.made w
  have HB0 : Hid (Below w.heap.size w (w.alloc (.map #[] 0))) := (Below.refl _ w).alloc (Nat.le_refl _) _
  rw [hRES]
  obtain ⟨pa, pc, rfl, hp1, hp2, _, HPC0⟩ := hu
  obtain ⟨ta, tc, rfl, ht1, ht2, _, HTC0⟩ := hv
  have HPA : Hid (CellsAt w pa P) := HPC0
  have HTA : Hid (CellsAt w ta T) := HTC0
  clear hP hT hpE htE hpf htf hRES HPC0 HTC0
  go_enter Tryd.func82, Tryd.ntmps82
  go_wp2_with fail
  go_loopw [7, 16] (fun at_ i wr => ∃ (k a n : Nat) (acc : List Bd) (f : ByteArray → Option Value), k ≤ P.length ∧ a ≤ T.length ∧ n ≤ k ∧ Hid (RES = fitL (P.drop k) (T.drop a) acc) ∧ Hid (∃ m, fo m (P.drop k) = some [] ∧ fo m (T.drop a) = some []) ∧ MapIs wr w.heap.size n f ∧ Hid (Holds w f acc) ∧ Below w.heap.size w wr ∧ at_ = .int .i64 (a : Nat) ∧ i = .int .i64 (k : Nat)) (fun _ i _ => P.length - (intOf i).toNat)
  case atStart => exact ⟨0, 0, 0, [], _, Nat.zero_le _, Nat.zero_le _, Nat.le_refl _, HRES, HFO, HM0.out, (fun nm => rfl), HB0.out, rfl, rfl⟩
  case round =>
    obtain ⟨k, a, n, acc, f, hk, ha, hn, HR, HF, hmap, HH, hbr, rfl, rfl⟩ := hrel
    clear HM0 HB0 HRES HFO
    have hbs := hbr.size
    by_cases hlt : k < P.length
    · obtain ⟨c, hc⟩ : ∃ c, P[k]? = some c := ⟨P[k], List.getElem?_eq_getElem hlt⟩
      obtain ⟨b, off, rfl, d1, d2⟩ := cell_at HPA.out hbr hc
      have hce := HPE.out c (List.mem_of_getElem? hc)
      have hcn := (name_len hce).2
      have hki : (k : Int) < (P.length : Int) := by omega
      have hkd := fun w => kind_any c.nm w (by unfold maxLen; omega)
      have hmx : c.nm.size ≤ maxLen := by unfold maxLen; omega
      by_cases hvv : isV c = true
      · have hk2 : kind c.nm.data.toList = 2 := by unfold isV at hvv; simpa using hvv
        have har : c.ar = 0 := by
          have h1 := hce
          rw [cellErr_parts, if_neg (by omega)] at h1
          by_cases hz : c.ar = 0
          · exact hz
          · rw [if_pos (.inr (.inr ⟨hk2, hz⟩))] at h1; cases h1
        obtain ⟨m, f1, f2⟩ := HF.out
        obtain ⟨X, e, s1, s2, s3, s4, s5, s6, s7⟩ := step_var hc hvv har f1 f2 ha
        rw [hk2] at hkd
        have HF2 : Hid (∃ m, fo m (P.drop (k + 1)) = some [] ∧ fo m (T.drop e) = some []) := s6
        have hR1 := s7 acc
        have hend : ∀ w1, Below w.heap.size w w1 → _ := fun w1 hb => end_ok w1 _ T (HV.out.on hb) a HTC.out
        rw [s5] at hend
        obtain ⟨tb, to, rfl⟩ : ∃ tb to, ta = some ⟨tb, to, none⟩ := by
          obtain ⟨b', o', e', _⟩ := HTA.out a T[a] (List.getElem?_eq_getElem (by omega))
          exact ⟨b', o', e'⟩
        have hLX : Lies w (.slice (some ⟨tb, to + a * 2, none⟩) (e - a) (tc - a)) X := by
          have := Lies.part HV.out s1 (by omega)
          rwa [s2] at this
        have HLX : Hid (Lies w (.slice (some ⟨tb, to + a * 2, none⟩) (e - a) (tc - a)) X) := hLX
        have hx64 : e - a ≤ 64 := by omega
        obtain ⟨nm, ar⟩ := c
        simp only at d1 d2 hcn hkd hmx hR1
        have HMA : Hid (MapIs (wr.alloc (.cells #[.string nm, .int .i64 ar] 33)) w.heap.size n f) := hmap.alloc _
        have HBA : Hid (Below w.heap.size w (wr.alloc (.cells #[.string nm, .int .i64 ar] 33))) := hbr.alloc hbs _
        clear hc hvv hk2 s1 s2 s5 s6 s7 f1 f2 HF hLX hmap har hce
        have hHn := HH.out nm
        cases hlk : look acc nm with
        | none =>
          rw [hlk] at hHn hR1
          simp only at hHn hR1
          have HR2 : Hid (RES = fitL (P.drop (k + 1)) (T.drop e) (acc ++ [⟨nm, X⟩])) := by show _ = _; rw [HR.out, hR1]
          have HH2 : Hid (Holds w (fun s => if s = nm then some (.agg #[.string nm, .slice (some ⟨tb, to + a * 2, none⟩) (e - a) (tc - a)]) else f s) (acc ++ [⟨nm, X⟩])) := HH.out.more hlk HLX.out
          clear HR hR1 hlk HH
          go_wp2_with (first | (go_at_call 33; refine (hkd _).mono ?_; rintro x w2 ⟨rfl, rfl⟩) | (go_at_call 98; refine (hend _ HBA.out).mono ?_; rintro x w3 ⟨rfl, hb3⟩; have hmap3 := HMA.out.on hb3; have hb4 := HBA.out.trans (hb3.mono HBA.out.size); have hs4 := hb4.size; have hgl : wr.heap.size < w3.heap.size := Nat.lt_of_lt_of_le (by simp) hb3.size; have q1 : w3.cell? ⟨wr.heap.size, 0, none⟩ = some (.string nm) := (hb3.cell (p := ⟨wr.heap.size, 0, none⟩) (by simp)).trans (by simp); have q3 : ∀ o, (w3.alloc o).cell? ⟨wr.heap.size, 0, none⟩ = some (.string nm) := (fun o => (((Below.refl w3.heap.size w3).alloc (Nat.le_refl _) o).cell (p := ⟨wr.heap.size, 0, none⟩) hgl).trans q1)) | (at_lookup; refine wpList_look5_none _ rfl _ _ rfl w.heap.size n f rfl hmap3 nm rfl hmx hHn ?_) | (at_mapUpdate; refine wpList_store5 _ rfl _ _ _ rfl w.heap.size n f rfl (hmap3.alloc _) (by unfold maxLen; omega) nm _ rfl rfl hmx ?_))
          intro w5 hmap5 hgrow5
          have hb5 : Below w.heap.size w w5 := (hb4.alloc hs4 _).grown hgrow5 (by simp; omega) (fun k hk => by cases hk; exact Nat.le_refl _)
          clear q1 q3 hgl hb3 hb4 hmap3 hgrow5
          go_wp2_with fail
          go_roundw
          case rel => exact ⟨k + 1, e, n + 1, _, _, by omega, s4, by omega, HR2, HF2, hmap5, HH2, hb5, by go_num, by go_num⟩
          case measure => simp [intOf]; omega
        | some V =>
          rw [hlk] at hHn hR1
          simp only at hHn hR1
          obtain ⟨x, hfx, hlx⟩ := hHn
          have hlx0 := hlx
          obtain ⟨xa, xc, rfl, _⟩ := hlx
          have heq : ∀ w1, Below w.heap.size w w1 → _ := fun w1 hb => equal_any w1 _ _ V X (hlx0.on hb) (HLX.out.on hb)
          by_cases hVX : V = X
          · have HR2 : Hid (RES = fitL (P.drop (k + 1)) (T.drop e) acc) := by show _ = _; rw [HR.out, hR1, if_pos hVX]
            have HH2 : Hid (Holds w (fun s => if s = nm then some (.agg #[.string nm, .slice (some ⟨tb, to + a * 2, none⟩) (e - a) (tc - a)]) else f s) acc) := HH.out.again (hlk.trans (by rw [hVX])) HLX.out
            rw [decide_eq_true hVX] at heq
            clear HR hR1 hlk HH hVX hlx0
            go_wp2_with (first | (go_at_call 33; refine (hkd _).mono ?_; rintro x w2 ⟨rfl, rfl⟩) | (go_at_call 98; refine (hend _ HBA.out).mono ?_; rintro x w3 ⟨rfl, hb3⟩; have hmap3 := HMA.out.on hb3; have hb4 := HBA.out.trans (hb3.mono HBA.out.size); have hs4 := hb4.size; have hgl : wr.heap.size < w3.heap.size := Nat.lt_of_lt_of_le (by simp) hb3.size; have q1 : w3.cell? ⟨wr.heap.size, 0, none⟩ = some (.string nm) := (hb3.cell (p := ⟨wr.heap.size, 0, none⟩) (by simp)).trans (by simp); have q3 : ∀ o, (w3.alloc o).cell? ⟨wr.heap.size, 0, none⟩ = some (.string nm) := (fun o => (((Below.refl w3.heap.size w3).alloc (Nat.le_refl _) o).cell (p := ⟨wr.heap.size, 0, none⟩) hgl).trans q1); have hb4a : ∀ o, Below w.heap.size w (w3.alloc o) := (fun o => hb4.alloc hs4 o)) | (at_lookup; refine wpList_look5_some _ rfl _ _ rfl w.heap.size n f rfl hmap3 nm rfl hmx _ hfx ?_) | (go_at_call 99; refine (heq _ (hb4a _)).mono ?_; rintro x w6 ⟨rfl, hb6⟩; have hmap6 := (hmap3.alloc _).on hb6; have q6 := (hb6.cell (p := ⟨wr.heap.size, 0, none⟩) (by simp; omega)).trans (q3 _); have hb7 := (hb4a _).trans (hb6.mono (hb4a _).size)) | (at_mapUpdate; refine wpList_store5 _ rfl _ _ _ rfl w.heap.size n f rfl hmap6 (by unfold maxLen; omega) nm _ rfl rfl hmx ?_))
            intro w5 hmap5 hgrow5
            have hb5 : Below w.heap.size w w5 := hb7.grown hgrow5 hb7.size (fun k hk => by cases hk; exact Nat.le_refl _)
            clear q1 q3 q6 hgl hb3 hb4 hb6 hb7 hb4a hmap3 hmap6 hgrow5
            go_wp2_with fail
            go_roundw
            case rel => exact ⟨k + 1, e, n + 1, _, _, by omega, s4, by omega, HR2, HF2, hmap5, HH2, hb5, by go_num, by go_num⟩
            case measure => simp [intOf]; omega
          · have HR2 : Hid (RES = none) := by show _ = _; rw [HR.out, hR1, if_neg hVX]
            rw [decide_eq_false hVX] at heq
            clear HR hR1 hlk HH hVX hlx0
            go_wp2_with (first | (go_at_call 33; refine (hkd _).mono ?_; rintro x w2 ⟨rfl, rfl⟩) | (go_at_call 98; refine (hend _ HBA.out).mono ?_; rintro x w3 ⟨rfl, hb3⟩; have hmap3 := HMA.out.on hb3; have hb4 := HBA.out.trans (hb3.mono HBA.out.size); have hs4 := hb4.size; have hgl : wr.heap.size < w3.heap.size := Nat.lt_of_lt_of_le (by simp) hb3.size; have q1 : w3.cell? ⟨wr.heap.size, 0, none⟩ = some (.string nm) := (hb3.cell (p := ⟨wr.heap.size, 0, none⟩) (by simp)).trans (by simp); have q3 : ∀ o, (w3.alloc o).cell? ⟨wr.heap.size, 0, none⟩ = some (.string nm) := (fun o => (((Below.refl w3.heap.size w3).alloc (Nat.le_refl _) o).cell (p := ⟨wr.heap.size, 0, none⟩) hgl).trans q1); have hb4a : ∀ o, Below w.heap.size w (w3.alloc o) := (fun o => hb4.alloc hs4 o)) | (at_lookup; refine wpList_look5_some _ rfl _ _ rfl w.heap.size n f rfl hmap3 nm rfl hmx _ hfx ?_) | (go_at_call 99; refine (heq _ (hb4a _)).mono ?_; rintro x w6 ⟨rfl, hb6⟩; have hb7 := (hb4a _).trans (hb6.mono (hb4a _).size)))
            go_ret2
            exact ⟨by rw [HR2.out]; rfl, hb7⟩
      · have hv2 : isV c = false := by simpa using hvv
        obtain ⟨m, f1, f2⟩ := HF.out
        obtain ⟨d, g1, g2, g3⟩ := step_non hc hv2 f1 f2
        have hal : a < T.length := (List.getElem?_eq_some_iff.1 g1).1
        have hai : (a : Int) < (T.length : Int) := by omega
        obtain ⟨tb, to, rfl, t1, t2⟩ := cell_at HTA.out hbr g1
        have htl : tb < wr.heap.size := World.block_lt_of_cell? wr _ t1
        have hk2 : kind c.nm.data.toList ≠ 2 := by unfold isV at hv2; simpa using hv2
        generalize kind c.nm.data.toList = q at hkd hk2
        have q1 : ((q : Int) == 2) = false := by simp only [beq_eq_false_iff_ne]; omega
        have q2 : ¬ (q : Int) = 2 := by omega
        have hR1 := g3 acc
        obtain ⟨nm, ar⟩ := c
        obtain ⟨nm', ar'⟩ := d
        simp only at d1 d2 hcn hkd hmx hR1 t1 t2
        have hEq := neq59 nm' nm ar' ar
        have HMA : Hid (MapIs (wr.alloc (.cells #[.string nm, .int .i64 ar] 33)) w.heap.size n f) := hmap.alloc _
        have HBA : Hid (∀ nq, Below w.heap.size w ((wr.alloc (.cells #[.string nm, .int .i64 ar] 33)).drewN nq)) := fun nq => (hbr.alloc hbs _).trans ((below_drewN _ nq).mono (hbr.alloc hbs _).size)
        have z1 : ∀ o, (wr.alloc o).cell? ⟨tb, to + a * 2, none⟩ = some (.string nm') := fun o => (((Below.refl wr.heap.size wr).alloc (Nat.le_refl _) o).cell (p := ⟨tb, to + a * 2, none⟩) htl).trans t1
        have z2 : ∀ o, (wr.alloc o).cell? ⟨tb, to + a * 2 + 1, none⟩ = some (.int .i64 ar') := fun o => (((Below.refl wr.heap.size wr).alloc (Nat.le_refl _) o).cell (p := ⟨tb, to + a * 2 + 1, none⟩) htl).trans t2
        by_cases hdc : (⟨nm', ar'⟩ : Cl) = ⟨nm, ar⟩
        · have HR2 : Hid (RES = fitL (P.drop (k + 1)) (T.drop (a + 1)) acc) := by show _ = _; rw [HR.out, hR1, if_pos hdc]
          have HF2 : Hid (∃ m, fo m (P.drop (k + 1)) = some [] ∧ fo m (T.drop (a + 1)) = some []) := g2 hdc
          rw [decide_eq_true hdc] at hEq
          simp only [Bool.not_true] at hEq
          clear HR hR1 hdc g1 g2 g3 f1 f2 HF hc hvv hv2 hk2 hmap hce
          go_wp2_with (first | (go_at_call 33; refine (hkd _).mono ?_; rintro x w2 ⟨rfl, rfl⟩))
          go_quiet (fail)
          go_wp2_with fail
          go_roundw
          case rel => exact ⟨k + 1, a + 1, n, acc, f, by omega, by omega, by omega, HR2, HF2, HMA.out.on (below_drewN _ _), HH, HBA.out _, by go_num, by go_num⟩
          case measure => simp [intOf]; omega
        · have HR2 : Hid (RES = none) := by show _ = _; rw [HR.out, hR1, if_neg hdc]
          rw [decide_eq_false hdc] at hEq
          simp only [Bool.not_false] at hEq
          clear HR hR1 hdc g1 g2 g3 f1 f2 HF hc hvv hv2 hk2 hmap hce
          go_wp2_with (first | (go_at_call 33; refine (hkd _).mono ?_; rintro x w2 ⟨rfl, rfl⟩))
          go_quiet (fail)
          go_wp2_with fail
          go_ret2
          exact ⟨by rw [HR2.out]; rfl, HBA.out _⟩
    · have hki : ¬ (k : Int) < (P.length : Int) := by omega
      have HX : Hid (RES = some acc) := by
        show _ = _
        obtain ⟨m, f1, f2⟩ := HF.out
        have e1 : P.drop k = [] := List.drop_eq_nil_of_le (by omega)
        rw [e1] at f1
        cases m with
        | succ m => cases f1
        | zero =>
          rw [fo_zero] at f2
          simp only [Option.some.injEq] at f2
          rw [HR.out, e1, f2]
          rfl
      clear HR HF
      go_wp2_with fail
      go_ret2
      exact ⟨by rw [HX.out]; exact ⟨_, _, _, rfl, hmap, HH.out.on hbr⟩, hbr⟩

end Go.Proofs.YtjpmlnigjbdnnaaDoor
