/-
  What makeNode does where a rule fits and there is fuel.
-/
import Derived.Test.YtbdlokijednoiaaP7
import Derived.Defers
import Derived.Recover
import Derived.Test.YtbdlokijednoiaaI7
import Derived.Test.YtbdlokijednoiaaT7
namespace Go.Proofs.Ytbdlokijednoiaa
open Go.RowKit
set_option linter.unusedVariables false
set_option linter.unusedSimpArgs false
set_option maxRecDepth 100000
set_option maxHeartbeats 2000000 in

/-- what a table tells, as ask answers it -/
def Asked (B : Nat) (r : Option (List Cl × List ByteArray)) (e : Ending) (w' : World) : Prop :=
  match r with
  | none => e = .returned (.tuple #[.slice none 0 0, .slice none 0 0, .bool false])
  | some p => ∃ nv hv, e = .returned (.tuple #[nv, hv, .bool true]) ∧ Owns w' B nv p.1 ∧ LiesS w' hv p.2 ∧ ∀ a n c, hv = .slice (some a) n c → B ≤ a.block
/-- a table, as it is asked -/
def AskAt (w0 : World) (tv : Value) (tb : Tb) : Prop := ∀ (w : World) (x : Value) (L : List Cl), Below w0.heap.size w0 w → Lies w x L → grd L = true →
  Calls Try.prog 73 #[tv, x] w fun e w' => Asked w.heap.size (tb L) e w' ∧ Below w.heap.size w w'
def noTb : Tb := fun _ => none

theorem ask_nil (w0 : World) : AskAt w0 .nilIface noTb := by
  intro w x L _ hx _
  obtain ⟨xa, xc, rfl, _⟩ := hx
  have hmf : ∀ (fn : Fn) (first cap : Array Value) (w : World), (Instr.makeFunc fn first cap).run Try.prog w = .ok (.func fn first cap) w := fun _ _ _ _ => rfl
  have hw : Below w.heap.size w (((w.alloc (.cells #[.slice none 0 0] 24)).alloc (.cells #[.slice none 0 0] 34)).alloc (.cells #[.bool false] 4)) :=
    (((Below.refl _ w).alloc (Nat.le_refl _) _).alloc (by simp) _).alloc (by simp; omega) _
  go_enter_defers Try.func73, Try.ntmps73
  go_wp2
  simp [bodyPostD, Leaves, results, Try.results73, go_sem]
  exact ⟨rfl, hw⟩

theorem firstR_drop {rs : List Rl} {k : Nat} {r : Rl} (h : rs[k]? = some r) (t : List Cl) : firstR (rs.drop k) t = match mt r.l t with | some b => some (r.r, b) | none => firstR (rs.drop (k + 1)) t := by
  obtain ⟨hk, e⟩ := List.getElem?_eq_some_iff.1 h
  rw [List.drop_eq_getElem_cons hk, e]
  rfl
/-- a rule whose first cell is another fits not -/
theorem mt_head {L T : List Cl} {c d : Cl} {L' T' : List Cl} (hL : L = c :: L') (hT : T = d :: T') (hc : isV c = false) (hne : c ≠ d) : mt L T = none := by
  unfold mt
  split
  · rw [hL, hT, fitL.eq_def]
    simp only [hc]
    rw [if_neg (by simp)]
    rw [if_neg (fun e => hne e.symm)]
  · rfl
theorem check_cons {L : List Cl} (h : check L = 0) : ∃ c L', L = c :: L' := by
  cases L with
  | nil => have := (check_zero h).2.2; cases this
  | cons c r => exact ⟨c, r, rfl⟩
theorem LiesR.at {w : World} {a : Option Addr} {n c : Nat} {rs : List Rl} (h : LiesR w (.slice a n c) rs) {i : Nat} {r : Rl} (hi : rs[i]? = some r) :
    ∃ g off x y, a = some ⟨g, off, none⟩ ∧ g < w.heap.size ∧ w.cell? ⟨g, off + i * 3, none⟩ = some (.int .i64 r.id) ∧ w.cell? ⟨g, off + i * 3 + 1, none⟩ = some x ∧ w.cell? ⟨g, off + i * 3 + 2, none⟩ = some y ∧ Lies w x r.l ∧ Lies w y r.r := by
  obtain ⟨a', c', hv', _, _, HC'⟩ := h
  injection hv' with e1 _ _
  subst e1
  obtain ⟨g, off, x, y, h1, h2, h3, h4, h5, h6, h7, _⟩ := HC' i _ hi
  exact ⟨g, off, x, y, h1, h2, h3, h4, h5, h6, h7⟩

/-- how firstFit ends -/
def Firstly (w0 : World) (B : Nat) (rs : List Rl) (T : List Cl) (e : Ending) (w' : World) : Prop :=
  (firstR rs T = none ∧ e = .returned (.tuple #[.slice none 0 0, .slice none 0 0, .bool false])) ∨
  (∃ R bs rv bv, firstR rs T = some (R, bs) ∧ e = .returned (.tuple #[rv, bv, .bool true]) ∧ Lies w0 rv R ∧ OwnsB w' B bv bs)

set_option maxHeartbeats 4000000 in
theorem firstFit_any (w0 w : World) (hb0 : Below w0.heap.size w0 w) (rv : Value) (rs : List Rl) (hr : LiesR w0 rv rs) (hok : RsOk rs) (tv : Value) (T : List Cl) (hT : Lies w tv T) (hg : grd T = true) :
    Calls Try.prog 75 #[rv, tv] w fun e w' => Firstly w0 w.heap.size rs T e w' ∧ Below w.heap.size w w' := by
  have hTc := (grd_iff.1 hg).1
  obtain ⟨d, T', hTd⟩ := check_cons hTc
  have HR : Hid (LiesR w0 rv rs) := hr
  have HT : Hid (Lies w tv T) := hT
  have HTD : Hid (T = d :: T') := hTd
  have HOK : Hid (RsOk rs) := hok
  have HB0 : Hid (Below w0.heap.size w0 w) := hb0
  obtain ⟨ra, rc, rfl, rl1, rl2, _⟩ := hr
  have hrm : rs.length ≤ 9223372036854775807 := by unfold maxLen at rl2; omega
  have htl : 0 < T.length := by rw [hTd]; simp
  obtain ⟨ta, tc, htv, tl1, tl2, _, HC⟩ := hT
  subst htv
  obtain ⟨tg, toff, hta, htg, t0, t1⟩ := HC 0 d (by rw [hTd]; rfl)
  subst hta
  simp only [Nat.zero_mul, Nat.add_zero] at t0 t1
  have htl2 : (0 : Int) < (T.length : Int) := by omega
  have hw0 := hb0.size
  clear hok hTd hTc hg hb0 HC
  go_enter Try.func75, Try.ntmps75
  go_wp2_with fail
  go_loopw [14] (fun i wr => ∃ k : Nat, k ≤ rs.length ∧ i = .int .i64 (k : Nat) ∧ Hid (firstR rs T = firstR (rs.drop k) T) ∧ Below w.heap.size w wr) (fun i _ => rs.length - (intOf i).toNat)
  case atStart => exact ⟨0, Nat.zero_le _, rfl, rfl, Below.refl _ _⟩
  case round =>
    obtain ⟨k, hk, rfl, HF, hbr⟩ := hrel
    have hbs := hbr.size
    by_cases hlt : k < rs.length
    · obtain ⟨r, hrk⟩ : ∃ r, rs[k]? = some r := ⟨rs[k], List.getElem?_eq_getElem hlt⟩
      have hki : (k : Int) < (rs.length : Int) := by omega
      obtain ⟨g, off, x, y, hra, hgl, c0, c1, c2, hlx, hly⟩ := HR.out.at hrk
      subst hra
      have hbw : Below w0.heap.size w0 wr := HB0.out.trans (hbr.mono hw0)
      have d0 := (hbw.cell (p := ⟨g, off + k * 3, none⟩) hgl).trans c0
      have d1 := (hbw.cell (p := ⟨g, off + k * 3 + 1, none⟩) hgl).trans c1
      have d2 := (hbw.cell (p := ⟨g, off + k * 3 + 2, none⟩) hgl).trans c2
      have hchk := HOK.out r (List.mem_of_getElem? hrk)
      obtain ⟨_, hcl, _, _, hvar, _⟩ := chk_zero hchk
      have HFD := firstR_drop hrk T
      obtain ⟨c, L', hLc⟩ := check_cons hcl
      have hcv : isV c = false := by
        have e : hd r.l = c.nm := by unfold hd; rw [hLc]; rfl
        rw [e] at hvar
        cases h : isV c with
        | false => rfl
        | true => exact absurd (isV_kind.1 h) hvar
      have HLX : Hid (Lies w0 x r.l) := hlx
      have HLY : Hid (Lies w0 y r.r) := hly
      have hll : 0 < r.l.length := by rw [hLc]; simp
      obtain ⟨xa, xc, hxv, _, _, _, HCX⟩ := hlx
      subst hxv
      obtain ⟨ya, yc, hyv, _⟩ := hly
      subst hyv
      obtain ⟨xg, xoff, hxa, hxg, l0, l1⟩ := HCX 0 c (by rw [hLc]; rfl)
      subst hxa
      simp only [Nat.zero_mul, Nat.add_zero] at l0 l1
      have m0 := (hbw.cell (p := ⟨xg, xoff, none⟩) hxg).trans l0
      have m1 := (hbw.cell (p := ⟨xg, xoff + 1, none⟩) hxg).trans l1
      have n0 := (hbr.cell (p := ⟨tg, toff, none⟩) htg).trans t0
      have n1 := (hbr.cell (p := ⟨tg, toff + 1, none⟩) htg).trans t1
      have hll2 : (0 : Int) < (r.l.length : Int) := by omega
      obtain ⟨rid, rl, rr⟩ := r
      simp only at d0 d1 d2 hll hll2 HLX HLY hLc HFD
      have hb1 : Below wr.heap.size wr (wr.alloc (.cells #[.int .i64 rid, .slice (some ⟨xg, xoff, none⟩) rl.length xc, .slice ya rr.length yc] 56)) := (Below.refl _ _).alloc (Nat.le_refl _) _
      have hX : Blk (wr.alloc (.cells #[.int .i64 rid, .slice (some ⟨xg, xoff, none⟩) rl.length xc, .slice ya rr.length yc] 56)) wr.heap.size #[.int .i64 rid, .slice (some ⟨xg, xoff, none⟩) rl.length xc, .slice ya rr.length yc] 56 := Blk.made _ _ _
      have e0 := (hb1.cell (p := ⟨xg, xoff, none⟩) (Nat.lt_of_lt_of_le hxg hbw.size)).trans m0
      have e1 := (hb1.cell (p := ⟨xg, xoff + 1, none⟩) (Nat.lt_of_lt_of_le hxg hbw.size)).trans m1
      have p0 := (hb1.cell (p := ⟨tg, toff, none⟩) (Nat.lt_of_lt_of_le htg hbs)).trans n0
      have p1 := (hb1.cell (p := ⟨tg, toff + 1, none⟩) (Nat.lt_of_lt_of_le htg hbs)).trans n1
      have hEq := neq59 c.nm d.nm c.ar d.ar
      have HBA : Hid (∀ nq, Below w.heap.size w ((wr.alloc (.cells #[.int .i64 rid, .slice (some ⟨xg, xoff, none⟩) rl.length xc, .slice ya rr.length yc] 56)).drewN nq)) := fun nq => (hbr.alloc hbs _).trans ((below_drewN _ nq).mono (hbr.alloc hbs _).size)
      have HXA : Hid (∀ nq, Blk ((wr.alloc (.cells #[.int .i64 rid, .slice (some ⟨xg, xoff, none⟩) rl.length xc, .slice ya rr.length yc] 56)).drewN nq) wr.heap.size #[.int .i64 rid, .slice (some ⟨xg, xoff, none⟩) rl.length xc, .slice ya rr.length yc] 56) := fun nq => hX
      by_cases hcd : c = d
      · have hde : (!decide ((⟨c.nm, c.ar⟩ : Cl) = ⟨d.nm, d.ar⟩)) = false := by rw [hcd]; simp
        rw [hde] at hEq
        have hmt : ∀ nq, _ := fun nq => match_any ((wr.alloc (.cells #[.int .i64 rid, .slice (some ⟨xg, xoff, none⟩) rl.length xc, .slice ya rr.length yc] 56)).drewN nq) (.slice (some ⟨xg, xoff, none⟩) rl.length xc) (.slice (some ⟨tg, toff, none⟩) T.length tc) rl T (HLX.out.on (HB0.out.trans ((HBA.out nq).mono hw0))) (HT.out.on (HBA.out nq))
        cases hm : mt rl T with
        | none =>
          rw [hm] at hmt HFD
          have HF2 : Hid (firstR rs T = firstR (rs.drop (k + 1)) T) := by show _ = _; rw [HF.out, HFD]
          clear hm HFD HF hrk hchk hcl hvar hcv hLc hcd hde c0 c1 c2 HCX l0 l1 m0 m1 n0 n1 hX hb1
          go_wp2_with fail
          go_quiet (fail)
          have x1 := (HXA.out nq).cell (i := 1) rfl
          go_wp2_with (go_at_call 87; refine (hmt _).mono ?_; rintro e w3 ⟨v3, rfl, ho3, hb3⟩; obtain ⟨oa3, oc3, hov3, _⟩ := ho3.form; subst hov3)
          go_roundw
          case rel => exact ⟨k + 1, by omega, by go_num, HF2, (HBA.out _).trans (hb3.mono (HBA.out _).size)⟩
          case measure => simp [intOf]; omega
        | some bs =>
          rw [hm] at hmt HFD
          have HF2 : Hid (firstR rs T = some (rr, bs)) := by show _ = _; rw [HF.out, HFD]
          clear hm HFD HF hrk hchk hcl hvar hcv hLc hcd hde c0 c1 c2 HCX l0 l1 m0 m1 n0 n1 hX hb1
          go_wp2_with fail
          go_quiet (fail)
          have x1 := (HXA.out nq).cell (i := 1) rfl
          go_wp2_with (go_at_call 87; refine (hmt _).mono ?_; rintro e w3 ⟨v3, rfl, ho3, hb3⟩; have hO3 := ho3; obtain ⟨oa3, oc3, hov3, _⟩ := ho3.form; subst hov3; have x2 := ((HXA.out nq).on hb3 (HXA.out nq).lt).cell (i := 2) rfl)
          go_ret3
          refine ⟨.inr ⟨rr, bs, _, _, HF2.out, rfl, HLY.out, hO3.base ?_⟩, (HBA.out _).trans (hb3.mono (HBA.out _).size)⟩
          exact (HBA.out nq).size
      · have hne : c ≠ d := hcd
        have hde : (!decide ((⟨c.nm, c.ar⟩ : Cl) = ⟨d.nm, d.ar⟩)) = true := by
          have hn : ¬ ((⟨c.nm, c.ar⟩ : Cl) = ⟨d.nm, d.ar⟩) := hcd
          rw [decide_eq_false hn]; rfl
        rw [hde] at hEq
        have HF2 : Hid (firstR rs T = firstR (rs.drop (k + 1)) T) := by show _ = _; rw [HF.out, HFD, mt_head hLc HTD.out hcv hne]
        clear HFD HF hrk hchk hcl hvar hcv hLc hcd hde hne c0 c1 c2 HCX l0 l1 m0 m1 n0 n1 hX hb1
        go_wp2_with fail
        go_quiet (fail)
        go_wp2_with fail
        go_roundw
        case rel => exact ⟨k + 1, by omega, by go_num, HF2, HBA.out _⟩
        case measure => simp [intOf]; omega
    · have hki : ¬ (k : Int) < (rs.length : Int) := by omega
      have HF2 : Hid (firstR rs T = none) := by show _ = _; rw [HF.out, List.drop_eq_nil_of_le (by omega)]; rfl
      clear HF
      go_wp2_with fail
      go_ret3
      exact ⟨.inl ⟨HF2.out, rfl⟩, hbr⟩

theorem toDo_any (Z B : Nat) (hAB : Z ≤ B) (w : World) (tv : Value) (L : List Cl) (hL : VL Z w tv L) (hE : check L = 0) (bv : Value) (bs : List Bd) (B' : Nat) (hbs : OwnsB w B' bv bs) (hg : Good bs) (hB : B ≤ w.heap.size) :
    Calls Try.prog 21 #[tv, bv] w fun e w' => ∃ ov, e = .returned ov ∧ OpsV (VL Z w') w' B ov (todo bs L).reverse ∧ KO B w w' := by
  obtain ⟨h64, hcE, _⟩ := check_zero hE
  obtain ⟨nm, kd, hf⟩ := check_term hE
  have hk4 : kd.len ≤ 4 := by
    have := (ars hcE ⟨nm, (kd.len : Nat)⟩ (by rw [hf]; simp [Fo.flat])).2
    simp only at this
    omega
  have hsz : kd.size + 1 ≤ 64 := by
    have := congrArg List.length hf
    rw [Fo.flat_length] at this
    simp only [Fo.size] at this
    omega
  have hin := inOrder_any (kd.size + 1) Z B hAB w (.slice none 0 0) [] tv L 0 nm kd [] bv bs B' (by omega) hL (by rw [List.drop_zero, List.append_nil]; exact hf) h64 hk4 (ars hcE) hbs hg ⟨[], rfl, World.ownsRow_nil _ _ _ _, fun i o h => by simp at h⟩ hB (by simp only [List.length_nil]; omega)
  have HT : Hid (([] : List Opr) ++ ((Fo.cons nm kd .nil).todos bs).flatten = todo bs L) := by show _ = _; rw [List.nil_append, hf, todo_flat]
  rw [HT.out] at hin
  have htl := todo_len bs L
  obtain ⟨D, hD⟩ : ∃ D, todo bs L = D := ⟨_, rfl⟩
  rw [hD] at hin htl
  rw [hD]
  have hDl : D.length ≤ 64 := by omega
  obtain ⟨ta, tc, rfl, _⟩ := hL.1
  obtain ⟨ba, bc, rfl, _⟩ := hbs.form
  clear hD htl HT hf hL hbs
  have hrev : ∀ (w1 : World) (v : Value), OpsV (VL Z w1) w1 B v D → Calls Try.prog 38 #[v] w1 fun e w' => e = .returned (.tuple #[]) ∧ OpsV (VL Z w') w' B v D.reverse ∧ KO B w1 w' := fun w1 v h => by
    obtain ⟨os, h0, h1, h2⟩ := h
    rw [← h0] at h1
    refine (reverse_any B w1 v os (by omega) h1 (fun o ho => ?_)).mono ?_
    · obtain ⟨i, hi⟩ := List.getElem?_of_mem ho
      have hi2 := (List.getElem?_eq_some_iff.1 hi).1
      obtain ⟨x, hx, _, hv⟩ := h2 i D[i] (List.getElem?_eq_getElem (by omega))
      rw [hi] at hx
      cases hx
      obtain ⟨a, cap, e, _⟩ := hv.1
      exact ⟨a, _, cap, e⟩
    · rintro e w' ⟨rfl, hr, hk⟩
      refine ⟨rfl, ⟨os.reverse, by simp [h0], by rw [List.length_reverse, ← h0]; exact hr, fun i o hi => ?_⟩, hk⟩
      have hil := (List.getElem?_eq_some_iff.1 hi).1
      rw [List.length_reverse] at hil
      rw [List.getElem?_reverse hil] at hi
      obtain ⟨x, hx, hc, hv⟩ := h2 _ o hi
      exact ⟨x, by rw [List.getElem?_reverse (by omega), h0]; exact hx, hc, hv.on (hk.k7.base hAB)⟩
  go_enter Try.func21, Try.ntmps21
  go_wp2_with (first | (go_at_call 37; refine hin.mono ?_; rintro e w1 ⟨o1, rfl, ho1, hk1⟩; have HO1 : Hid (OpsV (VL Z w1) w1 B o1 D) := ho1; obtain ⟨oa, oc, hov⟩ := ho1.form; subst hov; clear ho1) | (go_at_call 38; refine (hrev _ _ HO1.out).mono ?_; rintro e w2 ⟨rfl, ho2, hk2⟩))
  go_ret
  exact ⟨_, rfl, ho2, hk1.trans hk2⟩

/-- how makeNode ends -/
def Made (B : Nat) (w : World) (p : Nat) (rv tv : Value) (ops : List Opr) (vals : List (List Cl)) (st : Int) (heads : List ByteArray) (fu : Int) (r : Out) (e : Ending) (w' : World) : Prop :=
  K7 B w w' ∧ match r with
  | .stop n => e = .returned (.int .i64 (n : Nat)) ∧ ∃ ov vv hv, Rn B w' p ov vv hv rv tv ops vals st heads fu
  | .go c' => e = .returned (.int .i64 0) ∧ ∃ ov vv hv, Rn B w' p ov vv hv rv tv c'.stk.reverse c'.vals c'.steps c'.heads c'.fuel
theorem node_len (c : Cl) (V : List (List Cl)) : (node c V) = node c V := rfl
theorem val_lim {n : Nat} (h : n ≤ 7539508500002) : (n + n / 4 + 192) * 24 ≤ 281474976710656 := fits_wide (m := 7539508500002) (by decide) h
theorem op_lim {n : Nat} (h : n ≤ 2513169500020) : (n + n / 4 + 192) * 56 ≤ 281474976710656 := fits_wide (m := 2513169500020) (by decide) h
theorem take_last {α : Type} (l : List α) (x : α) : (l ++ [x]).take ((l ++ [x]).length - 1) = l := by simp
theorem ValsV.rowlt {V : Value → List Cl → Prop} {w : World} {B : Nat} {v : Value} {K : List (List Cl)} (h : ValsV V w B v K) : ∀ g, v.ownBlock = some g → g < w.heap.size := by
  obtain ⟨_, h1, _⟩ := h
  exact fun g hg => (h1.lt g hg).2

set_option maxHeartbeats 4000000 in
theorem make_big (w0 w : World) (hb : Below w0.heap.size w0 w) (p : Nat) (ov vv hv rv tv : Value) (stk : List Opr) (vals : List (List Cl)) (st : Int) (heads : List ByteArray) (fu : Int) (c : Cl) (h : Rn w0.heap.size w p ov vv hv rv tv (stk.reverse ++ [⟨1, c, []⟩]) vals st heads fu) (hrt : Rt ⟨⟨1, c, []⟩ :: stk, vals, st, heads, fu⟩) (rs : List Rl) (hr : LiesR w0 rv rs) (hok : RsOk rs) (tb : Tb) (htb : TbOk tb) (hask : AskAt w0 tv tb) (hst : -9223372036854775808 ≤ st ∧ st ≤ 9223372036854775807) (hfu : -9223372036854775808 ≤ fu ∧ fu ≤ 9223372036854775807) (h64 : 64 < (node c vals).length) :
    Calls Try.prog 51 #[.pointer (some ⟨p, 0, none⟩), .agg #[.string c.nm, .int .i64 c.ar]] w fun e w' => Made w0.heap.size w p rv tv (stk.reverse ++ [⟨1, c, []⟩]) vals st heads fu (.stop 6) e w' := by
  obtain ⟨hops, hvals, hcnt, hhds, hlim⟩ := hrt
  simp only at hops hvals hcnt hhds hlim
  obtain ⟨hk1, h0, h4⟩ : kind c.nm.data.toList = 1 ∧ 0 ≤ c.ar ∧ c.ar ≤ 4 := by
    rcases hops ⟨1, c, []⟩ (by simp) with ⟨_, a, b, d, _⟩ | ⟨e, _⟩
    · exact ⟨a, b, d⟩
    · exact absurd e (show (1 : Int) ≠ 2 by decide)
  obtain ⟨har, _⟩ := cnt_ar hcnt
  simp only at har
  have hn8 : c.nm.size ≤ 8 := (kind_one hk1).1
  have hvl : vals.length ≤ 7539508500001 := by
    have := cnt_le _ _ hops hcnt
    simp only [List.length_cons] at this hlim
    omega
  have hsl : stk.length ≤ 2513169500000 := by simp only [List.length_cons] at hlim; omega
  have hb0 : Below w.heap.size w (w.alloc (.cells #[.string c.nm, .int .i64 c.ar] 49)) := (Below.refl _ w).alloc (Nat.le_refl _) _
  have hnode := node_any w0.heap.size _ p ov vv hv rv tv _ vals st heads fu (h.on hb0) c h0 h4 hn8 har hvals
  have HR1 : Hid (Rn w0.heap.size (w.alloc (.cells #[.string c.nm, .int .i64 c.ar] 49)) p ov vv hv rv tv (stk.reverse ++ [⟨1, c, []⟩]) vals st heads fu) := h.on hb0
  have HX1 : Hid (Blk (w.alloc (.cells #[.string c.nm, .int .i64 c.ar] 49)) w.heap.size #[.string c.nm, .int .i64 c.ar] 49) := Blk.made _ _ _
  have HB1 : Hid (Below w0.heap.size w0 (w.alloc (.cells #[.string c.nm, .int .i64 c.ar] 49))) := hb.trans (hb0.mono hb.size)
  have HK1 : Hid (K7 w0.heap.size w (w.alloc (.cells #[.string c.nm, .int .i64 c.ar] 49))) := K7.of hb0 hb.size
  have HHD : Hid (Hds heads) := hhds
  have HVA : Hid (∀ v ∈ vals, grd v = true) := hvals
  have HLR : Hid (LiesR w0 rv rs) := hr
  have HOK : Hid (RsOk rs) := hok
  have HTB : Hid (TbOk tb) := htb
  have hlow := h.low
  have HKD : Hid (kind c.nm.data.toList = 1) := hk1
  obtain ⟨oa, oc, hov⟩ := h.ops.form
  obtain ⟨va, vc, hvv⟩ := h.vals.form
  subst hov
  subst hvv
  obtain ⟨ra, rc, hrv, _⟩ := hr
  subst hrv
  obtain ⟨ND, hND⟩ : ∃ ND, node c vals = ND := ⟨_, rfl⟩
  have HND : Hid (node c vals = ND) := hND
  rw [hND] at hnode
  have HASK : Hid (AskAt w0 tv tb) := hask
  have HLFT : Hid (vals.take (vals.length - c.ar.toNat) = left c vals) := rfl
  rw [hND] at h64
  have h64i : (64 : Int) < (ND.length : Int) := by omega
  clear h hok htb hask hops hvals hcnt hhds hlim hND hb0 hb
  go_enter Try.func51, Try.ntmps51
  go_wp2_with (first | (go_at_call 72; refine hnode.mono ?_; rintro e w2 ⟨nv, rfl, ho2, hb2⟩; have hO2 := ho2; obtain ⟨na, nc, hnv, _⟩ := own_cells ho2; subst hnv; have hR2 := HR1.out.on hb2; have hX2 := HX1.out.on hb2 HX1.out.lt; have hB2 := HB1.out.trans (hb2.mono HB1.out.size); have hK2 := HK1.out.trans (K7.of hb2 HB1.out.size)))
  go_ret
  exact ⟨hK2, rfl, _, _, _, hR2⟩

set_option maxHeartbeats 4000000 in
theorem make_hit (w0 w : World) (hb : Below w0.heap.size w0 w) (p : Nat) (ov vv hv rv tv : Value) (stk : List Opr) (vals : List (List Cl)) (st : Int) (heads : List ByteArray) (fu : Int) (c : Cl) (h : Rn w0.heap.size w p ov vv hv rv tv (stk.reverse ++ [⟨1, c, []⟩]) vals st heads fu) (hrt : Rt ⟨⟨1, c, []⟩ :: stk, vals, st, heads, fu⟩) (rs : List Rl) (hr : LiesR w0 rv rs) (hok : RsOk rs) (tb : Tb) (htb : TbOk tb) (hask : AskAt w0 tv tb) (hst : -9223372036854775808 ≤ st ∧ st ≤ 9223372036854775807) (hfu : -9223372036854775808 ≤ fu ∧ fu ≤ 9223372036854775807) (h64 : ¬ 64 < (node c vals).length) (nm : List Cl) (hs : List ByteArray) (htn : tb (node c vals) = some (nm, hs)) :
    Calls Try.prog 51 #[.pointer (some ⟨p, 0, none⟩), .agg #[.string c.nm, .int .i64 c.ar]] w fun e w' => Made w0.heap.size w p rv tv (stk.reverse ++ [⟨1, c, []⟩]) vals st heads fu (.go ⟨stk, left c vals ++ [nm], st, jn heads hs, fu⟩) e w' := by
  obtain ⟨hops, hvals, hcnt, hhds, hlim⟩ := hrt
  simp only at hops hvals hcnt hhds hlim
  obtain ⟨hk1, h0, h4⟩ : kind c.nm.data.toList = 1 ∧ 0 ≤ c.ar ∧ c.ar ≤ 4 := by
    rcases hops ⟨1, c, []⟩ (by simp) with ⟨_, a, b, d, _⟩ | ⟨e, _⟩
    · exact ⟨a, b, d⟩
    · exact absurd e (show (1 : Int) ≠ 2 by decide)
  obtain ⟨har, _⟩ := cnt_ar hcnt
  simp only at har
  have hn8 : c.nm.size ≤ 8 := (kind_one hk1).1
  have hvl : vals.length ≤ 7539508500001 := by
    have := cnt_le _ _ hops hcnt
    simp only [List.length_cons] at this hlim
    omega
  have hsl : stk.length ≤ 2513169500000 := by simp only [List.length_cons] at hlim; omega
  have hb0 : Below w.heap.size w (w.alloc (.cells #[.string c.nm, .int .i64 c.ar] 49)) := (Below.refl _ w).alloc (Nat.le_refl _) _
  have hnode := node_any w0.heap.size _ p ov vv hv rv tv _ vals st heads fu (h.on hb0) c h0 h4 hn8 har hvals
  have HR1 : Hid (Rn w0.heap.size (w.alloc (.cells #[.string c.nm, .int .i64 c.ar] 49)) p ov vv hv rv tv (stk.reverse ++ [⟨1, c, []⟩]) vals st heads fu) := h.on hb0
  have HX1 : Hid (Blk (w.alloc (.cells #[.string c.nm, .int .i64 c.ar] 49)) w.heap.size #[.string c.nm, .int .i64 c.ar] 49) := Blk.made _ _ _
  have HB1 : Hid (Below w0.heap.size w0 (w.alloc (.cells #[.string c.nm, .int .i64 c.ar] 49))) := hb.trans (hb0.mono hb.size)
  have HK1 : Hid (K7 w0.heap.size w (w.alloc (.cells #[.string c.nm, .int .i64 c.ar] 49))) := K7.of hb0 hb.size
  have HHD : Hid (Hds heads) := hhds
  have HVA : Hid (∀ v ∈ vals, grd v = true) := hvals
  have HLR : Hid (LiesR w0 rv rs) := hr
  have HOK : Hid (RsOk rs) := hok
  have HTB : Hid (TbOk tb) := htb
  have hlow := h.low
  have HKD : Hid (kind c.nm.data.toList = 1) := hk1
  obtain ⟨oa, oc, hov⟩ := h.ops.form
  obtain ⟨va, vc, hvv⟩ := h.vals.form
  subst hov
  subst hvv
  obtain ⟨ra, rc, hrv, _⟩ := hr
  subst hrv
  obtain ⟨ND, hND⟩ : ∃ ND, node c vals = ND := ⟨_, rfl⟩
  have HND : Hid (node c vals = ND) := hND
  rw [hND] at hnode
  have HASK : Hid (AskAt w0 tv tb) := hask
  have HLFT : Hid (vals.take (vals.length - c.ar.toNat) = left c vals) := rfl
  have h64' : ¬ 64 < ND.length := by rw [← hND]; exact h64
  have h64i : ¬ (64 : Int) < (ND.length : Int) := by omega
  have hgrd : grd ND = true := by rw [← hND]; exact node_grd hk1 h0 h4 hvals har (by omega)
  have HGR : Hid (grd ND = true) := hgrd
  have hfine : Fine ND := fine_check (grd_iff.1 hgrd).1
  have HFI : Hid (Fine ND) := hfine
  rw [hND] at htn
  obtain ⟨hng, hnh⟩ := htb _ _ htn
  simp only at hng hnh
  have HNG : Hid (grd nm = true) := hng
  have HNH : Hid (∀ x ∈ hs, kind x.data.toList = 1) := hnh
  have HTN : Hid (tb ND = some (nm, hs)) := htn
  obtain ⟨ar, har2⟩ : ∃ ar : Nat, c.ar = (ar : Int) := ⟨c.ar.toNat, by omega⟩
  obtain ⟨cnm, car⟩ := c
  simp only at har2
  subst har2
  simp only [Int.toNat_natCast] at har HLFT
  clear h hok htb hask hops hvals hcnt hhds hlim hND hb0 hb hng hnh hgrd hfine htn
  go_enter Try.func51, Try.ntmps51
  go_wp2_with (first | (go_at_call 72; refine hnode.mono ?_; rintro e w2 ⟨nv, rfl, ho2, hb2⟩; have hO2 := ho2; obtain ⟨na, nc, hnv, _⟩ := own_cells ho2; subst hnv; have hR2 := HR1.out.on hb2; have hX2 := HX1.out.on hb2 HX1.out.lt; have hB2 := HB1.out.trans (hb2.mono HB1.out.size); have hK2 := HK1.out.trans (K7.of hb2 HB1.out.size); have d5 := hR2.blk.cell (i := 6) rfl) | (go_at_call 73; refine (HASK.out w2 _ ND hB2 (Owns.lies hO2 HFI.out) HGR.out).mono ?_; rw [HTN.out]; rintro e w3 ⟨⟨nv3, hv3, rfl, hn3, hh3, hbk3⟩, hb3⟩; have hR3 := hR2.on hb3; have hX3 := hX2.on hb3 hX2.lt; have hB3 := hB2.trans (hb3.mono hB2.size); have hK3 := hK2.trans (K7.of hb3 hB2.size); have hN3 : VL w0.heap.size w3 nv3 nm := VL.own hn3 (fine_check (grd_iff.1 HNG.out).1); obtain ⟨n3a, n3c, hn3v, _⟩ := own_cells hn3; subst hn3v; have hHH3 := hh3; obtain ⟨h3a, h3c, hh3v, _⟩ := hh3; subst hh3v; have y1 := hX3.cell (i := 1) rfl) | (go_at_call 49; refine (done_any _ w3 p _ _ _ _ _ _ _ _ _ _ hR3 ar (by simp) har).mono ?_; rintro e w4 ⟨rfl, ⟨oa4, oc4, va4, vc4, ho4, hv4, hR4⟩, hk4, hu4, hz4⟩; injection ho4 with e1 e2 e3; injection hv4 with e4 e5 e6; subst e1; subst e3; subst e4; subst e6; have hN4 := hN3.on hk4; have hK4 := hK3.trans hk4) | (go_at_call 50; refine (put_run _ w4 p _ _ _ _ _ _ _ _ _ _ hR4 _ nm hN4 (val_lim (by rw [List.length_take]; omega))).mono ?_; rintro e w5 ⟨rfl, ⟨vv5, hR5⟩, hk5, hu5, hz5⟩; have hK5 := hK4.trans hk5; have hHH5 : LiesS w5 (.slice h3a hs.length h3c) hs := (hHH3.kept (fun a n c' ha hl => by { have hbb := hbk3 a n c' ha; have hp2 := hR2.blk.lt; exact hu4 _ (by omega) }) hz4).kept (fun a n c' ha hl => by { have hbb := hbk3 a n c' ha; have hp2 := hR2.blk.lt; refine hu5 _ hl (by omega) (fun g hg => ?_); have := (hR2.vals.rowlt g (by rw [← hg]; cases va <;> rfl)); omega }) hz5) | (go_at_call 74; refine (join_run _ w5 p _ _ _ _ _ _ _ _ _ _ hR5 _ hs hHH5 (fun a n c' ha => ⟨by { have hbb := hbk3 a n c' ha; have hp2 := hR2.blk.lt; omega }, fun g hg => by { have hbb := hbk3 a n c' ha; have := hR2.heads.lt g hg; omega }⟩) HHD.out HNH.out).mono ?_; rintro e w6 ⟨rfl, ⟨hv6, hR6⟩, hk6⟩; have hK6 := hK5.trans hk6))
  go_ret
  refine ⟨hK6, rfl, ?_⟩
  rw [take_last, HLFT.out] at hR6
  exact ⟨_, _, _, hR6⟩

theorem firstFit_none (w0 w : World) (hb0 : Below w0.heap.size w0 w) (rv : Value) (rs : List Rl) (hr : LiesR w0 rv rs) (hok : RsOk rs) (tv : Value) (T : List Cl) (hT : Lies w tv T) (hg : grd T = true) (h : firstR rs T = none) :
    Calls Try.prog 75 #[rv, tv] w fun e w' => e = .returned (.tuple #[.slice none 0 0, .slice none 0 0, .bool false]) ∧ Below w.heap.size w w' := by
  refine (firstFit_any w0 w hb0 rv rs hr hok tv T hT hg).mono ?_
  rintro e w' ⟨⟨_, he⟩ | ⟨R, bs, _, _, h2, _⟩, hb⟩
  · exact ⟨he, hb⟩
  · rw [h] at h2; cases h2
theorem firstFit_some (w0 w : World) (hb0 : Below w0.heap.size w0 w) (rv : Value) (rs : List Rl) (hr : LiesR w0 rv rs) (hok : RsOk rs) (tv : Value) (T : List Cl) (hT : Lies w tv T) (hg : grd T = true) {R : List Cl} {bs : List Bd} (h : firstR rs T = some (R, bs)) :
    Calls Try.prog 75 #[rv, tv] w fun e w' => ∃ fv bv, e = .returned (.tuple #[fv, bv, .bool true]) ∧ Lies w0 fv R ∧ OwnsB w' w.heap.size bv bs ∧ Below w.heap.size w w' := by
  refine (firstFit_any w0 w hb0 rv rs hr hok tv T hT hg).mono ?_
  rintro e w' ⟨⟨h2, _⟩ | ⟨R, bs, fv, bv, h2, he, hF, hW⟩, hb⟩
  · rw [h] at h2; cases h2
  · rw [h] at h2; cases h2
    exact ⟨fv, bv, he, hF, hW, hb⟩
theorem join_one (B : Nat) (w : World) (p : Nat) (ov vv hv rv tv : Value) (ops : List Opr) (vals : List (List Cl)) (st : Int) (heads : List ByteArray) (fu : Int) (h : Rn B w p ov vv hv rv tv ops vals st heads fu) (x : ByteArray) (hH : Hds heads) (hk : kind x.data.toList = 1) :
    Calls Try.prog 74 #[.pointer (some ⟨p, 0, none⟩), .slice (some ⟨w.heap.size, 0, none⟩) 1 1] (w.alloc (.cells #[.string x] 9)) fun e w' => e = .returned (.tuple #[]) ∧ (∃ hv', Rn B w' p ov vv hv' rv tv ops vals st (jn1 heads x) fu) ∧ K7 B w w' := by
  have hb : Below w.heap.size w (w.alloc (.cells #[.string x] 9)) := (Below.refl _ w).alloc (Nat.le_refl _) _
  have hl : LiesS (w.alloc (.cells #[.string x] 9)) (.slice (some ⟨w.heap.size, 0, none⟩) 1 1) [x] := by
    refine ⟨_, 1, rfl, by simp, by unfold maxLen; omega, fun j y hj => ⟨_, _, rfl, by simp, ?_⟩⟩
    cases j with
    | zero => cases hj; exact (Blk.made w #[.string x] 9).cell (i := 0) rfl
    | succ j => simp at hj
  refine (join_run B _ p ov vv hv rv tv ops vals st heads fu (h.on hb) _ [x] hl (fun a n c ha => ?_) hH (fun y hy => by simp at hy; subst hy; exact hk)).mono ?_
  · cases ha
    refine ⟨?_, fun g hg => ?_⟩
    · have := h.blk.lt; show w.heap.size ≠ p; omega
    · have := (h.heads.lt g hg).2; show w.heap.size ≠ g; omega
  · rintro e w' ⟨he, hr, hk'⟩
    exact ⟨he, hr, (K7.of hb (Nat.le_trans h.low (Nat.le_of_lt h.blk.lt))).trans hk'⟩
set_option maxHeartbeats 4000000 in
theorem make_none (w0 w : World) (hb : Below w0.heap.size w0 w) (p : Nat) (ov vv hv rv tv : Value) (stk : List Opr) (vals : List (List Cl)) (st : Int) (heads : List ByteArray) (fu : Int) (c : Cl) (h : Rn w0.heap.size w p ov vv hv rv tv (stk.reverse ++ [⟨1, c, []⟩]) vals st heads fu) (hrt : Rt ⟨⟨1, c, []⟩ :: stk, vals, st, heads, fu⟩) (rs : List Rl) (hr : LiesR w0 rv rs) (hok : RsOk rs) (tb : Tb) (htb : TbOk tb) (hask : AskAt w0 tv tb) (hst : -9223372036854775808 ≤ st ∧ st ≤ 9223372036854775807) (hfu : -9223372036854775808 ≤ fu ∧ fu ≤ 9223372036854775807) (h64 : ¬ 64 < (node c vals).length) (htn : tb (node c vals) = none) (hfr : firstR rs (node c vals) = none) :
    Calls Try.prog 51 #[.pointer (some ⟨p, 0, none⟩), .agg #[.string c.nm, .int .i64 c.ar]] w fun e w' => Made w0.heap.size w p rv tv (stk.reverse ++ [⟨1, c, []⟩]) vals st heads fu (.go ⟨stk, left c vals ++ [node c vals], st, jn1 heads c.nm, fu⟩) e w' := by
  obtain ⟨hops, hvals, hcnt, hhds, hlim⟩ := hrt
  simp only at hops hvals hcnt hhds hlim
  obtain ⟨hk1, h0, h4⟩ : kind c.nm.data.toList = 1 ∧ 0 ≤ c.ar ∧ c.ar ≤ 4 := by
    rcases hops ⟨1, c, []⟩ (by simp) with ⟨_, a, b, d, _⟩ | ⟨e, _⟩
    · exact ⟨a, b, d⟩
    · exact absurd e (show (1 : Int) ≠ 2 by decide)
  obtain ⟨har, _⟩ := cnt_ar hcnt
  simp only at har
  have hn8 : c.nm.size ≤ 8 := (kind_one hk1).1
  have hvl : vals.length ≤ 7539508500001 := by
    have := cnt_le _ _ hops hcnt
    simp only [List.length_cons] at this hlim
    omega
  have hsl : stk.length ≤ 2513169500000 := by simp only [List.length_cons] at hlim; omega
  have hb0 : Below w.heap.size w (w.alloc (.cells #[.string c.nm, .int .i64 c.ar] 49)) := (Below.refl _ w).alloc (Nat.le_refl _) _
  have hnode := node_any w0.heap.size _ p ov vv hv rv tv _ vals st heads fu (h.on hb0) c h0 h4 hn8 har hvals
  have HR1 : Hid (Rn w0.heap.size (w.alloc (.cells #[.string c.nm, .int .i64 c.ar] 49)) p ov vv hv rv tv (stk.reverse ++ [⟨1, c, []⟩]) vals st heads fu) := h.on hb0
  have HX1 : Hid (Blk (w.alloc (.cells #[.string c.nm, .int .i64 c.ar] 49)) w.heap.size #[.string c.nm, .int .i64 c.ar] 49) := Blk.made _ _ _
  have HB1 : Hid (Below w0.heap.size w0 (w.alloc (.cells #[.string c.nm, .int .i64 c.ar] 49))) := hb.trans (hb0.mono hb.size)
  have HK1 : Hid (K7 w0.heap.size w (w.alloc (.cells #[.string c.nm, .int .i64 c.ar] 49))) := K7.of hb0 hb.size
  have HHD : Hid (Hds heads) := hhds
  have HVA : Hid (∀ v ∈ vals, grd v = true) := hvals
  have HLR : Hid (LiesR w0 rv rs) := hr
  have HOK : Hid (RsOk rs) := hok
  have HTB : Hid (TbOk tb) := htb
  have hlow := h.low
  have HKD : Hid (kind c.nm.data.toList = 1) := hk1
  obtain ⟨oa, oc, hov⟩ := h.ops.form
  obtain ⟨va, vc, hvv⟩ := h.vals.form
  subst hov
  subst hvv
  obtain ⟨ra, rc, hrv, _⟩ := hr
  subst hrv
  obtain ⟨ND, hND⟩ : ∃ ND, node c vals = ND := ⟨_, rfl⟩
  have HND : Hid (node c vals = ND) := hND
  rw [hND] at hnode
  have HASK : Hid (AskAt w0 tv tb) := hask
  have HLFT : Hid (vals.take (vals.length - c.ar.toNat) = left c vals) := rfl
  have h64' : ¬ 64 < ND.length := by rw [← hND]; exact h64
  have h64i : ¬ (64 : Int) < (ND.length : Int) := by omega
  have hgrd : grd ND = true := by rw [← hND]; exact node_grd hk1 h0 h4 hvals har (by omega)
  have HGR : Hid (grd ND = true) := hgrd
  have hfine : Fine ND := fine_check (grd_iff.1 hgrd).1
  have HFI : Hid (Fine ND) := hfine
  rw [hND] at htn hfr
  have HTN : Hid (tb ND = none) := htn
  have HFR : Hid (firstR rs ND = none) := hfr
  have hpw : p < w.heap.size := h.blk.lt
  obtain ⟨ar, har2⟩ : ∃ ar : Nat, c.ar = (ar : Int) := ⟨c.ar.toNat, by omega⟩
  obtain ⟨cnm, car⟩ := c
  simp only at har2
  subst har2
  simp only [Int.toNat_natCast] at har HLFT
  clear h hok htb hask hops hvals hcnt hhds hlim hb0 hb hgrd hfine htn hfr
  go_enter Try.func51, Try.ntmps51
  go_wp2_with (first | (go_at_call 72; refine hnode.mono ?_; rintro e w2 ⟨nv, rfl, ho2, hb2⟩; have hO2 := ho2; obtain ⟨na, nc, hnv, _⟩ := own_cells ho2; subst hnv; have hR2 := HR1.out.on hb2; have hX2 := HX1.out.on hb2 HX1.out.lt; have hB2 := HB1.out.trans (hb2.mono HB1.out.size); have hK2 := HK1.out.trans (K7.of hb2 HB1.out.size); have d5 := hR2.blk.cell (i := 6) rfl) | (go_at_call 73; refine (HASK.out w2 _ ND hB2 (Owns.lies hO2 HFI.out) HGR.out).mono ?_; rw [HTN.out]; rintro e w3 ⟨he3, hb3⟩; replace he3 : e = Ending.returned (.tuple #[.slice none 0 0, .slice none 0 0, .bool false]) := he3; subst he3; have hR3 := hR2.on hb3; have hX3 := hX2.on hb3 hX2.lt; have hB3 := hB2.trans (hb3.mono hB2.size); have hK3 := hK2.trans (K7.of hb3 hB2.size); have hL3 := (Owns.lies hO2 HFI.out).on hb3; have hN3 : VL w0.heap.size w3 (.slice na ND.length nc) ND := (VL.own hO2 HFI.out).on (K7.of hb3 hB2.size); have d4 := hR3.blk.cell (i := 4) rfl) | (go_at_call 75; refine (firstFit_none w0 w3 hB3 _ rs HLR.out HOK.out _ ND hL3 HGR.out HFR.out).mono ?_; rintro e w4 ⟨rfl, hb4⟩; have hR4 := hR3.on hb4; have hX4 := hX3.on hb4 hX3.lt; have hB4 := hB3.trans (hb4.mono hB3.size); have hK4 := hK3.trans (K7.of hb4 hB3.size); have hN4 := hN3.on (K7.of hb4 hB3.size); have y1 := hX4.cell (i := 1) rfl) | (go_at_call 49; refine (done_any _ w4 p _ _ _ _ _ _ _ _ _ _ hR4 ar (by simp) har).mono ?_; rintro e w5 ⟨rfl, ⟨oa4, oc4, va4, vc4, ho4, hv4, hR5⟩, hk5, hu5, hz5⟩; injection ho4 with e1 e2 e3; injection hv4 with e4 e5 e6; subst e1; subst e3; subst e4; subst e6; have hN5 := hN4.on hk5; have hK5 := hK4.trans hk5; have hB5 := hB4; have hX5 : Blk w5 w.heap.size #[.string cnm, .int .i64 (ar : Nat)] 49 := by { show w5.heap[w.heap.size]? = _; rw [hu5 _ (by omega)]; exact hX4 }; have y0 := hX5.cell (i := 0) rfl) | (go_at_call 74; refine (join_one _ w5 p _ _ _ _ _ _ _ _ _ _ hR5 cnm HHD.out HKD.out).mono ?_; rintro e w6 ⟨rfl, ⟨hv6, hR6⟩, hk6⟩; have hN6 := hN5.on hk6; have hK6 := hK5.trans hk6) | (go_at_call 50; refine (put_run _ w6 p _ _ _ _ _ _ _ _ _ _ hR6 _ ND hN6 (val_lim (by rw [List.length_take]; omega))).mono ?_; rintro e w7 ⟨rfl, ⟨vv7, hR7⟩, hk7, _, _⟩; have hK7 := hK6.trans hk7))
  go_ret
  refine ⟨hK7, rfl, ?_⟩
  rw [take_last, HLFT.out, ← HND.out] at hR7
  exact ⟨_, _, _, hR7⟩

set_option maxHeartbeats 4000000 in
theorem make_dry (w0 w : World) (hb : Below w0.heap.size w0 w) (p : Nat) (ov vv hv rv tv : Value) (stk : List Opr) (vals : List (List Cl)) (st : Int) (heads : List ByteArray) (fu : Int) (c : Cl) (h : Rn w0.heap.size w p ov vv hv rv tv (stk.reverse ++ [⟨1, c, []⟩]) vals st heads fu) (hrt : Rt ⟨⟨1, c, []⟩ :: stk, vals, st, heads, fu⟩) (rs : List Rl) (hr : LiesR w0 rv rs) (hok : RsOk rs) (tb : Tb) (htb : TbOk tb) (hask : AskAt w0 tv tb) (hst : -9223372036854775808 ≤ st ∧ st ≤ 9223372036854775807) (hfu : -9223372036854775808 ≤ fu ∧ fu ≤ 9223372036854775807) (h64 : ¬ 64 < (node c vals).length) (htn : tb (node c vals) = none) (R : List Cl) (bs : List Bd) (hfr : firstR rs (node c vals) = some (R, bs)) (hf0 : fu ≤ 0) :
    Calls Try.prog 51 #[.pointer (some ⟨p, 0, none⟩), .agg #[.string c.nm, .int .i64 c.ar]] w fun e w' => Made w0.heap.size w p rv tv (stk.reverse ++ [⟨1, c, []⟩]) vals st heads fu (.stop 14) e w' := by
  obtain ⟨hops, hvals, hcnt, hhds, hlim⟩ := hrt
  simp only at hops hvals hcnt hhds hlim
  obtain ⟨hk1, h0, h4⟩ : kind c.nm.data.toList = 1 ∧ 0 ≤ c.ar ∧ c.ar ≤ 4 := by
    rcases hops ⟨1, c, []⟩ (by simp) with ⟨_, a, b, d, _⟩ | ⟨e, _⟩
    · exact ⟨a, b, d⟩
    · exact absurd e (show (1 : Int) ≠ 2 by decide)
  obtain ⟨har, _⟩ := cnt_ar hcnt
  simp only at har
  have hn8 : c.nm.size ≤ 8 := (kind_one hk1).1
  have hvl : vals.length ≤ 7539508500001 := by
    have := cnt_le _ _ hops hcnt
    simp only [List.length_cons] at this hlim
    omega
  have hsl : stk.length ≤ 2513169500000 := by simp only [List.length_cons] at hlim; omega
  have hb0 : Below w.heap.size w (w.alloc (.cells #[.string c.nm, .int .i64 c.ar] 49)) := (Below.refl _ w).alloc (Nat.le_refl _) _
  have hnode := node_any w0.heap.size _ p ov vv hv rv tv _ vals st heads fu (h.on hb0) c h0 h4 hn8 har hvals
  have HR1 : Hid (Rn w0.heap.size (w.alloc (.cells #[.string c.nm, .int .i64 c.ar] 49)) p ov vv hv rv tv (stk.reverse ++ [⟨1, c, []⟩]) vals st heads fu) := h.on hb0
  have HX1 : Hid (Blk (w.alloc (.cells #[.string c.nm, .int .i64 c.ar] 49)) w.heap.size #[.string c.nm, .int .i64 c.ar] 49) := Blk.made _ _ _
  have HB1 : Hid (Below w0.heap.size w0 (w.alloc (.cells #[.string c.nm, .int .i64 c.ar] 49))) := hb.trans (hb0.mono hb.size)
  have HK1 : Hid (K7 w0.heap.size w (w.alloc (.cells #[.string c.nm, .int .i64 c.ar] 49))) := K7.of hb0 hb.size
  have HHD : Hid (Hds heads) := hhds
  have HVA : Hid (∀ v ∈ vals, grd v = true) := hvals
  have HLR : Hid (LiesR w0 rv rs) := hr
  have HOK : Hid (RsOk rs) := hok
  have HTB : Hid (TbOk tb) := htb
  have hlow := h.low
  have HKD : Hid (kind c.nm.data.toList = 1) := hk1
  obtain ⟨oa, oc, hov⟩ := h.ops.form
  obtain ⟨va, vc, hvv⟩ := h.vals.form
  subst hov
  subst hvv
  obtain ⟨ra, rc, hrv, _⟩ := hr
  subst hrv
  obtain ⟨ND, hND⟩ : ∃ ND, node c vals = ND := ⟨_, rfl⟩
  have HND : Hid (node c vals = ND) := hND
  rw [hND] at hnode
  have HASK : Hid (AskAt w0 tv tb) := hask
  have HLFT : Hid (vals.take (vals.length - c.ar.toNat) = left c vals) := rfl
  have h64' : ¬ 64 < ND.length := by rw [← hND]; exact h64
  have h64i : ¬ (64 : Int) < (ND.length : Int) := by omega
  have hgrd : grd ND = true := by rw [← hND]; exact node_grd hk1 h0 h4 hvals har (by omega)
  have HGR : Hid (grd ND = true) := hgrd
  have hfine : Fine ND := fine_check (grd_iff.1 hgrd).1
  have HFI : Hid (Fine ND) := hfine
  rw [hND] at htn hfr
  have HTN : Hid (tb ND = none) := htn
  have HFR : Hid (firstR rs ND = some (R, bs)) := hfr
  have hpw : p < w.heap.size := h.blk.lt
  obtain ⟨ar, har2⟩ : ∃ ar : Nat, c.ar = (ar : Int) := ⟨c.ar.toNat, by omega⟩
  obtain ⟨cnm, car⟩ := c
  simp only at har2
  subst har2
  simp only [Int.toNat_natCast] at har HLFT
  clear h hok htb hask hops hvals hcnt hhds hlim hb0 hb hgrd hfine htn hfr
  go_enter Try.func51, Try.ntmps51
  go_wp2_with (first | (go_at_call 72; refine hnode.mono ?_; rintro e w2 ⟨nv, rfl, ho2, hb2⟩; have hO2 := ho2; obtain ⟨na, nc, hnv, _⟩ := own_cells ho2; subst hnv; have hR2 := HR1.out.on hb2; have hX2 := HX1.out.on hb2 HX1.out.lt; have hB2 := HB1.out.trans (hb2.mono HB1.out.size); have hK2 := HK1.out.trans (K7.of hb2 HB1.out.size); have d5 := hR2.blk.cell (i := 6) rfl) | (go_at_call 73; refine (HASK.out w2 _ ND hB2 (Owns.lies hO2 HFI.out) HGR.out).mono ?_; rw [HTN.out]; rintro e w3 ⟨he3, hb3⟩; replace he3 : e = Ending.returned (.tuple #[.slice none 0 0, .slice none 0 0, .bool false]) := he3; subst he3; have hR3 := hR2.on hb3; have hX3 := hX2.on hb3 hX2.lt; have hB3 := hB2.trans (hb3.mono hB2.size); have hK3 := hK2.trans (K7.of hb3 hB2.size); have hL3 := (Owns.lies hO2 HFI.out).on hb3; have hN3 : VL w0.heap.size w3 (.slice na ND.length nc) ND := (VL.own hO2 HFI.out).on (K7.of hb3 hB2.size); have d4 := hR3.blk.cell (i := 4) rfl) | (go_at_call 75; refine (firstFit_some w0 w3 hB3 _ rs HLR.out HOK.out _ ND hL3 HGR.out HFR.out).mono ?_; rintro e w4 ⟨fv4, bv4, rfl, hF4, hW4, hb4⟩; have hF4' := hF4; obtain ⟨fa, fc, hfv, _⟩ := hF4'; subst hfv; have hW4' := hW4; obtain ⟨ba, bc, hbv, _⟩ := hW4'.form; subst hbv; have hR4 := hR3.on hb4; have hX4 := hX3.on hb4 hX3.lt; have hB4 := hB3.trans (hb4.mono hB3.size); have hK4 := hK3.trans (K7.of hb4 hB3.size); have hN4 := hN3.on (K7.of hb4 hB3.size); have y1 := hX4.cell (i := 1) rfl; have d6 := hR4.blk.cell (i := 5) rfl))
  go_ret
  exact ⟨hK4, rfl, _, _, _, hR4⟩

theorem Rn.fuel {B : Nat} {w : World} {p : Nat} {ov vv hv rv tv : Value} {ops : List Opr} {vals : List (List Cl)} {st : Int} {heads : List ByteArray} {fu : Int} (h : Rn B w p ov vv hv rv tv ops vals st heads fu) (fu' : Int) :
    Rn B (w.setCell ⟨p, 5, none⟩ (.int .i64 fu')) p ov vv hv rv tv ops vals st heads fu' ∧ K7 B w (w.setCell ⟨p, 5, none⟩ (.int .i64 fu')) :=
  Rn.set h 5 _ rfl h.ops h.vals h.heads
theorem Rn.steps {B : Nat} {w : World} {p : Nat} {ov vv hv rv tv : Value} {ops : List Opr} {vals : List (List Cl)} {st : Int} {heads : List ByteArray} {fu : Int} (h : Rn B w p ov vv hv rv tv ops vals st heads fu) (st' : Int) :
    Rn B (w.setCell ⟨p, 2, none⟩ (.int .i64 st')) p ov vv hv rv tv ops vals st' heads fu ∧ K7 B w (w.setCell ⟨p, 2, none⟩ (.int .i64 st')) :=
  Rn.set h 2 _ rfl h.ops h.vals h.heads

theorem step_parts {rs : List Rl} (hok : RsOk rs) {T : List Cl} (hT : grd T = true) {R : List Cl} {bs : List Bd} (h : firstR rs T = some (R, bs)) : check R = 0 ∧ R.length ≤ 8 ∧ Good bs := by
  obtain ⟨r, hr, e1, e2⟩ := firstR_some h
  simp only at e1 e2
  subst e1
  obtain ⟨_, _, hR, h8, _⟩ := chk_zero (hok r hr)
  exact ⟨hR, h8.2, fun b hb => ⟨(grd_iff.1 (bind_grd e2 hT b hb).1).1, (bind_grd e2 hT b hb).2⟩⟩

theorem flatO_len : ∀ l : List Ow, (flatO l).length = l.length * 4
  | [] => rfl
  | o :: r => by simp only [flatO, List.length_cons, flatO_len r]; omega
theorem OpsV.open {V : Value → List Cl → Prop} {w : World} {B : Nat} {v : Value} {ops : List Opr} (h : OpsV V w B v ops) (hp : 0 < ops.length) :
    ∃ (os : List Ow) (g cap : Nat), v = .slice (some ⟨g, 0, none⟩) ops.length cap ∧ os.length = ops.length ∧ (∀ j u, (flatO os)[j]? = some u → w.cell? ((⟨g, 0, none⟩ : Addr).add j) = some u) ∧ (∀ u ∈ flatO os, u.oneCell' = true) ∧ ∀ (i : Nat) o, ops[i]? = some o → ∃ x, os[i]? = some ⟨o.k, o.c, x⟩ ∧ x.oneCell' = true ∧ V x o.v := by
  obtain ⟨os, h0, h1, h2⟩ := h
  obtain ⟨a, cap, hv, _, _, hc⟩ := own_cells h1
  have h4 : 0 < (flatO os).length := by rw [flatO_len]; omega
  obtain ⟨g, ha, _⟩ := hc 0 _ (List.getElem?_eq_getElem h4)
  subst ha
  refine ⟨os, g, cap, hv, h0, fun j u hj => ?_, flatO_one os (fun o ho => ?_), h2⟩
  · obtain ⟨g', e, _, _, hh⟩ := hc j u hj
    cases e
    simp only [Addr.add, Nat.zero_add]
    split
    · rename_i h0; rw [h0] at hh; exact hh
    · exact hh
  · obtain ⟨i, hi⟩ := List.getElem?_of_mem ho
    have hil := (List.getElem?_eq_some_iff.1 hi).1
    obtain ⟨x, hx, h1x, _⟩ := h2 i ops[i] (List.getElem?_eq_getElem (by omega))
    rw [hi] at hx
    cases hx
    exact h1x
theorem Rn.appended {B : Nat} {w w' : World} {p : Nat} {ov vv hv rv tv v' : Value} {ops nops : List Opr} {vals : List (List Cl)} {st : Int} {heads : List ByteArray} {fu : Int} (h : Rn B w p ov vv hv rv tv ops vals st heads fu) {os ns : List Ow} (hol : os.length = ops.length) (hrow : w.ownsRow B 51 4 ov ops.length (flatO os)) (hel : ∀ (i : Nat) o, ops[i]? = some o → ∃ x, os[i]? = some ⟨o.k, o.c, x⟩ ∧ x.oneCell' = true ∧ VL B w x o.v)
    (hnl : ns.length = nops.length) (hnew : ∀ (i : Nat) o, nops[i]? = some o → ∃ x, ns[i]? = some ⟨o.k, o.c, x⟩ ∧ x.oneCell' = true ∧ VL B w x o.v) (hown : w'.ownsRow B 51 4 v' (ops.length + nops.length) (flatO os ++ flatO ns)) (hg : w.grownBy w' ov.ownBlock) :
    Blk w' p #[ov, vv, .int .i64 st, hv, rv, .int .i64 fu, tv] 68 ∧ Rn B (w'.setCell ⟨p, 0, none⟩ v') p v' vv hv rv tv (ops ++ nops) vals st heads fu ∧ K7 B w (w'.setCell ⟨p, 0, none⟩ v') := by
  have hBw : B ≤ w.heap.size := Nat.le_trans h.low (Nat.le_of_lt h.blk.lt)
  have hk1 : K7 B w w' := K7.row hrow (by decide) hBw hg
  have hb6 : Blk w' p #[ov, vv, .int .i64 st, hv, rv, .int .i64 fu, tv] 68 := blk_row h.blk hrow (by decide) hg
  have ho6 : OpsV (VL B w') w' B v' (ops ++ nops) := OpsV.more hol hel hnl (fun i o hi => by
    obtain ⟨x, q1, q2, q3⟩ := hnew i o hi
    exact ⟨x, q1, q2, q3.on hk1⟩) hown (fun x l hx => hx.on hk1)
  have hh6 : OwnsS w' B hv heads := own_apart7 h.heads hrow (by decide) hg
  have hv6 : ValsV (VL B w') w' B vv vals := h.vals.apartK hrow (by decide) hk1 hg
  obtain ⟨hR7, hk7⟩ := Rn.put hb6 h.low 0 v' (ov' := v') (vv' := vv) (hv' := hv) (st' := st) (fu' := fu) rfl ho6 hv6 hh6
  exact ⟨hb6, hR7, hk1.trans hk7⟩

set_option maxHeartbeats 4000000 in
theorem make_step (w0 w : World) (hb : Below w0.heap.size w0 w) (p : Nat) (ov vv hv rv tv : Value) (stk : List Opr) (vals : List (List Cl)) (st : Int) (heads : List ByteArray) (fu : Int) (c : Cl) (h : Rn w0.heap.size w p ov vv hv rv tv (stk.reverse ++ [⟨1, c, []⟩]) vals st heads fu) (hrt : Rt ⟨⟨1, c, []⟩ :: stk, vals, st, heads, fu⟩) (rs : List Rl) (hr : LiesR w0 rv rs) (hok : RsOk rs) (tb : Tb) (htb : TbOk tb) (hask : AskAt w0 tv tb) (hst : -9223372036854775808 ≤ st ∧ st ≤ 9223372036854775807) (hfu : -9223372036854775808 ≤ fu ∧ fu ≤ 9223372036854775807) (h64 : ¬ 64 < (node c vals).length) (htn : tb (node c vals) = none) (R : List Cl) (bs : List Bd) (hfr : firstR rs (node c vals) = some (R, bs)) (hf0 : ¬ fu ≤ 0) :
    Calls Try.prog 51 #[.pointer (some ⟨p, 0, none⟩), .agg #[.string c.nm, .int .i64 c.ar]] w fun e w' => Made w0.heap.size w p rv tv (stk.reverse ++ [⟨1, c, []⟩]) vals st heads fu (.go ⟨todo bs R ++ stk, left c vals, inc st, jn1 heads c.nm, fu - 1⟩) e w' := by
  obtain ⟨hops, hvals, hcnt, hhds, hlim⟩ := hrt
  simp only at hops hvals hcnt hhds hlim
  obtain ⟨hk1, h0, h4⟩ : kind c.nm.data.toList = 1 ∧ 0 ≤ c.ar ∧ c.ar ≤ 4 := by
    rcases hops ⟨1, c, []⟩ (by simp) with ⟨_, a, b, d, _⟩ | ⟨e, _⟩
    · exact ⟨a, b, d⟩
    · exact absurd e (show (1 : Int) ≠ 2 by decide)
  obtain ⟨har, _⟩ := cnt_ar hcnt
  simp only at har
  have hn8 : c.nm.size ≤ 8 := (kind_one hk1).1
  have hvl : vals.length ≤ 7539508500001 := by
    have := cnt_le _ _ hops hcnt
    simp only [List.length_cons] at this hlim
    omega
  have hsl : stk.length ≤ 2513169500000 := by simp only [List.length_cons] at hlim; omega
  have hb0 : Below w.heap.size w (w.alloc (.cells #[.string c.nm, .int .i64 c.ar] 49)) := (Below.refl _ w).alloc (Nat.le_refl _) _
  have hnode := node_any w0.heap.size _ p ov vv hv rv tv _ vals st heads fu (h.on hb0) c h0 h4 hn8 har hvals
  have HR1 : Hid (Rn w0.heap.size (w.alloc (.cells #[.string c.nm, .int .i64 c.ar] 49)) p ov vv hv rv tv (stk.reverse ++ [⟨1, c, []⟩]) vals st heads fu) := h.on hb0
  have HX1 : Hid (Blk (w.alloc (.cells #[.string c.nm, .int .i64 c.ar] 49)) w.heap.size #[.string c.nm, .int .i64 c.ar] 49) := Blk.made _ _ _
  have HB1 : Hid (Below w0.heap.size w0 (w.alloc (.cells #[.string c.nm, .int .i64 c.ar] 49))) := hb.trans (hb0.mono hb.size)
  have HK1 : Hid (K7 w0.heap.size w (w.alloc (.cells #[.string c.nm, .int .i64 c.ar] 49))) := K7.of hb0 hb.size
  have HHD : Hid (Hds heads) := hhds
  have HVA : Hid (∀ v ∈ vals, grd v = true) := hvals
  have HLR : Hid (LiesR w0 rv rs) := hr
  have HOK : Hid (RsOk rs) := hok
  have HTB : Hid (TbOk tb) := htb
  have hlow := h.low
  have HKD : Hid (kind c.nm.data.toList = 1) := hk1
  obtain ⟨oa, oc, hov⟩ := h.ops.form
  obtain ⟨va, vc, hvv⟩ := h.vals.form
  subst hov
  subst hvv
  obtain ⟨ra, rc, hrv, _⟩ := hr
  subst hrv
  obtain ⟨ND, hND⟩ : ∃ ND, node c vals = ND := ⟨_, rfl⟩
  have HND : Hid (node c vals = ND) := hND
  rw [hND] at hnode
  have HASK : Hid (AskAt w0 tv tb) := hask
  have HLFT : Hid (vals.take (vals.length - c.ar.toNat) = left c vals) := rfl
  have h64' : ¬ 64 < ND.length := by rw [← hND]; exact h64
  have h64i : ¬ (64 : Int) < (ND.length : Int) := by omega
  have hgrd : grd ND = true := by rw [← hND]; exact node_grd hk1 h0 h4 hvals har (by omega)
  have HGR : Hid (grd ND = true) := hgrd
  have hfine : Fine ND := fine_check (grd_iff.1 hgrd).1
  have HFI : Hid (Fine ND) := hfine
  rw [hND] at htn hfr
  have HTN : Hid (tb ND = none) := htn
  have HFR : Hid (firstR rs ND = some (R, bs)) := hfr
  have HRR : Hid (check R = 0 ∧ R.length ≤ 8 ∧ Good bs) := step_parts hok hgrd hfr
  have HKW : Hid (K7 w0.heap.size w0 w) := K7.of hb (Nat.le_refl _)
  have hpw : p < w.heap.size := h.blk.lt
  obtain ⟨ar, har2⟩ : ∃ ar : Nat, c.ar = (ar : Int) := ⟨c.ar.toNat, by omega⟩
  obtain ⟨cnm, car⟩ := c
  simp only at har2
  subst har2
  simp only [Int.toNat_natCast] at har HLFT
  clear h hok htb hask hops hvals hcnt hhds hlim hb0 hb hgrd hfine htn hfr
  go_enter Try.func51, Try.ntmps51
  go_wp2_with (first | (go_at_call 72; refine hnode.mono ?_; rintro e w2 ⟨nv, rfl, ho2, hb2⟩; have hO2 := ho2; obtain ⟨na, nc, hnv, _⟩ := own_cells ho2; subst hnv; have hR2 := HR1.out.on hb2; have hX2 := HX1.out.on hb2 HX1.out.lt; have hB2 := HB1.out.trans (hb2.mono HB1.out.size); have hK2 := HK1.out.trans (K7.of hb2 HB1.out.size); have d5 := hR2.blk.cell (i := 6) rfl) | (go_at_call 73; refine (HASK.out w2 _ ND hB2 (Owns.lies hO2 HFI.out) HGR.out).mono ?_; rw [HTN.out]; rintro e w3 ⟨he3, hb3⟩; replace he3 : e = Ending.returned (.tuple #[.slice none 0 0, .slice none 0 0, .bool false]) := he3; subst he3; have hR3 := hR2.on hb3; have hX3 := hX2.on hb3 hX2.lt; have hB3 := hB2.trans (hb3.mono hB2.size); have hK3 := hK2.trans (K7.of hb3 hB2.size); have hL3 := (Owns.lies hO2 HFI.out).on hb3; have hN3 : VL w0.heap.size w3 (.slice na ND.length nc) ND := (VL.own hO2 HFI.out).on (K7.of hb3 hB2.size); have d4 := hR3.blk.cell (i := 4) rfl) | (go_at_call 75; refine (firstFit_some w0 w3 hB3 _ rs HLR.out HOK.out _ ND hL3 HGR.out HFR.out).mono ?_; rintro e w4 ⟨fv4, bv4, rfl, hF4, hW4, hb4⟩; have hF4' := hF4; obtain ⟨fa, fc, hfv, _⟩ := hF4'; subst hfv; have hW4' := hW4; obtain ⟨ba, bc, hbv, _⟩ := hW4'.form; subst hbv; have hR4 := hR3.on hb4; have hX4 := hX3.on hb4 hX3.lt; have hB4 := hB3.trans (hb4.mono hB3.size); have hK4 := hK3.trans (K7.of hb4 hB3.size); have hN4 := hN3.on (K7.of hb4 hB3.size); have y1 := hX4.cell (i := 1) rfl; have d6 := hR4.blk.cell (i := 5) rfl) | (go_at_call 49; refine (done_any _ w4 p _ _ _ _ _ _ _ _ _ _ hR4 ar (by simp) har).mono ?_; rintro e w5 ⟨rfl, ⟨oa4, oc4, va4, vc4, ho4, hv4, hR5⟩, hk5, hu5, hz5⟩; injection ho4 with e1 e2 e3; injection hv4 with e4 e5 e6; subst e1; subst e3; subst e4; subst e6; have hN5 := hN4.on hk5; have hK5 := hK4.trans hk5; have hB5 := hB4; have hX5 : Blk w5 w.heap.size #[.string cnm, .int .i64 (ar : Nat)] 49 := by { show w5.heap[w.heap.size]? = _; rw [hu5 _ (by omega)]; exact hX4 }; have y0 := hX5.cell (i := 0) rfl) | (go_at_call 74; refine (join_one _ w5 p _ _ _ _ _ _ _ _ _ _ hR5 cnm HHD.out HKD.out).mono ?_; rintro e w6 ⟨rfl, ⟨hv6, hR6⟩, hk6⟩; have hK6 := hK5.trans hk6; obtain ⟨ha6, hc6, hhv6⟩ := OwnsS.form hR6.heads; subst hhv6; obtain ⟨hR7, hk7⟩ := hR6.fuel (fu - 1); obtain ⟨hR8, hk8⟩ := hR7.steps (wrap64 (st + 1)); have HR8 := hR8; have hK8 := (hK6.trans hk7).trans hk8; have z1 := hR6.blk.cell (i := 5) rfl; have z2 := hR6.blk.free 5; have z3 := hR7.blk.cell (i := 2) rfl; have z4 := hR7.blk.free 2))
  obtain ⟨SR, hSR⟩ : ∃ SR, stk.reverse = SR := ⟨_, rfl⟩
  have hSRl : SR.length ≤ 2513169500000 := by rw [← hSR, List.length_reverse]; exact hsl
  have HSR : Hid (stk.reverse = SR) := hSR
  obtain ⟨w8, hw8⟩ : ∃ w8, ((w6.setCell ⟨p, 5, none⟩ (.int .i64 (fu - 1))).setCell ⟨p, 2, none⟩ (.int .i64 (wrap64 (st + 1)))).drew = w8 := ⟨_, rfl⟩
  have HR9 : Rn w0.heap.size w8 p (.slice oa SR.length oc) (.slice va (vals.length - ar) vc) (.slice ha6 (jn1 heads cnm).length hc6) (.slice ra rs.length rc) tv SR (vals.take (vals.length - ar)) (wrap64 (st + 1)) (jn1 heads cnm) (fu - 1) := by
    rw [take_last] at hR8
    rw [← hw8, ← hSR]
    have := hR8.on (Below.refl _ _).drew
    simpa using this
  have HK9 : Hid (K7 w0.heap.size w w8) := by
    rw [← hw8]
    exact hK8.trans ⟨(Below.refl _ _).drew, fun _ _ _ h _ => h⟩
  have hW9 : OwnsB w8 w3.heap.size (.slice ba bs.length bc) bs := by
    rw [← hw8]
    exact ((hW4.k7 (((hk5.trans hk6).trans hk7).trans hk8)).on (Below.refl _ _).drew)
  obtain ⟨hcR, hRl, hGb⟩ : check R = 0 ∧ R.length ≤ 8 ∧ Good bs := HRR.out
  have hV9 : VL w0.heap.size w8 (.slice fa R.length fc) R := (VL.old hF4 (Nat.le_refl _)).on (HKW.out.trans HK9.out)
  have htd := toDo_any w0.heap.size w8.heap.size (Nat.le_trans hlow (Nat.le_of_lt HR9.blk.lt)) w8 _ R hV9 hcR _ bs _ hW9 hGb (Nat.le_refl _)
  have HRX : Hid (Rn w0.heap.size w8 p (.slice oa SR.length oc) (.slice va (vals.length - ar) vc) (.slice ha6 (jn1 heads cnm).length hc6) (.slice ra rs.length rc) tv SR (vals.take (vals.length - ar)) (wrap64 (st + 1)) (jn1 heads cnm) (fu - 1)) := HR9
  have c0 : w8.cell? ⟨p, 0, none⟩ = some (.slice oa SR.length oc) := HR9.blk.cell rfl
  clear hR8 hK8 hk8 hR7 hk7 z1 z2 z3 z4 hR6 hK6 hk6 hR5 hK5 hk5 hu5 hz5 hR4 hK4 hW4 hW4' HR8 hN4 hN5 hX5 hX4 hX3 hB4 hB3 hb4 hK3 hR3 hL3 hN3 hR2 hX2 hB2 hK2 hO2 hb2 hb3
  refine wp_region_m (fun w' => w'.cell? ⟨p, 0, none⟩ = some (.slice oa SR.length oc)) 10 (by kernel_rfl) ?_
  rw [hw8]
  clear hw8
  obtain ⟨DR, hDR⟩ : ∃ DR, (todo bs R).reverse = DR := ⟨_, rfl⟩
  have hDl : DR.length ≤ 8 := by rw [← hDR, List.length_reverse, todo_len]; exact hRl
  have hDp : 0 < DR.length := by
    rw [← hDR, List.length_reverse, todo_len]
    obtain ⟨d, T', e⟩ := check_cons hcR
    rw [e]; simp
  rw [hDR] at htd
  have HDR : Hid ((todo bs R).reverse = DR) := hDR
  obtain ⟨i0, hi, hz0, hz1, hz2⟩ := info_parts info71
  clear hDR hSR
  refine wpAnyM_pick (i := 0) (some 83) (v := ?vz1) rfl rfl (by kernel_rfl) (by kernel_rfl) (by kernel_rfl) (by kernel_rfl) (fun _ _ _ h => h) (Or.inl ⟨by rfl, ?hz1⟩) c0 ?rz1
  case hz1 => intro w hSw; go_simp; try with_reducible rfl
  try simp only [Act.put, List.setIfInBounds_toArray, List.set_cons_zero, List.set_cons_succ]
  refine wpAnyM_pick (i := 1) (some 84) (v := ?vz2) rfl rfl (by kernel_rfl) (by kernel_rfl) (by kernel_rfl) (by kernel_rfl) (fun _ _ _ h => h) (Or.inl ⟨by rfl, ?hz2⟩) c0 ?rz2
  case hz2 => intro w hSw; go_simp; try with_reducible rfl
  try simp only [Act.put, List.setIfInBounds_toArray, List.set_cons_zero, List.set_cons_succ]
  refine wpAnyM_pick (i := 2) (some 85) (v := ?vz3) rfl rfl (by kernel_rfl) (by kernel_rfl) (by kernel_rfl) (by kernel_rfl) (fun _ _ _ h => h) (Or.inl ⟨by rfl, ?hz3⟩) c0 ?rz3
  case hz3 => intro w hSw; go_simp; try with_reducible rfl
  try simp only [Act.put, List.setIfInBounds_toArray, List.set_cons_zero, List.set_cons_succ]
  refine wpAnyM_pick (i := 3) (some 86) (v := ?vz4) rfl rfl (by kernel_rfl) (by kernel_rfl) (by kernel_rfl) (by kernel_rfl) (fun _ _ _ h => h) (Or.inl ⟨by rfl, ?hz4⟩) c0 ?rz4
  case hz4 => intro w hSw; go_simp; try with_reducible rfl
  try simp only [Act.put, List.setIfInBounds_toArray, List.set_cons_zero, List.set_cons_succ]
  refine wpAnyM_pick (i := 4) (some 87) (v := ?vz5) rfl rfl (by kernel_rfl) (by kernel_rfl) (by kernel_rfl) (by kernel_rfl) (fun _ _ _ h => h) (Or.inl ⟨by rfl, ?hz5⟩) c0 ?rz5
  case hz5 => intro w hSw; go_simp; try with_reducible rfl
  try simp only [Act.put, List.setIfInBounds_toArray, List.set_cons_zero, List.set_cons_succ]
  refine wpAnyM_pick (i := 5) (some 88) (v := ?vz6) rfl rfl (by kernel_rfl) (by kernel_rfl) (by kernel_rfl) (by kernel_rfl) (fun _ _ _ h => h) (Or.inl ⟨by rfl, ?hz6⟩) c0 ?rz6
  case hz6 => intro w hSw; go_simp; try with_reducible rfl
  try simp only [Act.put, List.setIfInBounds_toArray, List.set_cons_zero, List.set_cons_succ]
  refine wpAnyM_pick (i := 6) (some 89) (v := ?vz7) rfl rfl (by kernel_rfl) (by kernel_rfl) (by kernel_rfl) (by kernel_rfl) (fun _ _ _ h => h) (Or.inl ⟨by rfl, ?hz7⟩) c0 ?rz7
  case hz7 => intro w hSw; go_simp; try with_reducible rfl
  try simp only [Act.put, List.setIfInBounds_toArray, List.set_cons_zero, List.set_cons_succ]
  refine wpAnyM_pick (i := 7) (some 90) (v := ?vz8) rfl rfl (by kernel_rfl) (by kernel_rfl) (by kernel_rfl) (by kernel_rfl) (fun _ _ _ h => h) (Or.inl ⟨by rfl, ?hz8⟩) c0 ?rz8
  case hz8 => intro w hSw; go_simp; try with_reducible rfl
  try simp only [Act.put, List.setIfInBounds_toArray, List.set_cons_zero, List.set_cons_succ]
  refine wpAnyM_one (i := 8) (by kernel_rfl) rfl (fun K hK => ?_)
  go_simp
  go_at_call 21
  refine htd.mono ?_
  rintro e w9 ⟨tv9, rfl, ht9, hk9⟩
  have hR9 := HRX.out.on hk9.low
  obtain ⟨ns, g, c9, hv9, hnl, hnc, hn1, hnel⟩ := ht9.open hDp
  subst hv9
  obtain ⟨os, hol, hrow, hel⟩ := hR9.ops
  go_wp2_with fail
  refine hK.out _ _ (fun _ => hR9.blk.cell rfl) ?_
  clear hK K
  try simp only [Act.put, List.setIfInBounds_toArray, List.set_cons_zero, List.set_cons_succ]
  refine wpAnyM_one (i := 9) (by kernel_rfl) rfl (fun K hK => ?_)
  simp only [List.getElem_toArray, List.getElem_cons_succ, List.getElem_cons_zero]
  rw [if_pos (by rfl)]
  refine wp_append_own_wide _ (.tmp 88) (.tmp 91) 37 rfl w0.heap.size 51 i0 (.agg #[.int .i64 0, .string ⟨#[]⟩, .int .i64 0, .slice none 0 0]) 4 56 Try.underlying37 hi hz0 hz1 hz2 rfl (by decide) (.slice oa SR.length oc) SR.length (flatO os) rfl hrow ⟨g, 0, none⟩ DR.length c9 (flatO ns) rfl ?c1 hnc hn1 ?c2 ?c3 ?c4 ?_
  case c1 => rw [flatO_len, hnl]
  case c2 => unfold maxLen; omega
  case c3 => exact op_lim (by omega)
  case c4 => have := hR9.blk.lt; omega
  intro v' w10 hown' hgrow _
  obtain ⟨hb10, hR11, hk11⟩ := hR9.appended hol hrow hel hnl hnel hown' hgrow
  obtain ⟨na9, nc9, hnv9, _⟩ := own_cells hown'
  subst hnv9
  have f0 := hb10.free 0
  have f1 := hb10.cell (i := 0) rfl
  have HZ : Hid (K7 w0.heap.size w (w10.setCell ⟨p, 0, none⟩ (.slice na9 (SR.length + DR.length) nc9)) ∧ Rn w0.heap.size (w10.setCell ⟨p, 0, none⟩ (.slice na9 (SR.length + DR.length) nc9)) p (.slice na9 (SR.length + DR.length) nc9) (.slice va (vals.length - ar) vc) (.slice ha6 (jn1 heads cnm).length hc6) (.slice ra rs.length rc) tv (SR ++ DR) (vals.take (vals.length - ar)) (wrap64 (st + 1)) (jn1 heads cnm) (fu - 1)) := ⟨(HK9.out.trans (hk9.k7.base (Nat.le_trans hlow (Nat.le_of_lt HRX.out.blk.lt)))).trans hk11, hR11⟩
  clear hR11 hk11 hown' hgrow hR9 hrow hel hnel hnc hn1 hk9 ht9 htd
  refine hK.out _ _ (fun _ => f1) ?_
  clear hK K
  try simp only [Act.put, List.setIfInBounds_toArray, List.set_cons_zero, List.set_cons_succ]
  refine wpAnyM_late (i := 10) (some 93) (v := ?vz9) rfl rfl (by kernel_rfl) (by kernel_rfl) (by kernel_rfl) (by kernel_rfl) (fun _ _ _ h => h) (Or.inl ⟨by rfl, ?hz9⟩) ?rz9
  case hz9 => intro w hSw; go_simp; try with_reducible rfl
  try simp only [Act.put, List.setIfInBounds_toArray, List.set_cons_zero, List.set_cons_succ]
  refine wpAnyM_late (i := 11) (some 94) (v := ?vz10) rfl rfl (by kernel_rfl) (by kernel_rfl) (by kernel_rfl) (by kernel_rfl) (fun _ _ _ h => h) (Or.inl ⟨by rfl, ?hz10⟩) ?rz10
  case hz10 => intro w hSw; go_simp; try with_reducible rfl
  try simp only [Act.put, List.setIfInBounds_toArray, List.set_cons_zero, List.set_cons_succ]
  refine wpAnyM_late (i := 12) (some 95) (v := ?vz11) rfl rfl (by kernel_rfl) (by kernel_rfl) (by kernel_rfl) (by kernel_rfl) (fun _ _ _ h => h) (Or.inl ⟨by rfl, ?hz11⟩) ?rz11
  case hz11 => intro w hSw; go_simp; try with_reducible rfl
  try simp only [Act.put, List.setIfInBounds_toArray, List.set_cons_zero, List.set_cons_succ]
  refine wpAnyM_one (i := 13) (by kernel_rfl) rfl (fun K hK => ?_)
  go_simp
  refine hK.out _ _ (fun h => absurd h (by decide)) ?_
  clear hK K
  refine wpAnyM_done (by kernel_rfl) ?_ _
  try simp only [Act.put, List.setIfInBounds_toArray, List.set_cons_zero, List.set_cons_succ]
  go_wp2_with fail
  go_ret
  refine ⟨HZ.out.1, rfl, ?_⟩
  have hz := HZ.out.2
  have e : SR ++ DR = (todo bs R ++ stk).reverse := by rw [← HSR.out, ← HDR.out, List.reverse_append]
  rw [HLFT.out, e] at hz
  exact ⟨_, _, _, hz⟩

end Go.Proofs.Ytbdlokijednoiaa
