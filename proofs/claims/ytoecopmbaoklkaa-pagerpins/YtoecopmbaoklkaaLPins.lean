/-
  A page with a pin stays held, whatever else is loaded, until it is let go, and the disk is not read for it; no condition.
-/
import Derived.Test.YtoecopmbaoklkaaRows
import Derived.Test.YtoecopmbaoklkaaPn
import Derived.Test.YtoecopmbaoklkaaOa
import Derived.ProofKit
import Derived.OpenShut
import Derived.ShutString
import Derived.ChangeOld
import Derived.Below
import Derived.SizedLaws
import Derived.Lib.SmallJoins
namespace Go.Proofs.Ytoecopmbaoklkaa
open Go.ChangeShapes Go.WideShapes Go.ChangeAt Go.RowKit Go.Joins
open Go.ChangeMaps (open_string shut_string)
set_option linter.unusedVariables false
set_option linter.unusedSimpArgs false
set_option maxRecDepth 100000

set_option maxHeartbeats 4000000 in
theorem pagerPins_walk (r0 a0 : Int) (v2 : Value) (U : List Nat) (wf0 : (Lit.int .u8 r0).wf = true) (wf1 : (Lit.int .u8 a0).wf = true) (w : World) (hl : LiesU w v2 U) (hz : True) :
    Calls Try.prog 4 #[.int .u8 r0, .int .u8 a0, v2] w fun e w' => e = .returned (.bool true) ∧ Below w.heap.size w w' := by
  obtain ⟨b1, b2⟩ := bounds_u8 wf0
  obtain ⟨b3, b4⟩ := bounds_u8 wf1
  clear wf0 wf1 hz
  obtain ⟨va, vc, e1⟩ := hl.form
  subst e1
  have hlen := hl.len
  unfold maxLen at hlen
  have HL := hid hl
  obtain ⟨n, hn⟩ : ∃ n, U.length = n := ⟨_, rfl⟩
  have HN := hid hn
  rw [hn] at hlen ⊢
  rw [hn] at HL
  clear hl hn
  have hwk := wakes_any w
  -- the room and the page, as they are reckoned
  obtain ⟨r, hr1, hr2⟩ : ∃ r : Nat, (1 : Int) + r0 % 6 = (r : Int) ∧ (1 ≤ r ∧ r ≤ 1024) := ⟨(1 + r0 % 6).toNat, by omega, by omega⟩
  obtain ⟨one, ho1, ho2⟩ : ∃ one : Int, (37 : Int) + a0 % 32 = one ∧ (37 ≤ one ∧ one < 70) := ⟨_, rfl, by omega⟩
  have HNEW : Hid (∀ w1, Below w.heap.size w w1 → Calls Try.prog 8 #[.int .i64 70] w1 fun e w' => ∃ k, e = .returned (.tuple #[.pointer (some ⟨k, 0, none⟩), .int .i64 0]) ∧ Dz w w' k (nw 70)) := fun w1 hb => new_dz 70 (by decide) (by decide) w w1 hb
  have HPN : Hid (∀ w1 k, Dz w w1 k (nw 70) → Calls Try.prog 9 #[.pointer (some ⟨k, 0, none⟩), .int .i64 (r : Nat)] w1 fun e w' => ∃ q, e = .returned (.tuple #[.pointer (some ⟨q, 0, none⟩), .int .i64 0]) ∧ Px w w' k q (pw (nw 70) r) (.slice none 0 0) []) := fun w1 k h => pnew_dz r hr2 h
  obtain ⟨p1, p2⟩ := pin_start ho2 hr2
  have hok0 : (pw (nw 70) r).Ok 0 := pw_ok (nw_ok (by decide) (by decide)) hr2
  have HPI : Hid (∀ w1 k q, Px w w1 k q (pw (nw 70) r) (.slice none 0 0) [] → Calls Try.prog 15 #[.pointer (some ⟨q, 0, none⟩), .int .i64 one] w1 fun e w' => e = .returned (.int .i64 0) ∧ Px w w' k q ((pw (nw 70) r).pi one) (.slice none 0 0) []) := fun w1 k q h => by
    have := pin_px 0 (by decide) one hok0 h
    rw [p1] at this
    exact this
  have HP2 := hid p2
  clear p1 p2 hok0
  generalize (pw (nw 70) r).pi one = pp at *
  generalize pw (nw 70) r = p0 at *
  have HBL : Hid (∀ w1, Calls Try.prog 14 #[.string ⟨#[120]⟩] w1 fun e w' => e = .returned (.string (blk ⟨#[120]⟩)) ∧ Below w1.heap.size w1 w') := fun w1 => lBlock_any ⟨#[120]⟩ (by decide) w1
  have hbs := blk_size ⟨#[120]⟩
  generalize blk ⟨#[120]⟩ = s at *
  have HLD : Hid (∀ (p : Pp) (N : Nat) (w1 : World) (k q : Nat) (a : Int), N < 100000 → PinS one p N → Px w w1 k q p (.slice none 0 0) [] → Calls Try.prog 11 #[.pointer (some ⟨q, 0, none⟩), .int .i64 a] w1 fun e w' => e = .returned (.tuple #[.string (p.ldS a), .int .i64 (p.ldE a : Nat)]) ∧ Px w w' k q (p.ld a) (.slice none 0 0) []) := fun p N w1 k q a hN hp h => load_px N (by omega) a hp.ok h
  have HEND : Hid (∀ (p : Pp) (N : Nat), PinS one p N → (p.ldE one = 0 ∧ (p.ld one).rd = p.rd ∧ (p.ld one).stE one s = 10 ∧ (p.ld one).st one s = p.ld one ∧ (p.ld one).unE one = 0) ∧ (((p.ld one).un one).unE one = 8 ∧ ((p.ld one).un one).un one = (p.ld one).un one ∧ ((p.ld one).un one).stE one s = 0 ∧ (((p.ld one).un one).st one s).piE one = 19)) := fun p N h => pin_end ho2 h hbs
  have hoi : I64 one := by unfold I64; omega
  have HST : Hid (∀ (p : Pp) (N : Nat) (w1 : World) (k q : Nat), p.Ok N → Px w w1 k q p (.slice none 0 0) [] → Calls Try.prog 13 #[.pointer (some ⟨q, 0, none⟩), .int .i64 one, .string s] w1 fun e w' => e = .returned (.int .i64 (p.stE one s : Nat)) ∧ Px w w' k q (p.st one s) (.slice none 0 0) []) := fun p N w1 k q hp h => store_px N one hoi s (by rw [hbs]; decide) hp h
  have HUN : Hid (∀ (p : Pp) (N : Nat) (w1 : World) (k q : Nat), N < 100000 → p.Ok N → Px w w1 k q p (.slice none 0 0) [] → Calls Try.prog 16 #[.pointer (some ⟨q, 0, none⟩), .int .i64 one] w1 fun e w' => e = .returned (.int .i64 (p.unE one : Nat)) ∧ Px w w' k q (p.un one) (.slice none 0 0) []) := fun p N w1 k q hN hp h => unpin_px N (by omega) one hoi hp h
  have HPL : Hid (∀ (p : Pp) (N : Nat) (w1 : World) (k q : Nat), N < 100000 → p.Ok N → Px w w1 k q p (.slice none 0 0) [] → Calls Try.prog 15 #[.pointer (some ⟨q, 0, none⟩), .int .i64 one] w1 fun e w' => e = .returned (.int .i64 (p.piE one : Nat)) ∧ Px w w' k q (p.pi one) (.slice none 0 0) []) := fun p N w1 k q hN hp h => pin_px N (by omega) one hp h
  have HRE : Hid (∀ (p : Pp) (w1 : World) (k q : Nat), Px w w1 k q p (.slice none 0 0) [] → Calls Try.prog 20 #[.pointer (some ⟨q, 0, none⟩)] w1 fun e w' => e = .returned (.int .i64 (p.rd : Nat)) ∧ w1 = w') := fun p w1 k q h => reads_px h
  have HC : Hid (∀ (w1 : World) (j x : Nat), Below w.heap.size w w1 → U[j]? = some x → ∃ b off, va = some ⟨b, off, none⟩ ∧ w1.cell? ⟨b, off + j, none⟩ = some (.int .u8 (x : Nat)) ∧ x ≤ 255) := fun w1 j x hb hj => by
    obtain ⟨b, off, h1, h2, h3, h4⟩ := HL.out.at hj
    exact ⟨b, off, h1, (hb.cell (p := ⟨b, off + j, none⟩) h2).trans h3, h4⟩
  clear HL hbs hoi
  have hr3 : IntKind.i64.wrap (1 + r0 % 6) = (r : Int) := by rw [IntWalk.i64_in _ ⟨by omega, by omega⟩, hr1]
  have ho3 : IntKind.i64.wrap (37 + a0 % 32) = one := by rw [IntWalk.i64_in _ ⟨by omega, by omega⟩, ho1]
  by_cases hn : n ≤ 1000
  case neg =>
    have hn2 : (1000 : Int) < (n : Int) := by omega
    clear HC HRE HPL HUN HST HEND HLD HBL
    go_enter Try.func4, Try.ntmps4
    go_wp2_with (first
      | (go_at_call 7; refine hwk.mono ?_; clear hwk; rintro e w1 ⟨rfl, hb1⟩; have HB1 := hid hb1; clear hb1)
      | (go_at_call 8; refine (HNEW.out _ HB1.out).mono ?_; clear HNEW; rintro e w2 ⟨k, rfl, hd2⟩; have HD2 := hid hd2; clear hd2)
      | (go_at_call 9; refine (HPN.out _ _ HD2.out).mono ?_; clear HPN; rintro e w3 ⟨q, rfl, hp3⟩; have HP3 := hid hp3; clear hp3)
      | (go_at_call 15; refine (HPI.out _ _ _ HP3.out).mono ?_; clear HPI; rintro e w4 ⟨rfl, hp4⟩; have HP4 := hid hp4; clear hp4))
    go_ret
    exact ⟨rfl, HP4.out.below⟩
  have hn2 : ¬ (1000 : Int) < (n : Int) := by omega
  go_enter Try.func4, Try.ntmps4
  go_wp2_with (first
    | (go_at_call 7; refine hwk.mono ?_; clear hwk; rintro e w1 ⟨rfl, hb1⟩; have HB1 := hid hb1; clear hb1)
    | (go_at_call 8; refine (HNEW.out _ HB1.out).mono ?_; clear HNEW; rintro e w2 ⟨k, rfl, hd2⟩; have HD2 := hid hd2; clear hd2)
    | (go_at_call 9; refine (HPN.out _ _ HD2.out).mono ?_; clear HPN; rintro e w3 ⟨q, rfl, hp3⟩; have HP3 := hid hp3; clear hp3)
    | (go_at_call 15; refine (HPI.out _ _ _ HP3.out).mono ?_; clear HPI; rintro e w4 ⟨rfl, hp4⟩; have HP4 := hid hp4; clear hp4))
  clear hr1 hr3 ho3 b1 b2
  go_loopw [59] (fun i wr => ∃ (j : Nat) (p : Pp), j ≤ n ∧ i = .int .i64 (j : Nat) ∧ Hid (PinS one p (2 + j)) ∧ Hid (Px w wr k q p (.slice none 0 0) [])) (fun i _ => n - (intOf i).toNat)
  case atStart => exact ⟨0, pp, Nat.zero_le _, rfl, HP2, HP4⟩
  case round =>
    obtain ⟨j, p, hj, rfl, HS, HX⟩ := hrel
    clear HP4
    by_cases hjn : j < n
    · have hji : (j : Int) < (n : Int) := by omega
      obtain ⟨x, hx⟩ : ∃ x, U[j]? = some x := ⟨_, List.getElem?_eq_getElem (by rw [HN.out]; exact hjn)⟩
      obtain ⟨b, off, e1, c1, hx2⟩ := HC.out wr j x HX.out.below hx
      subst e1
      have HL1 := hid (HLD.out p (2 + j) wr k q (37 + (x : Int) % 32) (by omega) HS.out HX.out)
      have HS2 := hid (HS.out.ld (37 + (x : Int) % 32))
      clear hx HRE HPL HUN HST HEND HBL
      go_wp2_with (first
        | (go_at_call 11; refine HL1.out.mono ?_; clear HL1 c1; rintro e w5 ⟨rfl, hp5⟩; have HP5 := hid hp5; clear hp5))
      go_roundw
      case rel => exact ⟨j + 1, p.ld (37 + (x : Int) % 32), by omega, by go_num, HS2, HP5⟩
      case measure => simp [intOf]; omega
    · obtain rfl : j = n := by omega
      clear HC
      obtain ⟨⟨q1, q2, q3, q4, q5⟩, q6, q7, q8, q9⟩ := HEND.out p _ HS.out
      have hok := HS.out.ok
      have HL1 := HLD.out p (2 + j) wr k q one (by omega) HS.out HX.out
      rw [q1] at HL1
      have HR1 := HRE.out p wr k q HX.out
      have HR2 : Hid (∀ w1, Px w w1 k q (p.ld one) (.slice none 0 0) [] → Calls Try.prog 20 #[.pointer (some ⟨q, 0, none⟩)] w1 fun e w' => e = .returned (.int .i64 (p.rd : Nat)) ∧ w1 = w') := fun w1 h => by
        have := HRE.out _ w1 k q h
        rw [q2] at this
        exact this
      have HT1 : Hid (∀ w1, Px w w1 k q (p.ld one) (.slice none 0 0) [] → Calls Try.prog 13 #[.pointer (some ⟨q, 0, none⟩), .int .i64 one, .string s] w1 fun e w' => e = .returned (.int .i64 10) ∧ Px w w' k q (p.ld one) (.slice none 0 0) []) := fun w1 h => by
        have := HST.out _ _ w1 k q (hok.ld one) h
        rw [q3, q4] at this
        exact this
      have HU1 : Hid (∀ w1, Px w w1 k q (p.ld one) (.slice none 0 0) [] → Calls Try.prog 16 #[.pointer (some ⟨q, 0, none⟩), .int .i64 one] w1 fun e w' => e = .returned (.int .i64 0) ∧ Px w w' k q ((p.ld one).un one) (.slice none 0 0) []) := fun w1 h => by
        have := HUN.out _ _ w1 k q (by omega) (hok.ld one) h
        rw [q5] at this
        exact this
      have HU2 : Hid (∀ w1, Px w w1 k q ((p.ld one).un one) (.slice none 0 0) [] → Calls Try.prog 16 #[.pointer (some ⟨q, 0, none⟩), .int .i64 one] w1 fun e w' => e = .returned (.int .i64 8) ∧ Px w w' k q ((p.ld one).un one) (.slice none 0 0) []) := fun w1 h => by
        have := HUN.out _ _ w1 k q (by omega) ((hok.ld one).un one) h
        rw [q6, q7] at this
        exact this
      have HT2 : Hid (∀ w1, Px w w1 k q ((p.ld one).un one) (.slice none 0 0) [] → Calls Try.prog 13 #[.pointer (some ⟨q, 0, none⟩), .int .i64 one, .string s] w1 fun e w' => e = .returned (.int .i64 0) ∧ Px w w' k q (((p.ld one).un one).st one s) (.slice none 0 0) []) := fun w1 h => by
        have := HST.out _ _ w1 k q ((hok.ld one).un one) h
        rw [q8] at this
        exact this
      have HPE : Hid (∀ w1, Px w w1 k q (((p.ld one).un one).st one s) (.slice none 0 0) [] → Calls Try.prog 15 #[.pointer (some ⟨q, 0, none⟩), .int .i64 one] w1 fun e w' => e = .returned (.int .i64 19) ∧ Below w.heap.size w w') := fun w1 h => by
        have := HPL.out _ _ w1 k q (by omega) (((hok.ld one).un one).st one s) h
        rw [q9] at this
        exact this.mono fun e w' hh => ⟨hh.1, hh.2.below⟩
      clear q1 q2 q3 q4 q5 q6 q7 q8 q9 hok HEND HLD HST HUN HPL HRE HS
      generalize p.ldS one = ls at *
      generalize (((p.ld one).un one).st one s) = p4 at *
      generalize (p.ld one).un one = p3 at *
      generalize p.ld one = p2 at *
      generalize p.rd = rd at *
      go_wp2_with (first
        | (go_at_call 20; refine HR1.mono ?_; clear HR1; rintro e w5 ⟨rfl, rfl⟩)
        | (go_at_call 11; refine HL1.mono ?_; clear HL1; rintro e w6 ⟨rfl, hp6⟩; have HP6 := hid hp6; clear hp6)
        | (go_at_call 20; refine (HR2.out _ HP6.out).mono ?_; clear HR2; rintro e w7 ⟨rfl, rfl⟩)
        | (go_at_call 14; refine (HBL.out _).mono ?_; rintro e w8 ⟨rfl, hb8⟩; have HP8 := hid (HP6.out.on hb8); clear hb8 HP6)
        | (go_at_call 13; refine (HT1.out _ HP8.out).mono ?_; clear HT1; rintro e w9 ⟨rfl, hp9⟩; have HP9 := hid hp9; clear hp9)
        | (go_at_call 16; refine (HU1.out _ HP9.out).mono ?_; clear HU1; rintro e w10 ⟨rfl, hp10⟩; have HP10 := hid hp10; clear hp10)
        | (go_at_call 16; refine (HU2.out _ HP10.out).mono ?_; clear HU2; rintro e w11 ⟨rfl, hp11⟩; have HP11 := hid hp11; clear hp11)
        | (go_at_call 14; refine (HBL.out _).mono ?_; clear HBL; rintro e w12 ⟨rfl, hb12⟩; have HP12 := hid (HP11.out.on hb12); clear hb12)
        | (go_at_call 13; refine (HT2.out _ HP12.out).mono ?_; clear HT2; rintro e w13 ⟨rfl, hp13⟩; have HP13 := hid hp13; clear hp13)
        | (go_at_call 15; refine (HPE.out _ HP13.out).mono ?_; clear HPE; rintro e w14 ⟨rfl, hb14⟩))
      go_ret
      exact ⟨rfl, hb14⟩

theorem pagerPins_own : ownKnob Try.prog.godebug = none := by kernel_rfl
theorem pagerPins_laidOut : laidOutB Try.prog = true := by kernel_rfl

set_option maxRecDepth 100000 in
theorem pagerPins_lifted (os : Os) (started : os.Started) (H : Type) (enc : TypeId × Value → H) :
    ReturnsInHanded {} Try.checked os 4 .any (Rows.pagerPinsSpec.pre6 enc Try.prog Try.f4 Rows.pagerPinsRow.domain false) (Rows.pagerPinsSpec.post enc Try.prog Try.f4 false true false false) := by
  refine returnsInHanded_of_change_sized (C := Try.checked) pagerPins_own started (by kernel_rfl) Try.func4
    (ChangeSpec.witness6 (enc := enc) (C := Try.checked) false ⟨#[], #[.int .u8 0, .int .u8 0, .slice none 0 0], []⟩ 8 (by kernel_rfl) (by kernel_rfl) (by kernel_rfl) (by kernel_rfl)) ?_
  intro W base args ds gs before hval0 hW hcnd hsz0 _
  have hsz : (DataW.weightsEach Try.prog (Try.f4.params.toList ++ Rows.pagerPinsSpec.plain.varTypes Try.prog) (ds ++ gs)).all (· ≤ reachBytes) = true := hsz0
  have hval : ∀ (j : Nat) t v, Try.f4.params[j]? = some t → args[j]? = some v → Value.okWide Try.prog W .any base t v := hval0
  have hW' := hW
  obtain ⟨p, q, hA0, hV, rfl, hfz, hnd⟩ := hW
  have hA : DataW.TrodAll enc Try.prog W 0 (fun _ => true) true Try.f4.params.toList args.toList ds p := hA0
  rw [Try.params4] at hA hval hsz
  obtain ⟨v0, vs0, d0, ds0, p0, q0, hargs, rfl, rfl, h0, r0⟩ := trodAll_cons hA
  obtain ⟨v1, vs1, d1, ds1, p1, q1, rfl, rfl, rfl, h1, r1⟩ := trodAll_cons r0
  obtain ⟨v2, vs2, d2, ds2, p2, q2, rfl, rfl, rfl, h2, r2⟩ := trodAll_cons r1
  obtain ⟨rfl, rfl, rfl⟩ := trodAll_nil r2
  obtain rfl : args = #[v0, v1, v2] := by cases args; simp_all
  obtain ⟨rfl, rfl⟩ := trodVars_none hV
  have k0 := h0
  have lt0 : ∀ x ∈ p0, x.block < W.heap.size := by obtain ⟨m, hm⟩ := k0; exact DataW.trod_lt m _ _ _ hm
  have k1 := h1
  have lt1 : ∀ x ∈ p1, x.block < W.heap.size := by obtain ⟨m, hm⟩ := k1; exact DataW.trod_lt m _ _ _ hm
  have k2 := h2
  have lt2 : ∀ x ∈ p2, x.block < W.heap.size := by obtain ⟨m, hm⟩ := k2; exact DataW.trod_lt m _ _ _ hm
  obtain ⟨a0, rfl, rfl, rfl, w0⟩ := open_int Try.underlying5 (hval 0 5 v0 rfl rfl) h0
  obtain ⟨a1, rfl, rfl, rfl, w1⟩ := open_int Try.underlying5 (hval 1 5 v1 rfl rfl) h1
  obtain ⟨L2, l2, z2⟩ := open_bytes (hval 2 45 v2 rfl rfl) h2 (fun n hn => by simpa using List.all_eq_true.1 hsz n (DataW.weights_mem_each (j := 2) (t := 45) rfl rfl n hn))
  clear hA0 hval0
  refine (pagerPins_walk a0 a1 v2 L2 w0 w1 W l2 z2).mono fun e W' ⟨he, bel⟩ => ?_
  subst he
  exact ⟨_, rfl, _, _, _, [], _, [], hW', trodAll_mk1 (shut_bool Try.underlying4 _), (trodAll_cons_mk (Below.trod pagerPins_laidOut (by kernel_rfl) (of_decide_eq_true (by kernel_rfl)) k0 bel lt0) (trodAll_cons_mk (Below.trod pagerPins_laidOut (by kernel_rfl) (of_decide_eq_true (by kernel_rfl)) k1 bel lt1) (trodAll_cons_mk (Below.trod pagerPins_laidOut (by kernel_rfl) (of_decide_eq_true (by kernel_rfl)) k2 bel lt2) trodAll_mk0))), rfl, bel.frame _, fun h => by cases h⟩

theorem pagerPins_holds : Rows.PagerPinsSaid :=
  OpenClaim.holds_of_wide 4 Try.f4 rfl rfl rfl rfl rfl rfl rfl ⟨rfl, rfl, rfl, rfl, rfl⟩ rfl rfl rfl rfl rfl (by kernel_rfl) Try.func4 (by kernel_rfl)
    (of_decide_eq_true (by kernel_rfl)) (by unfold Func.isWrapper; first | (rw [if_pos (by decide +kernel)]; kernel_rfl) | (rw [if_neg (by decide +kernel)]; exact ⟨rfl, rfl⟩))
    (fun os started H enc _ => pagerPins_lifted os started H enc)

#print axioms pagerPins_holds

end Go.Proofs.Ytoecopmbaoklkaa
