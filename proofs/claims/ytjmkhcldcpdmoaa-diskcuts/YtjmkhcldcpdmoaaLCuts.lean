/-
  Behind a cut just so many writes are done as were told, whatever is asked, and no byte changes then; with the power back all blocks are as they were, and one write more is done.
-/
import Derived.Test.YtjmkhcldcpdmoaaRows
import Derived.Test.YtjmkhcldcpdmoaaDr
import Derived.ProofKit
import Derived.OpenShut
import Derived.ShutString
import Derived.ChangeOld
import Derived.Below
import Derived.SizedLaws
import Derived.Lib.SmallJoins
namespace Go.Proofs.Ytjmkhcldcpdmoaa
open Go.ChangeShapes Go.WideShapes Go.ChangeAt Go.RowKit Go.Joins
open Go.ChangeMaps (open_string shut_string)
set_option linter.unusedVariables false
set_option linter.unusedSimpArgs false
set_option maxRecDepth 100000

/-- as many writes are done, and left, as were told; the power is off only where none is left -/
structure CutOk (n : Nat) (d : Ds) : Prop where
  sum : (d.lg.length : Int) + d.lf = n
  lf : 0 ≤ d.lf
  dn : d.dn = true → d.lf = 0
  len : d.bs.length = 64
theorem CutOk.wr {n : Nat} {d : Ds} (h : CutOk n d) (a : Int) (s : ByteArray) : CutOk n (d.wr a s) := by
  have h1 := h.sum
  have h2 := h.lf
  unfold Ds.wr
  split
  · exact h
  split
  · exact h
  split
  · exact h
  split
  · exact ⟨h.sum, h.lf, fun _ => by simp only; assumption, h.len⟩
  · refine ⟨?_, ?_, ?_, ?_⟩
    · simp only [Ds.put, List.length_append, List.length_singleton]
      rw [if_pos (by omega)]
      omega
    · simp only [Ds.put]
      rw [if_pos (by omega)]
      omega
    · intro hd
      exact absurd hd ‹_›
    · simp only [Ds.put, List.length_set]; exact h.len

theorem cutOk_new (m : Nat) : CutOk m { nw 64 with lf := (m : Int) } := by
  refine ⟨?_, ?_, ?_, ?_⟩
  · simp [nw]
  · simp
  · intro h; simp [nw] at h
  · simp [nw]
/-- behind the power's return one write more is done -/
theorem CutOk.after {n : Nat} {d : Ds} (h : CutOk n d) {t : ByteArray} (ht : t.size = 256) : ({ d with lf := -1, dn := false } : Ds).wrE 0 t = 0 ∧ (({ d with lf := -1, dn := false } : Ds).wr 0 t).lg.length = d.lg.length + 1 := by
  have ho : ¬ ({ d with lf := -1, dn := false } : Ds).out 0 := by
    unfold Ds.out
    have := h.len
    simp only
    omega
  obtain ⟨e1, e2⟩ := Ds.wrE_ok (d := { d with lf := -1, dn := false }) rfl ho ht (by simp)
  refine ⟨e1, ?_⟩
  rw [e2]
  simp [Ds.put]

set_option maxHeartbeats 8000000 in
theorem diskCuts_walk (n : Int) (v1 : Value) (L : List Ac) (wf : (Lit.int .u8 n).wf = true) (w : World) (hl : LiesA w v1 L) (hz : L.length * 32 ≤ 140737488351232) :
    Calls Try.prog 4 #[.int .u8 n, v1] w fun e w' => e = .returned (.bool true) ∧ Below w.heap.size w w' := by
  have hwk := wakes_any w
  obtain ⟨va, vc, hv⟩ := hl.form
  subst hv
  have HL := hid hl
  have hn := bounds_u8 wf
  obtain ⟨m, rfl⟩ : ∃ m : Nat, n = (m : Int) := ⟨n.toNat, by omega⟩
  have hm : m ≤ 255 := by omega
  obtain ⟨N, hNN⟩ : ∃ N, L.length = N := ⟨_, rfl⟩
  have HN := hid hNN
  rw [hNN] at hz ⊢
  clear hl wf hn hNN
  by_cases hN : 2000 < N
  · have hNi : (2000 : Int) < (N : Int) := by omega
    go_enter Try.func4, Try.ntmps4
    go_wp2_with (go_at_call 8; refine hwk.mono ?_; clear hwk; rintro e w1 ⟨rfl, hb1⟩; have HB1 := hid hb1; clear hb1)
    go_ret
    exact ⟨rfl, HB1.out⟩
  · have hNi : ¬ (2000 : Int) < (N : Int) := by omega
    have hN2 : N ≤ 2000 := by omega
    have hnw : ∀ w1, Below w.heap.size w w1 → Calls Try.prog 9 #[.int .i64 64] w1 fun e w' => ∃ k, e = .returned (.tuple #[.pointer (some ⟨k, 0, none⟩), .int .i64 0]) ∧ Dw w w' k (nw 64) := fun w1 hb => new_dw w w1 64 (by omega) (by omega) hb
    have hct : ∀ w1 k, Dw w w1 k (nw 64) → _ := fun w1 k h => cut_dw (m : Int) (by omega) w w1 k (nw 64) h
    clear hN hz
    go_enter Try.func4, Try.ntmps4
    go_wp2_with (first
      | (go_at_call 8; refine hwk.mono ?_; clear hwk; rintro e w1 ⟨rfl, hb1⟩; have HB1 := hid hb1; clear hb1)
      | (go_at_call 9; refine (hnw _ HB1.out).mono ?_; clear hnw; rintro e w2 ⟨k, rfl, hd2⟩; have HD2 := hid hd2; clear hd2 HB1)
      | (go_at_call 16; refine (hct _ _ HD2.out).mono ?_; clear hct; rintro e w3 ⟨rfl, hd3⟩; have HD3 := hid hd3; clear hd3 HD2))
    go_loopw [27] (fun i wr => ∃ (j : Nat) (d : Ds), j ≤ N ∧ i = .int .i64 (j : Nat) ∧ Hid (Dw w wr k d) ∧ Hid (CutOk m d)) (fun i _ => N - (intOf i).toNat)
    case atStart => exact ⟨0, _, Nat.zero_le _, rfl, HD3, cutOk_new m⟩
    case round =>
      obtain ⟨j, d, hj, rfl, HR, HC⟩ := hrel
      clear HD3
      by_cases hlt : j < N
      · have hji : (j : Int) < (N : Int) := by omega
        obtain ⟨x, hx⟩ : ∃ x, L[j]? = some x := ⟨_, List.getElem?_eq_getElem (by rw [HN.out]; exact hlt)⟩
        obtain ⟨b, off, hva, hbl, c0, c1, c2, hp, ht⟩ := HL.out.at hx
        subst hva
        have HT0 := hid (HR.out.on (Below.drew (Below.refl _ wr)))
        have HK : Hid (∀ w5, Below w.heap.size w w5 → w5.cell? ⟨b, off + j * 3 + 1, none⟩ = some (.int .i64 x.pl) ∧ w5.cell? ⟨b, off + j * 3 + 2, none⟩ = some (.string x.tx)) := fun w5 hb => ⟨(hb.cell (p := ⟨b, off + j * 3 + 1, none⟩) hbl).trans c1, (hb.cell (p := ⟨b, off + j * 3 + 2, none⟩) hbl).trans c2⟩
        have HS0 := HK.out wr.drew HT0.out.below
        have hbk : ∀ w5, _ := fun w5 => block_any x.tx ht w5
        have hlgz : (d.lg.length + 1) * 24 ≤ 140737488355328 := by have h1 := HC.out.sum; have h2 := HC.out.lf; omega
        have hwr : ∀ w5, Dw w w5 k d → _ := fun w5 h => write_dw x.pl (blk x.tx) w w5 k d h hlgz
        have HC2 := hid (HC.out.wr x.pl (blk x.tx))
        generalize d.wrE x.pl (blk x.tx) = y at hwr
        generalize d.wr x.pl (blk x.tx) = d2 at hwr HC2
        generalize blk x.tx = t at hbk hwr
        generalize x.pl = pl at *
        generalize x.tx = tx at *
        clear c0 c1 c2 hp ht hx HR HC hlgz
        go_wp2_with fail
        go_region_held3 (fun w' => w'.cell? ⟨b, off + j * 3 + 1, none⟩ = some (.int .i64 pl) ∧ w'.cell? ⟨b, off + j * 3 + 2, none⟩ = some (.string tx)) (first | exact HS0 | exact HS5 | exact HS6)
          (first
            | (go_at_call 18; refine (hbk _).mono ?_; clear hbk; rintro e w5 ⟨rfl, hb5⟩; have H5 := hid (HT0.out.on hb5); have HS5 := HK.out w5 H5.out.below; clear hb5)
            | (go_at_call 17; refine (hwr _ H5.out).mono ?_; clear hwr; rintro e w6 ⟨rfl, h6⟩; have H6 := hid h6; have HS6 := HK.out w6 h6.below; clear h6))
        clear HS0 HS5 HS6
        go_wp2_with fail
        go_roundw
        case rel => exact ⟨j + 1, d2, by omega, by go_num, H6, HC2⟩
        case measure => simp [intOf]; omega
      · have hji : ¬ (j : Int) < (N : Int) := by omega
        obtain rfl : j = N := by omega
        have hlgz : (d.lg.length + 2) * 24 ≤ 140737488355328 := by have h1 := HC.out.sum; have h2 := HC.out.lf; omega
        have hlg : ∀ w5, Dw w w5 k d → _ := fun w5 h => log_dw w w5 k d h (by omega)
        have him : ∀ w5, Dw w w5 k d → _ := fun w5 h => image_dr w w5 k d h
        have hdn : ∀ w5, Dw w w5 k d → _ := fun w5 h => down_dw w w5 k d h
        have hrs : ∀ w5 v, Dr w w5 k d v d.bs → _ := fun w5 v h => restore_dr w w5 k d v d.bs h
        have hdn2 : ∀ w5, Dw w w5 k { d with lf := -1, dn := false } → Calls Try.prog 19 #[.pointer (some ⟨k, 0, none⟩)] w5 fun e w' => e = .returned (.bool false) ∧ w5 = w' := fun w5 h => down_dw w w5 k { d with lf := -1, dn := false } h
        have him2 : ∀ w5, Dw w w5 k { d with lf := -1, dn := false } → _ := fun w5 h => image_dw w w5 k { d with lf := -1, dn := false } h
        have hbk : ∀ w5, Calls Try.prog 18 #[.string ⟨#[113]⟩] w5 fun e w' => e = .returned (.string (blk ⟨#[113]⟩)) ∧ Below w5.heap.size w5 w' := fun w5 => block_any _ (by decide) w5
        obtain ⟨q1, q2⟩ := HC.out.after (blk_size ⟨#[113]⟩)
        have hwr : ∀ w5, Dw w w5 k { d with lf := -1, dn := false } → _ := fun w5 h => write_dw 0 (blk ⟨#[113]⟩) w w5 k { d with lf := -1, dn := false } h (by simp only; omega)
        rw [q1] at hwr
        have HQ2 := hid q2
        generalize ({ d with lf := -1, dn := false } : Ds).wr 0 (blk ⟨#[113]⟩) = d4 at hwr HQ2
        have hlg2 : ∀ w5, Dw w w5 k d4 → _ := fun w5 h => log_dw w w5 k d4 h (by rw [HQ2.out]; omega)
        obtain ⟨d3, hd3⟩ : ∃ d3 : Ds, ({ d with lf := -1, dn := false } : Ds) = d3 := ⟨_, rfl⟩
        have HDB : Hid (d3.bs = d.bs) := by show _ = _; rw [← hd3]
        rw [hd3] at hrs hdn2 him2 hwr
        generalize blk ⟨#[113]⟩ = t at hbk hwr
        have HLN := hid (HC.out.len)
        have hlm : d.lg.length ≤ m := by have h1 := HC.out.sum; have h2 := HC.out.lf; omega
        have hle : d.dn = true → d.lg.length = m := fun h => by have h1 := HC.out.sum; have h2 := HC.out.dn h; omega
        obtain ⟨lk, hlk⟩ : ∃ lk, d.lg.length = lk := ⟨_, rfl⟩
        have HLK := hid hlk
        rw [hlk] at hlm hle
        have HQ3 : Hid (d4.lg.length = lk + 1) := by show _ = _; rw [HQ2.out, hlk]
        clear q1 q2 hd3 hlk HQ2 hlgz HC HL
        have hlmi : ¬ (m : Int) < (lk : Int) := by omega
        cases hdd : d.dn with
        | true =>
          rw [hdd] at hdn
          have hlm2 : lk = m := hle hdd
          subst hlm2
          clear hle hdd
          go_wp2_with (first
            | (go_at_call 13; refine (hlg _ HR.out).mono ?_; clear hlg; rintro e w5 ⟨v5, rfl, hr5, hd5, hb5⟩; have H5 := hid hd5; obtain ⟨pa, pc, hpv⟩ := hr5.form; subst hpv; rw [HLK.out]; clear hr5 hd5 hb5 HR)
            | (go_at_call 15; refine (him _ H5.out).mono ?_; clear him; rintro e w6 ⟨v6, rfl, h6⟩; obtain ⟨ia, ic, hiv⟩ := h6.row.form; subst hiv; have H6 := hid h6; clear h6 H5)
            | (go_at_call 19; refine (hdn _ H6.out.dw).mono ?_; clear hdn; rintro e w7 ⟨rfl, rfl⟩)
            | (go_at_call 20; refine (hrs _ _ H6.out).mono ?_; clear hrs; rintro e w7 ⟨rfl, h7⟩; have H7 := hid h7; clear h7 H6)
            | (go_at_call 19; refine (hdn2 _ H7.out.dw).mono ?_; clear hdn2; rintro e w8 ⟨rfl, rfl⟩)
            | (go_at_call 15; refine (him2 _ H7.out.dw).mono ?_; clear him2; rintro e w8 ⟨v8, rfl, hr8, hd8, hb8⟩; have HI8 := hid hr8; obtain ⟨ja, jc, hjv⟩ := hr8.form; subst hjv; have H8 := hid (H7.out.on hb8); clear hr8 hd8 hb8 H7)
            | (go_at_call 14; refine (same_self w8 _ 0 _ _ d.bs (by rw [← HDB.out]; exact HI8.out) H8.out.row (by rw [HLN.out]; decide)).mono ?_; rintro e w9 ⟨rfl, hb9⟩; have H9 := hid (H8.out.dw.on hb9); clear hb9 H8 HI8)
            | (go_at_call 18; refine (hbk _).mono ?_; clear hbk; rintro e w10 ⟨rfl, hb10⟩; have H10 := hid (H9.out.on hb10); clear hb10 H9)
            | (go_at_call 17; refine (hwr _ H10.out).mono ?_; clear hwr; rintro e w11 ⟨rfl, h11⟩; have H11 := hid h11; clear h11 H10)
            | (go_at_call 13; refine (hlg2 _ H11.out).mono ?_; clear hlg2; rintro e w12 ⟨v12, rfl, hr12, hd12, hb12⟩; have H12 := hid hd12; obtain ⟨qa, qc, hqv⟩ := hr12.form; subst hqv; rw [HQ3.out]; clear hr12 hd12 hb12 H11))
          go_ret
          exact ⟨rfl, H12.out.below⟩
        | false =>
          rw [hdd] at hdn
          clear hle hdd
          go_wp2_with (first
            | (go_at_call 13; refine (hlg _ HR.out).mono ?_; clear hlg; rintro e w5 ⟨v5, rfl, hr5, hd5, hb5⟩; have H5 := hid hd5; obtain ⟨pa, pc, hpv⟩ := hr5.form; subst hpv; rw [HLK.out]; clear hr5 hd5 hb5 HR)
            | (go_at_call 15; refine (him _ H5.out).mono ?_; clear him; rintro e w6 ⟨v6, rfl, h6⟩; obtain ⟨ia, ic, hiv⟩ := h6.row.form; subst hiv; have H6 := hid h6; clear h6 H5)
            | (go_at_call 19; refine (hdn _ H6.out.dw).mono ?_; clear hdn; rintro e w7 ⟨rfl, rfl⟩)
            | (go_at_call 20; refine (hrs _ _ H6.out).mono ?_; clear hrs; rintro e w7 ⟨rfl, h7⟩; have H7 := hid h7; clear h7 H6)
            | (go_at_call 19; refine (hdn2 _ H7.out.dw).mono ?_; clear hdn2; rintro e w8 ⟨rfl, rfl⟩)
            | (go_at_call 15; refine (him2 _ H7.out.dw).mono ?_; clear him2; rintro e w8 ⟨v8, rfl, hr8, hd8, hb8⟩; have HI8 := hid hr8; obtain ⟨ja, jc, hjv⟩ := hr8.form; subst hjv; have H8 := hid (H7.out.on hb8); clear hr8 hd8 hb8 H7)
            | (go_at_call 14; refine (same_self w8 _ 0 _ _ d.bs (by rw [← HDB.out]; exact HI8.out) H8.out.row (by rw [HLN.out]; decide)).mono ?_; rintro e w9 ⟨rfl, hb9⟩; have H9 := hid (H8.out.dw.on hb9); clear hb9 H8 HI8)
            | (go_at_call 18; refine (hbk _).mono ?_; clear hbk; rintro e w10 ⟨rfl, hb10⟩; have H10 := hid (H9.out.on hb10); clear hb10 H9)
            | (go_at_call 17; refine (hwr _ H10.out).mono ?_; clear hwr; rintro e w11 ⟨rfl, h11⟩; have H11 := hid h11; clear h11 H10)
            | (go_at_call 13; refine (hlg2 _ H11.out).mono ?_; clear hlg2; rintro e w12 ⟨v12, rfl, hr12, hd12, hb12⟩; have H12 := hid hd12; obtain ⟨qa, qc, hqv⟩ := hr12.form; subst hqv; rw [HQ3.out]; clear hr12 hd12 hb12 H11))
          go_ret
          exact ⟨rfl, H12.out.below⟩

theorem diskCuts_own : ownKnob Try.prog.godebug = none := by kernel_rfl
theorem diskCuts_laidOut : laidOutB Try.prog = true := by kernel_rfl

set_option maxRecDepth 100000 in
theorem diskCuts_lifted (os : Os) (started : os.Started) (H : Type) (enc : TypeId × Value → H) :
    ReturnsInHanded {} Try.checked os 4 .any (Rows.diskCutsSpec.pre6 enc Try.prog Try.f4 Rows.diskCutsRow.domain false) (Rows.diskCutsSpec.post enc Try.prog Try.f4 false true false false) := by
  refine returnsInHanded_of_change_sized (C := Try.checked) diskCuts_own started (by kernel_rfl) Try.func4
    (ChangeSpec.witness6 (enc := enc) (C := Try.checked) false ⟨#[], #[.int .u8 0, .slice none 0 0], []⟩ 8 (by kernel_rfl) (by kernel_rfl) (by kernel_rfl) (by kernel_rfl)) ?_
  intro W base args ds gs before hval0 hW hcnd hsz0 _
  have hsz : (DataW.weightsEach Try.prog (Try.f4.params.toList ++ Rows.diskCutsSpec.plain.varTypes Try.prog) (ds ++ gs)).all (· ≤ reachBytes) = true := hsz0
  have hval : ∀ (j : Nat) t v, Try.f4.params[j]? = some t → args[j]? = some v → Value.okWide Try.prog W .any base t v := hval0
  have hW' := hW
  obtain ⟨p, q, hA0, hV, rfl, hfz, hnd⟩ := hW
  have hA : DataW.TrodAll enc Try.prog W 0 (fun _ => true) true Try.f4.params.toList args.toList ds p := hA0
  rw [Try.params4] at hA hval hsz
  obtain ⟨v0, vs0, d0, ds0, p0, q0, hargs, rfl, rfl, h0, r0⟩ := trodAll_cons hA
  obtain ⟨v1, vs1, d1, ds1, p1, q1, rfl, rfl, rfl, h1, r1⟩ := trodAll_cons r0
  obtain ⟨rfl, rfl, rfl⟩ := trodAll_nil r1
  obtain rfl : args = #[v0, v1] := by cases args; simp_all
  obtain ⟨rfl, rfl⟩ := trodVars_none hV
  have k0 := h0
  have lt0 : ∀ x ∈ p0, x.block < W.heap.size := by obtain ⟨m, hm⟩ := k0; exact DataW.trod_lt m _ _ _ hm
  have k1 := h1
  have lt1 : ∀ x ∈ p1, x.block < W.heap.size := by obtain ⟨m, hm⟩ := k1; exact DataW.trod_lt m _ _ _ hm
  obtain ⟨a0, rfl, rfl, rfl, w0⟩ := open_int Try.underlying5 (hval 0 5 v0 rfl rfl) h0
  obtain ⟨L1, l1, z1⟩ := open_acts (hval 1 22 v1 rfl rfl) h1 (fun n hn => by simpa using List.all_eq_true.1 hsz n (DataW.weights_mem_each (j := 1) (t := 22) rfl rfl n hn))
  clear hA0 hval0
  refine (diskCuts_walk a0 v1 L1 w0 W l1 z1).mono fun e W' ⟨he, bel⟩ => ?_
  subst he
  exact ⟨_, rfl, _, _, _, [], _, [], hW', trodAll_mk1 (shut_bool Try.underlying4 _), (trodAll_cons_mk (Below.trod diskCuts_laidOut (by kernel_rfl) (of_decide_eq_true (by kernel_rfl)) k0 bel lt0) (trodAll_cons_mk (Below.trod diskCuts_laidOut (by kernel_rfl) (of_decide_eq_true (by kernel_rfl)) k1 bel lt1) trodAll_mk0)), rfl, bel.frame _, fun h => by cases h⟩

theorem diskCuts_holds : Rows.DiskCutsSaid :=
  OpenClaim.holds_of_wide 4 Try.f4 rfl rfl rfl rfl rfl rfl rfl ⟨rfl, rfl, rfl, rfl, rfl⟩ rfl rfl rfl rfl rfl (by kernel_rfl) Try.func4 (by kernel_rfl)
    (of_decide_eq_true (by kernel_rfl)) (by unfold Func.isWrapper; first | (rw [if_pos (by decide +kernel)]; kernel_rfl) | (rw [if_neg (by decide +kernel)]; exact ⟨rfl, rfl⟩))
    (fun os started H enc _ => diskCuts_lifted os started H enc)

#print axioms diskCuts_holds

end Go.Proofs.Ytjmkhcldcpdmoaa
