/-
  Whatever is asked of a disk of any size, one call behind the other, it answers as the document says, and what was written and lies there in the end is as the document says.
-/
import Derived.Test.YtjmkhcldcpdmoaaRows
import Derived.Test.YtjmkhcldcpdmoaaTp
import Derived.ProofKit
import Derived.OpenShut
import Derived.ShutString
import Derived.ChangeOld
import Derived.Below
import Derived.SizedLaws
import Derived.Lib.SmallJoins
namespace Go.Proofs.Ytjmkhcldcpdmoaa
open Go.ChangeShapes Go.WideShapes Go.ChangeAt Go.RowKit Go.Joins
open Go.ChangeMaps (open_string shut_string)
set_option linter.unusedVariables false
set_option linter.unusedSimpArgs false
set_option maxRecDepth 100000

set_option maxHeartbeats 8000000 in
theorem diskPlays_walk (n : Int) (v1 : Value) (L : List Ac) (wf : (Lit.int .i64 n).wf = true) (w : World) (hl : LiesA w v1 L) (hz : L.length * 32 ≤ 140737488351232) :
    Calls Try.prog 3 #[.int .i64 n, v1] w fun e w' => e = .returned (.bool true) ∧ Below w.heap.size w w' := by
  have hwk := wakes_any w
  obtain ⟨va, vc, hv⟩ := hl.form
  subst hv
  have HL := hid hl
  clear hl wf
  by_cases hr : 64 ≤ n ∧ n ≤ 2048
  · obtain ⟨m, rfl⟩ : ∃ m : Nat, n = (m : Int) := ⟨n.toNat, by omega⟩
    have h1 : 64 ≤ m := by omega
    have h2 : m ≤ 2048 := by omega
    have hnw : ∀ w1, _ := fun w1 => new_any m h1 h2 w1
    have hrn : ∀ w1, _ := fun w1 => rNew_any m h1 h2 w1
    have hN : L.length ≤ 4398046510976 := by omega
    obtain ⟨N, hNN⟩ : ∃ N, L.length = N := ⟨_, rfl⟩
    have HN := hid hNN
    rw [hNN] at hN hz ⊢
    clear hNN hr
    go_enter Try.func3, Try.ntmps3
    go_wp2_with (first
      | (go_at_call 8; refine hwk.mono ?_; clear hwk; rintro e w1 ⟨rfl, hb1⟩; have HB1 := hid hb1; clear hb1)
      | (go_at_call 9; refine (hnw _).mono ?_; clear hnw; rintro e w2 ⟨k, rfl, hd2, hb2⟩; have HD2 := hid hd2; have HB2 := hid hb2; clear hd2 hb2)
      | (go_at_call 10; refine (hrn _).mono ?_; clear hrn; rintro e w3 ⟨k', rfl, hd3, hb3⟩; have HT := hid (Tw.new HB1.out HD2.out HB2.out hd3 hb3); clear hd3 hb3 HB1 HD2 HB2))
    go_loopw [36] (fun i wr => ∃ (j : Nat) (d : Ds), j ≤ N ∧ i = .int .i64 (j : Nat) ∧ Hid (Tw w wr k k' d d) ∧ Hid (d.lg.length ≤ j)) (fun i _ => N - (intOf i).toNat)
    case atStart => exact ⟨0, nw m, Nat.zero_le _, rfl, HT, Nat.le_refl _⟩
    case round =>
      obtain ⟨j, d, hj, rfl, HR, HG⟩ := hrel
      clear HT
      by_cases hlt : j < N
      · have hji : (j : Int) < (N : Int) := by omega
        obtain ⟨x, hx⟩ : ∃ x, L[j]? = some x := ⟨_, List.getElem?_eq_getElem (by rw [HN.out]; exact hlt)⟩
        obtain ⟨b, off, hva, hbl, c0, c1, c2, hp, ht⟩ := HL.out.at hx
        subst hva
        have d0 : wr.cell? ⟨b, off + j * 3, none⟩ = some (.int .i64 x.kd) := (HR.out.below.cell (p := ⟨b, off + j * 3, none⟩) hbl).trans c0
        have d1 : wr.cell? ⟨b, off + j * 3 + 1, none⟩ = some (.int .i64 x.pl) := (HR.out.below.cell (p := ⟨b, off + j * 3 + 1, none⟩) hbl).trans c1
        have d2 : wr.cell? ⟨b, off + j * 3 + 2, none⟩ = some (.string x.tx) := (HR.out.below.cell (p := ⟨b, off + j * 3 + 2, none⟩) hbl).trans c2
        have hdo := does_any w wr k k' d x.kd x.pl x.tx HR.out hp ht (by have := HG.out; omega)
        clear c0 c1 c2 hp ht hx HR
        go_wp2_with (go_at_call 11; refine hdo.mono ?_; clear hdo; rintro e w5 ⟨rfl, d', h5, h6⟩; have H5 := hid h5; have H6 : Hid (d'.lg.length ≤ j + 1) := Nat.le_trans h6 (Nat.succ_le_succ HG.out); clear h5 h6 HG)
        go_roundw
        case rel => exact ⟨j + 1, d', by omega, by go_num, H5, H6⟩
        case measure => simp [intOf]; omega
      · have hji : ¬ (j : Int) < (N : Int) := by omega
        obtain rfl : j = N := by omega
        obtain ⟨ba, bc, la, lc, e0, e1, r0, r1, hkl, hbl⟩ := HR.out.rows
        have hlz : d.lg.length * 24 ≤ 140737488355328 := by have := HG.out; omega
        have HT0 := hid (HR.out.on (Below.drew (Below.refl _ wr)))
        have HR0 : Hid (RowS wr.drew 0 (.slice ba d.bs.length bc) d.bs) := r0
        have HR1 : Hid (RowP wr.drew 0 (.slice la d.lg.length lc) d.lg) := r1
        have hlg : ∀ w5, Tw w w5 k k' d d → _ := fun w5 h => log_tw w w5 k k' d d h hlz
        have him : ∀ w5, Tw w w5 k k' d d → _ := fun w5 h => image_tw w w5 k k' d d h
        have HLZ := hid hlz
        have HBL := hid hbl
        have HS0 : wr.drew.cell? ⟨k', 0, none⟩ = some (.slice ba d.bs.length bc) ∧ wr.drew.cell? ⟨k', 1, none⟩ = some (.slice la d.lg.length lc) := ⟨e0, e1⟩
        have HKL : Hid (k' < wr.drew.heap.size) := hkl
        clear e0 e1 r0 r1 HR HL hlz hkl hbl
        obtain ⟨lb, hlb⟩ : ∃ lb, d.bs.length = lb := ⟨_, rfl⟩
        obtain ⟨lk, hlk⟩ : ∃ lk, d.lg.length = lk := ⟨_, rfl⟩
        rw [hlb] at HR0 HS0 HBL
        rw [hlk] at HR1 HS0 HLZ
        have HLB := hid hlb
        have HLK := hid hlk
        clear hlb hlk HG
        have K1 : ∀ w5, Below wr.drew.heap.size wr.drew w5 → w5.cell? ⟨k', 0, none⟩ = some (.slice ba lb bc) ∧ w5.cell? ⟨k', 1, none⟩ = some (.slice la lk lc) := fun w5 hb => ⟨(hb.cell (p := ⟨k', 0, none⟩) HKL.out).trans HS0.1, (hb.cell (p := ⟨k', 1, none⟩) HKL.out).trans HS0.2⟩
        have HK1 := hid K1
        clear K1
        go_wp2_with fail
        go_region_held3 (fun w' => w'.cell? ⟨k', 0, none⟩ = some (.slice ba lb bc) ∧ w'.cell? ⟨k', 1, none⟩ = some (.slice la lk lc)) (first | exact HS0 | exact HS5 | exact HS6 | exact HS7 | exact HS8)
          (first
            | (go_at_call 13; refine (hlg _ HT0.out).mono ?_; clear hlg; rintro e w5 ⟨v5, rfl, hr5, hb5⟩; have HP5 := hid hr5; have HB5 := hid hb5; obtain ⟨pa, pc, hpv⟩ := hr5.form; subst hpv; rw [HLK.out]; rw [HLK.out] at HP5; have HS5 := HK1.out w5 hb5; clear hr5 hb5)
            | (go_at_call 12; refine (samePages_self w5 wr.drew.heap.size 0 _ _ d.lg HP5.out (HR1.out.on HB5.out) (by rw [HLK.out]; exact HLZ.out)).mono ?_; rintro e w6 ⟨rfl, hb6⟩; have HB6 := hid (HB5.out.trans (hb6.mono HB5.out.size)); have HS6 := HK1.out w6 HB6.out; clear hb6 HP5)
            | (go_at_call 15; refine (him _ (HT0.out.on HB6.out)).mono ?_; clear him; rintro e w7 ⟨v7, rfl, hr7, hb7⟩; have HP7 := hid hr7; have HB7 := hid (HB6.out.trans (hb7.mono HB6.out.size)); obtain ⟨ia, ic, hiv⟩ := hr7.form; subst hiv; rw [HLB.out]; rw [HLB.out] at HP7; have HS7 := HK1.out w7 HB7.out; clear hr7 hb7)
            | (go_at_call 14; refine (same_self w7 w6.heap.size 0 _ _ d.bs HP7.out (HR0.out.on HB7.out) (by rw [HLB.out]; have := HBL.out; omega)).mono ?_; rintro e w8 ⟨rfl, hb8⟩; have HB8 := hid (HB7.out.trans (hb8.mono HB7.out.size)); have HS8 := HK1.out w8 HB8.out; clear hb8 HP7))
        go_wp2_with fail
        go_ret
        exact ⟨rfl, HT0.out.below.trans (HB8.out.mono HT0.out.below.size)⟩
  · have hnw : ∀ w1, _ := fun w1 => new_no n hr w1
    have hrn : ∀ w1, _ := fun w1 => rNew_no n hr w1
    clear hr
    go_enter Try.func3, Try.ntmps3
    go_wp2_with (first
      | (go_at_call 8; refine hwk.mono ?_; clear hwk; rintro e w1 ⟨rfl, hb1⟩; have HB1 := hid hb1; clear hb1)
      | (go_at_call 9; refine (hnw _).mono ?_; clear hnw; rintro e w2 ⟨rfl, rfl⟩)
      | (go_at_call 10; refine (hrn _).mono ?_; clear hrn; rintro e w3 ⟨rfl, rfl⟩))
    go_ret
    exact ⟨rfl, HB1.out⟩

theorem diskPlays_own : ownKnob Try.prog.godebug = none := by kernel_rfl
theorem diskPlays_laidOut : laidOutB Try.prog = true := by kernel_rfl

set_option maxRecDepth 100000 in
theorem diskPlays_lifted (os : Os) (started : os.Started) (H : Type) (enc : TypeId × Value → H) :
    ReturnsInHanded {} Try.checked os 3 .any (Rows.diskPlaysSpec.pre6 enc Try.prog Try.f3 Rows.diskPlaysRow.domain false) (Rows.diskPlaysSpec.post enc Try.prog Try.f3 false true false false) := by
  refine returnsInHanded_of_change_sized (C := Try.checked) diskPlays_own started (by kernel_rfl) Try.func3
    (ChangeSpec.witness6 (enc := enc) (C := Try.checked) false ⟨#[], #[.int .i64 0, .slice none 0 0], []⟩ 8 (by kernel_rfl) (by kernel_rfl) (by kernel_rfl) (by kernel_rfl)) ?_
  intro W base args ds gs before hval0 hW hcnd hsz0 _
  have hsz : (DataW.weightsEach Try.prog (Try.f3.params.toList ++ Rows.diskPlaysSpec.plain.varTypes Try.prog) (ds ++ gs)).all (· ≤ reachBytes) = true := hsz0
  have hval : ∀ (j : Nat) t v, Try.f3.params[j]? = some t → args[j]? = some v → Value.okWide Try.prog W .any base t v := hval0
  have hW' := hW
  obtain ⟨p, q, hA0, hV, rfl, hfz, hnd⟩ := hW
  have hA : DataW.TrodAll enc Try.prog W 0 (fun _ => true) true Try.f3.params.toList args.toList ds p := hA0
  rw [Try.params3] at hA hval hsz
  obtain ⟨v0, vs0, d0, ds0, p0, q0, hargs, rfl, rfl, h0, r0⟩ := trodAll_cons hA
  obtain ⟨v1, vs1, d1, ds1, p1, q1, rfl, rfl, rfl, h1, r1⟩ := trodAll_cons r0
  obtain ⟨rfl, rfl, rfl⟩ := trodAll_nil r1
  obtain rfl : args = #[v0, v1] := by cases args; simp_all
  obtain ⟨rfl, rfl⟩ := trodVars_none hV
  have k0 := h0
  have lt0 : ∀ x ∈ p0, x.block < W.heap.size := by obtain ⟨m, hm⟩ := k0; exact DataW.trod_lt m _ _ _ hm
  have k1 := h1
  have lt1 : ∀ x ∈ p1, x.block < W.heap.size := by obtain ⟨m, hm⟩ := k1; exact DataW.trod_lt m _ _ _ hm
  obtain ⟨a0, rfl, rfl, rfl, w0⟩ := open_int Try.underlying3 (hval 0 3 v0 rfl rfl) h0
  obtain ⟨L1, l1, z1⟩ := open_acts (hval 1 22 v1 rfl rfl) h1 (fun n hn => by simpa using List.all_eq_true.1 hsz n (DataW.weights_mem_each (j := 1) (t := 22) rfl rfl n hn))
  clear hA0 hval0
  refine (diskPlays_walk a0 v1 L1 w0 W l1 z1).mono fun e W' ⟨he, bel⟩ => ?_
  subst he
  exact ⟨_, rfl, _, _, _, [], _, [], hW', trodAll_mk1 (shut_bool Try.underlying4 _), (trodAll_cons_mk (Below.trod diskPlays_laidOut (by kernel_rfl) (of_decide_eq_true (by kernel_rfl)) k0 bel lt0) (trodAll_cons_mk (Below.trod diskPlays_laidOut (by kernel_rfl) (of_decide_eq_true (by kernel_rfl)) k1 bel lt1) trodAll_mk0)), rfl, bel.frame _, fun h => by cases h⟩

theorem diskPlays_holds : Rows.DiskPlaysSaid :=
  OpenClaim.holds_of_wide 3 Try.f3 rfl rfl rfl rfl rfl rfl rfl ⟨rfl, rfl, rfl, rfl, rfl⟩ rfl rfl rfl rfl rfl (by kernel_rfl) Try.func3 (by kernel_rfl)
    (of_decide_eq_true (by kernel_rfl)) (by unfold Func.isWrapper; first | (rw [if_pos (by decide +kernel)]; kernel_rfl) | (rw [if_neg (by decide +kernel)]; exact ⟨rfl, rfl⟩))
    (fun os started H enc _ => diskPlays_lifted os started H enc)

#print axioms diskPlays_holds

end Go.Proofs.Ytjmkhcldcpdmoaa
