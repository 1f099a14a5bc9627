/-
  The writes that a disk keeps in mind, done to the blocks it began with, make its image.
-/
import Derived.Test.YtjmkhcldcpdmoaaRows
import Derived.Test.YtjmkhcldcpdmoaaDq
import Derived.ProofKit
import Derived.OpenShut
import Derived.ShutString
import Derived.ChangeOld
import Derived.Below
import Derived.SizedLaws
import Derived.Lib.SmallJoins
namespace Go.Proofs.Ytjmkhcldcpdmoaa
open Go.ChangeShapes Go.WideShapes Go.ChangeAt Go.RowKit Go.Joins
open Go.ChangeMaps (open_string shut_string)
set_option linter.unusedVariables false
set_option linter.unusedSimpArgs false
set_option maxRecDepth 100000

/-- the blocks that the statement lays -/
def firsts (T : List ByteArray) (n : Nat) : List ByteArray := (List.range n).map fun (j : Nat) => blk (T.getD j ⟨#[]⟩)
theorem firsts_len (T : List ByteArray) (n : Nat) : (firsts T n).length = n := by simp [firsts]
theorem firsts_succ (T : List ByteArray) (n : Nat) : firsts T (n + 1) = firsts T n ++ [blk (T.getD n ⟨#[]⟩)] := by
  unfold firsts
  rw [List.range_succ, List.map_append]
  rfl
theorem firsts_size (T : List ByteArray) (n : Nat) : ∀ s ∈ firsts T n, s.size = 256 := by
  intro s hs
  obtain ⟨j, _, rfl⟩ := List.mem_map.1 hs
  exact blk_size _

set_option maxHeartbeats 8000000 in
theorem diskLogs_walk (v0 : Value) (T : List ByteArray) (v1 : Value) (L : List Ac) (w : World) (ht : LiesX w v0 T) (hy : T.length * 16 ≤ 140737488351232) (hl : LiesA w v1 L) (hz : L.length * 32 ≤ 140737488351232) :
    Calls Try.prog 5 #[v0, v1] w fun e w' => e = .returned (.bool true) ∧ Below w.heap.size w w' := by
  have hwk := wakes_any w
  obtain ⟨va, vc, hv⟩ := hl.form
  subst hv
  obtain ⟨ta, tc, hv⟩ := ht.form
  subst hv
  have HL := hid hl
  have HT := hid ht
  obtain ⟨N, hNN⟩ : ∃ N, L.length = N := ⟨_, rfl⟩
  have HN := hid hNN
  obtain ⟨M, hMM⟩ : ∃ M, T.length = M := ⟨_, rfl⟩
  have HM := hid hMM
  rw [hNN] at hz ⊢
  rw [hMM] at hy ⊢
  have hM2 : M ≤ 8796093021952 := by omega
  clear hl ht hNN hMM hy
  by_cases hN : 2000 < N
  · have hNi : (2000 : Int) < (N : Int) := by omega
    go_enter Try.func5, Try.ntmps5
    go_wp2_with (go_at_call 8; refine hwk.mono ?_; clear hwk; rintro e w1 ⟨rfl, hb1⟩; have HB1 := hid hb1; clear hb1)
    go_ret
    exact ⟨rfl, HB1.out⟩
  · have hNi : ¬ (2000 : Int) < (N : Int) := by omega
    have hN2 : N ≤ 2000 := by omega
    obtain ⟨i0, hi, hz0, hz1, hz2⟩ := info_parts info9
    have hof : ∀ w1 v, RowS w1 w.heap.size v (firsts T 64) → Below w.heap.size w w1 → _ := fun w1 v h hb => of_dq w w1 v (firsts T 64) h hb (firsts_len T 64) (firsts_size T 64)
    have HOF := hid hof
    clear hN hz hof
    go_enter Try.func5, Try.ntmps5
    go_wp2_with (go_at_call 8; refine hwk.mono ?_; clear hwk; rintro e w1 ⟨rfl, hb1⟩; have HB1 := hid hb1; clear hb1)
    go_loopw [5, 6] (fun bv i wr => ∃ (k : Nat) (ba : Option Addr) (bc : Nat), k ≤ 64 ∧ bv = .slice ba k bc ∧ i = .int .i64 (k : Nat) ∧ Hid (wr.ownsRow w.heap.size 9 1 (.slice ba k bc) k (flatS (firsts T k))) ∧ Hid (Below w.heap.size w wr)) (fun _ i _ => 64 - (intOf i).toNat)
    case atStart => exact ⟨0, none, 0, Nat.zero_le _, rfl, rfl, hid (show World.ownsRow _ _ 9 1 _ 0 [] from World.ownsRow_nil _ _ _ _), HB1⟩
    case round =>
      obtain ⟨k, ba, bc, hk, rfl, rfl, HR, HB⟩ := hrel
      clear HB1
      by_cases hlt : k < 64
      · have hki : (k : Int) < 64 := by omega
        obtain ⟨s, hs⟩ : ∃ s, T.getD k ⟨#[]⟩ = s := ⟨_, rfl⟩
        have HSU : Hid (flatS (firsts T (k + 1)) = flatS (firsts T k) ++ [.string (blk s)]) := by
          show _ = _
          rw [firsts_succ, hs, flatS_append]
          rfl
        by_cases hkm : k < M
        · have hkmi : (k : Int) < (M : Int) := by omega
          obtain ⟨b, off, hta, hbl, c0, hsz⟩ := HT.out.at (x := s) (k := k) (by
            rw [← hs, List.getD_eq_getElem?_getD, List.getElem?_eq_getElem (by rw [HM.out]; exact hkm)]; rfl)
          subst hta
          have d0 : wr.cell? ⟨b, off + k, none⟩ = some (.string s) := (HB.out.cell (p := ⟨b, off + k, none⟩) hbl).trans c0
          have hbk : ∀ w5, _ := fun w5 => block_any s hsz w5
          generalize blk s = t at hbk HSU
          clear c0 hs hsz
          go_wp2_with (first
            | (go_at_call 18; refine (hbk _).mono ?_; clear hbk; rintro e w2 ⟨rfl, hb2⟩; have HO2 := hid (own_below HR.out hb2); have HB2 := hid (HB.out.trans (hb2.mono HB.out.size)); clear hb2)
            | (at_builtin; refine wpList_append_own _ rfl (.tmp 30) (.tmp 33) 36 rfl w.heap.size 9 i0 (.string ⟨#[]⟩) 1 16 Try.underlying36 hi hz0 hz1 hz2 rfl (by decide) _ k (flatS (firsts T k)) rfl (HO2.out.alloc _) ⟨w2.heap.size, 0, none⟩ 1 1 [.string t] rfl rfl (cells_one w2 _ 9) ?c2 ?c3 ?c4 ?c5 ?_))
          case c2 => intro u hu; simp at hu; subst hu; rfl
          case c3 => unfold maxLen; omega
          case c4 => omega
          case c5 => have := HB2.out.size; simp; omega
          intro v' w3 hown' hgrow _
          have HB3 := hid ((HB2.out.alloc HB2.out.size (.cells #[.string t] 9)).grown hgrow (by have := HB2.out.size; simp; omega) (fun g hg => (HO2.out.lt g hg).1))
          obtain ⟨ra, rc, hrv⟩ := own_form hown'
          subst hrv
          have HO3 : Hid (w3.ownsRow w.heap.size 9 1 (.slice ra (k + 1) rc) (k + 1) (flatS (firsts T (k + 1)))) := by
            rw [HSU.out]
            exact hown'
          clear hown' hgrow HR HB HO2 HB2 d0
          go_wp2_with fail
          go_roundw
          case rel => exact ⟨k + 1, ra, rc, by omega, rfl, by go_num, HO3, HB3⟩
          case measure => simp [intOf]; omega
        · have hkmi : ¬ (k : Int) < (M : Int) := by omega
          have hse : s = ⟨#[]⟩ := by rw [← hs, List.getD_eq_getElem?_getD, List.getElem?_eq_none (by rw [HM.out]; omega)]; rfl
          subst hse
          have hbk : ∀ w5, Calls Try.prog 18 #[.string ⟨#[]⟩] w5 fun e w' => e = .returned (.string (blk ⟨#[]⟩)) ∧ Below w5.heap.size w5 w' := fun w5 => block_any ⟨#[]⟩ (by decide) w5
          generalize blk ⟨#[]⟩ = t at hbk HSU
          clear hs
          go_wp2_with (first
            | (go_at_call 18; refine (hbk _).mono ?_; clear hbk; rintro e w2 ⟨rfl, hb2⟩; have HO2 := hid (own_below HR.out hb2); have HB2 := hid (HB.out.trans (hb2.mono HB.out.size)); clear hb2)
            | (at_builtin; refine wpList_append_own _ rfl (.tmp 30) (.tmp 33) 36 rfl w.heap.size 9 i0 (.string ⟨#[]⟩) 1 16 Try.underlying36 hi hz0 hz1 hz2 rfl (by decide) _ k (flatS (firsts T k)) rfl (HO2.out.alloc _) ⟨w2.heap.size, 0, none⟩ 1 1 [.string t] rfl rfl (cells_one w2 _ 9) ?c2 ?c3 ?c4 ?c5 ?_))
          case c2 => intro u hu; simp at hu; subst hu; rfl
          case c3 => unfold maxLen; omega
          case c4 => omega
          case c5 => have := HB2.out.size; simp; omega
          intro v' w3 hown' hgrow _
          have HB3 := hid ((HB2.out.alloc HB2.out.size (.cells #[.string t] 9)).grown hgrow (by have := HB2.out.size; simp; omega) (fun g hg => (HO2.out.lt g hg).1))
          obtain ⟨ra, rc, hrv⟩ := own_form hown'
          subst hrv
          have HO3 : Hid (w3.ownsRow w.heap.size 9 1 (.slice ra (k + 1) rc) (k + 1) (flatS (firsts T (k + 1)))) := by
            rw [HSU.out]
            exact hown'
          clear hown' hgrow HR HB HO2 HB2
          go_wp2_with fail
          go_roundw
          case rel => exact ⟨k + 1, ra, rc, by omega, rfl, by go_num, HO3, HB3⟩
          case measure => simp [intOf]; omega
      · have hki : ¬ (k : Int) < 64 := by omega
        obtain rfl : k = 64 := by omega
        have HRS : Hid (RowS wr w.heap.size (.slice ba 64 bc) (firsts T 64)) := by
          unfold Hid RowS
          rw [firsts_len]
          exact HR.out
        have HBL : Hid ((firsts T 64).length = 64) := firsts_len T 64
        obtain ⟨g, hga, _, _⟩ := row_some HR.out (by decide)
        subst hga
        generalize firsts T 64 = B0 at HRS HOF HBL
        clear HR HT HM hM2
        go_wp2_with (go_at_call 21; refine (HOF.out _ _ HRS.out HB.out).mono ?_; clear HOF; rintro e w2 ⟨k2, rfl, h2⟩; have H2 := hid h2; clear h2 HRS HB)
        go_loopw [44] (fun i wr => ∃ (j : Nat) (d : Ds), j ≤ N ∧ i = .int .i64 (j : Nat) ∧ Hid (Dq w wr k2 d (.slice (some ⟨g, 0, none⟩) 64 bc) B0) ∧ Hid (LogOk B0 j d)) (fun i _ => N - (intOf i).toNat)
        case atStart => exact ⟨0, _, Nat.zero_le _, rfl, H2, ⟨rfl, rfl, HBL.out, rfl, rfl⟩⟩
        case round =>
          obtain ⟨j, d, hj, rfl, HR, HC⟩ := hrel
          clear H2
          by_cases hlt2 : j < N
          · have hji : (j : Int) < (N : Int) := by omega
            obtain ⟨x, hx⟩ : ∃ x, L[j]? = some x := ⟨_, List.getElem?_eq_getElem (by rw [HN.out]; exact hlt2)⟩
            obtain ⟨b, off, hva, hbl, c0, c1, c2, hp, ht⟩ := HL.out.at hx
            subst hva
            have HT0 := hid (HR.out.on (Below.drew (Below.refl _ wr)))
            have HK : Hid (∀ w5, Below w.heap.size w w5 → w5.cell? ⟨b, off + j * 3 + 1, none⟩ = some (.int .i64 x.pl) ∧ w5.cell? ⟨b, off + j * 3 + 2, none⟩ = some (.string x.tx)) := fun w5 hb => ⟨(hb.cell (p := ⟨b, off + j * 3 + 1, none⟩) hbl).trans c1, (hb.cell (p := ⟨b, off + j * 3 + 2, none⟩) hbl).trans c2⟩
            have HS0 := HK.out wr.drew HT0.out.below
            have hbk : ∀ w5, _ := fun w5 => block_any x.tx ht w5
            have hkd : ∀ w5, _ := fun w5 => kind_any x.pl 64 (by omega) w5
            have hlgz : (d.lg.length + 1) * 24 ≤ 140737488355328 := by have h1 := HC.out.cnt; omega
            have hwr : ∀ w5 (q : Nat), Dq w w5 k2 d (.slice (some ⟨g, 0, none⟩) 64 bc) B0 → _ := fun w5 q h => write_dq (q : Int) (blk x.tx) w w5 k2 d _ B0 h hlgz
            have HC2 : Hid (∀ q : Nat, q < 64 → LogOk B0 (j + 1) (d.wr (q : Int) (blk x.tx))) := fun q hq => HC.out.wr q hq _ (blk_size _)
            generalize blk x.tx = t at hbk hwr HC2
            generalize x.pl = pl at *
            generalize x.tx = tx at *
            clear c0 c1 c2 hp ht hx HR HC hlgz
            go_wp2_with fail
            go_region_held3 (fun w' => w'.cell? ⟨b, off + j * 3 + 1, none⟩ = some (.int .i64 pl) ∧ w'.cell? ⟨b, off + j * 3 + 2, none⟩ = some (.string tx)) (first | exact HS0 | exact HS5 | exact HS6)
              (first
                | (go_at_call 22; refine (hkd _).mono ?_; clear hkd; rintro e w4 ⟨⟨q, rfl, hq⟩, rfl⟩)
                | (go_at_call 18; refine (hbk _).mono ?_; clear hbk; rintro e w5 ⟨rfl, hb5⟩; have H5 := hid (HT0.out.on hb5); have HS5 := HK.out w5 H5.out.below; clear hb5)
                | (go_at_call 17; refine (hwr _ _ H5.out).mono ?_; clear hwr; rintro e w6 ⟨rfl, h6⟩; have H6 := hid h6; have HS6 := HK.out w6 h6.below; clear h6))
            have HC3 := hid (HC2.out q (by omega))
            clear HS0 HS5 HS6 HC2
            generalize d.wr (q : Int) t = d2 at H6 HC3
            go_wp2_with fail
            go_roundw
            case rel => exact ⟨j + 1, d2, by omega, by go_num, H6, HC3⟩
            case measure => simp [intOf]; omega
          · have hji : ¬ (j : Int) < (N : Int) := by omega
            obtain rfl : j = N := by omega
            have hlg : ∀ w5, Dq w w5 k2 d (.slice (some ⟨g, 0, none⟩) 64 bc) B0 → _ := fun w5 h => log_dq w w5 k2 d _ B0 h (by rw [HC.out.cnt]; omega)
            have HCN := hid HC.out.cnt
            have HCA := hid HC.out.app
            have HCL := hid HC.out.len
            have HPG : Hid (∀ p ∈ d.lg, p.data.size = 256 ∧ 0 ≤ p.pl ∧ p.pl < 64) := by
              obtain ⟨S, h1, _⟩ := HR.out
              intro p hp
              have := h1.ok.lg p hp
              rw [HC.out.len] at this
              exact this
            clear HC HL
            go_wp2_with (go_at_call 13; refine (hlg _ HR.out).mono ?_; clear hlg; rintro e w3 ⟨v3, rfl, hr3, h3⟩; obtain ⟨pa, pc, hpv⟩ := hr3.form; subst hpv; have HP3 := hid hr3; have H3 := hid h3; rw [HCN.out]; rw [HCN.out] at HP3; clear hr3 h3 HR)
            go_loopw [66] (fun i wr => ∃ (i2 : Nat), i2 ≤ j ∧ i = .int .i64 (i2 : Nat) ∧ Hid (Dq w wr k2 d (.slice (some ⟨g, 0, none⟩) 64 bc) (appl B0 (d.lg.take i2))) ∧ Hid (RowP wr 0 (.slice pa j pc) d.lg)) (fun i _ => j - (intOf i).toNat)
            case atStart => exact ⟨0, Nat.zero_le _, rfl, H3, own_base HP3.out (Nat.zero_le _)⟩
            case round =>
              obtain ⟨i2, hi2, rfl, HR2, HP⟩ := hrel
              clear H3 HP3
              by_cases hlt3 : i2 < j
              · have hii : (i2 : Int) < (j : Int) := by omega
                obtain ⟨p, hp⟩ : ∃ p, d.lg[i2]? = some p := ⟨_, List.getElem?_eq_getElem (by rw [HCN.out]; exact hlt3)⟩
                obtain ⟨_, hp0, hp1⟩ := HPG.out p (List.mem_of_getElem? hp)
                obtain ⟨g2, hga2, _, _⟩ := row_some HP.out (by rw [HCN.out]; omega)
                subst hga2
                obtain ⟨c0, c1, _⟩ := HP.out.at hp
                have HAP : Hid (appl B0 (d.lg.take (i2 + 1)) = (appl B0 (d.lg.take i2)).set p.pl.toNat p.data) := by
                  show _ = _
                  rw [List.take_add_one, hp]
                  exact appl_snoc _ _ _
                have HAL : Hid ((appl B0 (d.lg.take i2)).length = 64) := by show _ = _; rw [appl_len]; exact HBL.out
                obtain ⟨q, hq⟩ : ∃ q : Nat, p.pl = (q : Int) := ⟨p.pl.toNat, by omega⟩
                rw [hq] at c0 hp0 hp1 HAP
                have hq64 : q < 64 := by omega
                simp only [Int.toNat_natCast] at HAP
                generalize p.data = t at c1 HAP
                have HD4 := hid (HR2.out.put HAL.out q t)
                rw [← HAP.out] at HD4
                have HP4 : Hid (RowP (wr.setCell ⟨g, q, none⟩ (.string t)) 0 (.slice (some ⟨g2, 0, none⟩) j pc) d.lg) := World.ownsRow.kept HP.out (set_grown wr g q _) (.inr (rows_ne HR2.out.row HP.out (by decide) rfl))
                obtain ⟨e0, he0⟩ : ∃ e0, (appl B0 (d.lg.take i2))[q]? = some e0 := ⟨_, List.getElem?_eq_getElem (by rw [HAL.out]; exact hq64)⟩
                obtain ⟨cg, fg⟩ := HR2.out.row.at he0
                clear he0
                have hq0 : decide ((q : Int) < 0) = false := decide_eq_false (by omega)
                have hqi : (q : Int) < 64 := by omega
                clear hp hq HR2 HP HAP HAL hp0 hp1
                go_wp2_with fail
                go_region
                clear c0 c1 cg fg
                have HD5 := hid (HD4.out.on (Below.drew (Below.refl _ _)))
                have HP5 : Hid (RowP (wr.setCell ⟨g, q, none⟩ (.string t)).drew 0 (.slice (some ⟨g2, 0, none⟩) j pc) d.lg) := HP4.out
                clear HD4 HP4
                go_wp2_with fail
                go_roundw
                case rel => exact ⟨i2 + 1, by omega, by go_num, HD5, HP5⟩
                case measure => simp [intOf]; omega
              · have hii : ¬ (i2 : Int) < (j : Int) := by omega
                obtain rfl : i2 = j := by omega
                have HE : Hid (appl B0 (d.lg.take i2) = d.bs) := by show _ = _; rw [← HCN.out, List.take_length]; exact HCA.out
                rw [HE.out] at HR2
                have him : ∀ w5, Dq w w5 k2 d (.slice (some ⟨g, 0, none⟩) 64 bc) d.bs → _ := fun w5 h => image_dq w w5 k2 d _ d.bs h
                clear HP HE HCA HPG
                go_wp2_with (first
                  | (go_at_call 15; refine (him _ HR2.out).mono ?_; clear him; rintro e w4 ⟨v4, rfl, hr4, h4⟩; have HI4 := hid hr4; obtain ⟨ja, jc, hjv⟩ := hr4.form; subst hjv; have H4 := hid h4; clear hr4 h4 HR2)
                  | (go_at_call 14; refine (same_self w4 _ _ _ _ d.bs HI4.out H4.out.row (by rw [HCL.out]; decide)).mono ?_; rintro e w5 ⟨rfl, hb5⟩; have H5 := hid (H4.out.on hb5); clear hb5 H4 HI4))
                go_ret
                exact ⟨rfl, H5.out.below⟩

theorem diskLogs_own : ownKnob Try.prog.godebug = none := by kernel_rfl
theorem diskLogs_laidOut : laidOutB Try.prog = true := by kernel_rfl

set_option maxRecDepth 100000 in
theorem diskLogs_lifted (os : Os) (started : os.Started) (H : Type) (enc : TypeId × Value → H) :
    ReturnsInHanded {} Try.checked os 5 .any (Rows.diskLogsSpec.pre6 enc Try.prog Try.f5 Rows.diskLogsRow.domain false) (Rows.diskLogsSpec.post enc Try.prog Try.f5 false true false false) := by
  refine returnsInHanded_of_change_sized (C := Try.checked) diskLogs_own started (by kernel_rfl) Try.func5
    (ChangeSpec.witness6 (enc := enc) (C := Try.checked) false ⟨#[], #[.slice none 0 0, .slice none 0 0], []⟩ 8 (by kernel_rfl) (by kernel_rfl) (by kernel_rfl) (by kernel_rfl)) ?_
  intro W base args ds gs before hval0 hW hcnd hsz0 _
  have hsz : (DataW.weightsEach Try.prog (Try.f5.params.toList ++ Rows.diskLogsSpec.plain.varTypes Try.prog) (ds ++ gs)).all (· ≤ reachBytes) = true := hsz0
  have hval : ∀ (j : Nat) t v, Try.f5.params[j]? = some t → args[j]? = some v → Value.okWide Try.prog W .any base t v := hval0
  have hW' := hW
  obtain ⟨p, q, hA0, hV, rfl, hfz, hnd⟩ := hW
  have hA : DataW.TrodAll enc Try.prog W 0 (fun _ => true) true Try.f5.params.toList args.toList ds p := hA0
  rw [Try.params5] at hA hval hsz
  obtain ⟨v0, vs0, d0, ds0, p0, q0, hargs, rfl, rfl, h0, r0⟩ := trodAll_cons hA
  obtain ⟨v1, vs1, d1, ds1, p1, q1, rfl, rfl, rfl, h1, r1⟩ := trodAll_cons r0
  obtain ⟨rfl, rfl, rfl⟩ := trodAll_nil r1
  obtain rfl : args = #[v0, v1] := by cases args; simp_all
  obtain ⟨rfl, rfl⟩ := trodVars_none hV
  have k0 := h0
  have lt0 : ∀ x ∈ p0, x.block < W.heap.size := by obtain ⟨m, hm⟩ := k0; exact DataW.trod_lt m _ _ _ hm
  have k1 := h1
  have lt1 : ∀ x ∈ p1, x.block < W.heap.size := by obtain ⟨m, hm⟩ := k1; exact DataW.trod_lt m _ _ _ hm
  obtain ⟨L0, l0, z0⟩ := open_texts (hval 0 36 v0 rfl rfl) h0 (fun n hn => by simpa using List.all_eq_true.1 hsz n (DataW.weights_mem_each (j := 0) (t := 36) rfl rfl n hn))
  obtain ⟨L1, l1, z1⟩ := open_acts (hval 1 22 v1 rfl rfl) h1 (fun n hn => by simpa using List.all_eq_true.1 hsz n (DataW.weights_mem_each (j := 1) (t := 22) rfl rfl n hn))
  clear hA0 hval0
  refine (diskLogs_walk v0 L0 v1 L1 W l0 z0 l1 z1).mono fun e W' ⟨he, bel⟩ => ?_
  subst he
  exact ⟨_, rfl, _, _, _, [], _, [], hW', trodAll_mk1 (shut_bool Try.underlying4 _), (trodAll_cons_mk (Below.trod diskLogs_laidOut (by kernel_rfl) (of_decide_eq_true (by kernel_rfl)) k0 bel lt0) (trodAll_cons_mk (Below.trod diskLogs_laidOut (by kernel_rfl) (of_decide_eq_true (by kernel_rfl)) k1 bel lt1) trodAll_mk0)), rfl, bel.frame _, fun h => by cases h⟩

theorem diskLogs_holds : Rows.DiskLogsSaid :=
  OpenClaim.holds_of_wide 5 Try.f5 rfl rfl rfl rfl rfl rfl rfl ⟨rfl, rfl, rfl, rfl, rfl⟩ rfl rfl rfl rfl rfl (by kernel_rfl) Try.func5 (by kernel_rfl)
    (of_decide_eq_true (by kernel_rfl)) (by unfold Func.isWrapper; first | (rw [if_pos (by decide +kernel)]; kernel_rfl) | (rw [if_neg (by decide +kernel)]; exact ⟨rfl, rfl⟩))
    (fun os started H enc _ => diskLogs_lifted os started H enc)

#print axioms diskLogs_holds

end Go.Proofs.Ytjmkhcldcpdmoaa
