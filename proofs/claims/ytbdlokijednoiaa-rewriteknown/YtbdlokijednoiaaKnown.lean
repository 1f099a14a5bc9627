/-
  RewriteKnown holds: with a table of known normal forms, a run comes to the same normal form in no more steps.
-/
import Derived.Test.YtbdlokijednoiaaRows
import Derived.Test.YtbdlokijednoiaaBH
import Derived.Test.YtbdlokijednoiaaBL
import Derived.Test.YtbdlokijednoiaaBD
import Derived.Test.YtbdlokijednoiaaW8
import Derived.Test.YtbdlokijednoiaaBO
import Derived.Test.YtbdlokijednoiaaBZ
import Derived.Test.YtbdlokijednoiaaKm
import Derived.Test.YtbdlokijednoiaaReg7
import Derived.Test.YtbdlokijednoiaaOpenR
import Derived.ProofKit
import Derived.OpenShut
import Derived.ShutString
import Derived.ChangeOld
import Derived.Below
import Derived.SizedLaws
import Derived.Lib.SmallJoins
namespace Go.Proofs.Ytbdlokijednoiaa
open Go.ChangeShapes Go.WideShapes Go.ChangeAt Go.RowKit Go.Joins
open Go.ChangeMaps (open_string shut_string)
set_option linter.unusedVariables false
set_option linter.unusedSimpArgs false
set_option maxRecDepth 100000


/-- Normal, where what it answers is known -/
theorem normal_in (w : World) (rv : Value) (rs : List Rl) (hr : LiesR w rv rs) (tv : Value) (T : List Cl) (hT : Lies w tv T) (fu : Int) (h0 : 0 ≤ fu) (h1 : fu ≤ 1000) {V : List Cl} {n : Int} {c : Nat} (hN : normP rs T fu = (V, n, c)) :
    Calls Try.prog 7 #[rv, tv, .int .i64 fu] w fun e w' => ∃ v, e = .returned (.tuple #[v, .int .i64 n, .int .i64 (c : Nat)]) ∧ Owns w' w.heap.size v V ∧ Below w.heap.size w w' := by
  refine (normal_any w rv rs hr tv T hT fu (by omega) (by omega)).mono fun e w' hq => ?_
  obtain ⟨⟨v, h1, h2⟩, h3⟩ := hq
  rw [hN] at h1 h2
  exact ⟨v, h1, h2, h3⟩

set_option maxHeartbeats 16000000 in
theorem rewriteKnown_walk (v0 : Value) (rs : List Rl) (v1 : Value) (T : List Cl) (v2 : Value) (K : List (List Cl)) (w : World) (hr : LiesR w v0 rs) (hz : rs.length * 56 ≤ 140737488351232 ∧ ∀ r ∈ rs, r.l.length * 24 ≤ 140737488355328 ∧ r.r.length * 24 ≤ 140737488355328) (hT : Lies w v1 T) (z1 : T.length * 24 ≤ 140737488355328) (hK : LiesT w v2 K) (z2 : K.length * 24 ≤ 140737488355328 ∧ ∀ l ∈ K, l.length * 24 ≤ 140737488355328) :
    Calls Try.prog 3 #[v0, v1, v2] w fun e w' => e = .returned (.bool true) ∧ Below w.heap.size w w' := by
  have HR := hid hr
  have HT := hid hT
  have HK := hid hK
  have HZK := hid z2.2
  have hwk := wakes_any w
  have hfw : ∀ w1, Below w.heap.size w w1 → _ := fun w1 hb => few_any w1 v0 rs (HR.out.on hb) 0
  obtain ⟨ra, rc, hrv, _⟩ := id hr
  subst hrv
  obtain ⟨ta, tc, htv, _, _, hfT, _⟩ := id hT
  subst htv
  obtain ⟨ka, kc, hkv, kl1, kl2, _⟩ := id hK
  subst hkv
  have hkl : K.length ≤ 9223372036854775807 := by unfold maxLen at kl2; omega
  clear kl1 kl2
  by_cases hfew : rs.length ≤ 64
  · rw [decide_eq_true hfew, decide_eq_true (by decide : (0 : Int) ≤ 300)] at hfw
    by_cases h10 : K.length ≤ 10
    · have h10i : ¬ (10 : Int) < (K.length : Int) := by omega
      have hru : ∀ w1, Below w.heap.size w w1 → _ := fun w1 hb => rules_any w1 _ rs (HR.out.on hb) (by omega) hz.2
      have hcp : ∀ w1, Below w.heap.size w w1 → _ := fun w1 hb => copy_any w1 _ T (HT.out.on hb) z1
      have HRF := hid hr.fine
      have HFT := hid hfT
      clear hr hT hz z1 hfT hK z2 hfew
      go_enter Try.func3, Try.ntmps3
      go_wp2_with (first | (go_at_call 5; refine hwk.mono ?_; clear hwk; rintro e w1 ⟨rfl, hb1⟩; have HB1 := hid hb1; clear hb1) | (go_at_call 6; refine (hfw _ HB1.out).mono ?_; clear hfw; rintro e w2 ⟨rfl, rfl⟩))
      go_loopw [7, 31] (fun o i wr => ∃ (k : Nat) (ms : List Mm), k ≤ K.length ∧ ms.length ≤ k ∧ i = .int .i64 (k : Nat) ∧ Hid (OwnsM wr w.heap.size o ms) ∧ Hid (∀ m ∈ ms, MmOk rs m) ∧ Hid (Below w.heap.size w wr)) (fun _ i _ => K.length - (intOf i).toNat)
      case atStart => exact ⟨0, [], Nat.zero_le _, Nat.le_refl _, rfl, OwnsM.nil _ _, (fun m hm => by cases hm), HB1.out⟩
      case round =>
        clear HB1
        obtain ⟨k, ms, hk, hmk, rfl, HO, HG, HB⟩ := hrel
        have hbs := HB.out.size
        obtain ⟨ma, mc, hmv⟩ := HO.out.form
        subst hmv
        by_cases hlt : k < K.length
        · obtain ⟨L, hKk⟩ : ∃ L, K[k]? = some L := ⟨K[k], List.getElem?_eq_getElem hlt⟩
          have hki : (k : Int) < (K.length : Int) := by omega
          obtain ⟨g, off, x, hka, hgl, c0, hlx⟩ := (HK.out.on HB.out).at hKk
          subst hka
          have zL := HZK.out L (List.mem_of_getElem? hKk)
          have HLX := hid hlx
          obtain ⟨xa, xc, hxv, _, _, hfL, _⟩ := hlx
          subst hxv
          have HFL := hid hfL
          clear hfL hKk
          obtain ⟨⟨V, nn, cc⟩, hN⟩ : ∃ r, normP rs L 100 = r := ⟨_, rfl⟩
          have HN := hid hN
          have HNC := hid (norm_case rs L (fu := 100) (by decide) (by decide))
          rw [hN] at HNC
          clear hN
          go_upto_region 9 with fail
          go_cut [9, 10, 11] from 32 to 58 (fun s9 s10 s11 wx => ∃ (na : Option Addr) (nc : Nat), s9 = .slice na V.length nc ∧ s10 = .int .i64 nn ∧ s11 = .int .i64 (cc : Nat) ∧ Owns wx wr.heap.size (.slice na V.length nc) V ∧ Below wr.heap.size wr wx)
          case first =>
            have hB : Below wr.heap.size wr wr.drew := (Below.refl _ wr).drew
            have HC0 : wr.drew.cell? ⟨g, off + k, none⟩ = some (.slice xa L.length xc) := (hB.cell (p := ⟨g, off + k, none⟩) hgl).trans c0
            refine wp_region_m (fun w' => w'.cell? ⟨g, off + k, none⟩ = some (.slice xa L.length xc)) 100 (by kernel_rfl) ?_
            generalize wr.drew = wd at hB HC0 ⊢
            refine wpAnyM_pick (i := 0) (some 35) (v := ?vz1) rfl rfl (by kernel_rfl) (by kernel_rfl) (by kernel_rfl) (by kernel_rfl) (fun _ _ _ h => h) (Or.inl ⟨by rfl, ?hz1⟩) HC0 ?rz1
            case hz1 => intro w hSw; go_simp; try with_reducible rfl
            try simp only [Act.put, List.setIfInBounds_toArray, List.set_cons_zero, List.set_cons_succ]
            refine wpAnyM_pick (i := 2) (some 37) (v := ?vz2) rfl rfl (by kernel_rfl) (by kernel_rfl) (by kernel_rfl) (by kernel_rfl) (fun _ _ _ h => h) (Or.inl ⟨by rfl, ?hz2⟩) HC0 ?rz2
            case hz2 => intro w hSw; go_simp; try with_reducible rfl
            try simp only [Act.put, List.setIfInBounds_toArray, List.set_cons_zero, List.set_cons_succ]
            refine wpAnyM_pick (i := 3) (some 38) (v := ?vz3) rfl rfl (by kernel_rfl) (by kernel_rfl) (by kernel_rfl) (by kernel_rfl) (fun _ _ _ h => h) (Or.inl ⟨by rfl, ?hz3⟩) HC0 ?rz3
            case hz3 => intro w hSw; go_simp; try with_reducible rfl
            try simp only [Act.put, List.setIfInBounds_toArray, List.set_cons_zero, List.set_cons_succ]
            refine wpAnyM_pick (i := 4) (some 39) (v := ?vz4) rfl rfl (by kernel_rfl) (by kernel_rfl) (by kernel_rfl) (by kernel_rfl) (fun _ _ _ h => h) (Or.inl ⟨by rfl, ?hz4⟩) HC0 ?rz4
            case hz4 => intro w hSw; go_simp; try with_reducible rfl
            try simp only [Act.put, List.setIfInBounds_toArray, List.set_cons_zero, List.set_cons_succ]
            refine wpAnyM_pick (i := 5) (some 40) (v := ?vz5) rfl rfl (by kernel_rfl) (by kernel_rfl) (by kernel_rfl) (by kernel_rfl) (fun _ _ _ h => h) (Or.inl ⟨by rfl, ?hz5⟩) HC0 ?rz5
            case hz5 => intro w hSw; go_simp; try with_reducible rfl
            try simp only [Act.put, List.setIfInBounds_toArray, List.set_cons_zero, List.set_cons_succ]
            refine wpAnyM_one (i := 1) (by kernel_rfl) rfl (fun K hK => ?_)
            go_simp
            go_at_call 8
            refine (hru _ (HB.out.trans (hB.mono hbs))).mono ?_
            rintro e y1 ⟨rv1, rfl, ho1, hb1⟩
            have B1b := hB.trans (hb1.mono hB.size)
            have R1b := hid (ho1.lies HRF.out)
            obtain ⟨ra1, rc1, hrv1⟩ := ho1.form
            subst hrv1
            clear ho1 hb1
            go_wp2_with fail
            refine hK.out _ _ (fun _ => (B1b.cell (p := ⟨g, off + k, none⟩) hgl).trans c0) ?_
            clear hK K
            try simp only [Act.put, List.setIfInBounds_toArray, List.set_cons_zero, List.set_cons_succ]
            refine wpAnyM_one (i := 6) (by kernel_rfl) rfl (fun K hK => ?_)
            go_simp
            go_at_call 9
            refine (copy_any _ _ L (HLX.out.on B1b) zL).mono ?_
            rintro e y2 ⟨xv2, rfl, ho2, hb2⟩
            have B2b := B1b.trans (hb2.mono B1b.size)
            have R2b := hid (R1b.out.on hb2)
            have X2b := hid (Owns.lies ho2 HFL.out)
            obtain ⟨xa2, xc2, hxv2, _⟩ := own_cells ho2
            subst hxv2
            clear ho2 hb2
            go_wp2_with fail
            refine hK.out _ _ (fun _ => (B2b.cell (p := ⟨g, off + k, none⟩) hgl).trans c0) ?_
            clear hK K
            try simp only [Act.put, List.setIfInBounds_toArray, List.set_cons_zero, List.set_cons_succ]
            refine wpAnyM_one (i := 7) (by kernel_rfl) rfl (fun K hK => ?_)
            go_simp
            go_at_call 7
            refine (normal_in _ _ rs R2b.out _ L X2b.out 100 (by decide) (by decide) HN.out).mono ?_
            rintro e y3 ⟨nv3, rfl, ho3, hb3⟩
            have B3b := B2b.trans (hb3.mono B2b.size)
            have O3b := own_base ho3 B2b.size
            obtain ⟨na, nc, hnv, _⟩ := own_cells ho3
            subst hnv
            clear ho3 hb3
            go_wp2_with fail
            refine hK.out _ _ (fun _ => (B3b.cell (p := ⟨g, off + k, none⟩) hgl).trans c0) ?_
            clear hK K
            try simp only [Act.put, List.setIfInBounds_toArray, List.set_cons_zero, List.set_cons_succ]
            refine wpAnyM_pick (i := 8) (some 34) (v := ?vz6) rfl rfl (by kernel_rfl) (by kernel_rfl) (by kernel_rfl) (by kernel_rfl) (fun _ _ _ h => h) (Or.inl ⟨by rfl, ?hz6⟩) ((B3b.cell (p := ⟨g, off + k, none⟩) hgl).trans c0) ?rz6
            case hz6 => intro w hSw; go_simp; try with_reducible rfl
            try simp only [Act.put, List.setIfInBounds_toArray, List.set_cons_zero, List.set_cons_succ]
            refine wpAnyM_pick (i := 9) (some 43) (v := ?vz7) rfl rfl (by kernel_rfl) (by kernel_rfl) (by kernel_rfl) (by kernel_rfl) (fun _ _ _ h => h) (Or.inl ⟨by rfl, ?hz7⟩) ((B3b.cell (p := ⟨g, off + k, none⟩) hgl).trans c0) ?rz7
            case hz7 => intro w hSw; go_simp; try with_reducible rfl
            try simp only [Act.put, List.setIfInBounds_toArray, List.set_cons_zero, List.set_cons_succ]
            refine wpAnyM_pick (i := 10) (some 44) (v := ?vz8) rfl rfl (by kernel_rfl) (by kernel_rfl) (by kernel_rfl) (by kernel_rfl) (fun _ _ _ h => h) (Or.inl ⟨by rfl, ?hz8⟩) ((B3b.cell (p := ⟨g, off + k, none⟩) hgl).trans c0) ?rz8
            case hz8 => intro w hSw; go_simp; try with_reducible rfl
            try simp only [Act.put, List.setIfInBounds_toArray, List.set_cons_zero, List.set_cons_succ]
            refine wpAnyM_pick (i := 11) (some 45) (v := ?vz9) rfl rfl (by kernel_rfl) (by kernel_rfl) (by kernel_rfl) (by kernel_rfl) (fun _ _ _ h => h) (Or.inl ⟨by rfl, ?hz9⟩) ((B3b.cell (p := ⟨g, off + k, none⟩) hgl).trans c0) ?rz9
            case hz9 => intro w hSw; go_simp; try with_reducible rfl
            try simp only [Act.put, List.setIfInBounds_toArray, List.set_cons_zero, List.set_cons_succ]
            refine wpAnyM_one (i := 12) (by kernel_rfl) rfl (fun K hK => ?_)
            go_simp
            refine hK.out _ _ (fun _ => (B3b.cell (p := ⟨g, off + k, none⟩) hgl).trans c0) ?_
            clear hK K
            try simp only [Act.put, List.setIfInBounds_toArray, List.set_cons_zero, List.set_cons_succ]
            refine wpAnyM_one (i := 13) (by kernel_rfl) rfl (fun K hK => ?_)
            go_simp
            refine hK.out _ _ (fun _ => (B3b.cell (p := ⟨g, off + k, none⟩) hgl).trans c0) ?_
            clear hK K
            try simp only [Act.put, List.setIfInBounds_toArray, List.set_cons_zero, List.set_cons_succ]
            refine wpAnyM_one (i := 14) (by kernel_rfl) rfl (fun K hK => ?_)
            go_simp
            refine hK.out _ _ (fun _ => (B3b.cell (p := ⟨g, off + k, none⟩) hgl).trans c0) ?_
            clear hK K
            try simp only [Act.put, List.setIfInBounds_toArray, List.set_cons_zero, List.set_cons_succ]
            refine wpAnyM_done (by kernel_rfl) ?_ _
            try simp only [Act.put, List.setIfInBounds_toArray, List.set_cons_zero, List.set_cons_succ]
            go_wp2_with fail
            go_meet
            exact ⟨na, nc, rfl, rfl, rfl, O3b, B3b⟩
          case rest =>
            obtain ⟨na, nc, rfl, rfl, rfl, hON, hB9⟩ := hcut
            have HB9 := hid (HB.out.trans (hB9.mono hbs))
            have HO9 := hid (HO.out.on hB9)
            have HON := hid (own_base hON hbs)
            have HLX9 := hid (HLX.out.on hB9)
            have c9 := (hB9.cell (p := ⟨g, off + k, none⟩) hgl).trans c0
            clear hON hB9 HB HO HLX c0
            rcases HNC.out with ⟨V', g', _, _, hnf, hg0, _, e9, hev⟩ | ⟨cc', hcc, e9⟩
            · simp only [Prod.mk.injEq] at e9
              obtain ⟨rfl, rfl, rfl⟩ := e9
              obtain ⟨i0, hi, hz0, hz1, hz2⟩ := info_parts info36
              have HM := hid (EvS.row HFL.out hnf hg0 hev)
              obtain ⟨ps, hpl, hrow, hel⟩ := HO9.out
              have HEL := hid hel
              have hcp := copy_any _ _ L HLX9.out zL
              have hml : ms.length + 1 ≤ 1000 := by omega
              clear hel HO9 hev hnf HNC
              go_wp2_with (first | (go_at_call 9; refine hcp.mono ?_; clear hcp; rintro e w3 ⟨lv3, rfl, hl3, hb3⟩; have HL3 := hid (own_base hl3 HB9.out.size); obtain ⟨la, lc, hlv, _⟩ := own_cells hl3; subst hlv; have hrow3 := own_below hrow hb3; have HON3 := hid (own_below HON.out hb3); have HB3 := hid (HB9.out.trans (hb3.mono HB9.out.size)); have hs3 := HB3.out.size) | (at_builtin; refine wpList_append_own_wide _ rfl _ _ 28 rfl w.heap.size 36 i0 (.agg #[.slice none 0 0, .slice none 0 0, .slice none 0 0]) 3 72 Try.underlying28 hi hz0 hz1 hz2 rfl (by decide) _ ms.length (flatM ps) rfl (hrow3.alloc _) ⟨w3.heap.size, 0, none⟩ 1 1 [.slice la L.length lc, .slice na V.length nc, .slice none 0 0] rfl rfl (three_cells w3 _ _ _ _) ?k1 ?k2 ?k3 ?k4 ?_))
              case k1 => first | exact ⟨rfl, rfl, rfl⟩ | (intro u hu; simp at hu; rcases hu with rfl | rfl | rfl <;> rfl)
              case k2 => unfold maxLen; omega
              case k3 => exact mem_lim (by omega)
              case k4 => first | omega | (simp; omega)
              intro v' w6 hown' hgrow _
              have hba := HB3.out.alloc hs3 (.cells #[.slice la L.length lc, .slice na V.length nc, .slice none 0 0] 36)
              have HB6 : Hid (Below w.heap.size w w6) := hba.grown hgrow hba.size (fun b hb => (hrow3.lt b hb).1)
              have HO6 : Hid (OwnsM w6 w.heap.size v' (ms ++ [⟨L, V, []⟩])) := OwnsM.more (w3 := w3) hpl (fun i q hq => by
                obtain ⟨x1, y1, q1, q2, q3⟩ := HEL.out i q hq
                exact ⟨x1, y1, q1, own_below q2 hb3, own_below q3 hb3⟩) HL3.out HON3.out hown' (fun z l hz => own_apart7 (World.ownsRow.alloc hz _) (hrow3.alloc _) (by decide) hgrow)
              obtain ⟨va, vc, hnv, _⟩ := own_cells hown'
              subst hnv
              clear hown' hgrow hrow3 hrow hba HEL hb3 hl3
              go_wp2_with fail
              go_roundw
              case rel => exact ⟨k + 1, ms ++ [⟨L, V, []⟩], by omega, by simp; omega, by go_num, HO6, rows_more HG.out HM.out, HB6⟩
              case measure => (simp [intOf]; try omega)
            · simp only [Prod.mk.injEq] at e9
              obtain ⟨rfl, rfl, rfl⟩ := e9
              have hE1 : ¬ (cc : Int) = 0 := by omega
              have hE2 : ((cc : Int) == 0) = false := by simp only [beq_eq_false_iff_ne]; omega
              clear HNC
              go_wp2_with fail
              go_roundw
              case rel => exact ⟨k + 1, ms, by omega, by omega, by go_num, HO9, HG, HB9⟩
              case measure => (simp [intOf]; try omega)
        · have hki : ¬ (k : Int) < (K.length : Int) := by omega
          clear hlt hk HZK
          have hru1 := hru
          have hcp1 := hcp
          obtain ⟨⟨V, nn, cc⟩, hN⟩ : ∃ r, normP rs T 300 = r := ⟨_, rfl⟩
          have HN := hid hN
          have hNC := norm_case rs T (fu := 300) (by decide) (by decide)
          rw [hN] at hNC
          clear hN
          rcases hNC with ⟨V', g', hchk, hgT, hnf, hg0, hg1, e9, hev⟩ | ⟨cc', hcc, e9⟩
          · simp only [Prod.mk.injEq] at e9
            obtain ⟨rfl, rfl, rfl⟩ := e9
            have HTB := hid (tbM_ok HG.out)
            obtain ⟨n', S', hrun, hn'⟩ := known_run hchk HTB.out (tbM_n HG.out) hgT (by decide) hg0 hg1 hev
            have HSMs := hid (small_start hgT)
            have hsp := startP_grd hgT
            have hse : (startP T).2 = 0 := by rw [hsp]
            have hsa : ∀ w1 u, Lies w1 u T → _ := fun w1 u hu => start_any w1 u T hu
            rw [hse] at hsa
            clear hse hsp
            generalize (startP T).1 = s at hrun HSMs hsa
            obtain ⟨n, hn⟩ : ∃ n, 300 - g' = n := ⟨_, rfl⟩
            rw [hn] at hrun hn' HN
            have hn0 : 0 ≤ n ∧ n ≤ 300 := by omega
            obtain ⟨x, hx⟩ : ∃ x : Stt, (⟨[], [V], n', S'⟩ : Stt) = x := ⟨_, rfl⟩
            have hxo : x.ops.length = 0 := by rw [← hx]; rfl
            have hxv : x.vals = [V] := by rw [← hx]
            have hxs : x.steps ≤ n := by rw [← hx]; exact hn'
            rw [hx] at hrun
            have HRP := hid hrun
            have hno := HSMs.out.no
            have hnv := HSMs.out.nv
            have hfu : -9223372036854775808 ≤ n ∧ n ≤ 9223372036854775807 := by omega
            have hlim : s.ops.length + 8 * n.toNat ≤ 2513169500000 := by omega
            have hlv : s.vals.length ≤ 7539508500002 := by omega
            have hlnum : s.vals.length + s.ops.length ≤ 9223372036854775000 := by omega
            have HOKR : Hid (SttOk x) := by have := runP_ok (rs := rs) HTB.out (s := s) (fu := n) hlim; rw [hrun] at this; exact this
            have HFV : Hid (Fine V) := fine_check (grd_iff.1 hnf.1).1
            have HXO := hid hxo
            have HXV := hid hxv
            clear hrun hx hn' hn hg0 hg1 hev hnf hchk hxo hxv
            go_upto_region 17 with (first | (go_at_call 8; refine (hru1 _ HB.out).mono ?_; clear hru1; rintro e w1 ⟨rv1, rfl, ho1, hb1⟩; have HL1 := hid (ho1.lies HRF.out); obtain ⟨r1, r2, hrv1⟩ := ho1.form; subst hrv1; have HB1 := hid (HB.out.trans (hb1.mono hbs)); have HO1 := hid (HO.out.on hb1); clear ho1 hb1) | (go_at_call 9; refine (hcp1 _ HB1.out).mono ?_; clear hcp1; rintro e w2 ⟨x2, rfl, ho2, hb2⟩; have hl2 := Owns.lies ho2 HFT.out; obtain ⟨xa, xc, hxv, _⟩ := own_cells ho2; subst hxv; have HB2 := hid (HB1.out.trans (hb2.mono HB1.out.size)); have HO2 := hid (HO1.out.on hb2); have hq := normal_in w2 _ rs (HL1.out.on hb2) _ T hl2 300 (by decide) (by decide) HN.out; clear ho2 hl2 hb2 HL1) | (go_at_call 7; refine hq.mono ?_; clear hq; rintro e w3 ⟨x3, rfl, ho3, hb3⟩; obtain ⟨na, nc, hnv, _⟩ := own_cells ho3; subst hnv; have HB3 := hid (HB2.out.trans (hb3.mono HB2.out.size)); have HO3 := hid (HO2.out.on hb3); have HX3 := hid ho3; clear ho3 hb3) | (go_at_call 9; refine (hcp _ HB3.out).mono ?_; clear hcp; rintro e w4 ⟨x4, rfl, ho4, hb4⟩; have hl4 := Owns.lies ho4 HFT.out; obtain ⟨xa4, xc4, hxv4, _⟩ := own_cells ho4; subst hxv4; have HB4 := hid (HB3.out.trans (hb4.mono HB3.out.size)); have HO4 := hid (HO3.out.on hb4); have HX4 := hid (own_below HX3.out hb4); have hq4 := hsa w4 _ hl4; clear hb4 ho4 hl4 hsa) | (go_at_call 10; refine hq4.mono ?_; clear hq4; rintro e w5 ⟨sv5, rfl, ho5, hb5⟩; obtain ⟨s1, s2, s3, s4, s5, s6, hsv, _⟩ := ho5.trio HSMs.out.ok; subst hsv; have A5 := hb5.trans ((bel_al w5 (.cells #[.slice s1 s.ops.length s2, .slice s3 s.vals.length s4, .int .i64 s.steps, .slice s5 s.heads.length s6] 39)).mono hb5.size); have HB6 := hid (HB4.out.trans (A5.mono HB4.out.size)); have HO5 := hid (HO4.out.on A5); have HV5 := hid (own_below HX4.out A5); have HX5 := hid (Blk.made w5 #[.slice s1 s.ops.length s2, .slice s3 s.vals.length s4, .int .i64 s.steps, .slice s5 s.heads.length s6] 39); have HS5 := hid ((ho5.base (Nat.zero_le _)).on (bel_al w5 (.cells #[.slice s1 s.ops.length s2, .slice s3 s.vals.length s4, .int .i64 s.steps, .slice s5 s.heads.length s6] 39))); clear A5 hb5 ho5))
            generalize hwb : w5.alloc (.cells #[.slice s1 s.ops.length s2, .slice s3 s.vals.length s4, .int .i64 s.steps, .slice s5 s.heads.length s6] 39) = wb at HX5 HS5 HB6 HO5 HV5 ⊢
            have HASK := hid (ask_tb wb _ ms (HO5.out.lies (fun m hm => ⟨(HG.out m hm).ft, (HG.out m hm).fn, (HG.out m hm).h⟩)) (fun m hm => by have := (HG.out m hm).nf.size; omega) (fun m hm => by rw [(HG.out m hm).h]; decide) HO5.out.room HTB.out)
            clear hwb HB4 HO4 HX4 HB3 HO3 HX3 HB2 HO2 HB1 HO1 HO HB HO5 HG
            go_cut [17, 18] from 79 (fun s17 s18 wx => ∃ (p : Nat) (p1 : Option Addr) (p2 : Nat) (p3 : Option Addr) (p4 : Nat) (p5 : Option Addr) (p6 : Nat), s17 = .pointer (some ⟨p, 0, none⟩) ∧ s18 = .int .i64 (0 : Nat) ∧ Below wb.heap.size wb wx ∧ Blk wx p #[.slice p1 x.ops.length p2, .slice p3 x.vals.length p4, .int .i64 x.steps, .slice p5 x.heads.length p6] 39 ∧ OutSt 0 wx (.agg #[.slice p1 x.ops.length p2, .slice p3 x.vals.length p4, .int .i64 x.steps, .slice p5 x.heads.length p6]) x)
            case first =>
              have HX := HX5
              have HS := HS5
              have HSM := HSMs
              have HBV := HB6
              have hB : Below wb.heap.size wb wb.drew := (Below.refl _ wb).drew
              have HC0 := four (HX.out.on hB HX.out.lt)
              refine wp_region_m (fun w' => (w'.cell? ⟨w5.heap.size, 0, none⟩ = some (.slice s1 s.ops.length s2) ∧ w'.cell? ⟨w5.heap.size, 1, none⟩ = some (.slice s3 s.vals.length s4) ∧ w'.cell? ⟨w5.heap.size, 2, none⟩ = some (.int .i64 s.steps) ∧ w'.cell? ⟨w5.heap.size, 3, none⟩ = some (.slice s5 s.heads.length s6))) 100 (by kernel_rfl) ?_
              generalize wb.drew = wd at hB HC0 ⊢
              refine wpAnyM_pick (i := 0) (some 80) (v := ?vz10) rfl rfl (by kernel_rfl) (by kernel_rfl) (by kernel_rfl) (by kernel_rfl) (fun _ _ _ h => h) (Or.inl ⟨by rfl, ?hz10⟩) HC0 ?rz10
              case hz10 => intro w hSw; go_simp; try with_reducible rfl
              try simp only [Act.put, List.setIfInBounds_toArray, List.set_cons_zero, List.set_cons_succ]
              refine wpAnyM_pick (i := 2) (some 82) (v := ?vz11) rfl rfl (by kernel_rfl) (by kernel_rfl) (by kernel_rfl) (by kernel_rfl) (fun _ _ _ h => h) (Or.inl ⟨by rfl, ?hz11⟩) HC0 ?rz11
              case hz11 => intro w hSw; go_simp; try with_reducible rfl
              try simp only [Act.put, List.setIfInBounds_toArray, List.set_cons_zero, List.set_cons_succ]
              refine wpAnyM_pick (i := 3) (some 83) (v := ?vz12) rfl rfl (by kernel_rfl) (by kernel_rfl) (by kernel_rfl) (by kernel_rfl) (fun _ _ _ h => h) (Or.inl ⟨by rfl, ?hz12⟩) HC0 ?rz12
              case hz12 => intro w hSw; go_simp; try with_reducible rfl
              try simp only [Act.put, List.setIfInBounds_toArray, List.set_cons_zero, List.set_cons_succ]
              refine wpAnyM_pick (i := 4) (some 84) (v := ?vz13) rfl rfl (by kernel_rfl) (by kernel_rfl) (by kernel_rfl) (by kernel_rfl) (fun _ _ _ h => h) (Or.inl ⟨by rfl, ?hz13⟩) HC0 ?rz13
              case hz13 => intro w hSw; go_simp; try with_reducible rfl
              try simp only [Act.put, List.setIfInBounds_toArray, List.set_cons_zero, List.set_cons_succ]
              refine wpAnyM_pick (i := 5) (some 85) (v := ?vz14) rfl rfl (by kernel_rfl) (by kernel_rfl) (by kernel_rfl) (by kernel_rfl) (fun _ _ _ h => h) (Or.inl ⟨by rfl, ?hz14⟩) HC0 ?rz14
              case hz14 => intro w hSw; go_simp; try with_reducible rfl
              try simp only [Act.put, List.setIfInBounds_toArray, List.set_cons_zero, List.set_cons_succ]
              refine wpAnyM_pick (i := 6) (some 86) (v := ?vz15) rfl rfl (by kernel_rfl) (by kernel_rfl) (by kernel_rfl) (by kernel_rfl) (fun _ _ _ h => h) (Or.inl ⟨by rfl, ?hz15⟩) HC0 ?rz15
              case hz15 => intro w hSw; go_simp; try with_reducible rfl
              try simp only [Act.put, List.setIfInBounds_toArray, List.set_cons_zero, List.set_cons_succ]
              refine wpAnyM_two (i := 1) (j := 11) (by kernel_rfl) rfl rfl (fun K hK => ?_) (fun K hK => ?_)
              · go_simp
                go_at_call 8
                refine (hru _ (HBV.out.trans (hB.mono HBV.out.size))).mono ?_
                rintro e u1 ⟨rv1, rfl, ho1, hb1⟩
                have B1b := hB.trans (hb1.mono hB.size)
                have R1b := hid (ho1.lies HRF.out)
                obtain ⟨ra1, rc1, hrv1⟩ := ho1.form
                subst hrv1
                clear ho1
                go_wp2_with fail
                refine hK.out _ _ (fun _ => four (HX.out.on B1b HX.out.lt)) ?_
                clear hK K
                try simp only [Act.put, List.setIfInBounds_toArray, List.set_cons_zero, List.set_cons_succ]
                refine wpAnyM_two (i := 7) (j := 11) (by kernel_rfl) rfl rfl (fun K hK => ?_) (fun K hK => ?_)
                · go_simp
                  go_at_call 11
                  refine (run_wide _ _ rs R1b.out s _ _ _ ((HS.out.on B1b).in2 HSM.out).2 HSM.out.wf n hfu (.iface 44 (.agg #[.slice ma ms.length mc])) (.inr ⟨_, _, rfl⟩) (tbM ms) HTB.out (HASK.out.on B1b) hlim hlv hlnum).mono ?_
                  rw [HRP.out]
                  dsimp only
                  rintro e u2 ⟨sv2, rfl, hO5, hb2⟩
                  have B2b := B1b.trans (hb2.mono B1b.size)
                  obtain ⟨p1, p2, p3, p4, p5, p6, hsv2, _⟩ := hO5.trio HOKR.out
                  subst hsv2
                  go_wp2_with fail
                  refine hK.out _ _ (fun _ => four (HX.out.on B2b HX.out.lt)) ?_
                  clear hK K
                  try simp only [Act.put, List.setIfInBounds_toArray, List.set_cons_zero, List.set_cons_succ]
                  have A3 := bel_al u2 (.cells #[.slice p1 x.ops.length p2, .slice p3 x.vals.length p4, .int .i64 x.steps, .slice p5 x.heads.length p6] 39)
                  have B3 := B2b.trans (A3.mono B2b.size)
                  have P3 := Blk.made u2 #[.slice p1 x.ops.length p2, .slice p3 x.vals.length p4, .int .i64 x.steps, .slice p5 x.heads.length p6] 39
                  have L3 := (hO5.base (Nat.zero_le _)).on A3
                  have A3z := bel_al u2 (.cells #[.slice none 0 0, .slice none 0 0, .int .i64 0, .slice none 0 0] 39)
                  have B3z := B2b.trans (A3z.mono B2b.size)
                  refine wpAnyM_pick (i := 8) (some 79) (v := ?vz16) rfl rfl (by kernel_rfl) (by kernel_rfl) (by kernel_rfl) (by kernel_rfl) (fun _ _ _ h => h) (Or.inl ⟨by rfl, ?hz16⟩) (four (HX.out.on B2b HX.out.lt)) ?rz16
                  case hz16 => intro w hSw; go_simp; try with_reducible rfl
                  try simp only [Act.put, List.setIfInBounds_toArray, List.set_cons_zero, List.set_cons_succ]
                  refine wpAnyM_pick (i := 9) (some 88) (v := ?vz17) rfl rfl (by kernel_rfl) (by kernel_rfl) (by kernel_rfl) (by kernel_rfl) (fun _ _ _ h => h) (Or.inl ⟨by rfl, ?hz17⟩) (four (HX.out.on B2b HX.out.lt)) ?rz17
                  case hz17 => intro w hSw; go_simp; try with_reducible rfl
                  try simp only [Act.put, List.setIfInBounds_toArray, List.set_cons_zero, List.set_cons_succ]
                  refine wpAnyM_pick (i := 10) (some 89) (v := ?vz18) rfl rfl (by kernel_rfl) (by kernel_rfl) (by kernel_rfl) (by kernel_rfl) (fun _ _ _ h => h) (Or.inl ⟨by rfl, ?hz18⟩) (four (HX.out.on B2b HX.out.lt)) ?rz18
                  case hz18 => intro w hSw; go_simp; try with_reducible rfl
                  try simp only [Act.put, List.setIfInBounds_toArray, List.set_cons_zero, List.set_cons_succ]
                  refine wpAnyM_one (i := 11) (by kernel_rfl) rfl (fun K hK => ?_)
                  go_simp
                  refine hK.out _ _ (fun _ => four (HX.out.on B3z HX.out.lt)) ?_
                  clear hK K
                  try simp only [Act.put, List.setIfInBounds_toArray, List.set_cons_zero, List.set_cons_succ]
                  refine wpAnyM_one (i := 12) (by kernel_rfl) rfl (fun K hK => ?_)
                  go_simp
                  refine hK.out _ _ (fun _ => four (HX.out.on B3 HX.out.lt)) ?_
                  clear hK K
                  try simp only [Act.put, List.setIfInBounds_toArray, List.set_cons_zero, List.set_cons_succ]
                  refine wpAnyM_one (i := 13) (by kernel_rfl) rfl (fun K hK => ?_)
                  go_simp
                  refine hK.out _ _ (fun _ => four (HX.out.on B3 HX.out.lt)) ?_
                  clear hK K
                  try simp only [Act.put, List.setIfInBounds_toArray, List.set_cons_zero, List.set_cons_succ]
                  refine wpAnyM_done (by kernel_rfl) ?_ _
                  try simp only [Act.put, List.setIfInBounds_toArray, List.set_cons_zero, List.set_cons_succ]
                  go_wp2_with fail
                  go_meet
                  exact ⟨_, p1, p2, p3, p4, p5, p6, rfl, rfl, B3, P3, L3⟩
                · have A2a := bel_al u1 (.cells #[.slice none 0 0, .slice none 0 0, .int .i64 0, .slice none 0 0] 39)
                  have B2a := B1b.trans (A2a.mono B1b.size)
                  have P2a := Blk.made u1 #[.slice none 0 0, .slice none 0 0, .int .i64 0, .slice none 0 0] 39
                  have hp2 : wb.heap.size ≤ u1.heap.size := B1b.size
                  have R2a := hid (R1b.out.on A2a)
                  go_simp
                  refine hK.out _ _ (fun _ => four (HX.out.on B2a HX.out.lt)) ?_
                  clear hK K
                  try simp only [Act.put, List.setIfInBounds_toArray, List.set_cons_zero, List.set_cons_succ]
                  refine wpAnyM_one (i := 7) (by kernel_rfl) rfl (fun K hK => ?_)
                  go_simp
                  go_at_call 11
                  refine (run_wide _ _ rs R2a.out s _ _ _ ((HS.out.on B2a).in2 HSM.out).2 HSM.out.wf n hfu (.iface 44 (.agg #[.slice ma ms.length mc])) (.inr ⟨_, _, rfl⟩) (tbM ms) HTB.out (HASK.out.on B2a) hlim hlv hlnum).mono ?_
                  rw [HRP.out]
                  dsimp only
                  rintro e u4 ⟨sv4, rfl, hO5, hb4⟩
                  have B4b := B2a.trans (hb4.mono B2a.size)
                  have P4b := P2a.on hb4 P2a.lt
                  obtain ⟨p1, p2, p3, p4, p5, p6, hsv4, _⟩ := hO5.trio HOKR.out
                  subst hsv4
                  go_wp2_with fail
                  refine hK.out _ _ (fun _ => four (HX.out.on B4b HX.out.lt)) ?_
                  clear hK K
                  try simp only [Act.put, List.setIfInBounds_toArray, List.set_cons_zero, List.set_cons_succ]
                  have a0 := P4b.cell (i := 0) rfl
                  have z0 := P4b.free 0
                  have m1 := P4b.set 0 (.slice p1 x.ops.length p2)
                  have a1 := m1.cell (i := 1) rfl
                  have z1 := m1.free 1
                  have m2 := m1.set 1 (.slice p3 x.vals.length p4)
                  have a2 := m2.cell (i := 2) rfl
                  have z2 := m2.free 2
                  have m3 := m2.set 2 (.int .i64 x.steps)
                  have a3 := m3.cell (i := 3) rfl
                  have z3 := m3.free 3
                  obtain ⟨hD, hg⟩ := set4 P4b (.slice p1 x.ops.length p2) (.slice p3 x.vals.length p4) (.int .i64 x.steps) (.slice p5 x.heads.length p6)
                  have B5 := B4b.grown hg B4b.size (fun k hk => by cases hk; omega)
                  have L5 := (hO5.base (Nat.zero_le _)).blk P4b hg
                  refine wpAnyM_pick (i := 8) (some 79) (v := ?vz19) rfl rfl (by kernel_rfl) (by kernel_rfl) (by kernel_rfl) (by kernel_rfl) (fun _ _ _ h => h) (Or.inl ⟨by rfl, ?hz19⟩) (four (HX.out.on B4b HX.out.lt)) ?rz19
                  case hz19 => intro w hSw; go_simp; try with_reducible rfl
                  try simp only [Act.put, List.setIfInBounds_toArray, List.set_cons_zero, List.set_cons_succ]
                  refine wpAnyM_pick (i := 9) (some 88) (v := ?vz20) rfl rfl (by kernel_rfl) (by kernel_rfl) (by kernel_rfl) (by kernel_rfl) (fun _ _ _ h => h) (Or.inl ⟨by rfl, ?hz20⟩) (four (HX.out.on B4b HX.out.lt)) ?rz20
                  case hz20 => intro w hSw; go_simp; try with_reducible rfl
                  try simp only [Act.put, List.setIfInBounds_toArray, List.set_cons_zero, List.set_cons_succ]
                  refine wpAnyM_pick (i := 10) (some 89) (v := ?vz21) rfl rfl (by kernel_rfl) (by kernel_rfl) (by kernel_rfl) (by kernel_rfl) (fun _ _ _ h => h) (Or.inl ⟨by rfl, ?hz21⟩) (four (HX.out.on B4b HX.out.lt)) ?rz21
                  case hz21 => intro w hSw; go_simp; try with_reducible rfl
                  try simp only [Act.put, List.setIfInBounds_toArray, List.set_cons_zero, List.set_cons_succ]
                  refine wpAnyM_one (i := 12) (by kernel_rfl) rfl (fun K hK => ?_)
                  go_simp
                  refine hK.out _ _ (fun _ => four (HX.out.on B5 HX.out.lt)) ?_
                  clear hK K
                  try simp only [Act.put, List.setIfInBounds_toArray, List.set_cons_zero, List.set_cons_succ]
                  refine wpAnyM_one (i := 13) (by kernel_rfl) rfl (fun K hK => ?_)
                  go_simp
                  refine hK.out _ _ (fun _ => four (HX.out.on B5 HX.out.lt)) ?_
                  clear hK K
                  try simp only [Act.put, List.setIfInBounds_toArray, List.set_cons_zero, List.set_cons_succ]
                  refine wpAnyM_done (by kernel_rfl) ?_ _
                  try simp only [Act.put, List.setIfInBounds_toArray, List.set_cons_zero, List.set_cons_succ]
                  go_wp2_with fail
                  go_meet
                  exact ⟨_, p1, p2, p3, p4, p5, p6, rfl, rfl, B5, hD, L5⟩
              · have A1a := bel_al wd (.cells #[.slice none 0 0, .slice none 0 0, .int .i64 0, .slice none 0 0] 39)
                have B1a := hB.trans (A1a.mono hB.size)
                have P1a := Blk.made wd #[.slice none 0 0, .slice none 0 0, .int .i64 0, .slice none 0 0] 39
                have hp1 : wb.heap.size ≤ wd.heap.size := hB.size
                go_simp
                refine hK.out _ _ (fun _ => four (HX.out.on B1a HX.out.lt)) ?_
                clear hK K
                try simp only [Act.put, List.setIfInBounds_toArray, List.set_cons_zero, List.set_cons_succ]
                refine wpAnyM_one (i := 1) (by kernel_rfl) rfl (fun K hK => ?_)
                go_simp
                go_at_call 8
                refine (hru _ (HBV.out.trans (B1a.mono HBV.out.size))).mono ?_
                rintro e u6 ⟨rv6, rfl, ho6, hb6⟩
                have B6b := B1a.trans (hb6.mono B1a.size)
                have P6b := P1a.on hb6 P1a.lt
                have R6b := hid (ho6.lies HRF.out)
                obtain ⟨ra6, rc6, hrv6⟩ := ho6.form
                subst hrv6
                clear ho6
                go_wp2_with fail
                refine hK.out _ _ (fun _ => four (HX.out.on B6b HX.out.lt)) ?_
                clear hK K
                try simp only [Act.put, List.setIfInBounds_toArray, List.set_cons_zero, List.set_cons_succ]
                refine wpAnyM_one (i := 7) (by kernel_rfl) rfl (fun K hK => ?_)
                go_simp
                go_at_call 11
                refine (run_wide _ _ rs R6b.out s _ _ _ ((HS.out.on B6b).in2 HSM.out).2 HSM.out.wf n hfu (.iface 44 (.agg #[.slice ma ms.length mc])) (.inr ⟨_, _, rfl⟩) (tbM ms) HTB.out (HASK.out.on B6b) hlim hlv hlnum).mono ?_
                rw [HRP.out]
                dsimp only
                rintro e u7 ⟨sv7, rfl, hO5, hb7⟩
                have B7b := B6b.trans (hb7.mono B6b.size)
                have P7b := P6b.on hb7 P6b.lt
                obtain ⟨p1, p2, p3, p4, p5, p6, hsv7, _⟩ := hO5.trio HOKR.out
                subst hsv7
                go_wp2_with fail
                refine hK.out _ _ (fun _ => four (HX.out.on B7b HX.out.lt)) ?_
                clear hK K
                try simp only [Act.put, List.setIfInBounds_toArray, List.set_cons_zero, List.set_cons_succ]
                have a0 := P7b.cell (i := 0) rfl
                have z0 := P7b.free 0
                have m1 := P7b.set 0 (.slice p1 x.ops.length p2)
                have a1 := m1.cell (i := 1) rfl
                have z1 := m1.free 1
                have m2 := m1.set 1 (.slice p3 x.vals.length p4)
                have a2 := m2.cell (i := 2) rfl
                have z2 := m2.free 2
                have m3 := m2.set 2 (.int .i64 x.steps)
                have a3 := m3.cell (i := 3) rfl
                have z3 := m3.free 3
                obtain ⟨hD, hg⟩ := set4 P7b (.slice p1 x.ops.length p2) (.slice p3 x.vals.length p4) (.int .i64 x.steps) (.slice p5 x.heads.length p6)
                have B8 := B7b.grown hg B7b.size (fun k hk => by cases hk; omega)
                have L8 := (hO5.base (Nat.zero_le _)).blk P7b hg
                refine wpAnyM_pick (i := 8) (some 79) (v := ?vz22) rfl rfl (by kernel_rfl) (by kernel_rfl) (by kernel_rfl) (by kernel_rfl) (fun _ _ _ h => h) (Or.inl ⟨by rfl, ?hz22⟩) (four (HX.out.on B7b HX.out.lt)) ?rz22
                case hz22 => intro w hSw; go_simp; try with_reducible rfl
                try simp only [Act.put, List.setIfInBounds_toArray, List.set_cons_zero, List.set_cons_succ]
                refine wpAnyM_pick (i := 9) (some 88) (v := ?vz23) rfl rfl (by kernel_rfl) (by kernel_rfl) (by kernel_rfl) (by kernel_rfl) (fun _ _ _ h => h) (Or.inl ⟨by rfl, ?hz23⟩) (four (HX.out.on B7b HX.out.lt)) ?rz23
                case hz23 => intro w hSw; go_simp; try with_reducible rfl
                try simp only [Act.put, List.setIfInBounds_toArray, List.set_cons_zero, List.set_cons_succ]
                refine wpAnyM_pick (i := 10) (some 89) (v := ?vz24) rfl rfl (by kernel_rfl) (by kernel_rfl) (by kernel_rfl) (by kernel_rfl) (fun _ _ _ h => h) (Or.inl ⟨by rfl, ?hz24⟩) (four (HX.out.on B7b HX.out.lt)) ?rz24
                case hz24 => intro w hSw; go_simp; try with_reducible rfl
                try simp only [Act.put, List.setIfInBounds_toArray, List.set_cons_zero, List.set_cons_succ]
                refine wpAnyM_one (i := 12) (by kernel_rfl) rfl (fun K hK => ?_)
                go_simp
                refine hK.out _ _ (fun _ => four (HX.out.on B8 HX.out.lt)) ?_
                clear hK K
                try simp only [Act.put, List.setIfInBounds_toArray, List.set_cons_zero, List.set_cons_succ]
                refine wpAnyM_one (i := 13) (by kernel_rfl) rfl (fun K hK => ?_)
                go_simp
                refine hK.out _ _ (fun _ => four (HX.out.on B8 HX.out.lt)) ?_
                clear hK K
                try simp only [Act.put, List.setIfInBounds_toArray, List.set_cons_zero, List.set_cons_succ]
                refine wpAnyM_done (by kernel_rfl) ?_ _
                try simp only [Act.put, List.setIfInBounds_toArray, List.set_cons_zero, List.set_cons_succ]
                go_wp2_with fail
                go_meet
                exact ⟨_, p1, p2, p3, p4, p5, p6, rfl, rfl, B8, hD, L8⟩
            case rest =>
              obtain ⟨p, p1, p2, p3, p4, p5, p6, rfl, rfl, hB9, hP9, hO9⟩ := hcut
              have HB9 := hid (HB6.out.trans (hB9.mono HB6.out.size))
              have hLT := (hO9.lies2 HOKR.out).2.1
              have hl9 := Owns.lies (own_below HV5.out hB9) HFV.out
              have hxo := HXO.out
              have hxv := HXV.out
              have hvl : x.vals.length = 1 := by rw [hxv]; rfl
              have hLV : x.vals[0]? = some V := by rw [hxv]; rfl
              obtain ⟨b9, off9, yv, hp3, hbl9, c9, hly⟩ := hLT.at hLV
              subst hp3
              rw [Nat.add_zero] at c9
              have hsm := same_any wc _ _ V V hly hl9
              rw [decide_eq_true rfl] at hsm
              obtain ⟨ya, yc, hyv, _⟩ := id hly
              subst hyv
              rw [hxo, hvl] at hP9
              obtain ⟨j0, j1, j2, j3⟩ := four hP9
              clear HX5 HS5 HB6 hB9 hP9 hO9 HASK hLT hl9 hly hxv hvl hLV hxo HXO HXV HV5 HRP HOKR HSMs hru
              go_wp2_with (go_at_call 12; refine hsm.mono ?_; clear hsm; rintro e w9 ⟨rfl, hb9⟩; have HB10 := hid (HB9.out.trans (hb9.mono HB9.out.size)); replace j2 := (hb9.cell (p := ⟨p, 2, none⟩) (World.block_lt_of_cell? _ _ j2)).trans j2; clear hb9)
              go_ret
              exact ⟨rfl, HB10.out⟩
          · simp only [Prod.mk.injEq] at e9
            obtain ⟨rfl, rfl, rfl⟩ := e9
            have hE1 : ¬ (cc : Int) = 0 := by omega
            have hE2 : ((cc : Int) == 0) = false := by simp only [beq_eq_false_iff_ne]; omega
            go_wp2_with (first | (go_at_call 8; refine (hru1 _ HB.out).mono ?_; clear hru1; rintro e w1 ⟨rv1, rfl, ho1, hb1⟩; have HL1 := hid (ho1.lies HRF.out); obtain ⟨r1, r2, hrv1⟩ := ho1.form; subst hrv1; have HB1 := hid (HB.out.trans (hb1.mono hbs)); have HO1 := hid (HO.out.on hb1); clear ho1 hb1) | (go_at_call 9; refine (hcp1 _ HB1.out).mono ?_; clear hcp1; rintro e w2 ⟨x2, rfl, ho2, hb2⟩; have hl2 := Owns.lies ho2 HFT.out; obtain ⟨xa, xc, hxv, _⟩ := own_cells ho2; subst hxv; have HB2 := hid (HB1.out.trans (hb2.mono HB1.out.size)); have HO2 := hid (HO1.out.on hb2); have hq := normal_in w2 _ rs (HL1.out.on hb2) _ T hl2 300 (by decide) (by decide) HN.out; clear ho2 hl2 hb2 HL1) | (go_at_call 7; refine hq.mono ?_; clear hq; rintro e w3 ⟨x3, rfl, ho3, hb3⟩; obtain ⟨na, nc, hnv, _⟩ := own_cells ho3; subst hnv; have HB3 := hid (HB2.out.trans (hb3.mono HB2.out.size)); have HO3 := hid (HO2.out.on hb3); have HX3 := hid ho3; clear ho3 hb3))
            go_ret
            exact ⟨rfl, HB3.out⟩
    · have h10i : (10 : Int) < (K.length : Int) := by omega
      clear hr hT hz z1 hfT hfew hK z2
      go_enter Try.func3, Try.ntmps3
      go_wp2_with (first | (go_at_call 5; refine hwk.mono ?_; clear hwk; rintro e w1 ⟨rfl, hb1⟩; have HB1 := hid hb1; clear hb1) | (go_at_call 6; refine (hfw _ HB1.out).mono ?_; clear hfw; rintro e w2 ⟨rfl, rfl⟩))
      go_ret
      exact ⟨rfl, HB1.out⟩
  · rw [decide_eq_false hfew] at hfw
    clear hr hT hz z1 hfT hfew hK z2
    go_enter Try.func3, Try.ntmps3
    go_wp2_with (first | (go_at_call 5; refine hwk.mono ?_; clear hwk; rintro e w1 ⟨rfl, hb1⟩; have HB1 := hid hb1; clear hb1) | (go_at_call 6; refine (hfw _ HB1.out).mono ?_; clear hfw; rintro e w2 ⟨rfl, rfl⟩))
    go_ret
    exact ⟨rfl, HB1.out⟩

theorem rewriteKnown_own : ownKnob Try.prog.godebug = none := by kernel_rfl
theorem rewriteKnown_laidOut : laidOutB Try.prog = true := by kernel_rfl

set_option maxRecDepth 100000 in
theorem rewriteKnown_lifted (os : Os) (started : os.Started) (H : Type) (enc : TypeId × Value → H) :
    ReturnsInHanded {} Try.checked os 3 .any (Rows.rewriteKnownSpec.pre6 enc Try.prog Try.f3 Rows.rewriteKnownRow.domain false) (Rows.rewriteKnownSpec.post enc Try.prog Try.f3 false true false false) := by
  refine returnsInHanded_of_change_sized (C := Try.checked) rewriteKnown_own started (by kernel_rfl) Try.func3
    (ChangeSpec.witness6 (enc := enc) (C := Try.checked) false ⟨#[], #[.slice none 0 0, .slice none 0 0, .slice none 0 0], []⟩ 8 (by kernel_rfl) (by kernel_rfl) (by kernel_rfl) (by kernel_rfl)) ?_
  intro W base args ds gs before hval0 hW hcnd hsz0 _
  have hsz : (DataW.weightsEach Try.prog (Try.f3.params.toList ++ Rows.rewriteKnownSpec.plain.varTypes Try.prog) (ds ++ gs)).all (· ≤ reachBytes) = true := hsz0
  have hval : ∀ (j : Nat) t v, Try.f3.params[j]? = some t → args[j]? = some v → Value.okWide Try.prog W .any base t v := hval0
  have hW' := hW
  obtain ⟨p, q, hA0, hV, rfl, hfz, hnd⟩ := hW
  have hA : DataW.TrodAll enc Try.prog W 0 (fun _ => true) true Try.f3.params.toList args.toList ds p := hA0
  rw [Try.params3] at hA hval hsz
  obtain ⟨v0, vs0, d0, ds0, p0, q0, hargs, rfl, rfl, h0, r0⟩ := trodAll_cons hA
  obtain ⟨v1, vs1, d1, ds1, p1, q1, rfl, rfl, rfl, h1, r1⟩ := trodAll_cons r0
  obtain ⟨v2, vs2, d2, ds2, p2, q2, rfl, rfl, rfl, h2, r2⟩ := trodAll_cons r1
  obtain ⟨rfl, rfl, rfl⟩ := trodAll_nil r2
  obtain rfl : args = #[v0, v1, v2] := by cases args; simp_all
  obtain ⟨rfl, rfl⟩ := trodVars_none hV
  have k0 := h0
  have lt0 : ∀ x ∈ p0, x.block < W.heap.size := by obtain ⟨m, hm⟩ := k0; exact DataW.trod_lt m _ _ _ hm
  have k1 := h1
  have lt1 : ∀ x ∈ p1, x.block < W.heap.size := by obtain ⟨m, hm⟩ := k1; exact DataW.trod_lt m _ _ _ hm
  have k2 := h2
  have lt2 : ∀ x ∈ p2, x.block < W.heap.size := by obtain ⟨m, hm⟩ := k2; exact DataW.trod_lt m _ _ _ hm
  obtain ⟨L0, l0, z0⟩ := open_rules (hval 0 22 v0 rfl rfl) h0 (fun n hn => by simpa using List.all_eq_true.1 hsz n (DataW.weights_mem_each (j := 0) (t := 22) rfl rfl n hn))
  obtain ⟨L1, l1, z1⟩ := open_cells (hval 1 24 v1 rfl rfl) h1 (fun n hn => by simpa using List.all_eq_true.1 hsz n (DataW.weights_mem_each (j := 1) (t := 24) rfl rfl n hn))
  obtain ⟨L2, l2, z2⟩ := open_terms (hval 2 25 v2 rfl rfl) h2 (fun n hn => by simpa using List.all_eq_true.1 hsz n (DataW.weights_mem_each (j := 2) (t := 25) rfl rfl n hn))
  clear hA0 hval0
  refine (rewriteKnown_walk v0 L0 v1 L1 v2 L2 W l0 z0 l1 z1 l2 z2).mono fun e W' ⟨he, bel⟩ => ?_
  subst he
  exact ⟨_, rfl, _, _, _, [], _, [], hW', trodAll_mk1 (shut_bool Try.underlying4 _), (trodAll_cons_mk (Below.trod rewriteKnown_laidOut (by kernel_rfl) (of_decide_eq_true (by kernel_rfl)) k0 bel lt0) (trodAll_cons_mk (Below.trod rewriteKnown_laidOut (by kernel_rfl) (of_decide_eq_true (by kernel_rfl)) k1 bel lt1) (trodAll_cons_mk (Below.trod rewriteKnown_laidOut (by kernel_rfl) (of_decide_eq_true (by kernel_rfl)) k2 bel lt2) trodAll_mk0))), rfl, bel.frame _, fun h => by cases h⟩

theorem rewriteKnown_holds : Rows.RewriteKnownSaid :=
  OpenClaim.holds_of_wide 3 Try.f3 rfl rfl rfl rfl rfl rfl rfl ⟨rfl, rfl, rfl, rfl, rfl⟩ rfl rfl rfl rfl rfl (by kernel_rfl) Try.func3 (by kernel_rfl)
    (of_decide_eq_true (by kernel_rfl)) (by unfold Func.isWrapper; first | (rw [if_pos (by decide +kernel)]; kernel_rfl) | (rw [if_neg (by decide +kernel)]; exact ⟨rfl, rfl⟩))
    (fun os started H enc _ => rewriteKnown_lifted os started H enc)

#print axioms rewriteKnown_holds

end Go.Proofs.Ytbdlokijednoiaa
