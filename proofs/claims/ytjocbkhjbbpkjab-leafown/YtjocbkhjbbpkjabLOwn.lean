/-
  of every list and every key: what Put, Take and Cut answer is new memory, and what was handed in stays, whatever is written into what they answered.
-/
import Derived.Test.YtjocbkhjbbpkjabRows
import Derived.Test.YtjocbkhjbbpkjabOw
import Derived.Test.YtjocbkhjbbpkjabOe
import Derived.Test.YtjocbkhjbbpkjabWk
import Derived.ProofKit
import Derived.OpenShut
import Derived.ShutString
import Derived.ChangeOld
import Derived.Below
import Derived.SizedLaws
import Derived.Lib.SmallJoins
namespace Go.Proofs.Ytjocbkhjbbpkjab
open Go.ChangeShapes Go.WideShapes Go.ChangeAt Go.RowKit Go.Joins
open Go.ChangeMaps (open_string shut_string)
set_option linter.unusedVariables false
set_option linter.unusedSimpArgs false
set_option maxRecDepth 100000

set_option maxHeartbeats 8000000 in
theorem leafOwn_walk (v : Value) (L : List Ent) (key : ByteArray) (zs1 : key.size ≤ reachBytes) (w : World) (l1 : LiesE w v L) (z1 : L.length ≤ 4398046510976) :
    Calls Try.prog 3 #[v, .string key] w fun e w' => e = .returned (.bool true) ∧ Below w.heap.size w w' := by
  have hre : reachBytes = 140737488351232 := rfl
  have hk : Sml key := by unfold Sml; omega
  have hsm := l1.sml
  have HL := hid l1
  obtain ⟨n, hn⟩ : ∃ n, L.length = n := ⟨_, rfl⟩
  have HCP : Hid (∀ w1 : World, Below w.heap.size w w1 → Calls Try.prog 5 #[v] w1 fun e w' => ∃ a c, e = .returned (.slice a n c) ∧ RowE w' w1.heap.size (.slice a n c) L ∧ Below w1.heap.size w1 w') := fun w1 hb => copy_big w1 v L n hn (l1.on hb) (by omega)
  have HPT : Hid (∀ (w1 : World) (x : Value), LiesE w1 x L → Calls Try.prog 6 #[x, .string key, .string ⟨#[118]⟩] w1 fun e w' => ∃ (a : Option Addr) (m c : Nat), e = .returned (.slice a m c) ∧ Rw w' w1.heap.size (.slice a m c) m ∧ m ≤ 4398046510978 ∧ Below w1.heap.size w1 w') := fun w1 x h => (put_any w1 x L key ⟨#[118]⟩ h z1 hk (by unfold Sml; decide)).mono (by
    rintro e w' ⟨i, a, c, _, _, rfl, hr, hb⟩
    exact ⟨a, _, c, rfl, hr.rw rfl (Nat.le_refl _), by have := put_len (L := L) (i := i) (d := fd (fnd L key i)) (e := ⟨key, ⟨#[118]⟩⟩); omega, hb⟩)
  have HTK : Hid (∀ (w1 : World) (x : Value), LiesE w1 x L → Calls Try.prog 7 #[x, .string key] w1 fun e w' => ∃ (a : Option Addr) (m c : Nat) (b : Bool), e = .returned (.tuple #[.slice a m c, .bool b]) ∧ Rw w' w1.heap.size (.slice a m c) m ∧ m ≤ 4398046510978 ∧ Below w1.heap.size w1 w') := fun w1 x h => (take_any w1 x L key h (by omega)).mono (by
    rintro e w' ⟨i, a, c, _, _, rfl, hr, hb⟩
    exact ⟨a, _, c, _, rfl, hr.rw rfl (Nat.le_refl _), by have := out_len (L := L) (i := i) (d := fd (fnd L key i)); omega, hb⟩)
  have HCT : Hid (∀ (w1 : World) (x : Value), LiesE w1 x L → Calls Try.prog 8 #[x] w1 fun e w' => ∃ (a : Option Addr) (m c : Nat) (a2 : Option Addr) (m2 c2 : Nat), e = .returned (.tuple #[.slice a m c, .slice a2 m2 c2]) ∧ Rw w' w1.heap.size (.slice a m c) m ∧ Rw w' w1.heap.size (.slice a2 m2 c2) m2 ∧ Apart (.slice a m c) (.slice a2 m2 c2) ∧ m ≤ 4398046510978 ∧ m2 ≤ 4398046510978 ∧ Below w1.heap.size w1 w') := fun w1 x h => (cut_any w1 x L h (by omega)).mono (by
    rintro e w' ⟨i, a, c, a2, c2, _, _, rfl, hr, hr2, hap, hb⟩
    exact ⟨a, _, c, a2, _, c2, rfl, hr.rw rfl (Nat.le_refl _), hr2.rw rfl (Nat.le_refl _), hap, by rw [List.length_take]; omega, by rw [List.length_drop]; omega, hb⟩)
  have HSM := hid hsm
  have HKP : Hid (SmlL (L ++ [⟨⟨#[107, 101, 101, 112]⟩, ⟨#[]⟩⟩])) := hsm.append (.one (by unfold Sml; decide) (by unfold Sml; decide))
  have HSS : Hid (∀ (w1 : World) (x y : Value), LiesE w1 x L → LiesE w1 y L → Calls Try.prog 9 #[x, y] w1 fun e w' => e = .returned (.bool true) ∧ Below w1.heap.size w1 w') := fun w1 x y h1 h2 => same_self w1 x y L h1 h2
  have HN := hid hn
  obtain ⟨a, c, hv⟩ := l1.form
  subst hv
  rw [hn] at HL HCP z1 ⊢
  clear hk hsm l1 hn zs1 hre
  go_enter Try.func3, Try.ntmps3
  go_wp2_with (first
    | (go_at_call 4; refine (wakes_any _).mono ?_; rintro e w1 ⟨rfl, hb1⟩; have HB1 := hid hb1; clear hb1)
    | (go_at_call 5; refine (HCP.out _ HB1.out).mono ?_; clear HCP; rintro e w2 ⟨a2, c2, rfl, hr2, hb2⟩; have hba : Below w2.heap.size w2 (w2.alloc (.cells #[.string ⟨#[107, 101, 101, 112]⟩, .string ⟨#[]⟩] 26)) := (Below.refl _ w2).alloc (Nat.le_refl _) _; have HR2 := hid (hr2.on hba); have HB2 := hid (hb2.trans (hba.mono hb2.size)); have HLx := hid (LiesE.one w2 ⟨⟨#[107, 101, 101, 112]⟩, ⟨#[]⟩⟩ (by unfold Sml; decide) (by unfold Sml; decide)); clear hr2 hb2 hba)
    | (at_builtin; refine wpList_more _ w1 rfl (.tmp 18) (.tmp 20) rfl (.slice a2 n c2) L n HN.out rfl HR2.out HB2.out (.slice (some ⟨w2.heap.size, 0, none⟩) 1 1) [⟨⟨#[107, 101, 101, 112]⟩, ⟨#[]⟩⟩] 1 rfl rfl HLx.out (by omega) ?_))
  intro va vc w3 hr3 hb3 _
  clear HLx HR2 HB2
  obtain ⟨n1, hn1⟩ : ∃ n1, n + 1 = n1 := ⟨_, rfl⟩
  rw [hn1] at hr3 ⊢
  obtain ⟨g3, vc3, e3, _, _, _, _⟩ := own_some hr3 (by rw [List.length_append]; exact Nat.succ_pos _)
  injection e3 with e31 e32 e33
  subst e31
  clear e32 e33
  have HR3 := hid hr3
  have HB3 := hid (HB1.out.trans (hb3.mono HB1.out.size))
  clear hr3 hb3 HB1
  have HI3 := hid (HR3.out.lies HKP.out)
  have hcp := HI3.out.cap
  have hlen1 : (L ++ [(⟨⟨#[107, 101, 101, 112]⟩, ⟨#[]⟩⟩ : Ent)]).length = n + 1 := by rw [List.length_append, HN.out]; rfl
  rw [hlen1] at hcp
  have hcn : n ≤ vc := by omega
  have HN1 := hid hn1
  clear hn1 hlen1
  have hrs := run_hd (some ⟨g3, 0, none⟩) n1 vc n hcn
  have HH3 := hid (HI3.out.hd (i := n) (by have := HN1.out; omega))
  generalize sA (some ⟨g3, 0, none⟩) 0 vc = vh at *
  rw [List.take_left' HN.out] at HH3
  have HRS := hid hrs
  clear hcp HI3
  go_wp2_with (first
    | (go_at_call 6; refine (HPT.out _ _ HH3.out).mono ?_; clear HPT; rintro e w4 ⟨a4, m4, c4, rfl, hr4, hm4, hb4⟩; have HM4 := hid hr4; have HH4 := hid (HH3.out.on hb4); have HB4 := hid hb4; clear hr4 hb4)
    | (go_at_call 7; refine (HTK.out _ _ HH4.out).mono ?_; clear HTK; rintro e w5 ⟨a5, m5, c5, b5, rfl, hr5, hm5, hb5⟩; obtain ⟨M5, q5, hr5⟩ := hr5; have HN5 := hid (hr5.rw q5 HB4.out.size); have HM5 := hid (HM4.out.on hb5); have HH5 := hid (HH4.out.on hb5); have HB5 := hid (HB4.out.trans (hb5.mono HB4.out.size)); clear hr5 hb5 q5 HM4 HH4 HB4)
    | (go_at_call 8; refine (HCT.out _ _ HH5.out).mono ?_; clear HCT; rintro e w6 ⟨a6, m6, c6, a7, m7, c7, rfl, hr6, hr7, hap, hm6, hm7, hb6⟩; obtain ⟨M6, q6, hr6⟩ := hr6; obtain ⟨M7, q7, hr7⟩ := hr7; have HA6 := hid (hr6.rw q6 HB5.out.size); have HC6 := hid (hr7.rw q7 HB5.out.size); have HAP := hid hap; have HN6 := hid (HN5.out.on hb6); have HM6 := hid (HM5.out.on hb6); have HB6 := hid (HB5.out.trans (hb6.mono HB5.out.size)); clear hr6 hr7 q6 q7 hap hb6 HM5 HN5 HH5 HB5))
  clear hrs
  go_loopw [47] (fun i wr => ∃ j : Nat, j ≤ m4 ∧ i = .int .i64 (j : Nat) ∧ Hid (Rw wr w3.heap.size (.slice a4 m4 c4) m4) ∧ Hid (Rw wr w3.heap.size (.slice a5 m5 c5) m5) ∧ Hid (Rw wr w3.heap.size (.slice a6 m6 c6) m6) ∧ Hid (Rw wr w3.heap.size (.slice a7 m7 c7) m7) ∧ Hid (Below w3.heap.size w3 wr)) (fun i _ => m4 - (intOf i).toNat)
  case atStart => exact ⟨0, Nat.zero_le _, rfl, HM6, HN6, HA6, HC6, HB6⟩
  case round =>
    obtain ⟨j, hj, rfl, Hm, Hn, Ha, Hc, HB⟩ := hrel
    clear HM6 HN6 HA6 HC6 HB6
    by_cases hjm : j < m4
    · have hji : (j : Int) < (m4 : Int) := by omega
      obtain ⟨g1, gc, hge, hgB, gs, cg, fg⟩ := Hm.out.at hjm
      injection hge with e1 _ e3
      subst e1
      subst e3
      have HB9 := hid (below_set (g := g1) (i := j * 2 + 1) (v := .string ⟨#[120]⟩) HB.out hgB HB.out.size)
      have HQm := hid (Hm.out.set g1 j ⟨#[120]⟩)
      have HQn := hid (Hn.out.set g1 j ⟨#[120]⟩)
      have HQa := hid (Ha.out.set g1 j ⟨#[120]⟩)
      have HQc := hid (Hc.out.set g1 j ⟨#[120]⟩)
      go_wp2_with fail
      go_roundw
      case rel => exact ⟨j + 1, by omega, by go_num, HQm, HQn, HQa, HQc, HB9⟩
      case measure => simp [intOf]; omega
    · obtain rfl : j = m4 := by omega
      have hji : ¬ (j : Int) < (j : Int) := by omega
      go_wp2_with fail
      clear Hm
      go_loopw [57] (fun i wr => ∃ j : Nat, j ≤ m5 ∧ i = .int .i64 (j : Nat) ∧ Hid (Rw wr w3.heap.size (.slice a5 m5 c5) m5) ∧ Hid (Rw wr w3.heap.size (.slice a6 m6 c6) m6) ∧ Hid (Rw wr w3.heap.size (.slice a7 m7 c7) m7) ∧ Hid (Below w3.heap.size w3 wr)) (fun i _ => m5 - (intOf i).toNat)
      case atStart => exact ⟨0, Nat.zero_le _, rfl, Hn, Ha, Hc, HB⟩
      case round =>
        obtain ⟨j, hj, rfl, Hn2, Ha2, Hc2, HB⟩ := hrel
        clear Hn Ha Hc
        by_cases hjm : j < m5
        · have hji : (j : Int) < (m5 : Int) := by omega
          obtain ⟨g2, gc, hge, hgB, gs, cg, fg⟩ := Hn2.out.at hjm
          injection hge with e1 _ e3
          subst e1
          subst e3
          have HB9 := hid (below_set (g := g2) (i := j * 2 + 1) (v := .string ⟨#[120]⟩) HB.out hgB HB.out.size)
          have HQn2 := hid (Hn2.out.set g2 j ⟨#[120]⟩)
          have HQa2 := hid (Ha2.out.set g2 j ⟨#[120]⟩)
          have HQc2 := hid (Hc2.out.set g2 j ⟨#[120]⟩)
          go_wp2_with fail
          go_roundw
          case rel => exact ⟨j + 1, by omega, by go_num, HQn2, HQa2, HQc2, HB9⟩
          case measure => simp [intOf]; omega
        · obtain rfl : j = m5 := by omega
          have hji : ¬ (j : Int) < (j : Int) := by omega
          clear Hn2
          have hb1 : Below wr.heap.size wr (wr.alloc (.cells #[.string ⟨#[120]⟩, .string ⟨#[]⟩] 26)) := (Below.refl _ wr).alloc (Nat.le_refl _) _
          have HA1 := hid (Ha2.out.on hb1)
          have HC1 := hid (Hc2.out.on hb1)
          have HK1 := hid (Blk.made wr #[.string ⟨#[120]⟩, .string ⟨#[]⟩] 26)
          have HBB := hid (HB.out.trans (hb1.mono HB.out.size))
          clear hb1 Ha2 Hc2 HB
          go_wp2_with (first
            | (at_builtin; refine wpList_rw _ w3.heap.size rfl (.tmp 65) (.tmp 67) rfl (.slice a6 m6 c6) (.slice a7 m7 c7) m6 m7 rfl HA1.out HC1.out HAP.out w3 HBB.out HBB.out.size wr.heap.size ⟨⟨#[120]⟩, ⟨#[]⟩⟩ rfl HK1.out (by omega) ?_; clear HA1 HC1 HAP HBB HK1; intro va6 vc6 x1 hr1 hu1 ap1 hB1 hs1; obtain ⟨n6, hn6⟩ : ∃ n6, m6 + 1 = n6 := ⟨_, rfl⟩; rw [hn6] at hr1 ap1 ⊢; have hl6 : n6 ≤ 4398046510979 := (by omega); clear hn6; have hb2 : Below x1.heap.size x1 (x1.alloc (.cells #[.string ⟨#[120]⟩, .string ⟨#[]⟩] 26)) := (Below.refl _ x1).alloc (Nat.le_refl _) _; have HA2 := hid (hr1.on hb2); have HC2 := hid (hu1.on hb2); have HAP2 := hid ap1.symm; have HK2 := hid (Blk.made x1 #[.string ⟨#[120]⟩, .string ⟨#[]⟩] 26); have HBB2 := hid (hB1.trans (hb2.mono hs1)); clear hr1 hu1 ap1 hB1 hs1 hb2)
            | (at_builtin; refine wpList_rw _ w3.heap.size rfl (.tmp 69) (.tmp 71) rfl (.slice a7 m7 c7) (.slice va6 n6 vc6) m7 n6 rfl HC2.out HA2.out HAP2.out w3 HBB2.out HBB2.out.size x1.heap.size ⟨⟨#[120]⟩, ⟨#[]⟩⟩ rfl HK2.out (by omega) ?_; clear HA2 HC2 HAP2 HBB2 HK2; intro va7 vc7 x2 hr1 hu1 ap1 hB1 hs1; obtain ⟨n7, hn7⟩ : ∃ n7, m7 + 1 = n7 := ⟨_, rfl⟩; rw [hn7] at hr1 ap1 ⊢; have hl7 : n7 ≤ 4398046510979 := (by omega); clear hn7; have HC3 := hid hr1; have HA3 := hid hu1; have HBB3 := hid hB1; clear hr1 hu1 ap1 hB1 hs1))
          go_loopw [75] (fun i wr => ∃ j : Nat, j ≤ n6 ∧ i = .int .i64 (j : Nat) ∧ Hid (Rw wr w3.heap.size (.slice va6 n6 vc6) n6) ∧ Hid (Rw wr w3.heap.size (.slice va7 n7 vc7) n7) ∧ Hid (Below w3.heap.size w3 wr)) (fun i _ => n6 - (intOf i).toNat)
          case atStart => exact ⟨0, Nat.zero_le _, rfl, HA3, HC3, HBB3⟩
          case round =>
            obtain ⟨j, hj, rfl, Hx, Hy, HB⟩ := hrel
            clear HA3 HC3 HBB3
            by_cases hjm : j < n6
            · have hji : (j : Int) < (n6 : Int) := by omega
              obtain ⟨g3, gc, hge, hgB, gs, cg, fg⟩ := Hx.out.at hjm
              injection hge with e1 _ e3
              subst e1
              subst e3
              have HB9 := hid (below_set (g := g3) (i := j * 2 + 1) (v := .string ⟨#[120]⟩) HB.out hgB HB.out.size)
              have HQx := hid (Hx.out.set g3 j ⟨#[120]⟩)
              have HQy := hid (Hy.out.set g3 j ⟨#[120]⟩)
              go_wp2_with fail
              go_roundw
              case rel => exact ⟨j + 1, by omega, by go_num, HQx, HQy, HB9⟩
              case measure => simp [intOf]; omega
            · obtain rfl : j = n6 := by omega
              have hji : ¬ (j : Int) < (j : Int) := by omega
              go_wp2_with fail
              clear Hx
              go_loopw [85] (fun i wr => ∃ j : Nat, j ≤ n7 ∧ i = .int .i64 (j : Nat) ∧ Hid (Rw wr w3.heap.size (.slice va7 n7 vc7) n7) ∧ Hid (Below w3.heap.size w3 wr)) (fun i _ => n7 - (intOf i).toNat)
              case atStart => exact ⟨0, Nat.zero_le _, rfl, Hy, HB⟩
              case round =>
                obtain ⟨j, hj, rfl, Hy2, HB⟩ := hrel
                clear Hy
                by_cases hjm : j < n7
                · have hji : (j : Int) < (n7 : Int) := by omega
                  obtain ⟨g4, gc, hge, hgB, gs, cg, fg⟩ := Hy2.out.at hjm
                  injection hge with e1 _ e3
                  subst e1
                  subst e3
                  have HB9 := hid (below_set (g := g4) (i := j * 2 + 1) (v := .string ⟨#[120]⟩) HB.out hgB HB.out.size)
                  have HQy2 := hid (Hy2.out.set g4 j ⟨#[120]⟩)
                  go_wp2_with fail
                  go_roundw
                  case rel => exact ⟨j + 1, by omega, by go_num, HQy2, HB9⟩
                  case measure => simp [intOf]; omega
                · obtain rfl : j = n7 := by omega
                  have hji : ¬ (j : Int) < (j : Int) := by omega
                  have HR9 := hid (HR3.out.on HB.out)
                  have HH9 := hid (HH3.out.on HB.out)
                  have HB9 := hid (HB3.out.trans (HB.out.mono HB3.out.size))
                  have HL9 := hid (HL.out.on HB9.out)
                  have hrs := HRS.out
                  have hin : (n : Int) < (n1 : Int) := by have := HN1.out; omega
                  have hke : (flatE (L ++ [(⟨⟨#[107, 101, 101, 112]⟩, ⟨#[]⟩⟩ : Ent)]))[n * 2]? = some (.string ⟨#[107, 101, 101, 112]⟩) := by rw [flatE_even, ← HN.out]; simp
                  have HKE := hid hke
                  have hkx : ((⟨#[107, 101, 101, 112]⟩ : ByteArray).toList == (⟨#[107, 101, 101, 112]⟩ : ByteArray).toList) = true := by simp
                  clear HB HB3 HL hke
                  go_wp2_with (go_at_call 9; refine (HSS.out _ _ _ HH9.out HL9.out).mono ?_; clear HSS HH9 HL9; rintro e w10 ⟨rfl, hb10⟩; have HR10 := HR9.out.on hb10; have c1 := HR10.cellAt HKE.out; have HB10 := hid (HB9.out.trans (hb10.mono HB9.out.size)); clear hb10 HR10 HB9 HR9)
                  go_ret
                  exact ⟨rfl, HB10.out⟩

theorem leafOwn_own : ownKnob Try.prog.godebug = none := by kernel_rfl
theorem leafOwn_laidOut : laidOutB Try.prog = true := by kernel_rfl

set_option maxRecDepth 100000 in
theorem leafOwn_lifted (os : Os) (started : os.Started) (H : Type) (enc : TypeId × Value → H) :
    ReturnsInHanded {} Try.checked os 3 .any (Rows.leafOwnSpec.pre6 enc Try.prog Try.f3 Rows.leafOwnRow.domain false) (Rows.leafOwnSpec.post enc Try.prog Try.f3 false true false false) := by
  refine returnsInHanded_of_change_sized (C := Try.checked) leafOwn_own started (by kernel_rfl) Try.func3
    (ChangeSpec.witness6 (enc := enc) (C := Try.checked) false ⟨#[], #[.slice none 0 0, .string ByteArray.empty], []⟩ 8 (by kernel_rfl) (by kernel_rfl) (by kernel_rfl) (by kernel_rfl)) ?_
  intro W base args ds gs before hval0 hW hcnd hsz0 _
  have hsz : (DataW.weightsEach Try.prog (Try.f3.params.toList ++ Rows.leafOwnSpec.plain.varTypes Try.prog) (ds ++ gs)).all (· ≤ reachBytes) = true := hsz0
  have hval : ∀ (j : Nat) t v, Try.f3.params[j]? = some t → args[j]? = some v → Value.okWide Try.prog W .any base t v := hval0
  have hW' := hW
  obtain ⟨p, q, hA0, hV, rfl, hfz, hnd⟩ := hW
  have hA : DataW.TrodAll enc Try.prog W 0 (fun _ => true) true Try.f3.params.toList args.toList ds p := hA0
  rw [Try.params3] at hA hval hsz
  obtain ⟨v0, vs0, d0, ds0, p0, q0, hargs, rfl, rfl, h0, r0⟩ := trodAll_cons hA
  obtain ⟨v1, vs1, d1, ds1, p1, q1, rfl, rfl, rfl, h1, r1⟩ := trodAll_cons r0
  obtain ⟨rfl, rfl, rfl⟩ := trodAll_nil r1
  obtain rfl : args = #[v0, v1] := by cases args; simp_all
  obtain ⟨rfl, rfl⟩ := trodVars_none hV
  have k0 := h0
  have lt0 : ∀ x ∈ p0, x.block < W.heap.size := by obtain ⟨m, hm⟩ := k0; exact DataW.trod_lt m _ _ _ hm
  have k1 := h1
  have lt1 : ∀ x ∈ p1, x.block < W.heap.size := by obtain ⟨m, hm⟩ := k1; exact DataW.trod_lt m _ _ _ hm
  obtain ⟨L0, l0, z0⟩ := open_entries (hval 0 22 v0 rfl rfl) h0 (fun n hn => by simpa using List.all_eq_true.1 hsz n (DataW.weights_mem_each (j := 0) (t := 22) rfl rfl n hn))
  obtain ⟨a1, rfl, rfl, rfl, w1⟩ := open_string Try.underlying9 (hval 1 9 v1 rfl rfl) h1
  have z1 : a1.size ≤ reachBytes := by have := sized_string hsz (j := 1) (t := 9) rfl rfl; simpa using this
  clear hA0 hval0
  refine (leafOwn_walk v0 L0 a1 z1 W l0 z0).mono fun e W' ⟨he, bel⟩ => ?_
  subst he
  exact ⟨_, rfl, _, _, _, [], _, [], hW', trodAll_mk1 (shut_bool Try.underlying4 _), (trodAll_cons_mk (Below.trod leafOwn_laidOut (by kernel_rfl) (of_decide_eq_true (by kernel_rfl)) k0 bel lt0) (trodAll_cons_mk (Below.trod leafOwn_laidOut (by kernel_rfl) (of_decide_eq_true (by kernel_rfl)) k1 bel lt1) trodAll_mk0)), rfl, bel.frame _, fun h => by cases h⟩

theorem leafOwn_holds : Rows.LeafOwnSaid :=
  OpenClaim.holds_of_wide 3 Try.f3 rfl rfl rfl rfl rfl rfl rfl ⟨rfl, rfl, rfl, rfl, rfl⟩ rfl rfl rfl rfl rfl (by kernel_rfl) Try.func3 (by kernel_rfl)
    (of_decide_eq_true (by kernel_rfl)) (by unfold Func.isWrapper; first | (rw [if_pos (by decide +kernel)]; kernel_rfl) | (rw [if_neg (by decide +kernel)]; exact ⟨rfl, rfl⟩))
    (fun os started H enc _ => leafOwn_lifted os started H enc)

#print axioms leafOwn_holds

end Go.Proofs.Ytjocbkhjbbpkjab
