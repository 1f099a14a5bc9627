/-
  What the document's Build, All, SameInts and SameAll answer.
-/
import Derived.Test.YtpflbdkbbkobbaaNils
import Derived.Test.YtpflbdkbbkobbaaCpS
import Derived.Test.YtpflbdkbbkobbaaSameB
namespace Go.Proofs.Ytpflbdkbbkobbaa
open Go.RowKit Go.Maps
set_option linter.unusedVariables false
set_option maxRecDepth 100000
set_option linter.unusedSimpArgs false

/-- ids = append(ids, id), elsewhere -/
theorem wpList_id (w : World) {ops : Array Oper} {rest : List Oper} {o : Oper} {a : Act} {Q : Exit → Act → World → Prop} (hg : o.guard = none) (s x : Operand)
    (hop : o.op = Op.call { callee := Callee.builtin Builtin.append, args := #[s, x], argTypes := #[43, 43] }) (B : Nat) (v : Value) (l : List Int) (i : Int) (hs : a.eval s = v) (hown : w.ownsRow B 3 1 v l.length (idsV l)) (hn : l.length ≤ 1000) (hB : B ≤ w.heap.size)
    (ad : Addr) (hx : a.eval x = .slice (some ad) 1 1) (hc : w.cell? ad = some (.int .i64 i)) (had : ad = ⟨ad.block, ad.off, none⟩)
    (h : ∀ v' w', w'.ownsRow B 3 1 v' (l ++ [i]).length (idsV (l ++ [i])) → w.grownBy w' v.ownBlock → wpList Try.prog ops Q rest (a.put o.dst v') w') : wpList Try.prog ops Q (o :: rest) a w := by
  obtain ⟨i0, hi, hz0, hz1, hz2⟩ := info_parts info3
  have hnews : ∀ j x, [Value.int .i64 i][j]? = some x → w.cell? (ad.add j) = some x := by
    intro j x hj
    match j, hj with
    | 0, hj =>
      simp at hj; subst hj
      rw [had, add_plain]
      rw [had] at hc
      exact hc
  have h1 : ∀ x ∈ [Value.int .i64 i], x.oneCell' = true := by simp [Value.oneCell']
  refine wpList_append_own w hg s x 43 hop B 3 i0 (.int .i64 0) 1 8 Try.underlying43 hi hz0 hz1 hz2 rfl (by decide) v l.length (idsV l) hs hown ad 1 1 [.int .i64 i] hx rfl hnews h1 (by unfold maxLen; omega) (by omega) hB (fun v' w' r1 r2 _ => h v' w' ?_ r2)
  rw [idsV_append, List.length_append]
  exact r1
theorem OwnsR.form {w : World} {B : Nat} {v : Value} {rs : List Rl} (h : OwnsR w B v rs) : ∃ a c, v = .slice a rs.length c := by
  obtain ⟨ps, _, h1, _⟩ := h
  obtain ⟨a, c, hv, _⟩ := own_cells h1
  exact ⟨a, c, hv⟩
theorem nrules_any (w : World) (rv : Value) (rs : List Rl) (hr : LiesR w rv rs) (lim : rs.length * 56 ≤ 140737488351232) (hz : ∀ r ∈ rs, r.l.length * 24 ≤ 140737488355328 ∧ r.r.length * 24 ≤ 140737488355328) :
    Calls Try.prog 9 #[rv] w fun e w' => ∃ v', e = .returned v' ∧ OwnsR w' w.heap.size v' rs ∧ Below w.heap.size w w' := by
  have hcp := copyRules_any w rv rs hr lim hz
  obtain ⟨ra, rc, rfl, _⟩ := hr
  go_enter Try.func9, Try.ntmps9
  go_wp2_with (go_at_call 26; refine hcp.mono ?_; rintro e w1 ⟨v1, rfl, ho1, hb1⟩; have HO1 := hid ho1; obtain ⟨oa, oc, hov⟩ := ho1.form; subst hov; clear ho1)
  go_ret
  exact ⟨_, rfl, HO1.out, hb1⟩
theorem rbuild_any (w : World) (rv : Value) (rs : List Rl) (hr : LiesR w rv rs) :
    Calls Try.prog 10 #[rv] w fun e w' => e = .returned (.int .i64 (bE rs : Nat)) ∧ Below w.heap.size w w' := by
  have htg := together_any w rv rs hr
  obtain ⟨ra, rc, rfl, _⟩ := hr
  by_cases h64 : 64 < rs.length
  · have hi : (rs.length : Int) > 64 := by omega
    have hb : bE rs = 10 := by unfold bE; rw [if_pos h64]
    rw [hb]
    go_enter Try.func10, Try.ntmps10
    go_wp2_with fail
    go_ret
    exact ⟨rfl, Below.refl _ _⟩
  · have hi : ¬ (rs.length : Int) > 64 := by omega
    have hb : bE rs = chkRs rs := by unfold bE; rw [if_neg h64]
    rw [hb]
    generalize chkRs rs = q at htg ⊢
    clear hb
    go_enter Try.func10, Try.ntmps10
    go_wp2_with (go_at_call 27; refine htg.mono ?_; rintro e w1 ⟨rfl, hb1⟩)
    go_ret
    exact ⟨rfl, hb1⟩

set_option maxHeartbeats 1000000 in
theorem sameInts_self (w : World) (B B' : Nat) (u v : Value) (L : List Int) (hu : w.ownsRow B 3 1 u L.length (idsV L)) (hv : w.ownsRow B' 3 1 v L.length (idsV L)) :
    Calls Try.prog 17 #[u, v] w fun e w' => e = .returned (.bool true) ∧ Below w.heap.size w w' := by
  obtain ⟨ua, uc, rfl, hu1, hu2, hcu⟩ := own_cells hu
  obtain ⟨va, vc, rfl, hv1, hv2, hcv⟩ := own_cells hv
  have hm : L.length ≤ 9223372036854775807 := by unfold maxLen at hu2; omega
  have HU := hid hcu
  have HV := hid hcv
  clear hcu hcv hu hv
  go_enter Try.func17, Try.ntmps17
  go_wp2_with fail
  go_loopw [13] (fun i wr => ∃ k : Nat, k ≤ L.length ∧ i = .int .i64 (k : Nat) ∧ ∃ nq, wr = w.drewN nq) (fun i _ => L.length - (intOf i).toNat)
  case atStart => exact ⟨0, Nat.zero_le _, rfl, 0, rfl⟩
  case round =>
    obtain ⟨k, hk, rfl, nq, rfl⟩ := hrel
    by_cases hlt : k < L.length
    · obtain ⟨x, hx⟩ : ∃ x, L[k]? = some x := ⟨L[k], List.getElem?_eq_getElem hlt⟩
      have hxi : (idsV L)[k]? = some (.int .i64 x) := by unfold idsV; rw [List.getElem?_map, hx]; rfl
      obtain ⟨g1, rfl, _, _, c1⟩ := HU.out k _ hxi
      obtain ⟨g2, rfl, _, _, c2⟩ := HV.out k _ hxi
      have hki : (k : Int) < (L.length : Int) := by omega
      have hxx : (x != x) = false := by simp
      clear hx hxi
      go_wp2_with fail
      go_quiet (fail)
      go_wp2_with fail
      go_roundw
      case rel => exact ⟨k + 1, by omega, by go_num, _, rfl⟩
      case measure => simp [intOf]; omega
    · have hki : ¬ (k : Int) < (L.length : Int) := by omega
      go_wp2_with fail
      go_ret
      exact ⟨rfl, below_drewN _ _⟩

set_option maxHeartbeats 2000000 in
theorem rall_any (w : World) (rv : Value) (rs : List Rl) (hr : LiesR w rv rs) (hok : RsOk rs) (h64 : rs.length ≤ 64) (tv : Value) (t : List Cl) (ht : Lies w tv t) :
    Calls Try.prog 18 #[rv, tv] w fun e w' => ∃ v, e = .returned v ∧ w'.ownsRow w.heap.size 3 1 v (allL t rs).length (idsV (allL t rs)) ∧ Below w.heap.size w w' := by
  have hck := rCheck_any w tv t ht
  have HR := hid hr
  have HT := hid ht
  have HOK := hid hok
  obtain ⟨ra, rc, rfl, rl1, rl2, _⟩ := hr
  obtain ⟨ta, tc, rfl, _⟩ := ht
  clear hok
  by_cases hc : check t = 0
  · rw [hc] at hck
    have HC := hid hc
    clear hc
    go_enter Try.func18, Try.ntmps18
    go_wp2_with (go_at_call 13; refine hck.mono ?_; rintro e w1 ⟨rfl, rfl⟩)
    go_loopw [5, 15] (fun o i wr => ∃ k : Nat, k ≤ rs.length ∧ i = .int .i64 (k : Nat) ∧ Hid (wr.ownsRow w.heap.size 3 1 o (allL t (rs.take k)).length (idsV (allL t (rs.take k)))) ∧ Hid (Below w.heap.size w wr)) (fun _ i _ => rs.length - (intOf i).toNat)
    case atStart => exact ⟨0, Nat.zero_le _, rfl, World.ownsRow_nil _ _ _ _, Below.refl _ _⟩
    case round =>
      obtain ⟨k, hk, rfl, HO, HB⟩ := hrel
      have hbs := HB.out.size
      by_cases hlt : k < rs.length
      · obtain ⟨r, hrk⟩ : ∃ r, rs[k]? = some r := ⟨rs[k], List.getElem?_eq_getElem hlt⟩
        have hki : (k : Int) < (rs.length : Int) := by omega
        obtain ⟨g, off, x, y, hra, hgl, c0, c1, c2, hlx, hly⟩ := (HR.out.on HB.out).at hrk
        subst hra
        obtain ⟨_, hcl, _⟩ := chk_zero (HOK.out r (List.mem_of_getElem? hrk))
        have hft := rfit_top wr x _ r.l t hlx (HT.out.on HB.out) hcl HC.out
        obtain ⟨xa, xc, hxv, _⟩ := hlx
        subst hxv
        have hsn : allL t (rs.take (k + 1)) = allL t (rs.take k) ++ (if (mt r.l t).isSome then [r.id] else []) := by
          rw [List.take_add_one, hrk, allL_app]
          congr 1
          unfold allL
          cases h : (mt r.l t).isSome
          · simp [h]
          · simp [h]
        have hL1 : (allL t (rs.take k)).length ≤ 64 := by
          unfold allL; rw [List.length_map]
          exact Nat.le_trans (List.length_filter_le _ _) (by rw [List.length_take]; omega)
        obtain ⟨L, hL⟩ : ∃ L, allL t (rs.take k) = L := ⟨_, rfl⟩
        rw [hL] at HO hsn hL1
        have HSN := hid hsn
        obtain ⟨oa, oc, hov, _⟩ := own_cells HO.out
        subst hov
        clear hL hsn hrk hcl
        cases hm : mt r.l t with
        | none =>
          rw [hm] at hft HSN
          go_wp2_with (go_at_call 32; refine hft.mono ?_; rintro e w3 ⟨⟨v3, rfl⟩, hb3⟩)
          go_roundw
          case rel => exact ⟨k + 1, by omega, by go_num, by (show World.ownsRow _ _ _ _ _ _ _; rw [HSN.out]; simp only [Option.isSome_none, Bool.false_eq_true, if_false, List.append_nil]; exact own_below HO.out hb3), HB.out.trans (hb3.mono hbs)⟩
          case measure => simp [intOf]; omega
        | some bs =>
          rw [hm] at hft HSN
          have hro := HO.out
          go_wp2_with (first
            | (go_at_call 32; refine hft.mono ?_; rintro e w3 ⟨⟨v3, rfl, ho3⟩, hb3⟩; obtain ⟨ba, bc, hbv, _⟩ := ho3.form; subst hbv; clear ho3; have hs3 := hb3.size; have d0 := (hb3.cell (p := ⟨g, off + k * 3, none⟩) hgl).trans c0; have hr3 := own_below hro hb3; have hA := (Blk.made w3 #[.int .i64 r.id] 3).cell (i := 0) (v := .int .i64 r.id) rfl)
            | (at_builtin; refine wpList_id _ rfl _ _ rfl w.heap.size (.slice oa L.length oc) L r.id rfl (hr3.alloc _) (by omega) (by simp; omega) ⟨w3.heap.size, 0, none⟩ rfl hA rfl ?_; intro v' w5 hrow hg; obtain ⟨na, nc, hnv, _⟩ := own_cells hrow; have HRW := hid hrow; have HB5 := hid (((HB.out.trans (hb3.mono hbs)).alloc (Nat.le_trans hbs hs3) (.cells #[.int .i64 r.id] 3)).grown hg (by simp; omega) (fun k hk => (row_at hr3 hk).1)); clear hg hrow hro hr3 HO; rw [List.length_append, List.length_singleton] at hnv; subst hnv))
          go_roundw
          case rel => exact ⟨k + 1, by omega, by go_num, by (show World.ownsRow _ _ _ _ _ _ _; rw [HSN.out]; exact HRW.out), HB5⟩
          case measure => simp [intOf]; omega
      · have hki : ¬ (k : Int) < (rs.length : Int) := by omega
        have hO := HO.out
        rw [List.take_of_length_le (by omega)] at hO
        have HO2 := hid hO
        obtain ⟨oa, oc, hov, _⟩ := own_cells hO
        subst hov
        clear hO HO
        go_wp2_with fail
        go_ret
        exact ⟨_, rfl, HO2.out, HB.out⟩
  · have hcn : (((check t : Nat) : Int) == 0) = false := by simp only [beq_eq_false_iff_ne]; omega
    have hcn2 : ¬ ((check t : Nat) : Int) = 0 := by omega
    have hal : allL t rs = [] := by
      unfold allL
      rw [List.filter_eq_nil_iff.2]
      · rfl
      · intro r _ h2; rw [mt_bad hc] at h2; cases h2
    rw [hal]
    go_enter Try.func18, Try.ntmps18
    go_wp2_with (go_at_call 13; refine hck.mono ?_; rintro e w1 ⟨rfl, rfl⟩)
    go_ret
    exact ⟨_, rfl, World.ownsRow_nil _ _ _ _, Below.refl _ _⟩

set_option maxHeartbeats 2000000 in
theorem sameRules_self (w : World) (u v : Value) (rs : List Rl) (hu : LiesR w u rs) (hv : LiesR w v rs) :
    Calls Try.prog 20 #[u, v] w fun e w' => e = .returned (.bool true) ∧ Below w.heap.size w w' := by
  have HU := hid hu
  have HV := hid hv
  obtain ⟨ua, uc, rfl, hu1, hu2, _⟩ := hu
  obtain ⟨va, vc, rfl, hv1, hv2, _⟩ := hv
  have hm : rs.length ≤ 9223372036854775807 := by unfold maxLen at hu2; omega
  go_enter Try.func20, Try.ntmps20
  go_wp2_with fail
  go_loopw [13] (fun i wr => ∃ k : Nat, k ≤ rs.length ∧ i = .int .i64 (k : Nat) ∧ Below w.heap.size w wr) (fun i _ => rs.length - (intOf i).toNat)
  case atStart => exact ⟨0, Nat.zero_le _, rfl, Below.refl _ _⟩
  case round =>
    obtain ⟨k, hk, rfl, hbr⟩ := hrel
    by_cases hlt : k < rs.length
    · obtain ⟨r, hrk⟩ : ∃ r, rs[k]? = some r := ⟨rs[k], List.getElem?_eq_getElem hlt⟩
      have hki : (k : Int) < (rs.length : Int) := by omega
      obtain ⟨g, off, x, y, hua, hgl, c0, c1, c2, hlx, hly⟩ := (HU.out.on hbr).at hrk
      obtain ⟨g', off', x', y', hva, hgl', c0', c1', c2', hlx', hly'⟩ := (HV.out.on hbr).at hrk
      subst hua hva
      have hbd : Below wr.heap.size wr wr.drew := (Below.refl _ wr).drew
      have hsm : Calls Try.prog 33 #[.agg #[.int .i64 r.id, x, y], .agg #[.int .i64 r.id, x', y']] wr.drew fun e w' => e = .returned (.bool true) ∧ Below wr.drew.heap.size wr.drew w' := by
        have := rSame_rule wr.drew r.id r.id x y x' y' r.l r.r r.l r.r (hlx.on hbd) (hly.on hbd) (hlx'.on hbd) (hly'.on hbd)
        rwa [decide_eq_true ⟨rfl, rfl, rfl⟩] at this
      obtain ⟨xa, xc, hxv, _⟩ := hlx
      obtain ⟨ya, yc, hyv, _⟩ := hly
      obtain ⟨xa', xc', hxv', _⟩ := hlx'
      obtain ⟨ya', yc', hyv', _⟩ := hly'
      subst hxv hyv hxv' hyv'
      have HS0 : (wr.drew.cell? ⟨g, off + k * 3, none⟩ = some (.int .i64 r.id) ∧ wr.drew.cell? ⟨g, off + k * 3 + 1, none⟩ = some (.slice xa r.l.length xc) ∧ wr.drew.cell? ⟨g, off + k * 3 + 2, none⟩ = some (.slice ya r.r.length yc)) ∧ (wr.drew.cell? ⟨g', off' + k * 3, none⟩ = some (.int .i64 r.id) ∧ wr.drew.cell? ⟨g', off' + k * 3 + 1, none⟩ = some (.slice xa' r.l.length xc') ∧ wr.drew.cell? ⟨g', off' + k * 3 + 2, none⟩ = some (.slice ya' r.r.length yc')) := ⟨⟨c0, c1, c2⟩, ⟨c0', c1', c2'⟩⟩
      clear c0 c1 c2 c0' c1' c2' hrk
      go_wp2_with fail
      go_region_held3 (fun w' => (w'.cell? ⟨g, off + k * 3, none⟩ = some (.int .i64 r.id) ∧ w'.cell? ⟨g, off + k * 3 + 1, none⟩ = some (.slice xa r.l.length xc) ∧ w'.cell? ⟨g, off + k * 3 + 2, none⟩ = some (.slice ya r.r.length yc)) ∧ (w'.cell? ⟨g', off' + k * 3, none⟩ = some (.int .i64 r.id) ∧ w'.cell? ⟨g', off' + k * 3 + 1, none⟩ = some (.slice xa' r.l.length xc') ∧ w'.cell? ⟨g', off' + k * 3 + 2, none⟩ = some (.slice ya' r.r.length yc'))) (first | exact HS0 | exact HS8)
        (first | (go_at_call 33; refine hsm.mono ?_; rintro e w8 ⟨rfl, hb8⟩; have HS8 : (w8.cell? ⟨g, off + k * 3, none⟩ = some (.int .i64 r.id) ∧ w8.cell? ⟨g, off + k * 3 + 1, none⟩ = some (.slice xa r.l.length xc) ∧ w8.cell? ⟨g, off + k * 3 + 2, none⟩ = some (.slice ya r.r.length yc)) ∧ (w8.cell? ⟨g', off' + k * 3, none⟩ = some (.int .i64 r.id) ∧ w8.cell? ⟨g', off' + k * 3 + 1, none⟩ = some (.slice xa' r.l.length xc') ∧ w8.cell? ⟨g', off' + k * 3 + 2, none⟩ = some (.slice ya' r.r.length yc')) := ⟨⟨(hb8.cell (p := ⟨g, off + k * 3, none⟩) hgl).trans HS0.1.1, (hb8.cell (p := ⟨g, off + k * 3 + 1, none⟩) hgl).trans HS0.1.2.1, (hb8.cell (p := ⟨g, off + k * 3 + 2, none⟩) hgl).trans HS0.1.2.2⟩, ⟨(hb8.cell (p := ⟨g', off' + k * 3, none⟩) hgl').trans HS0.2.1, (hb8.cell (p := ⟨g', off' + k * 3 + 1, none⟩) hgl').trans HS0.2.2.1, (hb8.cell (p := ⟨g', off' + k * 3 + 2, none⟩) hgl').trans HS0.2.2.2⟩⟩; have hb9 := hbr.drew.trans (hb8.mono hbr.size)))
      all_goals
        (go_wp2_with fail
         go_roundw
         case rel => exact ⟨k + 1, by omega, by go_num, hb9⟩
         case measure => simp [intOf]; omega)
    · have hki : ¬ (k : Int) < (rs.length : Int) := by omega
      go_wp2_with fail
      go_ret
      exact ⟨rfl, hbr⟩

end Go.Proofs.Ytpflbdkbbkobbaa
