/-
  What the document's One answers: an op that makes a node which the table knows.
-/
import Derived.Test.YtgijdhnkkbenoaaGreatBM
namespace Go.Proofs.YtgijdhnkkbenoaaGreat
open Go.RowKit
set_option linter.unusedVariables false
set_option linter.unusedSimpArgs false
set_option maxRecDepth 100000

theorem knownI_get : ∀ {ms : List Mm} {t : List Cl} {k : Nat}, knownI ms t = some k → ∃ m, ms[k]? = some m ∧ m.t = t
  | [], t, k, h => by simp [knownI] at h
  | m :: r, t, k, h => by
    unfold knownI at h
    by_cases e : m.t = t
    · rw [if_pos e] at h
      cases h
      exact ⟨m, rfl, e⟩
    · rw [if_neg e] at h
      cases hr : knownI r t with
      | none => rw [hr] at h; cases h
      | some j =>
        rw [hr] at h
        simp only [Option.map_some, Option.some.injEq] at h
        subst h
        obtain ⟨m', h1, h2⟩ := knownI_get hr
        exact ⟨m', by simpa using h1, h2⟩

set_option maxHeartbeats 8000000 in
theorem rone_hit (B : Nat) (w : World) (hB0 : B ≤ w.heap.size) (rv mv : Value) (rs : List Rl) (hr : LiesR w rv rs) (hok : RsOk rs) (ms : List Mm) (hm : LiesM w mv ms) (hmn : ∀ x ∈ ms, x.n.length * 24 ≤ 140737488355328) (htb : TbOk (tbM ms)) (A : List Opr) (onm : ByteArray) (oar : Int) (V : List (List Cl)) (n : Int) (S : List ByteArray) (f : Int) (oa : Option Addr) (oc : Nat) (va : Option Addr) (vc : Nat) (ha : Option Addr) (hc : Nat) (ho : LiesO w (.slice oa (A.length + 1) oc) (A ++ [⟨1, ⟨onm, oar⟩, []⟩])) (ht : LiesT w (.slice va V.length vc) V) (hs : LiesS w (.slice ha S.length hc) S)
    (hkd : kind onm.data.toList = 1) (h0 : 0 ≤ oar) (h4 : oar ≤ 4) (hn1 : oar.toNat ≤ V.length) (hh : Hds S) (zv : ∀ l ∈ V, grd l = true) (lv : V.length + 1 ≤ 7539508500002) (la : A.length + 8 ≤ 2513169500020) (hfu : -9223372036854775808 ≤ f ∧ f ≤ 9223372036854775807) (hst : -9223372036854775808 ≤ n ∧ n ≤ 9223372036854775807)
    (hlo : OpsV (VL B w) w 0 (.slice oa (A.length + 1) oc) (A ++ [⟨1, ⟨onm, oar⟩, []⟩])) (hls : OwnsS w 0 (.slice ha S.length hc) S) (kk : Nat) (hkn0 : knownI ms (node ⟨onm, oar⟩ V) = some kk) (out : Out) (hout : one rs (tbM ms) ⟨1, ⟨onm, oar⟩, []⟩ ⟨A.reverse, V, n, S, f⟩ = out) :
    Calls Tryz.prog 82 #[rv, .agg #[.slice oa (A.length + 1) oc, .slice va V.length vc, .int .i64 n, .slice ha S.length hc], .int .i64 f, mv] w fun e w' => OneOut B w' e (.agg #[.slice oa (A.length + 1) oc, .slice va V.length vc, .int .i64 n, .slice ha S.length hc]) f out ∧ Below w.heap.size w w' := by
  obtain ⟨i1, hi1, hy0, hy1, hy2⟩ := info_parts info23
  obtain ⟨i5, hi5, hw0, hw1, hw2⟩ := info_parts info59
  obtain ⟨i7, hi7, hv0, hv1, hv2⟩ := info_parts info71
  obtain ⟨i9, hi9, hx0, hx1', hx2⟩ := info_parts info9
  have HR := hid hr
  have HOK := hid hok
  have HM := hid hm
  have HMN := hid hmn
  have HTB := hid htb
  have HHD := hid hh
  have HKD := hid hkd
  have HZV := hid zv
  have HOUT := hid hout
  have HKN0 := hid hkn0
  have HLO := hid hlo
  have LV := hid (val_lim lv)
  obtain ⟨m, rfl⟩ : ∃ m : Nat, oar = (m : Int) := ⟨oar.toNat, by omega⟩
  have hm4 : m ≤ 4 := by omega
  have hmV : m ≤ V.length := by simpa using hn1
  have HO := hid ho
  have HT := hid ht
  have HS := hid hs
  obtain ⟨g, off, x, hoa, hgl, c0, c1, c2, c3, hlx⟩ := ho.at (i := A.length) (o := ⟨1, ⟨onm, ((m : Nat) : Int)⟩, []⟩) (by rw [List.getElem?_append_right (Nat.le_refl _)]; simp)
  subst hoa
  simp only at c0 c1 c2 c3 hlx
  obtain ⟨xa, xc, hxv, _⟩ := id hlx
  have hxv2 : x = .slice xa 0 xc := hxv
  subst hxv2
  have hcap : A.length + 1 ≤ oc ∧ oc ≤ 9223372036854775807 := by
    obtain ⟨_, _, e, h1, h2, _⟩ := ho
    simp only [Value.slice.injEq] at e
    obtain ⟨_, _, e3⟩ := e
    unfold maxLen at h2
    simp at h1
    omega
  have hB1 : Below w.heap.size w (((w.alloc (.cells #[.slice (some ⟨g, off, none⟩) (A.length + 1) oc, .slice va V.length vc, .int .i64 n, .slice ha S.length hc] 28)).alloc (.cells #[.slice none 0 0, .slice none 0 0, .int .i64 0, .slice none 0 0] 28)).alloc (.cells #[.int .i64 1, .string onm, .int .i64 (m : Nat), .slice xa 0 xc] 71)) := (((Below.refl _ w).alloc (Nat.le_refl _) _).alloc (by simp) _).alloc (by simp; omega) _
  have hX1 : Blk (((w.alloc (.cells #[.slice (some ⟨g, off, none⟩) (A.length + 1) oc, .slice va V.length vc, .int .i64 n, .slice ha S.length hc] 28)).alloc (.cells #[.slice none 0 0, .slice none 0 0, .int .i64 0, .slice none 0 0] 28)).alloc (.cells #[.int .i64 1, .string onm, .int .i64 (m : Nat), .slice xa 0 xc] 71)) w.heap.size #[.slice (some ⟨g, off, none⟩) (A.length + 1) oc, .slice va V.length vc, .int .i64 n, .slice ha S.length hc] 28 := ((Blk.made w _ 28).alloc _).alloc _
  have hY1 : Blk (((w.alloc (.cells #[.slice (some ⟨g, off, none⟩) (A.length + 1) oc, .slice va V.length vc, .int .i64 n, .slice ha S.length hc] 28)).alloc (.cells #[.slice none 0 0, .slice none 0 0, .int .i64 0, .slice none 0 0] 28)).alloc (.cells #[.int .i64 1, .string onm, .int .i64 (m : Nat), .slice xa 0 xc] 71)) (w.heap.size + 1) #[.slice none 0 0, .slice none 0 0, .int .i64 0, .slice none 0 0] 28 := (Blk.madeAt _ _ _ (by simp)).alloc _
  have hQ1 : Blk (((w.alloc (.cells #[.slice (some ⟨g, off, none⟩) (A.length + 1) oc, .slice va V.length vc, .int .i64 n, .slice ha S.length hc] 28)).alloc (.cells #[.slice none 0 0, .slice none 0 0, .int .i64 0, .slice none 0 0] 28)).alloc (.cells #[.int .i64 1, .string onm, .int .i64 (m : Nat), .slice xa 0 xc] 71)) (w.heap.size + 1 + 1) #[.int .i64 1, .string onm, .int .i64 (m : Nat), .slice xa 0 xc] 71 := Blk.madeAt _ _ _ (by simp)
  have HB1 := hid hB1
  have HX1 := hid hX1
  have HY1 := hid hY1
  have HQ1 := hid hQ1
  have e1 : ((A.length + 1 : Nat) : Int) - 1 = (A.length : Int) := by omega
  have e2 : (A.length : Int) + 1 - 1 = (A.length : Int) := by omega
  obtain ⟨ra, rc, hrv, _⟩ := id hr
  subst hrv
  obtain ⟨ma, mc, hmv, _⟩ := id hm
  subst hmv
  clear ho ht hs hlx zv hr hok hm hmn htb hh hkd hout hkn0 hlo hls h0 h4 hn1 hB1 hX1 hY1 hQ1
  go_enter Tryz.func82, Tryz.ntmps82
  go_wp2_with fail
  have hq0 : (V.length : Int) - (m : Int) = ((V.length - m : Nat) : Int) := by omega
  rw [hq0]
  have HM2 : Hid (M3 w #[.slice (some ⟨g, off, none⟩) (A.length + 1) oc, .slice va V.length vc, .int .i64 n, .slice ha S.length hc] #[.int .i64 1, .string onm, .int .i64 (m : Nat), .slice xa 0 xc] ((((w.alloc (.cells #[.slice (some ⟨g, off, none⟩) (A.length + 1) oc, .slice va V.length vc, .int .i64 n, .slice ha S.length hc] 28)).alloc (.cells #[.slice none 0 0, .slice none 0 0, .int .i64 0, .slice none 0 0] 28)).alloc (.cells #[.int .i64 1, .string onm, .int .i64 (m : Nat), .slice xa 0 xc] 71)).alloc (.cells #[.string onm, .int .i64 (m : Nat)] 54))) := M3.on ⟨HX1.out, HY1.out, HQ1.out, HB1.out⟩ (bel_al _ _)
  have HN2 : Hid (Owns ((((w.alloc (.cells #[.slice (some ⟨g, off, none⟩) (A.length + 1) oc, .slice va V.length vc, .int .i64 n, .slice ha S.length hc] 28)).alloc (.cells #[.slice none 0 0, .slice none 0 0, .int .i64 0, .slice none 0 0] 28)).alloc (.cells #[.int .i64 1, .string onm, .int .i64 (m : Nat), .slice xa 0 xc] 71)).alloc (.cells #[.string onm, .int .i64 (m : Nat)] 54)) (w.heap.size + 1 + 1 + 1) (.slice (some ⟨w.heap.size + 1 + 1 + 1, 0, none⟩) 1 1) [⟨onm, (m : Nat)⟩]) := by
    have := own_lit (((w.alloc (.cells #[.slice (some ⟨g, off, none⟩) (A.length + 1) oc, .slice va V.length vc, .int .i64 n, .slice ha S.length hc] 28)).alloc (.cells #[.slice none 0 0, .slice none 0 0, .int .i64 0, .slice none 0 0] 28)).alloc (.cells #[.int .i64 1, .string onm, .int .i64 (m : Nat), .slice xa 0 xc] 71)) [⟨onm, (m : Nat)⟩] (by unfold maxLen; simp)
    rw [show (((w.alloc (.cells #[.slice (some ⟨g, off, none⟩) (A.length + 1) oc, .slice va V.length vc, .int .i64 n, .slice ha S.length hc] 28)).alloc (.cells #[.slice none 0 0, .slice none 0 0, .int .i64 0, .slice none 0 0] 28)).alloc (.cells #[.int .i64 1, .string onm, .int .i64 (m : Nat), .slice xa 0 xc] 71)).heap.size = w.heap.size + 1 + 1 + 1 by simp] at this
    exact this
  generalize ((((w.alloc (.cells #[.slice (some ⟨g, off, none⟩) (A.length + 1) oc, .slice va V.length vc, .int .i64 n, .slice ha S.length hc] 28)).alloc (.cells #[.slice none 0 0, .slice none 0 0, .int .i64 0, .slice none 0 0] 28)).alloc (.cells #[.int .i64 1, .string onm, .int .i64 (m : Nat), .slice xa 0 xc] 71)).alloc (.cells #[.string onm, .int .i64 (m : Nat)] 54)) = W2 at HM2 HN2 ⊢
  clear HX1 HY1 HQ1 HB1 hq0
  obtain ⟨q, hq⟩ : ∃ q, V.length - m = q := ⟨_, rfl⟩
  have hqm : q + m = V.length := by omega
  have HND : Hid (node ⟨onm, (m : Nat)⟩ V = ⟨onm, (m : Nat)⟩ :: ((V.take V.length).drop q).flatten ∧ left ⟨onm, (m : Nat)⟩ V = V.take q) := by
    rw [List.take_length]
    unfold node left
    simp only [Int.toNat_natCast, hq]
    exact ⟨trivial, trivial⟩
  rw [hq]
  have HQV : Hid (V.length - m = q ∧ q + m = V.length) := ⟨hq, hqm⟩
  have hqV : q ≤ V.length := by omega
  clear hq hqm e1 e2
  go_loopw [14, 15] (fun nv i wr => ∃ j : Nat, q ≤ j ∧ j ≤ V.length ∧ i = .int .i64 (j : Nat) ∧ Hid (Owns wr (w.heap.size + 1 + 1 + 1) nv (⟨onm, (m : Nat)⟩ :: ((V.take j).drop q).flatten)) ∧ Hid (M3 w #[.slice (some ⟨g, off, none⟩) (A.length + 1) oc, .slice va V.length vc, .int .i64 n, .slice ha S.length hc] #[.int .i64 1, .string onm, .int .i64 (m : Nat), .slice xa 0 xc] wr)) (fun _ i _ => V.length - (intOf i).toNat)
  case atStart => exact ⟨q, Nat.le_refl _, hqV, rfl, (by rw [List.drop_eq_nil_of_le (by rw [List.length_take]; omega)]; exact HN2), HM2⟩
  case round =>
    obtain ⟨j, hj1, hj2, rfl, HN, HMr⟩ := hrel
    clear HM2 HN2
    have d1 := HMr.out.b0.cell (i := 1) rfl
    by_cases hlt : j < V.length
    · obtain ⟨l, hl⟩ : ∃ l, V[j]? = some l := ⟨V[j], List.getElem?_eq_getElem hlt⟩
      have hji : (j : Int) < (V.length : Int) := by omega
      have hlow := HMr.out.low
      obtain ⟨g2, off2, x2, hva, hgl2, k0, hlx2⟩ := (HT.out.on hlow).at hl
      subst hva
      have HNT : Hid ((⟨onm, (m : Nat)⟩ : Cl) :: ((V.take (j + 1)).drop q).flatten = (⟨onm, (m : Nat)⟩ :: ((V.take j).drop q).flatten) ++ l) := by
        have := node_take (c := ⟨onm, (m : Nat)⟩) (m := m) hl (by have := HQV.out.1; omega)
        rw [HQV.out.1] at this
        exact this
      have hgl' := HZV.out l (List.mem_of_getElem? hl)
      have hl64 := (grd_small hgl').1
      have hfl := flat_lim ((V.take j).drop q) (fun l hl => (grd_small (HZV.out l (List.mem_of_mem_take (List.mem_of_mem_drop hl)))).1)
      have hfl2 : ((V.take j).drop q).length ≤ 4 := by have := HQV.out.2; rw [List.length_drop, List.length_take]; omega
      have hrow := HN.out
      obtain ⟨D, hD⟩ : ∃ D, (⟨onm, (m : Nat)⟩ : Cl) :: ((V.take j).drop q).flatten = D := ⟨_, rfl⟩
      have hDl : D.length ≤ 300 := by rw [← hD]; simp only [List.length_cons]; omega
      rw [hD] at hrow HNT
      obtain ⟨da, dc, hdv, _⟩ := own_cells hrow
      have hdv2 : _ = Value.slice da D.length dc := hdv
      subst hdv2
      obtain ⟨xa2, xc2, hxv2, _, _, _, hcells⟩ := hlx2
      subst hxv2
      obtain ⟨c0', T', hlc⟩ := check_cons (grd_iff.1 hgl').1
      cases xa2 with
      | none => have := CellsAt.nil_or hcells; rw [hlc] at this; cases this
      | some ad2 =>
        have hsrc := CellsAt.src hcells
        have hws := HMr.out.size
        have HRW := hid hrow
        have HSRC := hid hsrc
        clear hlc hfl hfl2 hD hl hlow hcells hsrc hgl' HN
        go_wp2_with (at_builtin; refine wpList_append_own_wide _ rfl _ _ 23 rfl (w.heap.size + 1 + 1 + 1) 54 i5 (.agg #[.string ⟨#[]⟩, .int .i64 0]) 2 24 Tryz.underlying23 hi5 hw0 hw1 hw2 rfl (by decide) _ D.length (flatC D) rfl HRW.out ad2 l.length xc2 (flatC l) rfl (flatC_length l) HSRC.out (flatC_one l) ?k1 ?k2 ?k3 ?_)
        case k1 => unfold maxLen; omega
        case k2 => exact wide_of (by clear la lv; omega) (by decide)
        case k3 => exact hws
        intro v' w4 hown' hgrow _
        have HN4 : Hid (Owns w4 (w.heap.size + 1 + 1 + 1) v' (D ++ l)) := by
          show w4.ownsRow _ _ _ _ _ _
          rw [List.length_append, flatC_append]
          exact hown'
        have HM4 := hid (HMr.out.grow hgrow (fun k hk => (HRW.out.lt k hk).1))
        obtain ⟨na, nc, hnv, _⟩ := own_cells hown'
        have hnv2 : v' = .slice na (D.length + l.length) nc := hnv
        subst hnv2
        clear hown' hgrow HRW HSRC hrow HMr d1
        go_wp2_with fail
        go_roundw
        case rel => exact ⟨j + 1, by omega, by omega, by go_num, (by rw [HNT.out]; exact HN4), HM4⟩
        case measure => (simp [intOf]; try omega)
    · have hji : ¬ (j : Int) < (V.length : Int) := by omega
      have hjv : j = V.length := by omega
      subst hjv
      have hN := HN.out
      rw [← HND.out.1] at hN
      have HLF := hid HND.out.2
      clear HN HND
      obtain ⟨ND, hND⟩ : ∃ ND, node ⟨onm, (m : Nat)⟩ V = ND := ⟨_, rfl⟩
      have HNDe : Hid (node ⟨onm, (m : Nat)⟩ V = ND) := hND
      rw [hND] at hN
      have HN := hid hN
      obtain ⟨da, dc, hdv, _⟩ := own_cells hN
      have hdv2 : _ = Value.slice da ND.length dc := hdv
      subst hdv2
      clear hN hND
      by_cases h64 : 64 < ND.length
      · have HO6 : Hid (out = .stop 6) := by
          show _ = _
          rw [← HOUT.out]
          unfold one
          simp only [HNDe.out]
          rw [if_neg (by decide), if_pos h64]
        have h64i : (64 : Int) < (ND.length : Int) := by omega
        have d0 := HMr.out.b0.cell (i := 0) rfl
        have d2 := HMr.out.b0.cell (i := 2) rfl
        have d3 := HMr.out.b0.cell (i := 3) rfl
        clear HOUT HNDe HLF
        have hpY := HMr.out.b1
        have a0 := hpY.cell (i := 0) rfl
        have z0 := hpY.free 0
        have p1 := hpY.set 0 (.slice (some ⟨g, off, none⟩) (A.length + 1) oc)
        have a1 := p1.cell (i := 1) rfl
        have z1 := p1.free 1
        have p2 := p1.set 1 (.slice va V.length vc)
        have a2 := p2.cell (i := 2) rfl
        have z2 := p2.free 2
        have p3 := p2.set 2 (.int .i64 n)
        have a3 := p3.cell (i := 3) rfl
        have z3 := p3.free 3
        obtain ⟨hD, hg⟩ := set4 hpY (.slice (some ⟨g, off, none⟩) (A.length + 1) oc) (.slice va V.length vc) (.int .i64 n) (.slice ha S.length hc)
        have e0 := hD.cell (i := 0) rfl
        have e1 := hD.cell (i := 1) rfl
        have e2 := hD.cell (i := 2) rfl
        have e3 := hD.cell (i := 3) rfl
        have HBF := hid (HMr.out.low.grown hg HMr.out.low.size (fun k hk => by cases hk; omega))
        go_wp2_with fail
        try simp only [Exit.inBlock, Exit.then]
        exact bodyPost_ret (v := .tuple #[.agg #[.slice (some ⟨g, off, none⟩) (A.length + 1) oc, .slice va V.length vc, .int .i64 n, .slice ha S.length hc], .int .i64 (f), .int .i64 6]) (by simp [results, Tryz.results82, go_sem, e0, e1, e2, e3]) rfl ⟨by rw [HO6.out]; rfl, HBF.out⟩
      · have h64i : ¬ (64 : Int) < (ND.length : Int) := by omega
        have hGN : grd ND = true := by
          rw [← HNDe.out]
          exact node_grd HKD.out (by simp) (by simp; omega) HZV.out (by simpa using hmV) (by rw [HNDe.out]; omega)
        have hFN : Fine ND := fine_check (grd_iff.1 hGN).1
        have hnl : (ND.length : Int) ≤ 64 := by omega
        have HLN := hid (Owns.lies HN.out hFN)
        have hqn : (q : Int) ≤ (V.length : Int) := by omega
        have hvcap : V.length ≤ vc ∧ vc ≤ 9223372036854775807 := by
          obtain ⟨_, _, e, h1, h2, _⟩ := HT.out
          simp only [Value.slice.injEq] at e
          obtain ⟨_, _, e3⟩ := e
          unfold maxLen at h2
          omega
        have hca : ∀ w1, Below w.heap.size w w1 → _ := fun w1 hb => copyAllW_any w1 _ (V.take q) ((HT.out.on hb).front (k := q) hqV) (by rw [List.length_take]; omega) (fun l hl => by have := (grd_small (HZV.out l (List.mem_of_mem_take hl))).1; omega)
        have hkn : ∀ w1, Below wr.heap.size wr w1 → _ := fun w1 hb => known_any w1 _ ms ((HM.out.on HMr.out.low).on hb) _ ND (HLN.out.on hb)
        have htq : (V.take q).length = q := by rw [List.length_take]; omega
        have hK : knownI ms ND = some kk := by have := HKN0.out; rw [HNDe.out] at this; exact this
        obtain ⟨mk, hmk, _⟩ := knownI_get hK
        have HTN : Hid (tbM ms ND = some (mk.n, mk.h)) := by show _ = _; unfold tbM; rw [hK]; simp [hmk]
        obtain ⟨hgm, hsy⟩ := HTB.out ND (mk.n, mk.h) HTN.out
        dsimp only at hgm hsy
        have hKZ : knownZ ms ND = (kk : Int) := by unfold knownZ; rw [hK]
        rw [hKZ] at hkn
        have HO1 : Hid (out = .go ⟨A.reverse, V.take q ++ [mk.n], n, jn S mk.h, f⟩) := by
          show _ = _
          rw [← HOUT.out]
          unfold one
          simp only [HNDe.out, HLF.out]
          rw [if_neg (by decide), if_neg h64, HTN.out]
        obtain ⟨gm, om, xm, ym, zm, hma, hgml, _, k1, k2, _, hly, hlz⟩ := HM.out.at hmk
        subst hma
        have hkk : kk < ms.length := (List.getElem?_eq_some_iff.1 hmk).1
        have hkki : (kk : Int) < (ms.length : Int) := by omega
        have hkk0 : (0 : Int) ≤ (kk : Int) := by omega
        have hnm := HMN.out mk (List.mem_of_getElem? hmk)
        have HLY := hid hly
        have HLZ := hid hlz
        have hcm : ∀ w1, Below w.heap.size w w1 → _ := fun w1 hb => copy_any w1 ym mk.n (HLY.out.on hb) hnm
        have HFM := hid (fine_check (grd_iff.1 hgm).1)
        have hjo : ∀ w1, Below w.heap.size w w1 → _ := fun w1 hb => rjoin_any w1 _ zm S mk.h (HS.out.on hb) (HLZ.out.on hb) (fun i => by
          have := (HHD.out.many (M := mk.h.take i) (fun x hx => hsy x (List.mem_of_mem_take hx))).len
          omega)
        obtain ⟨ya, yc, hyv, _⟩ := id hly
        subst hyv
        obtain ⟨za, zc, hzv, _⟩ := id hlz
        subst hzv
        have HK1 := hid k1
        have HK2 := hid k2
        clear hK hKZ hmk hly hlz k1 k2 HOUT HNDe HLF HTN HTB
        go_upto_region 16 with (first
          | (go_at_call 43; refine (hca _ HMr.out.low).mono ?_; clear hca; rintro e w2 ⟨kv, rfl, ho2, hb2⟩; have HK2 := hid (ho2.base HMr.out.size); obtain ⟨ka, kc, hkv, _⟩ := ho2.form; rw [htq] at hkv; subst hkv; have HM2 := hid (HMr.out.on hb2); have HB2 := hid hb2; clear hb2 ho2)
          | (go_at_call 106; refine (hkn _ HB2.out).mono ?_; clear hkn; rintro e w3 ⟨rfl, hb3⟩; have HM3 := hid (HM2.out.on hb3); have HK3 := hid (HK2.out.on hb3); have HB3 := hid (HB2.out.trans (hb3.mono HB2.out.size)); have u3 := HM3.out.b0.cell (i := 3) rfl; have u4 := HM3.out.b2.cell (i := 1) rfl; clear hb3 HM2 HK2 HB2))
        have k13 := (HM3.out.low.cell (p := ⟨gm, om + kk * 3 + 1, none⟩) hgml).trans HK1.out
        clear u3 u4
        go_wp2_with (first
          | (go_at_call 11; refine (hcm _ HM3.out.low).mono ?_; clear hcm; rintro e w5 ⟨cv, rfl, hoc, hb5⟩; have HC5 := hid (own_base hoc HM3.out.size); obtain ⟨ca, cc, hcv, _⟩ := own_cells hoc; have hcv2 : cv = .slice ca mk.n.length cc := hcv; subst hcv2; have HM5 := hid (HM3.out.on hb5); have HK5 := hid (HK3.out.on hb5); obtain ⟨vs, hrow0, hel⟩ := HK5.out; have hrow : w5.ownsRow (w.heap.size + 1 + 1 + 1) 23 1 (.slice ka q kc) q vs := (by have := hrow0; rw [htq] at this; exact this); have HROW := hid hrow; have HR6 := hid (hrow.alloc (.cells #[.slice ca mk.n.length cc] 23)); have HM6 := hid (HM5.out.on (bel_al w5 (.cells #[.slice ca mk.n.length cc] 23))); have HEL := hid hel; have hsz6 := HM6.out.size; clear hrow0 hrow hel hoc hb5 k13 hcv)
          | (at_builtin; refine wpList_append_own_wide _ rfl _ _ 25 rfl (w.heap.size + 1 + 1 + 1) 23 i1 (.slice none 0 0) 1 24 Tryz.underlying25 hi1 hy0 hy1 hy2 rfl (by decide) _ q vs rfl HR6.out ⟨w5.heap.size, 0, none⟩ 1 1 [.slice ca mk.n.length cc] rfl rfl (one_cell w5 _ _) ?k1 ?k2 ?k3 ?k4 ?_))
        case k1 => first | rfl | (intro u hu; simp at hu; subst hu; rfl)
        case k2 => unfold maxLen; omega
        case k3 => exact val_lim (by omega)
        case k4 => exact hsz6
        intro v' w7 hown' hgrow _
        have HM7 := hid (HM6.out.grow hgrow (fun k hk => (HROW.out.lt k hk).1))
        obtain ⟨na, nc, hnv, _⟩ := own_cells hown'
        have hnv2 : v' = .slice na (q + 1) nc := hnv
        subst hnv2
        have HOW := hid hown'
        have HGR := hid hgrow
        clear hown' hgrow hnv
        go_upto_region 17 with fail
        have hBd : Below w7.heap.size w7 w7.drew := (Below.refl _ w7).drew
        have HMd := HM7.out.on hBd
        have HC0 := (show (w7.drew.cell? ⟨w.heap.size, 2, none⟩ = some (.int .i64 n) ∧ w7.drew.cell? ⟨w.heap.size, 3, none⟩ = some (.slice ha S.length hc) ∧ w7.drew.cell? ⟨gm, om + kk * 3 + 2, none⟩ = some (.slice za mk.h.length zc)) from ⟨HMd.b0.cell (i := 2) rfl, HMd.b0.cell (i := 3) rfl, (HMd.low.cell (p := ⟨gm, om + kk * 3 + 2, none⟩) hgml).trans HK2.out⟩)
        refine wp_region_m (fun w' => (w'.cell? ⟨w.heap.size, 2, none⟩ = some (.int .i64 n) ∧ w'.cell? ⟨w.heap.size, 3, none⟩ = some (.slice ha S.length hc) ∧ w'.cell? ⟨gm, om + kk * 3 + 2, none⟩ = some (.slice za mk.h.length zc))) 13 (by kernel_rfl) ?_
        generalize w7.drew = wd at hBd HMd HC0 ⊢
        refine wpAnyM_late (i := 13) (some 116) (v := ?vz1) rfl rfl (by kernel_rfl) (by kernel_rfl) (by kernel_rfl) (by kernel_rfl) (fun _ _ _ h => h) (Or.inl ⟨by rfl, ?hz1⟩) ?rz1
        case hz1 => intro w hSw; go_simp; try with_reducible rfl
        try simp only [Act.put, List.setIfInBounds_toArray, List.set_cons_zero, List.set_cons_succ]
        refine wpAnyM_pick (i := 0) (some 103) (v := ?vz2) rfl rfl (by kernel_rfl) (by kernel_rfl) (by kernel_rfl) (by kernel_rfl) (fun _ _ _ h => h) (Or.inl ⟨by rfl, ?hz2⟩) HC0 ?rz2
        case hz2 => intro w hSw; go_simp; try with_reducible rfl
        try simp only [Act.put, List.setIfInBounds_toArray, List.set_cons_zero, List.set_cons_succ]
        refine wpAnyM_pick (i := 1) (some 104) (v := ?vz3) rfl rfl (by kernel_rfl) (by kernel_rfl) (by kernel_rfl) (by kernel_rfl) (fun _ _ _ h => h) (Or.inl ⟨by rfl, ?hz3⟩) HC0 ?rz3
        case hz3 => intro w hSw; go_simp; try with_reducible rfl
        try simp only [Act.put, List.setIfInBounds_toArray, List.set_cons_zero, List.set_cons_succ]
        refine wpAnyM_pick (i := 2) (some 105) (v := ?vz4) rfl rfl (by kernel_rfl) (by kernel_rfl) (by kernel_rfl) (by kernel_rfl) (fun _ _ _ h => h) (Or.inl ⟨by rfl, ?hz4⟩) HC0 ?rz4
        case hz4 => intro w hSw; go_simp; try with_reducible rfl
        try simp only [Act.put, List.setIfInBounds_toArray, List.set_cons_zero, List.set_cons_succ]
        refine wpAnyM_pick (i := 3) (some 106) (v := ?vz5) rfl rfl (by kernel_rfl) (by kernel_rfl) (by kernel_rfl) (by kernel_rfl) (fun _ _ _ h => h) (Or.inl ⟨by rfl, ?hz5⟩) HC0 ?rz5
        case hz5 => intro w hSw; go_simp; try with_reducible rfl
        try simp only [Act.put, List.setIfInBounds_toArray, List.set_cons_zero, List.set_cons_succ]
        refine wpAnyM_pick (i := 4) (some 107) (v := ?vz6) rfl rfl (by kernel_rfl) (by kernel_rfl) (by kernel_rfl) (by kernel_rfl) (fun _ _ _ h => h) (Or.inl ⟨by rfl, ?hz6⟩) HC0 ?rz6
        case hz6 => intro w hSw; go_simp; try with_reducible rfl
        try simp only [Act.put, List.setIfInBounds_toArray, List.set_cons_zero, List.set_cons_succ]
        refine wpAnyM_pick (i := 5) (some 108) (v := ?vz7) rfl rfl (by kernel_rfl) (by kernel_rfl) (by kernel_rfl) (by kernel_rfl) (fun _ _ _ h => h) (Or.inl ⟨by rfl, ?hz7⟩) HC0 ?rz7
        case hz7 => intro w hSw; go_simp; try with_reducible rfl
        try simp only [Act.put, List.setIfInBounds_toArray, List.set_cons_zero, List.set_cons_succ]
        refine wpAnyM_pick (i := 6) (some 109) (v := ?vz8) rfl rfl (by kernel_rfl) (by kernel_rfl) (by kernel_rfl) (by kernel_rfl) (fun _ _ _ h => h) (Or.inl ⟨by rfl, ?hz8⟩) HC0 ?rz8
        case hz8 => intro w hSw; go_simp; try with_reducible rfl
        try simp only [Act.put, List.setIfInBounds_toArray, List.set_cons_zero, List.set_cons_succ]
        refine wpAnyM_pick (i := 7) (some 110) (v := ?vz9) rfl rfl (by kernel_rfl) (by kernel_rfl) (by kernel_rfl) (by kernel_rfl) (fun _ _ _ h => h) (Or.inl ⟨by rfl, ?hz9⟩) HC0 ?rz9
        case hz9 => intro w hSw; go_simp; try with_reducible rfl
        try simp only [Act.put, List.setIfInBounds_toArray, List.set_cons_zero, List.set_cons_succ]
        refine wpAnyM_pick (i := 8) (some 111) (v := ?vz10) rfl rfl (by kernel_rfl) (by kernel_rfl) (by kernel_rfl) (by kernel_rfl) (fun _ _ _ h => h) (Or.inl ⟨by rfl, ?hz10⟩) HC0 ?rz10
        case hz10 => intro w hSw; go_simp; try with_reducible rfl
        try simp only [Act.put, List.setIfInBounds_toArray, List.set_cons_zero, List.set_cons_succ]
        refine wpAnyM_pick (i := 9) (some 112) (v := ?vz11) rfl rfl (by kernel_rfl) (by kernel_rfl) (by kernel_rfl) (by kernel_rfl) (fun _ _ _ h => h) (Or.inl ⟨by rfl, ?hz11⟩) HC0 ?rz11
        case hz11 => intro w hSw; go_simp; try with_reducible rfl
        try simp only [Act.put, List.setIfInBounds_toArray, List.set_cons_zero, List.set_cons_succ]
        refine wpAnyM_pick (i := 10) (some 113) (v := ?vz12) rfl rfl (by kernel_rfl) (by kernel_rfl) (by kernel_rfl) (by kernel_rfl) (fun _ _ _ h => h) (Or.inl ⟨by rfl, ?hz12⟩) HC0 ?rz12
        case hz12 => intro w hSw; go_simp; try with_reducible rfl
        try simp only [Act.put, List.setIfInBounds_toArray, List.set_cons_zero, List.set_cons_succ]
        refine wpAnyM_one (i := 11) (by kernel_rfl) rfl (fun K hK => ?_)
        go_simp
        go_at_call 107
        refine (hjo _ HMd.low).mono ?_
        rintro e w8 ⟨jv, rfl, ho8, hb8⟩
        have HM8 := HMd.on hb8
        have B8 : Below w7.heap.size w7 w8 := hBd.trans (hb8.mono hBd.size)
        obtain ⟨ja, jc, hjv, _⟩ := own_cells ho8
        have hjv2 : jv = .slice ja (jn S mk.h).length jc := hjv
        subst hjv2
        go_wp2_with fail
        refine hK.out _ _ (fun _ => ⟨HM8.b0.cell (i := 2) rfl, HM8.b0.cell (i := 3) rfl, (HM8.low.cell (p := ⟨gm, om + kk * 3 + 2, none⟩) hgml).trans HK2.out⟩) ?_
        clear hK K
        try simp only [Act.put, List.setIfInBounds_toArray, List.set_cons_zero, List.set_cons_succ]
        refine wpAnyM_pick (i := 12) (some 115) (v := ?vz13) rfl rfl (by kernel_rfl) (by kernel_rfl) (by kernel_rfl) (by kernel_rfl) (fun _ _ _ h => h) (Or.inl ⟨by rfl, ?hz13⟩) ⟨HM8.b0.cell (i := 2) rfl, HM8.b0.cell (i := 3) rfl, (HM8.low.cell (p := ⟨gm, om + kk * 3 + 2, none⟩) hgml).trans HK2.out⟩ ?rz13
        case hz13 => intro w hSw; go_simp; try with_reducible rfl
        try simp only [Act.put, List.setIfInBounds_toArray, List.set_cons_zero, List.set_cons_succ]
        have hpY := HM8.b1
        have a0 := hpY.cell (i := 0) rfl
        have z0 := hpY.free 0
        have p1 := hpY.set 0 (.slice (some ⟨g, off, none⟩) A.length oc)
        have a1 := p1.cell (i := 1) rfl
        have z1 := p1.free 1
        have p2 := p1.set 1 (.slice na (q + 1) nc)
        have a2 := p2.cell (i := 2) rfl
        have z2 := p2.free 2
        have p3 := p2.set 2 (.int .i64 n)
        have a3 := p3.cell (i := 3) rfl
        have z3 := p3.free 3
        obtain ⟨hD, hg⟩ := set4 hpY (.slice (some ⟨g, off, none⟩) A.length oc) (.slice na (q + 1) nc) (.int .i64 n) (.slice ja (jn S mk.h).length jc)
        have e0 := hD.cell (i := 0) rfl
        have e1 := hD.cell (i := 1) rfl
        have e2 := hD.cell (i := 2) rfl
        have e3 := hD.cell (i := 3) rfl
        have HBF := hid (HM8.low.grown hg HM8.low.size (fun k hk => by cases hk; omega))
        have HPOST : Hid (LT B ((((w8.setCell ⟨w.heap.size + 1, 0, none⟩ (.slice (some ⟨g, off, none⟩) A.length oc)).setCell ⟨w.heap.size + 1, 1, none⟩ (.slice na (q + 1) nc)).setCell ⟨w.heap.size + 1, 2, none⟩ (.int .i64 n)).setCell ⟨w.heap.size + 1, 3, none⟩ (.slice ja (jn S mk.h).length jc)) (.agg #[.slice (some ⟨g, off, none⟩) A.length oc, .slice na (q + 1) nc, .int .i64 n, .slice ja (jn S mk.h).length jc]) ⟨A, V.take q ++ [mk.n], n, jn S mk.h⟩) := by
          have hBF := HBF.out
          have hl1 : (V.take q ++ [mk.n]).length = q + 1 := by rw [List.length_append, htq]; rfl
          have st : ∀ {B e size : Nat} {v : Value} {k : Nat} {xs : List Value}, w5.ownsRow B e size v k xs → e ≠ 23 → e ≠ 28 → World.ownsRow ((((w8.setCell ⟨w.heap.size + 1, 0, none⟩ (.slice (some ⟨g, off, none⟩) A.length oc)).setCell ⟨w.heap.size + 1, 1, none⟩ (.slice na (q + 1) nc)).setCell ⟨w.heap.size + 1, 2, none⟩ (.int .i64 n)).setCell ⟨w.heap.size + 1, 3, none⟩ (.slice ja (jn S mk.h).length jc)) B e size v k xs := fun h h1 h2 => row_blk (own_below (own_apart7 (h.alloc _) HR6.out h1 HGR.out) B8) HM8.b1 h2 hg
          refine ⟨some ⟨g, off, none⟩, oc, na, nc, ja, jc, by rw [hl1], OpsV.on HLO.out.front hBF (fun x l hx => hx.on (K7.of hBF hB0)), ?_, own_base (row_blk ho8 HM8.b1 (by decide) hg) (Nat.zero_le _)⟩
          rw [hl1]
          refine ValsV.more (V := fun x l => VL B ((((w8.setCell ⟨w.heap.size + 1, 0, none⟩ (.slice (some ⟨g, off, none⟩) A.length oc)).setCell ⟨w.heap.size + 1, 1, none⟩ (.slice na (q + 1) nc)).setCell ⟨w.heap.size + 1, 2, none⟩ (.int .i64 n)).setCell ⟨w.heap.size + 1, 3, none⟩ (.slice ja (jn S mk.h).length jc)) x l) (vs := vs) (K := V.take q) (ns := [.slice ca mk.n.length cc]) (N := [mk.n]) (by rw [htq]; exact row_len HROW.out) (fun i l hi => ?_) (fun i l hi => ?_) (by rw [htq]; exact own_base (row_blk (own_below HOW.out B8) HM8.b1 (by decide) hg) (Nat.zero_le _)) (fun _ _ h => h)
          · obtain ⟨x, q1, q2⟩ := HEL.out i l hi
            obtain ⟨xa', xc', hxv', _⟩ := own_cells q2
            exact ⟨x, q1, by rw [hxv']; rfl, VL.own (st q2 (by decide) (by decide)) (fine_check (grd_iff.1 (HZV.out l (List.mem_of_mem_take (List.mem_of_getElem? hi)))).1)⟩
          · obtain ⟨rfl, rfl⟩ := one_get hi
            exact ⟨_, rfl, rfl, VL.own (st HC5.out (by decide) (by decide)) HFM.out⟩
        refine wpAnyM_one (i := 14) (by kernel_rfl) rfl (fun K hK => ?_)
        go_simp
        refine hK.out _ _ (fun h => absurd h (by decide)) ?_
        clear hK K
        refine wpAnyM_one (i := 15) (by kernel_rfl) rfl (fun K hK => ?_)
        go_simp
        refine hK.out _ _ (fun h => absurd h (by decide)) ?_
        clear hK K
        refine wpAnyM_one (i := 16) (by kernel_rfl) rfl (fun K hK => ?_)
        go_simp
        refine hK.out _ _ (fun h => absurd h (by decide)) ?_
        clear hK K
        refine wpAnyM_done (by kernel_rfl) ?_ _
        try simp only [Act.put, List.setIfInBounds_toArray, List.set_cons_zero, List.set_cons_succ]
        go_wp2_with fail
        try simp only [Exit.inBlock, Exit.then]
        exact bodyPost_ret (v := .tuple #[.agg #[.slice (some ⟨g, off, none⟩) A.length oc, .slice na (q + 1) nc, .int .i64 n, .slice ja (jn S mk.h).length jc], .int .i64 (f), .int .i64 0]) (by simp [results, Tryz.results82, go_sem, e0, e1, e2, e3]) rfl ⟨by rw [HO1.out]; exact ⟨_, rfl, by simpa [Cf.stt] using HPOST.out⟩, HBF.out⟩


end Go.Proofs.YtgijdhnkkbenoaaGreat
