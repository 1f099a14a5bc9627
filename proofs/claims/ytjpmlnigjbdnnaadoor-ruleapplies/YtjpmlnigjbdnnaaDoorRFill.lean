/-
  What the document's Put and Fill answer.
-/
import Derived.Test.YtjpmlnigjbdnnaaDoorRFit
import Derived.Test.YtjpmlnigjbdnnaaDoorRefB
import Derived.Test.YtjpmlnigjbdnnaaDoorRVars
namespace Go.Proofs.YtjpmlnigjbdnnaaDoor
open Go.RowKit
set_option linter.unusedVariables false
set_option maxRecDepth 100000
set_option linter.unusedSimpArgs false

theorem LiesB.spot {w : World} {a : Option Addr} {n c : Nat} {l : List Bd} (h : LiesB w (.slice a n c) l) {i : Nat} {nm : ByteArray} {val : List Cl} (hi : l[i]? = some ⟨nm, val⟩) :
    ∃ g off x, a = some ⟨g, off, none⟩ ∧ g < w.heap.size ∧ w.cell? ⟨g, off + i * 2, none⟩ = some (.string nm) ∧ w.cell? ⟨g, off + i * 2 + 1, none⟩ = some x ∧ Lies w x val ∧ nm.size ≤ 9223372036854775807 := by
  obtain ⟨a', c', hv', _, _, HC'⟩ := h
  injection hv' with e1 _ _
  subst e1
  obtain ⟨g, off, x, h1, h2, h3, h4, h5, h6⟩ := HC' i _ hi
  exact ⟨g, off, x, h1, h2, h3, h4, h5, h6⟩
theorem idx_append : ∀ (a b : List Bd) (nm : ByteArray), idx (a ++ b) nm = match idx a nm with | some j => some j | none => (idx b nm).map (· + a.length)
  | [], b, nm => by simp [idx]
  | c :: a, b, nm => by
    simp only [List.cons_append, idx]
    by_cases e : c.nm = nm
    · simp [e]
    · rw [if_neg e, if_neg e, idx_append a b nm]
      cases idx a nm with
      | some j => rfl
      | none => cases idx b nm <;> simp; omega
theorem idx_lt {l : List Bd} {i : Nat} {nm : ByteArray} {v : List Cl} (h : l[i]? = some ⟨nm, v⟩) : ∃ j, idx l nm = some j ∧ (j < i ↔ inS nm ((l.take i).map (·.nm)) = true) := by
  by_cases hs : inS nm ((l.take i).map (·.nm)) = true
  · have h1 : idx (l.take i) nm ≠ none := by
      intro h2
      rw [idx_none, look_none, hs] at h2
      cases h2
    cases h3 : idx (l.take i) nm with
    | none => exact absurd h3 h1
    | some j =>
      refine ⟨j, ?_, ⟨fun _ => hs, fun _ => ?_⟩⟩
      · have := idx_append (l.take i) (l.drop i) nm
        rw [List.take_append_drop, h3] at this
        exact this
      · obtain ⟨u, hu, _⟩ := idx_some h3
        have := (List.getElem?_eq_some_iff.1 hu).1
        rw [List.length_take] at this
        omega
  · refine ⟨i, idx_first (b := ⟨nm, v⟩) (fun j x hj hx => ?_) h rfl, ⟨fun h2 => by omega, fun h2 => absurd h2 hs⟩⟩
    intro e
    apply hs
    rw [inS_iff]
    refine List.mem_map.2 ⟨x, ?_, e⟩
    have h4 : (l.take i)[j]? = some x := by rw [List.getElem?_take, if_pos hj]; exact hx
    exact List.mem_of_getElem? h4
theorem vars_has : ∀ (L : List Cl) (acc : List ByteArray) (nm : ByteArray), (nm ∈ acc ∨ ∃ c ∈ L, isV c = true ∧ c.nm = nm) → nm ∈ L.foldl varStep acc
  | [], acc, nm, h => by
    rcases h with h | ⟨c, hc, _⟩
    · exact h
    · simp at hc
  | c :: r, acc, nm, h => by
    rw [List.foldl_cons]
    apply vars_has r
    by_cases hin : nm ∈ varStep acc c
    · exact .inl hin
    · right
      rcases h with h | ⟨d, hd, hv, e⟩
      · exfalso
        apply hin
        unfold varStep
        split
        · exact List.mem_append.2 (.inl h)
        · exact h
      · rcases List.mem_cons.1 hd with rfl | hd
        · exfalso
          apply hin
          unfold varStep
          have hk : kind d.nm.data.toList = 2 := by unfold isV at hv; simpa using hv
          by_cases hs : inS d.nm acc = true
          · rw [if_neg (by rintro ⟨_, h2⟩; rw [hs] at h2; cases h2)]
            rw [← e]; exact inS_iff.1 hs
          · rw [if_pos ⟨hk, by simpa using hs⟩]
            rw [← e]; simp
        · exact ⟨d, hd, hv, e⟩
theorem told_vars {P : List Cl} {l : List Bd} : told P l = true ↔ ∀ nm ∈ varsOf P, (look l nm).isSome = true := by
  rw [told_iff]
  constructor
  · intro h nm hnm
    rcases vars_mem P [] nm hnm with h1 | ⟨c, hc, hv, e⟩
    · simp at h1
    · rw [← e]; exact h c hc hv
  · intro h c hc hv
    exact h c.nm (vars_has P [] c.nm (.inr ⟨c, hc, hv, rfl⟩))

set_option maxHeartbeats 4000000 in
theorem put_any (w : World) (u v : Value) (P : List Cl) (l : List Bd) (hu : Lies w u P) (hv : LiesB w v l) (hP : check P = 0) (hG : gatherE [] l = 0) (hT : told P l = true) :
    Calls Tryd.prog 86 #[u, v] w fun e w' => ∃ v', e = .returned v' ∧ Owns w' w.heap.size v' (sub (at_ l) P) ∧ Below w.heap.size w w' ∧ (sub (at_ l) P).length ≤ 64 * P.length := by
  obtain ⟨i0, hi, hz0, hz1, hz2⟩ := info_parts info59
  obtain ⟨hp64, hpE, _⟩ := check_zero hP
  have HPE : Hid (∀ c ∈ P, cellErr c = 0) := cellsErr_zero.1 hpE
  have HGR : Hid (∀ b ∈ l, check b.val = 0 ∧ kind b.nm.data.toList = 2 ∧ inS b.nm [] = false) := (gather_right l [] hG).1
  have HTT : Hid (∀ c ∈ P, isV c = true → (look l c.nm).isSome = true) := told_iff.1 hT
  have HU : Hid (Lies w u P) := hu
  have HV : Hid (LiesB w v l) := hv
  obtain ⟨pa, pc, rfl, hp1, hp2, hpF, _⟩ := hu
  obtain ⟨la, lc, rfl, hl1, hl2, _⟩ := hv
  have hlm : l.length ≤ 9223372036854775807 := by unfold maxLen at hl2; omega
  clear hP hG hT hpE hpF
  go_enter Tryd.func86, Tryd.ntmps86
  go_wp2_with fail
  go_loopw [5, 9] (fun mv i wr => ∃ k : Nat, k ≤ P.length ∧ i = .int .i64 (k : Nat) ∧ Owns wr w.heap.size mv (sub (at_ l) (P.take k)) ∧ (sub (at_ l) (P.take k)).length ≤ 64 * k ∧ Below w.heap.size w wr) (fun _ i _ => P.length - (intOf i).toNat)
  case atStart => exact ⟨0, Nat.zero_le _, rfl, World.ownsRow_nil _ _ _ _, by simp [sub], Below.refl _ _⟩
  case round =>
    obtain ⟨k, hk, rfl, hO, hml, hbr⟩ := hrel
    have hbs := hbr.size
    obtain ⟨ma, mc, hmv, _⟩ := own_cells hO
    subst hmv
    by_cases hlt : k < P.length
    · obtain ⟨c, hc⟩ : ∃ c, P[k]? = some c := ⟨P[k], List.getElem?_eq_getElem hlt⟩
      obtain ⟨pb, po, hpa, d1, d2⟩ : ∃ pb po, pa = some ⟨pb, po, none⟩ ∧ wr.cell? ⟨pb, po + k * 2, none⟩ = some (.string c.nm) ∧ wr.cell? ⟨pb, po + k * 2 + 1, none⟩ = some (.int .i64 c.ar) := by
        obtain ⟨a', c', hv', _, _, _, HC'⟩ := HU.out.on hbr
        cases hv'
        obtain ⟨b, off, e, _, e1, e2⟩ := HC' k c hc
        exact ⟨b, off, e, e1, e2⟩
      subst hpa
      have hcm := List.mem_of_getElem? hc
      have hcn := (name_len (HPE.out c hcm)).2
      have hki : (k : Int) < (P.length : Int) := by omega
      have hmx : c.nm.size ≤ maxLen := by unfold maxLen; omega
      have hkd := fun w => rKind_any c.nm w hmx
      have HN : Hid (sub (at_ l) (P.take (k + 1)) = sub (at_ l) (P.take k) ++ (if isV c then at_ l c.nm else [c])) := sub_next hc
      have hts := HTT.out c hcm
      obtain ⟨S, hS⟩ : ∃ S, sub (at_ l) (P.take k) = S := ⟨_, rfl⟩
      rw [hS] at hO hml HN ⊢
      obtain ⟨nm, ar⟩ := c
      simp only at d1 d2 hcn hmx hkd hts
      clear hc hcm hS
      by_cases hv : isV ⟨nm, ar⟩ = true
      · have hk2 : kind nm.data.toList = 2 := by unfold isV at hv; simpa using hv
        rw [hk2] at hkd
        obtain ⟨V, hlk⟩ : ∃ V, look l nm = some V := by
          have := hts hv
          cases h : look l nm with
          | none => rw [h] at this; cases this
          | some V => exact ⟨V, rfl⟩
        obtain ⟨j, hj⟩ : ∃ j, idx l nm = some j := by
          cases h : idx l nm with
          | none => rw [idx_none.1 h] at hlk; cases hlk
          | some j => exact ⟨j, rfl⟩
        obtain ⟨v2, hlj, hlk2⟩ := idx_some hj
        have e2 : v2 = V := by rw [hlk] at hlk2; cases hlk2; rfl
        subst e2
        have hjl : j < l.length := (List.getElem?_eq_some_iff.1 hlj).1
        have hat := at_any wr _ l nm (HV.out.on hbr)
        have hai : atI l nm = (j : Int) := by unfold atI; rw [hj]
        rw [hai] at hat
        obtain ⟨g2, o2, x2, hla, g2l, c3, c4, m2, _⟩ := (HV.out.on hbr).spot hlj
        subst hla
        have hVc := (HGR.out _ (look_mem hlk)).1
        simp only at hVc
        obtain ⟨hV64, hVE, hVf⟩ := check_zero hVc
        have HN2 : Hid (sub (at_ l) (P.take (k + 1)) = S ++ v2) := by show _ = _; rw [HN.out, if_pos hv]; unfold at_; rw [hlk]; rfl
        obtain ⟨xa, xc, rfl, _, _, _, xC⟩ := m2
        obtain ⟨c0, hc0⟩ : ∃ c0, v2[0]? = some c0 := by
          cases v2 with
          | nil => cases hVf
          | cons c r => exact ⟨c, rfl⟩
        obtain ⟨b2, ob, hxa, _, _, _⟩ := xC 0 c0 hc0
        subst hxa
        have HSRC : Hid (∀ j y, (flatC v2)[j]? = some y → wr.cell? ((⟨b2, ob, none⟩ : Addr).add j) = some y) := xC.src
        have hrow : wr.ownsRow w.heap.size 33 2 (.slice ma S.length mc) S.length (flatC S) := hO
        have hji : (j : Int) < (l.length : Int) := by omega
        clear hlk hv hk2 HN hVc hVE hVf xC hc0 hj hlj hlk2 hai hts c3
        go_wp2_with (first | (go_at_call 68; refine (hkd _).mono ?_; rintro x w2 ⟨rfl, rfl⟩) | (go_at_call 85; refine hat.mono ?_; rintro x w3 ⟨rfl, rfl⟩) | (at_builtin; refine wpList_append_own _ rfl _ _ 23 rfl w.heap.size 33 i0 (.agg #[.string ⟨#[]⟩, .int .i64 0]) 2 24 Tryd.underlying23 hi hz0 hz1 hz2 rfl (by decide) _ S.length (flatC S) rfl hrow ⟨b2, ob, none⟩ v2.length xc (flatC v2) rfl (flatC_length v2) HSRC.out (flatC_one v2) ?c3 ?c4 hbs ?_))
        case c3 => unfold maxLen; omega
        case c4 => omega
        intro v' w5 hown' hgrow _
        have hO5 : Owns w5 w.heap.size v' (S ++ v2) := by
          show World.ownsRow _ _ _ _ _ _ _
          rw [flatC_append, List.length_append]
          exact hown'
        have hb5 : Below w.heap.size w w5 := hbr.grown hgrow hbs (fun j hj => (World.ownsRow.lt hO j hj).1)
        clear hown' hgrow hrow
        go_wp2_with fail
        go_roundw
        case rel => exact ⟨k + 1, by omega, by go_num, by rw [HN2.out]; exact hO5, by rw [HN2.out, List.length_append]; omega, hb5⟩
        case measure => simp [intOf]; omega
      · have hv2 : isV ⟨nm, ar⟩ = false := by simpa using hv
        have hk2 : kind nm.data.toList ≠ 2 := by unfold isV at hv2; simpa using hv2
        generalize kind nm.data.toList = q at hkd hk2
        have q1 : ((q : Int) == 2) = false := by simp only [beq_eq_false_iff_ne]; omega
        have q2 : ¬ (q : Int) = 2 := by omega
        have HN2 : Hid (sub (at_ l) (P.take (k + 1)) = S ++ [⟨nm, ar⟩]) := by show _ = _; rw [HN.out, if_neg hv]
        have hrow : wr.ownsRow w.heap.size 33 2 (.slice ma S.length mc) S.length (flatC S) := hO
        clear hv hv2 hk2 HN hts
        go_wp2_with (first | (go_at_call 68; refine (hkd _).mono ?_; rintro x w2 ⟨rfl, rfl⟩) | (at_builtin; refine wpList_append_own _ rfl _ _ 23 rfl w.heap.size 33 i0 (.agg #[.string ⟨#[]⟩, .int .i64 0]) 2 24 Tryd.underlying23 hi hz0 hz1 hz2 rfl (by decide) _ S.length (flatC S) rfl (hrow.alloc _) ⟨wr.heap.size, 0, none⟩ 1 1 [.string nm, .int .i64 ar] rfl rfl (two_cells _ _ _ _) (by intro y hy; simp at hy; rcases hy with rfl | rfl <;> rfl) ?c3 ?c4 ?c5 ?_))
        case c3 => unfold maxLen; omega
        case c4 => omega
        case c5 => simp; omega
        intro v' w5 hown' hgrow _
        have hO5 : Owns w5 w.heap.size v' (S ++ [⟨nm, ar⟩]) := by
          show World.ownsRow _ _ _ _ _ _ _
          rw [flatC_append, List.length_append]
          exact hown'
        have hb5 : Below w.heap.size w w5 := (hbr.alloc hbs _).grown hgrow (by simp; omega) (fun j hj => (World.ownsRow.lt hO j hj).1)
        clear hown' hgrow hrow
        go_wp2_with fail
        go_roundw
        case rel => exact ⟨k + 1, by omega, by go_num, by rw [HN2.out]; exact hO5, by rw [HN2.out, List.length_append]; simp; omega, hb5⟩
        case measure => simp [intOf]; omega
    · have hki : ¬ (k : Int) < (P.length : Int) := by omega
      have HKP : Hid (P.take k = P) := List.take_of_length_le (by omega)
      rw [HKP.out] at hO hml
      rw [HKP.out]
      have HML : Hid ((sub (at_ l) P).length ≤ 64 * P.length) := by show _ ≤ _; omega
      obtain ⟨S, hS⟩ : ∃ S, sub (at_ l) P = S := ⟨_, rfl⟩
      have HS : Hid (sub (at_ l) P = S) := hS
      rw [hS] at hO HML ⊢
      clear hS hml
      go_wp2_with fail
      go_ret
      exact ⟨_, rfl, by rw [HS.out]; exact hO, hbr, by rw [HS.out]; exact HML.out⟩

set_option maxHeartbeats 4000000 in
theorem rFill_any (w : World) (u v : Value) (P : List Cl) (l : List Bd) (hu : Lies w u P) (hv : LiesB w v l) :
    Calls Tryd.prog 60 #[u, v] w fun e w' => ∃ v', e = .returned (.tuple #[v', .int .i64 (fillE P l : Nat)]) ∧ Owns w' w.heap.size v' (fillM P l) ∧ Below w.heap.size w w' := by
  have hck := rCheck_any w u P hu
  obtain ⟨ER, hER⟩ : ∃ ER, fillE P l = ER := ⟨_, rfl⟩
  obtain ⟨MR, hMR⟩ : ∃ MR, fillM P l = MR := ⟨_, rfl⟩
  have HER : Hid (fillE P l = ER ∧ fillM P l = MR) := ⟨hER, hMR⟩
  have HU : Hid (Lies w u P) := hu
  have HV : Hid (LiesB w v l) := hv
  rw [hER, hMR]
  clear hER hMR
  by_cases hP : check P = 0
  · rw [hP] at hck
    have HP : Hid (check P = 0) := hP
    have HSE : Hid (fillE P l = if gatherE [] l = 0 then (if told P l = true then (if (sub (at_ l) P).length ≤ 64 then 0 else 6) else 7) else gatherE [] l) := by show _ = _; unfold fillE; rw [if_pos hP]
    have HBAD : Hid (∀ e : Nat, e ≠ 0 → fillE P l = e → ER = e ∧ MR = []) := fun e h0 h => ⟨HER.out.1.symm.trans h, by rw [← HER.out.2]; unfold fillM; rw [h, if_neg h0]⟩
    obtain ⟨pa, pc, rfl, hp1, hp2, _⟩ := hu
    obtain ⟨la, lc, rfl, hl1, hl2, _⟩ := hv
    have hlm : l.length ≤ 9223372036854775807 := by unfold maxLen at hl2; omega
    clear hP
    go_enter Tryd.func60, Tryd.ntmps60
    go_wp2_with (first | (go_at_call 36; refine hck.mono ?_; rintro e w1 ⟨rfl, rfl⟩))
    go_loop [19] (fun i => ∃ k : Nat, k ≤ l.length ∧ i = .int .i64 (k : Nat) ∧ Hid (gatherE [] l = gatherE ((l.take k).map (·.nm)) (l.drop k))) (fun i => l.length - (intOf i).toNat)
    case atStart => exact ⟨0, Nat.zero_le _, rfl, rfl⟩
    case round =>
      obtain ⟨k, hk, rfl, HR⟩ := hrel
      by_cases hlt : k < l.length
      · obtain ⟨bd, hbd⟩ : ∃ b, l[k]? = some b := ⟨l[k], List.getElem?_eq_getElem hlt⟩
        obtain ⟨nm, val⟩ := bd
        obtain ⟨g, off, x, hla, hgl, d1, d2, hlx, hns⟩ := HV.out.spot hbd
        subst hla
        have hki : (k : Int) < (l.length : Int) := by omega
        have hmx : nm.size ≤ maxLen := by unfold maxLen; omega
        have hkd := fun w => rKind_any nm w hmx
        have hdr : l.drop k = ⟨nm, val⟩ :: l.drop (k + 1) := by
          obtain ⟨hkl, e⟩ := List.getElem?_eq_some_iff.1 hbd
          rw [← e]; exact List.drop_eq_getElem_cons hkl
        have htk : l.take (k + 1) = l.take k ++ [⟨nm, val⟩] := by rw [List.take_add_one, hbd]; rfl
        have hR0 := HR.out
        rw [hdr] at hR0
        conv at hR0 => rhs; unfold gatherE
        simp only at hR0
        obtain ⟨j, hj, hjk⟩ := idx_lt hbd
        have hat := at_any w _ l nm HV.out
        have hai : atI l nm = (j : Int) := by unfold atI; rw [hj]
        rw [hai] at hat
        have hjl : j < l.length := by obtain ⟨u, hu, _⟩ := idx_some hj; exact (List.getElem?_eq_some_iff.1 hu).1
        have hck2 := rCheck_any w x val hlx
        obtain ⟨xa, xc, rfl, _⟩ := hlx
        have HTK : Hid (l.take (k + 1) = l.take k ++ [⟨nm, val⟩]) := htk
        clear hbd hdr htk HR hj hai
        generalize kind nm.data.toList = q at hkd hR0
        by_cases hq : q = 2
        · rw [if_pos hq] at hR0
          subst hq
          by_cases hin : inS nm ((l.take k).map (·.nm)) = true
          · rw [if_pos hin] at hR0
            have hji : (j : Int) < (k : Int) := by have := hjk.2 hin; omega
            have HX : Hid (ER = 9 ∧ MR = []) := HBAD.out 9 (by omega) (by rw [HSE.out, hR0]; rfl)
            clear hR0 hin hjk
            go_wp2_with (first | (go_at_call 68; refine (hkd _).mono ?_; rintro x w2 ⟨rfl, rfl⟩) | (go_at_call 85; refine hat.mono ?_; rintro x w3 ⟨rfl, rfl⟩))
            go_ret2
            exact ⟨_, by rw [HX.out.1]; rfl, by rw [HX.out.2]; exact World.ownsRow_nil _ _ _ _, Below.refl _ _⟩
          · rw [if_neg hin] at hR0
            have hjn : ¬ j < k := fun h => hin (hjk.1 h)
            have hji : ¬ (j : Int) < (k : Int) := by omega
            have hjd : decide ((j : Int) < (k : Int)) = false := decide_eq_false hji
            by_cases hc0 : check val = 0
            · rw [if_pos hc0] at hR0
              rw [hc0] at hck2
              have HR2 : Hid (gatherE [] l = gatherE ((l.take (k + 1)).map (·.nm)) (l.drop (k + 1))) := by show _ = _; rw [hR0, HTK.out, List.map_append]; rfl
              clear hR0 hin hjk hc0 hjn
              go_wp2_with (first | (go_at_call 68; refine (hkd _).mono ?_; rintro x w2 ⟨rfl, rfl⟩) | (go_at_call 85; refine hat.mono ?_; rintro x w3 ⟨rfl, rfl⟩) | (go_at_call 36; refine hck2.mono ?_; rintro x w4 ⟨rfl, rfl⟩))
              go_round
              case rel => exact ⟨k + 1, by omega, by go_num, HR2⟩
              case measure => simp [intOf]; omega
            · rw [if_neg hc0] at hR0
              have HX : Hid (ER = check val ∧ MR = []) := HBAD.out _ hc0 (by rw [HSE.out, hR0, if_neg hc0])
              generalize check val = e0 at hck2 hc0 HX
              have e1 : ((e0 : Int) == 0) = false := by simp only [beq_eq_false_iff_ne]; omega
              have e2 : ¬ (e0 : Int) = 0 := by omega
              clear hR0 hin hjk hjn
              go_wp2_with (first | (go_at_call 68; refine (hkd _).mono ?_; rintro x w2 ⟨rfl, rfl⟩) | (go_at_call 85; refine hat.mono ?_; rintro x w3 ⟨rfl, rfl⟩) | (go_at_call 36; refine hck2.mono ?_; rintro x w4 ⟨rfl, rfl⟩))
              go_ret2
              exact ⟨_, by rw [HX.out.1]; rfl, by rw [HX.out.2]; exact World.ownsRow_nil _ _ _ _, Below.refl _ _⟩
        · rw [if_neg hq] at hR0
          have HX : Hid (ER = 4 ∧ MR = []) := HBAD.out 4 (by omega) (by rw [HSE.out, hR0]; rfl)
          have q1 : ((q : Int) == 2) = false := by simp only [beq_eq_false_iff_ne]; omega
          have q2 : ¬ (q : Int) = 2 := by omega
          clear hR0 hq hjk
          go_wp2_with (first | (go_at_call 68; refine (hkd _).mono ?_; rintro x w2 ⟨rfl, rfl⟩))
          go_ret2
          exact ⟨_, by rw [HX.out.1]; rfl, by rw [HX.out.2]; exact World.ownsRow_nil _ _ _ _, Below.refl _ _⟩
      · have hki : ¬ (k : Int) < (l.length : Int) := by omega
        have HG : Hid (gatherE [] l = 0) := by show _ = _; rw [HR.out, List.drop_eq_nil_of_le (by omega)]; rfl
        have HSE2 : Hid (fillE P l = if told P l = true then (if (sub (at_ l) P).length ≤ 64 then 0 else 6) else 7) := by show _ = _; rw [HSE.out, if_pos HG.out]
        have hrv := rVars_ok w _ P HU.out HP.out
        have hvl := varsOf_len P P.length
        rw [List.take_length] at hvl
        have hp64 := (check_zero HP.out).1
        have HTV : Hid (told P l = true ↔ ∀ nm ∈ varsOf P, (look l nm).isSome = true) := told_vars
        have HVK : Hid (∀ nm ∈ varsOf P, nm.size ≤ 8) := fun nm hn => by
          rcases vars_mem P [] nm hn with h1 | ⟨c, hc, _, e⟩
          · simp at h1
          · rw [← e]; exact (name_len (cellsErr_zero.1 (check_zero HP.out).2.1 c hc)).2
        obtain ⟨S, hS⟩ : ∃ S, varsOf P = S := ⟨_, rfl⟩
        rw [hS] at hrv hvl HTV HVK
        clear hS HR HSE
        go_wp2_with (first | (go_at_call 38; refine hrv.mono ?_; rintro x w2 ⟨v2, rfl, o2, hb2⟩; have ls2 := o2.lies; obtain ⟨sa, sc, hsv, hs1, hs2, _⟩ := id ls2; subst hsv))
        have HS2 : Hid (LiesS w2 (.slice sa S.length sc) S) := ls2
        have HB2 : Hid (Below w.heap.size w w2) := hb2
        clear ls2 hb2 o2 hrv
        go_loop [52] (fun i => ∃ k : Nat, k ≤ S.length ∧ i = .int .i64 (k : Nat) ∧ Hid (∀ nm ∈ S.take k, (look l nm).isSome = true)) (fun i => S.length - (intOf i).toNat)
        case atStart => exact ⟨0, Nat.zero_le _, rfl, by show ∀ nm ∈ _, _; simp⟩
        case round =>
          obtain ⟨q, hq, rfl, HA⟩ := hrel
          by_cases hlt2 : q < S.length
          · obtain ⟨nm, hnm⟩ : ∃ nm, S[q]? = some nm := ⟨S[q], List.getElem?_eq_getElem hlt2⟩
            obtain ⟨sb, so, hsa, hsl, hsc⟩ : ∃ sb so, sa = some ⟨sb, so, none⟩ ∧ sb < w2.heap.size ∧ w2.cell? ⟨sb, so + q, none⟩ = some (.string nm) := by
              obtain ⟨a', c', hv', _, _, HC'⟩ := HS2.out
              cases hv'
              exact HC' q nm hnm
            subst hsa
            have hqi : (q : Int) < (S.length : Int) := by omega
            have hat := at_any w2 _ l nm (HV.out.on HB2.out)
            have hmem := List.mem_of_getElem? hnm
            have HTK : Hid (S.take (q + 1) = S.take q ++ [nm]) := by show _ = _; rw [List.take_add_one, hnm]; rfl
            cases hx : idx l nm with
            | none =>
              have hai : atI l nm = -1 := by unfold atI; rw [hx]
              rw [hai] at hat
              have HX : Hid (ER = 7 ∧ MR = []) := HBAD.out 7 (by omega) (by
                rw [HSE2.out, if_neg]
                intro h
                have := HTV.out.1 h nm hmem
                rw [idx_none.1 hx] at this
                cases this)
              clear hx hai hmem hnm
              go_wp2_with (first | (go_at_call 85; refine hat.mono ?_; rintro x w3 ⟨rfl, rfl⟩))
              go_ret2
              exact ⟨_, by rw [HX.out.1]; rfl, by rw [HX.out.2]; exact World.ownsRow_nil _ _ _ _, HB2.out⟩
            | some j =>
              have hai : atI l nm = (j : Int) := by unfold atI; rw [hx]
              rw [hai] at hat
              have hjd : decide ((j : Int) < 0) = false := decide_eq_false (by omega)
              have hjn : ¬ (j : Int) < 0 := by omega
              have HA2 : Hid (∀ n ∈ S.take (q + 1), (look l n).isSome = true) := by
                rw [HTK.out]
                intro n hn
                rcases List.mem_append.1 hn with hn | hn
                · exact HA.out n hn
                · simp at hn
                  subst hn
                  obtain ⟨v, _, hv⟩ := idx_some hx
                  rw [hv]; rfl
              clear hx hai hmem hnm HA
              go_wp2_with (first | (go_at_call 85; refine hat.mono ?_; rintro x w3 ⟨rfl, rfl⟩))
              go_round
              case rel => exact ⟨q + 1, by omega, by go_num, HA2⟩
              case measure => simp [intOf]; omega
          · have hqi : ¬ (q : Int) < (S.length : Int) := by omega
            have hT : told P l = true := HTV.out.2 (by have := HA.out; rwa [List.take_of_length_le (by omega)] at this)
            have hput := put_any w2 _ _ P l (HU.out.on HB2.out) (HV.out.on HB2.out) HP.out HG.out hT
            by_cases h64 : (sub (at_ l) P).length ≤ 64
            · have HX : Hid (ER = 0 ∧ MR = sub (at_ l) P) := by
                have h0 : fillE P l = 0 := by rw [HSE2.out, if_pos hT, if_pos h64]
                exact ⟨HER.out.1.symm.trans h0, by rw [← HER.out.2]; unfold fillM; rw [if_pos h0]⟩
              obtain ⟨R, hR⟩ : ∃ R, sub (at_ l) P = R := ⟨_, rfl⟩
              rw [hR] at hput HX h64
              have h64i : ¬ (64 : Int) < (R.length : Int) := by omega
              have h64d : decide ((64 : Int) < (R.length : Int)) = false := decide_eq_false h64i
              clear hT hR HA
              go_wp2_with (first | (go_at_call 86; refine hput.mono ?_; rintro x w4 ⟨v4, rfl, o4, hb4, _⟩; obtain ⟨fa, fc, hfv, _⟩ := own_cells o4; subst hfv; have o5 := own_base o4 HB2.out.size; have hb5 := HB2.out.trans (hb4.mono HB2.out.size)))
              go_ret2
              exact ⟨_, by rw [HX.out.1]; rfl, by rw [HX.out.2]; exact o5, hb5⟩
            · have HX : Hid (ER = 6 ∧ MR = []) := HBAD.out 6 (by omega) (by rw [HSE2.out, if_pos hT, if_neg h64])
              obtain ⟨R, hR⟩ : ∃ R, sub (at_ l) P = R := ⟨_, rfl⟩
              rw [hR] at hput h64
              have h64i : (64 : Int) < (R.length : Int) := by omega
              clear hT hR HA
              go_wp2_with (first | (go_at_call 86; refine hput.mono ?_; rintro x w4 ⟨v4, rfl, o4, hb4, hR4⟩; obtain ⟨fa, fc, hfv, _⟩ := own_cells o4; subst hfv; have hb5 := HB2.out.trans (hb4.mono HB2.out.size)))
              go_ret2
              exact ⟨_, by rw [HX.out.1]; rfl, by rw [HX.out.2]; exact World.ownsRow_nil _ _ _ _, hb5⟩
  · have HX : Hid (ER = check P ∧ MR = []) := by
      have h0 : fillE P l = check P := by unfold fillE; rw [if_neg hP]
      exact ⟨HER.out.1.symm.trans h0, by rw [← HER.out.2]; unfold fillM; rw [h0, if_neg hP]⟩
    generalize check P = e0 at hck hP HX
    have e1 : ((e0 : Int) == 0) = false := by simp only [beq_eq_false_iff_ne]; omega
    have e2 : ¬ (e0 : Int) = 0 := by omega
    go_enter Tryd.func60, Tryd.ntmps60
    go_wp2_with (first | (go_at_call 36; refine hck.mono ?_; rintro e w1 ⟨rfl, rfl⟩))
    go_ret2
    exact ⟨_, by rw [HX.out.1]; rfl, by rw [HX.out.2]; exact World.ownsRow_nil _ _ _ _, Below.refl _ _⟩

end Go.Proofs.YtjpmlnigjbdnnaaDoor
