/-
  What the document's Make and CopyAll answer.
-/
import Derived.Test.YtjfkkabpfjcceaaMake
namespace Go.Proofs.Ytjfkkabpfjcceaa
open Go.RowKit
set_option linter.unusedVariables false
set_option maxRecDepth 100000
set_option linter.unusedSimpArgs false

set_option maxHeartbeats 4000000 in
theorem rMake_any (w : World) (nm : ByteArray) (kv : Value) (K : List (List Cl)) (hnm : nm.size ≤ 9223372036854775807) (hK : LiesT w kv K) :
    Calls Try.prog 28 #[.string nm, kv] w fun e w' => ((makeE nm K = 0 ∧ ∃ v', e = .returned (.tuple #[v', .int .i64 0]) ∧ Owns w' w.heap.size v' (mkT nm K K.length)) ∨ (makeE nm K ≠ 0 ∧ e = .returned (.tuple #[.slice none 0 0, .int .i64 (makeE nm K : Nat)]))) ∧ Below w.heap.size w w' := by
  obtain ⟨i0, hi, hz0, hz1, hz2⟩ := info_parts info59
  have HK : Hid (LiesT w kv K) := hK
  obtain ⟨ka, kc, rfl, hk1, hk2, _⟩ := hK
  have hkm : K.length ≤ 9223372036854775807 := by unfold maxLen at hk2; omega
  obtain ⟨ER, hER⟩ : ∃ ER, makeE nm K = ER := ⟨_, rfl⟩
  have HER : Hid (makeE nm K = ER) := hER
  have H1 : Hid (Owns (w.alloc (.cells #[.string nm, .int .i64 (K.length : Nat)] 59)) w.heap.size (.slice (some ⟨w.heap.size, 0, none⟩) 1 1) (mkT nm K 0)) := own_one w nm _
  have HF1 : Hid (Fine (mkT nm K 0)) := by
    intro c hc
    have e : c = ⟨nm, (K.length : Nat)⟩ := by simpa [mkT] using hc
    subst e
    exact ⟨hnm, by show _ ≤ ((K.length : Nat) : Int); omega, by show ((K.length : Nat) : Int) ≤ _; omega⟩
  have HB1 : Hid (Below w.heap.size w (w.alloc (.cells #[.string nm, .int .i64 (K.length : Nat)] 59))) := (Below.refl _ w).alloc (Nat.le_refl _) _
  rw [hER]
  clear hER
  go_enter Try.func28, Try.ntmps28
  go_wp2_with fail
  go_loop [13] (fun i => ∃ j : Nat, j ≤ K.length ∧ Hid (∀ l ∈ K.take j, check l = 0) ∧ i = .int .i64 (j : Nat)) (fun i => K.length - (intOf i).toNat)
  case atStart => exact ⟨0, Nat.zero_le _, by show ∀ l ∈ _, _; simp, rfl⟩
  case round =>
    obtain ⟨j, hj, HCK, rfl⟩ := hrel
    by_cases hlt : j < K.length
    · obtain ⟨l, hl⟩ : ∃ l, K[j]? = some l := ⟨K[j], List.getElem?_eq_getElem hlt⟩
      obtain ⟨b, off, x, ha, hbl, hcx, hlx⟩ : ∃ b off x, ka = some ⟨b, off, none⟩ ∧ b < w.heap.size ∧ w.cell? ⟨b, off + j, none⟩ = some x ∧ Lies w x l := by
        obtain ⟨a', cap', hv', _, _, HC'⟩ := HK.out
        cases hv'
        exact HC' j _ hl
      subst ha
      have hji : (j : Int) < (K.length : Int) := by omega
      have hck := rCheck_any w x l hlx
      obtain ⟨xa, xc, rfl, x1, x2, xF, xC⟩ := hlx
      have HLJ : Hid (K[j]? = some l) := hl
      clear hl xC
      by_cases hc0 : check l = 0
      · have HCK2 : Hid (∀ m ∈ K.take (j + 1), check m = 0) := take_all HCK.out HLJ.out hc0
        rw [hc0] at hck
        clear hc0
        go_wp2_with (first | (go_at_call 12; refine hck.mono ?_; rintro e w3 ⟨rfl, rfl⟩))
        go_round
        case rel => exact ⟨j + 1, by omega, HCK2, by go_num⟩
        case measure => simp [intOf]; omega
      · have HX : Hid (ER = check l) := by
          show _ = _
          have hke := kidsErr_at HCK.out HLJ.out hc0
          rw [← HER.out]
          unfold makeE
          rw [hke, if_neg hc0]
        generalize check l = e0 at hck hc0 HX
        have e1 : ((e0 : Int) == 0) = false := by simp only [beq_eq_false_iff_ne]; omega
        have e2 : ¬ (e0 : Int) = 0 := by omega
        go_wp2_with (first | (go_at_call 12; refine hck.mono ?_; rintro e w3 ⟨rfl, rfl⟩))
        go_ret2
        exact ⟨.inr (by rw [HX.out]; exact ⟨hc0, rfl⟩), Below.refl _ _⟩
    · have hji : ¬ (j : Int) < (K.length : Int) := by omega
      have HALL : Hid (∀ l ∈ K, check l = 0) := by
        have h1 := HCK.out
        rw [show j = K.length by omega, List.take_length] at h1
        exact h1
      have HX : Hid (ER = check (mkT nm K K.length)) := by
        show _ = _
        rw [← HER.out]
        unfold makeE
        rw [if_pos (kidsErr_all HALL.out)]
      clear HCK HER
      go_wp2_with fail
      go_loopw [8, 32] (fun mv i wr => ∃ j : Nat, j ≤ K.length ∧ Owns wr w.heap.size mv (mkT nm K j) ∧ Hid (Fine (mkT nm K j)) ∧ (mkT nm K j).length ≤ 128 ∧ Below w.heap.size w wr ∧ i = .int .i64 (j : Nat)) (fun _ i _ => K.length - (intOf i).toNat)
      case atStart => exact ⟨0, Nat.zero_le _, H1.out, HF1, by simp [mkT], HB1.out, rfl⟩
      case round =>
        obtain ⟨j2, hj2, hO, HF, hml, hbr, rfl⟩ := hrel
        clear H1 HF1 HB1
        have hbs := hbr.size
        obtain ⟨ma, mc, hmv, _⟩ := own_cells hO
        subst hmv
        by_cases hlt2 : j2 < K.length
        · obtain ⟨l, hl⟩ : ∃ l, K[j2]? = some l := ⟨K[j2], List.getElem?_eq_getElem hlt2⟩
          obtain ⟨b, off, x, ha, hbl, hcx, hlx⟩ : ∃ b off x, ka = some ⟨b, off, none⟩ ∧ b < wr.heap.size ∧ wr.cell? ⟨b, off + j2, none⟩ = some x ∧ Lies wr x l := by
            obtain ⟨a', cap', hv', _, _, HC'⟩ := HK.out.on hbr
            cases hv'
            exact HC' j2 _ hl
          subst ha
          have hji2 : (j2 : Int) < (K.length : Int) := by omega
          obtain ⟨xa, xc, rfl, x1, x2, xF, xC⟩ := hlx
          have HN : Hid (mkT nm K (j2 + 1) = mkStep (mkT nm K j2) l) := mkT_next hl
          have hc0 := HALL.out l (List.mem_of_getElem? hl)
          have hl64 := (check_zero hc0).1
          have hfl := (check_zero hc0).2.2
          have HST : Hid (64 < (mkT nm K j2).length → mkT nm K K.length = mkT nm K j2) := mkT_stay
          obtain ⟨acc, hacc⟩ : ∃ acc, mkT nm K j2 = acc := ⟨_, rfl⟩
          rw [hacc] at hO HF hml HN HST ⊢
          by_cases h64 : acc.length ≤ 64
          · have HN2 : Hid (mkT nm K (j2 + 1) = acc ++ l) := by show _ = _; rw [HN.out]; unfold mkStep; rw [if_pos h64]
            have h64i : ¬ (64 : Int) < (acc.length : Int) := by omega
            have h64d : decide ((64 : Int) < (acc.length : Int)) = false := decide_eq_false h64i
            obtain ⟨c, hcl⟩ : ∃ c, l[0]? = some c := by
              cases l with
              | nil => cases hfl
              | cons c r => exact ⟨c, rfl⟩
            obtain ⟨b2, o2, hxa, _, _, _⟩ := xC 0 c hcl
            subst hxa
            have HS3 : Hid (∀ j u, (flatC l)[j]? = some u → wr.cell? ((⟨b2, o2, none⟩ : Addr).add j) = some u) := xC.src
            have HF2 : Hid (Fine (acc ++ l)) := fine_append HF.out xF
            have hown3 : wr.ownsRow w.heap.size 59 2 (.slice ma acc.length mc) acc.length (flatC acc) := hO
            clear HN hacc hfl hcl xC hc0 hl
            go_wp2_with (first | (at_builtin; refine wpList_append_own _ rfl _ _ 23 rfl w.heap.size 59 i0 (.agg #[.string ⟨#[]⟩, .int .i64 0]) 2 24 Try.underlying23 hi hz0 hz1 hz2 rfl (by decide) _ acc.length (flatC acc) rfl hown3 ⟨b2, o2, none⟩ l.length xc (flatC l) rfl (flatC_length l) HS3.out (flatC_one l) ?c3 ?c4 ?c5 ?_))
            case c3 => unfold maxLen; omega
            case c4 => omega
            intro v' w5 hown' hgrow _
            have hO5 : Owns w5 w.heap.size v' (acc ++ l) := by
              show World.ownsRow _ _ _ _ _ _ _
              rw [flatC_append, List.length_append]
              exact hown'
            have hb5 : Below w.heap.size w w5 := hbr.grown hgrow hbs (fun k hk => (World.ownsRow.lt hown3 k hk).1)
            clear hown' hgrow hown3 HS3
            go_wp2_with fail
            go_roundw
            case rel => exact ⟨j2 + 1, by omega, by rw [HN2.out]; exact hO5, by rw [HN2.out]; exact HF2, by rw [HN2.out, List.length_append]; omega, hb5, by go_num⟩
            case measure => simp [intOf]; omega
          · have HX6 : Hid (ER = 6) := by show _ = _; rw [HX.out, HST.out (by omega)]; exact check_big (by omega)
            have h64i : (64 : Int) < (acc.length : Int) := by omega
            clear HN hacc hfl xC hc0 hl
            go_wp2_with fail
            go_ret2
            exact ⟨.inr (by rw [HX6.out]; exact ⟨by omega, rfl⟩), hbr⟩
        · have hji2 : ¬ (j2 : Int) < (K.length : Int) := by omega
          have HJ : Hid (j2 = K.length) := by show _ = _; omega
          have hck := rCheck_any wr _ _ (Owns.lies hO HF.out)
          obtain ⟨acc, hacc⟩ : ∃ acc, mkT nm K j2 = acc := ⟨_, rfl⟩
          have HACC : Hid (mkT nm K K.length = acc) := by show _ = _; rw [← HJ.out]; exact hacc
          rw [hacc] at hO HF hml hck ⊢
          rw [HACC.out] at HX
          clear hacc
          by_cases hc0 : check acc = 0
          · rw [hc0] at hck HX
            clear hc0
            go_wp2_with (first | (go_at_call 12; refine hck.mono ?_; rintro e w3 ⟨rfl, rfl⟩))
            go_ret2
            exact ⟨.inl ⟨HX.out, _, rfl, by rw [HACC.out]; exact hO⟩, hbr⟩
          · generalize check acc = e0 at hck hc0 HX
            have e1 : ((e0 : Int) == 0) = false := by simp only [beq_eq_false_iff_ne]; omega
            have e2 : ¬ (e0 : Int) = 0 := by omega
            go_wp2_with (first | (go_at_call 12; refine hck.mono ?_; rintro e w3 ⟨rfl, rfl⟩))
            go_ret2
            exact ⟨.inr (by rw [HX.out]; exact ⟨hc0, rfl⟩), hbr⟩

set_option maxHeartbeats 2000000 in
theorem copyAll_any (w : World) (kv : Value) (K : List (List Cl)) (hK : LiesT w kv K) (hk : K.length * 24 ≤ 140737488355328) (hl : ∀ l ∈ K, l.length * 24 ≤ 140737488355328) :
    Calls Try.prog 27 #[kv] w fun e w' => ∃ v', e = .returned v' ∧ OwnsT w' w.heap.size v' K ∧ Below w.heap.size w w' := by
  obtain ⟨i0, hi, hz0, hz1, hz2⟩ := info_parts info23
  have HK : Hid (LiesT w kv K) := hK
  have HLL : Hid (∀ l ∈ K, l.length * 24 ≤ 140737488355328) := hl
  obtain ⟨ka, kc, rfl, hk1, hk2, _⟩ := hK
  clear hl
  go_enter Try.func27, Try.ntmps27
  go_wp2_with fail
  go_loopw [3, 7] (fun mv i wr => ∃ j : Nat, j ≤ K.length ∧ OwnsT wr w.heap.size mv (K.take j) ∧ Below w.heap.size w wr ∧ i = .int .i64 (j : Nat)) (fun _ i _ => K.length - (intOf i).toNat)
  case atStart => exact ⟨0, Nat.zero_le _, OwnsT.nil _ _, Below.refl _ _, rfl⟩
  case round =>
    obtain ⟨j, hj, hO, hbr, rfl⟩ := hrel
    have hbs := hbr.size
    obtain ⟨vs, hrow, hel⟩ := hO
    obtain ⟨ma, mc, hmv, _⟩ := own_cells hrow
    subst hmv
    by_cases hlt : j < K.length
    · obtain ⟨l, hl⟩ : ∃ l, K[j]? = some l := ⟨K[j], List.getElem?_eq_getElem hlt⟩
      obtain ⟨b, off, x, ha, hbl, hcx, hlx⟩ : ∃ b off x, ka = some ⟨b, off, none⟩ ∧ b < wr.heap.size ∧ wr.cell? ⟨b, off + j, none⟩ = some x ∧ Lies wr x l := by
        obtain ⟨a', cap', hv', _, _, HC'⟩ := HK.out.on hbr
        cases hv'
        exact HC' j _ hl
      subst ha
      have hji : (j : Int) < (K.length : Int) := by omega
      have hcp := copy_any wr x l hlx (HLL.out l (List.mem_of_getElem? hl))
      obtain ⟨xa, xc, rfl, _⟩ := hlx
      have HT2 : Hid (K.take (j + 1) = K.take j ++ [l]) := by show _ = _; rw [List.take_add_one, hl]; rfl
      have htl : (K.take j).length = j := by rw [List.length_take]; omega
      have HEL : Hid (∀ (i : Nat) m, (K.take j)[i]? = some m → ∃ x, vs[i]? = some x ∧ Owns wr w.heap.size x m) := hel
      obtain ⟨D, hD⟩ : ∃ D, K.take j = D := ⟨_, rfl⟩
      rw [hD] at HEL hrow htl HT2 ⊢
      have hdl : D.length + 1 ≤ K.length := by omega
      clear hel hl hD htl
      go_wp2_with (first | (go_at_call 11; refine hcp.mono ?_; rintro e w3 ⟨x3, rfl, hx3, hb3⟩; obtain ⟨ya, yc, hyv, _⟩ := own_cells hx3; subst hyv; have hrow3 := own_below hrow hb3; have hx4 : Owns w3 w.heap.size (.slice ya l.length yc) l := own_base hx3 hbs; have HBR3 := hbr.trans (hb3.mono hbs); have HEL3 : Hid (∀ (i : Nat) m, D[i]? = some m → ∃ x, vs[i]? = some x ∧ Owns w3 w.heap.size x m) := (fun i m hi => by { obtain ⟨x, h1, h2⟩ := HEL.out i m hi; exact ⟨x, h1, own_below h2 hb3⟩ }); have hs3 := HBR3.size) | (at_builtin; refine wpList_append_own _ rfl _ _ 43 rfl w.heap.size 23 i0 (.slice none 0 0) 1 24 Try.underlying43 hi hz0 hz1 hz2 rfl (by decide) _ D.length vs rfl (hrow3.alloc _) ⟨w3.heap.size, 0, none⟩ 1 1 [.slice ya l.length yc] rfl rfl ?c1 ?c2 ?c3 ?c4 ?c5 ?_))
      case c1 => exact one_cell w3 _ _
      case c2 => intro u hu; simp at hu; subst hu; rfl
      case c3 => unfold maxLen; omega
      case c4 => omega
      case c5 => simp; omega
      intro v' w4 hown' hgrow _
      have hOT := more_term hrow3 HEL3.out hx4 hown' hgrow
      have hb4 : Below w.heap.size w w4 := (HBR3.alloc hs3 _).grown hgrow (by simp; omega) (fun k hk => (hrow3.lt k hk).1)
      clear hown' hgrow hrow3 hx4 hx3 hb3 HEL3 HEL hrow HBR3 hbr
      go_wp2_with fail
      go_roundw
      case rel => exact ⟨j + 1, by omega, by rw [HT2.out]; exact hOT, hb4, by go_num⟩
      case measure => simp [intOf]; omega
    · obtain rfl : j = K.length := by omega
      have hfin : OwnsT wr w.heap.size (.slice ma (K.take K.length).length mc) (K.take K.length) := ⟨vs, hrow, hel⟩
      rw [List.take_length] at hfin
      have HFIN : Hid (OwnsT wr w.heap.size (.slice ma K.length mc) K) := hfin
      clear hfin hrow hel
      rw [List.take_length]
      go_wp2_with fail
      go_ret
      exact ⟨.slice ma K.length mc, rfl, HFIN.out, hbr⟩

/-- a right term is its first name above its arguments -/
theorem make_back {nm : ByteArray} {kd : Fo} (hE : check (Fo.cons nm kd .nil).flat = 0) (hc : ∀ l ∈ kd.trees, check l = 0) : makeE nm kd.trees = 0 ∧ mkT nm kd.trees kd.trees.length = (Fo.cons nm kd .nil).flat := by
  have h64 := (check_zero hE).1
  have hfl : (Fo.cons nm kd .nil).flat = ⟨nm, (kd.trees.length : Nat)⟩ :: kd.trees.flatten := by rw [Fo.trees_flatten, Fo.trees_length]; simp [Fo.flat]
  have gen : ∀ (R : List (List Cl)) (acc : List Cl), acc.length + R.flatten.length ≤ 64 → R.foldl mkStep acc = acc ++ R.flatten := by
    intro R
    induction R with
    | nil => intro acc _; simp
    | cons l r ih =>
      intro acc h
      simp only [List.flatten_cons, List.length_append] at h
      have e : mkStep acc l = acc ++ l := by unfold mkStep; rw [if_pos (by omega)]
      rw [List.foldl_cons, e, ih _ (by rw [List.length_append]; omega), List.flatten_cons, List.append_assoc]
  have hm : mkT nm kd.trees kd.trees.length = (Fo.cons nm kd .nil).flat := by
    rw [hfl] at h64 ⊢
    unfold mkT
    rw [List.take_length, gen _ _ (by simp only [List.length_cons, List.length_nil] at h64 ⊢; omega)]
    rfl
  refine ⟨?_, hm⟩
  unfold makeE
  rw [if_pos (kidsErr_all hc), hm, hE]

end Go.Proofs.Ytjfkkabpfjcceaa
