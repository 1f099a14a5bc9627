/-
  The document's Unpack.
-/
import Derived.Test.YtjocbkhjbbpkjaaRv
namespace Go.Proofs.Ytjocbkhjbbpkjaa
open Go.RowKit
set_option linter.unusedVariables false
set_option linter.unusedSimpArgs false
set_option maxRecDepth 100000

theorem ix_run (l : List UInt8) (a : Nat) (c : UInt8) (hc : l[a]? = some c) (W : World) : (Instr.index 9 (.string (bt l)) (.int .i64 (a : Nat))).run Try.prog W = .ok (.int .u8 (c.toNat : Nat)) W := by
  obtain ⟨ha, he⟩ := List.getElem?_eq_some_iff.1 hc
  rw [run_index_string (P := Try.prog) W 9 (bt l) .i64 a Try.underlying9]
  have hs : (bt l).size = l.length := bt_len l
  rw [dif_pos (by omega)]
  congr 2
  simp only [Int.toNat_natCast]
  have : (bt l)[a]'(by omega) = l[a] := rfl
  rw [this, he]
theorem cut_run (l : List UInt8) (a b : Nat) (h1 : a ≤ b) (h2 : b ≤ l.length) (W : World) : (Instr.slice 9 (.string (bt l)) (some (.int .i64 (a : Nat))) (some (.int .i64 (b : Nat))) none).run Try.prog W = .ok (.string (bt ((l.drop a).take (b - a)))) W := by
  have hs : (bt l).size = l.length := bt_len l
  rw [run_slice_string (P := Try.prog) W 9 (bt l) .i64 .i64 a b Try.underlying9 (by omega) (by omega) (by omega)]
  rw [Int.toNat_natCast, Int.toNat_natCast, bt_cut, List.drop_take]

set_option maxHeartbeats 4000000 in
theorem rUnpack_any (w : World) (l : List UInt8) (hl : l.length ≤ 140737488351232) :
    Calls Try.prog 16 #[.string (bt l)] w fun e w' => match unp l with
      | some (k, M) => ∃ a c, e = .returned (.tuple #[.int .i64 (k : Nat), .slice a M.length c, .int .i64 0]) ∧ RowE w' w.heap.size (.slice a M.length c) M ∧ Below w.heap.size w w'
      | none => ∃ a c, e = .returned (.tuple #[.int .i64 0, .slice a 0 c, .int .i64 3]) ∧ RowE w' w.heap.size (.slice a 0 c) [] ∧ Below w.heap.size w w' := by
  have hbl : (bt l).size = l.length := bt_len l
  by_cases h6 : l.length = 256
  · have hz : (bt l).size = 256 := by omega
    have hzi : (((bt l).size : Nat) : Int) = 256 := by omega
    obtain ⟨c, d, m, hm⟩ : ∃ c d m, l = c :: d :: m := by
      match l, h6 with
      | c :: d :: m, _ => exact ⟨c, d, m, rfl⟩
    have HM := hid hm
    have hm2 : m = l.drop 2 := by rw [hm]; rfl
    have hi0 := fun W => ix_run l 0 c (by rw [hm]; rfl) W
    have hi1 := fun W => ix_run l 1 d (by rw [hm]; rfl) W
    have hi0' : ∀ W : World, (Instr.index 9 (.string (bt l)) (.int .i64 0)).run Try.prog W = .ok (.int .u8 (c.toNat : Nat)) W := hi0
    have hi1' : ∀ W : World, (Instr.index 9 (.string (bt l)) (.int .i64 1)).run Try.prog W = .ok (.int .u8 (d.toNat : Nat)) W := hi1
    clear hi0 hi1
    have hcl := c.toNat_lt
    have hdl := d.toNat_lt
    have hw0 : IntKind.i64.wrap (c.toNat : Int) = (c.toNat : Int) := by rw [IntKind.wrap_i64]; omega
    have hw1 : IntKind.i64.wrap (d.toNat : Int) = (d.toNat : Int) := by rw [IntKind.wrap_i64]; omega
    have HH6 := hid h6
    have HIX : Hid (∀ (a : Nat) (e : UInt8), l[a]? = some e → ∀ W : World, (Instr.index 9 (.string (bt l)) (.int .i64 (a : Nat))).run Try.prog W = .ok (.int .u8 (e.toNat : Nat)) W) := fun a e he W => ix_run l a e he W
    have HCT : Hid (∀ (a b : Nat), a ≤ b → b ≤ 256 → ∀ W : World, (Instr.slice 9 (.string (bt l)) (some (.int .i64 (a : Nat))) (some (.int .i64 (b : Nat))) none).run Try.prog W = .ok (.string (bt ((l.drop a).take (b - a)))) W) := fun a b h1 h2 W => cut_run l a b h1 (by omega) W
    have HSH : Hid (∀ n : Nat, n ≤ d.toNat → (goR n (l.drop 2, false)).2.2 = true → unp l = none) := fun n hn h => unp_short hm hn (by rw [hm2]; exact h)
    have HWH : Hid ((goR d.toNat (l.drop 2, false)).2.2 = false → unp l = if packE (c.toNat : Nat) (goR d.toNat (l.drop 2, false)).1 = 0 ∧ packS (c.toNat : Nat) (goR d.toNat (l.drop 2, false)).1 = bt l then some (c.toNat, (goR d.toNat (l.drop 2, false)).1) else none) := fun h => by
      have := unp_whole hm (by rw [hm2]; exact h)
      rw [hm2] at this
      exact this
    have HPK : Hid (∀ (w1 : World) (B : Nat) (v : Value), RowE w1 B v (goR d.toNat (l.drop 2, false)).1 → Calls Try.prog 12 #[.int .i64 (c.toNat : Nat), v] w1 fun e w' => e = .returned (.tuple #[.string (packS (c.toNat : Nat) (goR d.toNat (l.drop 2, false)).1), .int .i64 (packE (c.toNat : Nat) (goR d.toNat (l.drop 2, false)).1 : Nat)]) ∧ Below w1.heap.size w1 w') := fun w1 B v h => rPack_any w1 _ v _ (h.lies (goR_sml _ _)) (by rw [goR_len]; omega)
    obtain ⟨F, hF⟩ : ∃ F, (fun j => goR j (l.drop 2, false)) = F := ⟨_, rfl⟩
    have HFS : Hid (∀ j a, (F j).2 = (l.drop a, false) → ∀ x a', ent1 (l.drop a, false) = (x, l.drop a', false) → (F (j + 1)).1 = (F j).1 ++ [x] ∧ (F (j + 1)).2 = (l.drop a', false)) := fun j a h x a' he => by
      rw [← hF] at h ⊢
      have h' : (goR j (l.drop 2, false)).2 = (l.drop a, false) := h
      show (goR j (l.drop 2, false)).1 ++ [(ent1 (goR j (l.drop 2, false)).2).1] = _ ∧ (ent1 (goR j (l.drop 2, false)).2).2 = _
      rw [h', he]
      exact ⟨rfl, rfl⟩
    have HFX : Hid (∀ j a, j < d.toNat → (F j).2 = (l.drop a, false) → (ent1 (l.drop a, false)).2.2 = true → unp l = none) := fun j a hj h he => by
      refine HSH.out (j + 1) hj ?_
      rw [← hF] at h
      have h' : (goR j (l.drop 2, false)).2 = (l.drop a, false) := h
      show (ent1 (goR j (l.drop 2, false)).2).2.2 = true
      rw [h']
      exact he
    have HFL : Hid (∀ j, (F j).1.length = j) := fun j => by rw [← hF]; exact goR_len j _
    have HF0 : Hid (F 0 = ([], l.drop 2, false)) := by show _ = _; rw [← hF]; rfl
    have hFc : goR d.toNat (l.drop 2, false) = F d.toNat := by rw [← hF]
    rw [hFc] at HWH HPK
    generalize d.toNat = cnt at *
    generalize c.toNat = cc at *
    obtain ⟨s, hs⟩ : ∃ s, bt l = s := ⟨_, rfl⟩
    rw [hs] at hi0' hi1' HIX HCT HWH hzi ⊢
    clear hF hFc HSH hm hm2 hbl hz h6 hs hl HM
    obtain ⟨U, hU⟩ : ∃ U, unp l = U := ⟨_, rfl⟩
    rw [hU] at HWH HFX ⊢
    clear hU
    go_enter Try.func16, Try.ntmps16
    go_wp2_with fail
    go_loopw [5, 6, 7] (fun x y i wr => ∃ (j a : Nat) (ba : Option Addr) (bc : Nat), j ≤ cnt ∧ a ≤ 256 ∧ i = .int .i64 (j : Nat) ∧ y = .int .i64 (a : Nat) ∧ x = .slice ba j bc ∧ Hid (RowE wr w.heap.size (.slice ba j bc) (F j).1) ∧ Hid ((F j).2 = (l.drop a, false)) ∧ Hid (Below w.heap.size w wr)) (fun _ _ i _ => cnt - (intOf i).toNat)
    case atStart => exact ⟨0, 2, none, 0, Nat.zero_le _, by omega, rfl, rfl, rfl, (by show RowE _ _ _ _; rw [HF0.out]; exact RowE.nil _ _), (by show _ = _; rw [HF0.out]), Below.refl _ _⟩
    case round =>
      obtain ⟨j, a, ba, bc, hj, ha, rfl, rfl, rfl, HO, HI, HB⟩ := hrel
      clear HF0
      by_cases hjm : j < cnt
      · have hji : (j : Int) < (cnt : Int) := by omega
        have HXB := hid (Blk.made wr #[.string ⟨#[]⟩, .string ⟨#[]⟩] 60)
        have hba : Below wr.heap.size wr (wr.alloc (.cells #[.string ⟨#[]⟩, .string ⟨#[]⟩] 60)) := (Below.refl _ wr).alloc (Nat.le_refl _) _
        have HO1 := hid (HO.out.on hba)
        have HB1 := hid (HB.out.trans (hba.mono HB.out.size))
        have HNE : Hid (∀ g, (Value.slice ba j bc).ownBlock = some g → ¬ g = wr.heap.size) := fun g hg => by
          have := ((HO.out : wr.ownsRow w.heap.size 52 2 _ _ _).lt g hg).2
          omega
        have HWB : Hid (w.heap.size ≤ wr.heap.size) := HB.out.size
        have HN0 := hid (Inn.zero l a)
        clear hba HO HB
        go_wp2_with fail
        generalize wr.alloc (.cells #[.string ⟨#[]⟩, .string ⟨#[]⟩] 60) = wa at *
        generalize wr.heap.size = xb at *
        go_loopw [6, 9] (fun y i wr => ∃ (k a' : Nat) (t0 t1 : ByteArray), k ≤ 2 ∧ a' ≤ 256 ∧ i = .int .i64 (k : Nat) ∧ y = .int .i64 (a' : Nat) ∧ Hid (Inn l a k a' t0 t1) ∧ Hid (Blk wr xb #[.string t0, .string t1] 60) ∧ Hid (RowE wr w.heap.size (.slice ba j bc) (F j).1) ∧ Hid (Below w.heap.size w wr)) (fun _ i _ => 2 - (intOf i).toNat)
        case atStart => exact ⟨0, a, _, _, by omega, ha, rfl, rfl, HN0, HXB, HO1, HB1⟩
        case round =>
          obtain ⟨k, a', t0, t1, hk, ha', rfl, rfl, HN, HX, HO, HB⟩ := hrel
          clear HXB HO1 HB1 HN0
          by_cases hk2 : k < 2
          · have hki : (k : Int) < 2 := by omega
            by_cases ha6 : a' < 256
            · have hge : ¬ (256 : Int) ≤ (a' : Int) := by omega
              have hgd : decide ((256 : Int) ≤ (a' : Int)) = false := decide_eq_false hge
              obtain ⟨e, he⟩ : ∃ e, l[a']? = some e := ⟨_, List.getElem?_eq_getElem (by rw [HH6.out]; exact ha6)⟩
              have HRD := hid (rdT_at HH6.out he)
              have hix := HIX.out a' e he
              have hel := e.toNat_lt
              clear he
              generalize e.toNat = q at *
              have hwe : IntKind.i64.wrap (q : Int) = (q : Int) := by rw [IntKind.wrap_i64]; omega
              have hws : IntKind.i64.wrap (255 - (a' : Int)) = 255 - (a' : Int) := by rw [IntKind.wrap_i64]; omega
              by_cases hc : 255 - a' < q
              · have hcg : 255 - (a' : Int) < (q : Int) := by omega
                obtain rfl : none = U := (HFX.out j a hjm HI.out (HN.out.fail hk2 (by rw [HRD.out, if_pos hc]))).symm
                clear HRD hc hk
                go_wp2_with fail
                go_ret3
                exact ⟨none, 0, rfl, RowE.nil _ _, HB.out⟩
              · have hcg : ¬ 255 - (a' : Int) < (q : Int) := by omega
                have HR := HRD.out
                rw [if_neg hc] at HR
                have hct := HCT.out (a' + 1) (a' + 1 + q) (by omega) (by omega)
                have e1 : ((a' + 1 : Nat) : Int) = (a' : Int) + 1 := by omega
                have e2 : ((a' + 1 + q : Nat) : Int) = (a' : Int) + 1 + (q : Int) := by omega
                have e3 : a' + 1 + q - (a' + 1) = q := by omega
                rw [e1, e2, e3] at hct
                have g1 : IntKind.i64.wrap ((a' : Int) + 1) = (a' : Int) + 1 := by rw [IntKind.wrap_i64]; omega
                have g2 : IntKind.i64.wrap ((a' : Int) + 1 + (q : Int)) = (a' : Int) + 1 + (q : Int) := by rw [IntKind.wrap_i64]; omega
                have g3 : IntKind.i64.wrap (1 + (q : Int)) = 1 + (q : Int) := by rw [IntKind.wrap_i64]; omega
                have g4 : IntKind.i64.wrap ((a' : Int) + (1 + (q : Int))) = (a' : Int) + (1 + (q : Int)) := by rw [IntKind.wrap_i64]; omega
                have HE4 : Hid ((a' : Int) + (1 + (q : Int)) = ((a' + 1 + q : Nat) : Int)) := by show _ = _; omega
                have HLE : Hid (a' + 1 + q ≤ 256) := by show _ ≤ _; omega
                clear e1 e2 e3 HRD
                generalize (l.drop (a' + 1)).take q = tt at *
                have hk01 : k = 0 ∨ k = 1 := by omega
                rcases hk01 with rfl | rfl
                · have HN1 := hid (HN.out.step0 HR)
                  have c0 := HX.out.cell (i := 0) rfl
                  have z0 := HX.out.free 0
                  have HX1 := hid (HX.out.set 0 (.string (bt tt)))
                  have hkp : Kr xb wr (wr.setCell ⟨xb, 0, none⟩ (.string (bt tt))) := Kr.set wr xb 0 _
                  have HO1 : Hid (RowE (wr.setCell ⟨xb, 0, none⟩ (.string (bt tt))) w.heap.size (.slice ba j bc) (F j).1) := Keep.row hkp HO.out HNE.out
                  have HB1 := hid (HB.out.trans (Keep.below hkp (fun j hj => by rw [hj]; exact HWB.out) HB.out.size))
                  clear hkp HR HO HX HB HN hc hk
                  go_wp2_with fail
                  go_roundw
                  case rel => exact ⟨1, a' + 1 + q, bt tt, t1, by omega, HLE.out, rfl, (by rw [← HE4.out]), HN1, HX1, HO1, HB1⟩
                  case measure => simp [intOf]
                · have HN1 := hid (HN.out.step1 HR)
                  have c0 := HX.out.cell (i := 1) rfl
                  have z0 := HX.out.free 1
                  have HX1 := hid (HX.out.set 1 (.string (bt tt)))
                  have hkp : Kr xb wr (wr.setCell ⟨xb, 1, none⟩ (.string (bt tt))) := Kr.set wr xb 1 _
                  have HO1 : Hid (RowE (wr.setCell ⟨xb, 1, none⟩ (.string (bt tt))) w.heap.size (.slice ba j bc) (F j).1) := Keep.row hkp HO.out HNE.out
                  have HB1 := hid (HB.out.trans (Keep.below hkp (fun j hj => by rw [hj]; exact HWB.out) HB.out.size))
                  clear hkp HR HO HX HB HN hc hk
                  go_wp2_with fail
                  go_roundw
                  case rel => exact ⟨2, a' + 1 + q, t0, bt tt, by omega, HLE.out, rfl, (by rw [← HE4.out]), HN1, HX1, HO1, HB1⟩
                  case measure => simp [intOf]
            · have hge : (256 : Int) ≤ (a' : Int) := by omega
              have hgd : decide ((256 : Int) ≤ (a' : Int)) = true := decide_eq_true hge
              obtain rfl : none = U := (HFX.out j a hjm HI.out (HN.out.fail hk2 (rdT_end (by rw [HH6.out]; omega)))).symm
              clear hk ha6
              go_wp2_with fail
              go_ret3
              exact ⟨none, 0, rfl, RowE.nil _ _, HB.out⟩
          · obtain rfl : k = 2 := by omega
            clear hk hk2
            have HD := hid (HFS.out j a HI.out _ _ HN.out.done)
            obtain ⟨s1, s2⟩ := HN.out.sml
            have HEO := hid (fun w1 : World => LiesE.one w1 ⟨t0, t1⟩ s1 s2)
            have HLJ := hid (HFL.out j)
            have c0 := HX.out.cell (i := 0) rfl
            have c1 := HX.out.cell (i := 1) rfl
            have hba : Below wr.heap.size wr (wr.alloc (.cells #[.string t0, .string t1] 52)) := (Below.refl _ wr).alloc (Nat.le_refl _) _
            have HO5 := hid (HO.out.on hba)
            have HB5 := hid (HB.out.trans (hba.mono HB.out.size))
            clear hba s1 s2 HN HO HB HX HI
            go_wp2_with (at_builtin; refine wpList_more _ w rfl (.tmp 57) (.tmp 63) rfl (.slice ba j bc) (F j).1 j HLJ.out rfl HO5.out HB5.out (.slice (some ⟨wr.heap.size, 0, none⟩) 1 1) [⟨t0, t1⟩] 1 rfl rfl (HEO.out wr) (by omega) ?_; intro va vc w6 hr6 hb6 hg6; have HO6 : Hid (RowE w6 w.heap.size (.slice va (j + 1) vc) (F (j + 1)).1) := (by show RowE _ _ _ _; rw [HD.out.1]; exact hr6); have HB6 := hid hb6; clear hr6 hb6 hg6)
            go_roundw
            case rel => exact ⟨j + 1, a', va, vc, by omega, ha', by go_num, rfl, rfl, HO6, HD.out.2, HB6⟩
            case measure => simp [intOf]; omega
      · obtain rfl : j = cnt := by omega
        have hji : ¬ (j : Int) < (j : Int) := by omega
        have hU := HWH.out (by rw [HI.out])
        have HPK2 := hid (HPK.out wr w.heap.size _ HO.out)
        have HLJ := hid (HFL.out j)
        clear HWH HPK HFX HIX HCT HFS
        by_cases hp : packE (cc : Nat) (F j).1 = 0
        · rw [hp] at HPK2
          by_cases hq : packS (cc : Nat) (F j).1 = s
          · rw [if_pos ⟨hp, hq⟩] at hU
            rw [hq] at HPK2
            subst hU
            clear hp hq
            have hbp : (s.toList == s.toList) = true := by simp
            go_wp2_with (go_at_call 12; refine HPK2.out.mono ?_; clear HPK2; rintro e w9 ⟨rfl, hb9⟩; have HO9 := hid (HO.out.on hb9); have HB9 := hid (HB.out.trans (hb9.mono HB.out.size)); clear hb9)
            go_ret3
            refine ⟨ba, bc, ?_, ?_, HB9.out⟩
            · rw [HLJ.out]; rfl
            · rw [HLJ.out]; exact HO9.out
          · rw [if_neg (fun h => hq h.2)] at hU
            subst hU
            have hbp := other_texts hq
            clear hp hq
            generalize packS (cc : Nat) (F j).1 = pg at *
            go_wp2_with (go_at_call 12; refine HPK2.out.mono ?_; clear HPK2; rintro e w9 ⟨rfl, hb9⟩; have HB9 := hid (HB.out.trans (hb9.mono HB.out.size)); clear hb9)
            go_ret3
            exact ⟨none, 0, rfl, RowE.nil _ _, HB9.out⟩
        · rw [if_neg (fun h => hp h.1)] at hU
          subst hU
          generalize packS (cc : Nat) (F j).1 = pg at *
          generalize packE (cc : Nat) (F j).1 = pe at *
          have d5 : ((pe : Int) == 0) = false := beq_eq_false_iff_ne.2 (by omega)
          have d7 : ¬ (pe : Int) = 0 := by omega
          clear hp
          go_wp2_with (go_at_call 12; refine HPK2.out.mono ?_; clear HPK2; rintro e w9 ⟨rfl, hb9⟩; have HB9 := hid (HB.out.trans (hb9.mono HB.out.size)); clear hb9)
          go_ret3
          exact ⟨none, 0, rfl, RowE.nil _ _, HB9.out⟩
  · have hu := unp_len h6
    rw [hu]
    have hni : ¬ (((bt l).size : Nat) : Int) = 256 := by omega
    generalize bt l = s at *
    clear hbl hl hu h6
    go_enter Try.func16, Try.ntmps16
    go_wp2_with fail
    go_ret3
    exact ⟨none, 0, rfl, RowE.nil _ _, Below.refl _ _⟩
end Go.Proofs.Ytjocbkhjbbpkjaa

