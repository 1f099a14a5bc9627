/-
  What the program's Fill answers.
-/
import Derived.Test.YtjpmlnigjbdnnaaDoorMatch
namespace Go.Proofs.YtjpmlnigjbdnnaaDoor
open Go.RowKit
set_option linter.unusedVariables false
set_option maxRecDepth 100000
set_option linter.unusedSimpArgs false

/-- what Fill answers: the error, and the cells -/
def told (P : List Cl) (l : List Bd) : Bool := P.all fun c => !isV c || (look l c.nm).isSome
def fillE (P : List Cl) (l : List Bd) : Nat :=
  if check P = 0 then (if gatherE [] l = 0 then (if told P l = true then (if (sub (at_ l) P).length ≤ 64 then 0 else 6) else 7) else gatherE [] l) else check P
def fillM (P : List Cl) (l : List Bd) : List Cl := if fillE P l = 0 then sub (at_ l) P else []
theorem fillE_zero {P : List Cl} {l : List Bd} (h : fillE P l = 0) : check P = 0 ∧ gatherE [] l = 0 ∧ told P l = true ∧ (sub (at_ l) P).length ≤ 64 := by
  unfold fillE at h
  by_cases h1 : check P = 0
  · rw [if_pos h1] at h
    by_cases h2 : gatherE [] l = 0
    · rw [if_pos h2] at h
      by_cases h3 : told P l = true
      · rw [if_pos h3] at h
        by_cases h4 : (sub (at_ l) P).length ≤ 64
        · exact ⟨h1, h2, h3, h4⟩
        · rw [if_neg h4] at h; cases h
      · rw [if_neg h3] at h; cases h
    · rw [if_neg h2] at h; exact absurd h h2
  · rw [if_neg h1] at h; exact absurd h h1
theorem told_iff {P : List Cl} {l : List Bd} : told P l = true ↔ ∀ c ∈ P, isV c = true → (look l c.nm).isSome = true := by
  unfold told
  rw [List.all_eq_true]
  constructor
  · intro h c hc hv
    have := h c hc
    simpa [hv] using this
  · intro h c hc
    by_cases hv : isV c = true
    · simp [hv, h c hc hv]
    · simp [hv]
theorem sub_next {s : ByteArray → List Cl} {P : List Cl} {k : Nat} {c : Cl} (h : P[k]? = some c) : sub s (P.take (k + 1)) = sub s (P.take k) ++ (if isV c then s c.nm else [c]) := by
  rw [List.take_add_one, h]
  unfold sub
  rw [List.flatMap_append]
  simp
theorem fine_append {L M : List Cl} (h : Fine L) (k : Fine M) : Fine (L ++ M) := by
  intro c hc
  rcases List.mem_append.1 hc with hc | hc
  · exact h c hc
  · exact k c hc

set_option maxHeartbeats 4000000 in
theorem fill_any (w : World) (u v : Value) (P : List Cl) (l : List Bd) (hu : Lies w u P) (hv : LiesB w v l) :
    Calls Tryd.prog 54 #[u, v] w fun e w' => ∃ v', e = .returned (.tuple #[v', .int .i64 (fillE P l : Nat)]) ∧ Owns w' w.heap.size v' (fillM P l) ∧ Below w.heap.size w w' := by
  obtain ⟨i0, hi, hz0, hz1, hz2⟩ := info_parts info59
  have hck := check_any w u P hu
  have hga : ∀ w1, Below w.heap.size w w1 → _ := fun w1 hb => gather_any w1 v l (hv.on hb)
  obtain ⟨ER, hER⟩ : ∃ ER, fillE P l = ER := ⟨_, rfl⟩
  obtain ⟨MR, hMR⟩ : ∃ MR, fillM P l = MR := ⟨_, rfl⟩
  have HER : Hid (fillE P l = ER ∧ fillM P l = MR) := ⟨hER, hMR⟩
  have HU : Hid (Lies w u P) := hu
  rw [hER, hMR]
  clear hER hMR
  by_cases hP : check P = 0
  · rw [hP] at hck
    by_cases hG : gatherE [] l = 0
    · rw [hG] at hga
      have hga2 : ∀ w1, Below w.heap.size w w1 → Calls Tryd.prog 78 #[v] w1 fun e w' => (∃ b n f, e = .returned (.tuple #[.map (some b), .int .i64 0]) ∧ MapIs w' b n f ∧ Holds w' f l) ∧ Below w1.heap.size w1 w' := hga
      obtain ⟨hp64, hpE, _⟩ := check_zero hP
      have HPE : Hid (∀ c ∈ P, cellErr c = 0) := cellsErr_zero.1 hpE
      have HGR : Hid (∀ b ∈ l, check b.val = 0 ∧ kind b.nm.data.toList = 2 ∧ inS b.nm [] = false) := (gather_right l [] hG).1
      have HSE : Hid (fillE P l = if told P l = true then (if (sub (at_ l) P).length ≤ 64 then 0 else 6) else 7) := by show _ = _; unfold fillE; rw [if_pos hP, if_pos hG]
      obtain ⟨pa, pc, rfl, hp1, hp2, hpF, _⟩ := hu
      have HPF : Hid (Fine P) := hpF
      obtain ⟨la, lc, rfl, _⟩ := hv
      clear hga hP hG hpE hpF
      go_enter Tryd.func54, Tryd.ntmps54
      go_wp2_with (first | (go_at_call 29; refine hck.mono ?_; rintro e w1 ⟨rfl, hb1⟩) | (go_at_call 78; refine (hga2 _ hb1).mono ?_; rintro e w3 ⟨⟨mb, mn, mf, rfl, hm3, hH3⟩, hb3⟩; replace hb3 := hb1.trans (hb3.mono hb1.size)))
      have HM3 : Hid (MapIs w3 mb mn mf) := hm3
      have HH3 : Hid (Holds w3 mf l) := hH3
      have HB3 : Hid (Below w.heap.size w w3) := hb3
      have HU3 : Hid (Lies w3 (.slice pa P.length pc) P) := HU.out.on hb3
      have hs3 := hb3.size
      clear hm3 hH3 hb3 hb1 hck hga2
      go_loopw [9, 29] (fun mv i wr => ∃ k : Nat, k ≤ P.length ∧ i = .int .i64 (k : Nat) ∧ Owns wr w3.heap.size mv (sub (at_ l) (P.take k)) ∧ Hid (Fine (sub (at_ l) (P.take k)) ∧ ∀ c ∈ sub (at_ l) (P.take k), c.nm.size ≤ 8) ∧ (sub (at_ l) (P.take k)).length ≤ 64 * k ∧ Hid (∀ c ∈ P.take k, isV c = true → (look l c.nm).isSome = true) ∧ Below w3.heap.size w3 wr) (fun _ i _ => P.length - (intOf i).toNat)
      case atStart => exact ⟨0, Nat.zero_le _, rfl, World.ownsRow_nil _ _ _ _, ⟨(fun c hc => by simp [sub] at hc), (fun c hc => by simp [sub] at hc)⟩, by simp [sub], by show ∀ c ∈ _, _; simp, Below.refl _ _⟩
      case round =>
        obtain ⟨k, hk, rfl, hO, HF, hml, HT, hbr⟩ := hrel
        have hbs := hbr.size
        obtain ⟨ma, mc, hmv, _⟩ := own_cells hO
        subst hmv
        by_cases hlt : k < P.length
        · obtain ⟨c, hc⟩ : ∃ c, P[k]? = some c := ⟨P[k], List.getElem?_eq_getElem hlt⟩
          obtain ⟨pb, po, hpa, d1, d2⟩ : ∃ pb po, pa = some ⟨pb, po, none⟩ ∧ wr.cell? ⟨pb, po + k * 2, none⟩ = some (.string c.nm) ∧ wr.cell? ⟨pb, po + k * 2 + 1, none⟩ = some (.int .i64 c.ar) := by
            obtain ⟨a', c', hv', _, _, _, HC'⟩ := HU3.out.on hbr
            cases hv'
            obtain ⟨b, off, e, _, e1, e2⟩ := HC' k c hc
            exact ⟨b, off, e, e1, e2⟩
          subst hpa
          have hcm := List.mem_of_getElem? hc
          have hcn := (name_len (HPE.out c hcm)).2
          have hcf := HPF.out c hcm
          have hki : (k : Int) < (P.length : Int) := by omega
          have hmx : c.nm.size ≤ maxLen := by unfold maxLen; omega
          have hkd := fun w => kind_any c.nm w hmx
          have HN : Hid (sub (at_ l) (P.take (k + 1)) = sub (at_ l) (P.take k) ++ (if isV c then at_ l c.nm else [c])) := sub_next hc
          have HTC : Hid ((isV c = true → (look l c.nm).isSome = true) → ∀ d ∈ P.take (k + 1), isV d = true → (look l d.nm).isSome = true) := fun h d hd => by
            rw [List.take_add_one, hc] at hd
            simp only [Option.toList_some, List.mem_append, List.mem_singleton] at hd
            rcases hd with hd | rfl
            · exact HT.out d hd
            · exact h
          have HCM : Hid (c ∈ P) := hcm
          have hmap := HM3.out.on hbr
          have hHc := (HH3.out.on hbr) c.nm
          obtain ⟨S, hS⟩ : ∃ S, sub (at_ l) (P.take k) = S := ⟨_, rfl⟩
          rw [hS] at hO HF hml HN ⊢
          obtain ⟨nm, ar⟩ := c
          simp only at d1 d2 hcn hmx hkd hHc
          clear hc hcm hS
          by_cases hv : isV ⟨nm, ar⟩ = true
          · have hk2 : kind nm.data.toList = 2 := by unfold isV at hv; simpa using hv
            rw [hk2] at hkd
            have HMA : Hid (MapIs (wr.alloc (.cells #[.string nm, .int .i64 ar] 33)) mb mn mf) := hmap.alloc _
            cases hlk : look l nm with
            | none =>
              rw [hlk] at hHc
              simp only at hHc
              have HX : Hid (ER = 7 ∧ MR = []) := by
                have ht : ¬ told P l = true := by
                  intro h
                  have := told_iff.1 h _ HCM.out hv
                  simp only at this
                  rw [hlk] at this
                  cases this
                have h7 : fillE P l = 7 := by rw [HSE.out, if_neg ht]
                exact ⟨HER.out.1.symm.trans h7, by rw [← HER.out.2]; unfold fillM; rw [h7]; rfl⟩
              have HBF : Hid (∀ o, Below w.heap.size w ((wr.alloc (.cells #[.string nm, .int .i64 ar] 33)).alloc o)) := fun o => ((HB3.out.trans (hbr.mono hs3)).alloc (Nat.le_trans hs3 hbs) _).alloc (by simp; omega) o
              clear hlk hv hk2 HN HTC hmap
              go_wp2_with (first | (go_at_call 33; refine (hkd _).mono ?_; rintro x w2 ⟨rfl, rfl⟩) | (at_lookup; refine wpList_look5_none _ rfl _ _ rfl mb mn mf rfl HMA.out nm rfl hmx hHc ?_))
              go_ret2
              exact ⟨_, by rw [HX.out.1]; rfl, by rw [HX.out.2]; exact World.ownsRow_nil _ _ _ _, HBF.out _⟩
            | some V =>
              rw [hlk] at hHc
              simp only at hHc
              obtain ⟨x, hfx, hlx⟩ := hHc
              have hVm := look_mem hlk
              have hVc := (HGR.out _ hVm).1
              simp only at hVc
              obtain ⟨hV64, hVE, hVf⟩ := check_zero hVc
              have hVF := fine_check hVc
              have HN2 : Hid (sub (at_ l) (P.take (k + 1)) = S ++ V) := by show _ = _; rw [HN.out, if_pos hv]; unfold at_; rw [hlk]; rfl
              have HT2 : Hid (∀ d ∈ P.take (k + 1), isV d = true → (look l d.nm).isSome = true) := HTC.out (fun _ => by show (look l nm).isSome = true; rw [hlk]; rfl)
              have HF2 : Hid (Fine (S ++ V) ∧ ∀ c ∈ S ++ V, c.nm.size ≤ 8) := ⟨fine_append HF.out.1 hVF, fun c hc => by
                rcases List.mem_append.1 hc with hc | hc
                · exact HF.out.2 c hc
                · exact (name_len (cellsErr_zero.1 hVE c hc)).2⟩
              obtain ⟨xa, xc, rfl, _, _, _, xC⟩ := hlx
              obtain ⟨c0, hc0⟩ : ∃ c0, V[0]? = some c0 := by
                cases V with
                | nil => cases hVf
                | cons c r => exact ⟨c, rfl⟩
              obtain ⟨b2, o2, hxa, _, _, _⟩ := xC 0 c0 hc0
              subst hxa
              have HXC : Hid (CellsAt wr (some ⟨b2, o2, none⟩) V) := xC
              have HSRC : Hid (∀ o o', ∀ j y, (flatC V)[j]? = some y → ((wr.alloc o).alloc o').cell? ((⟨b2, o2, none⟩ : Addr).add j) = some y) := fun o o' => ((HXC.out.on ((Below.refl _ wr).alloc (Nat.le_refl _) o)).on ((Below.refl _ _).alloc (Nat.le_refl _) o')).src
              have hrow : ∀ o o', ((wr.alloc o).alloc o').ownsRow w3.heap.size 33 2 (.slice ma S.length mc) S.length (flatC S) := fun o o' => (World.ownsRow.alloc (World.ownsRow.alloc hO o) o')
              have HROW : Hid (∀ o o', ((wr.alloc o).alloc o').ownsRow w3.heap.size 33 2 (.slice ma S.length mc) S.length (flatC S)) := hrow
              have HB4 : Hid (∀ o o', Below w3.heap.size w3 ((wr.alloc o).alloc o')) := fun o o' => (hbr.alloc hbs o).alloc (by simp; omega) o'
              clear hlk hv hk2 HN HTC hmap hVm hVc hVE hVf hVF xC hc0 hrow HF
              go_wp2_with (first | (go_at_call 33; refine (hkd _).mono ?_; rintro x w2 ⟨rfl, rfl⟩) | (at_lookup; refine wpList_look5_some _ rfl _ _ rfl mb mn mf rfl HMA.out nm rfl hmx _ hfx ?_) | (at_builtin; refine wpList_append_own _ rfl _ _ 23 rfl w3.heap.size 33 i0 (.agg #[.string ⟨#[]⟩, .int .i64 0]) 2 24 Tryd.underlying23 hi hz0 hz1 hz2 rfl (by decide) _ S.length (flatC S) rfl (HROW.out _ _) ⟨b2, o2, none⟩ V.length xc (flatC V) rfl (flatC_length V) (HSRC.out _ _) (flatC_one V) ?c3 ?c4 ?c5 ?_))
              case c3 => unfold maxLen; omega
              case c4 => omega
              case c5 => simp; omega
              intro v' w5 hown' hgrow _
              have hO5 : Owns w5 w3.heap.size v' (S ++ V) := by
                show World.ownsRow _ _ _ _ _ _ _
                rw [flatC_append, List.length_append]
                exact hown'
              have hb5 : Below w3.heap.size w3 w5 := (HB4.out _ _).grown hgrow (by simp; omega) (fun j hj => (World.ownsRow.lt hO j hj).1)
              clear hown' hgrow
              go_wp2_with fail
              go_roundw
              case rel => exact ⟨k + 1, by omega, by go_num, by rw [HN2.out]; exact hO5, by rw [HN2.out]; exact HF2, by rw [HN2.out, List.length_append]; omega, HT2, hb5⟩
              case measure => simp [intOf]; omega
          · have hv2 : isV ⟨nm, ar⟩ = false := by simpa using hv
            have hk2 : kind nm.data.toList ≠ 2 := by unfold isV at hv2; simpa using hv2
            generalize kind nm.data.toList = q at hkd hk2
            have q1 : ((q : Int) == 2) = false := by simp only [beq_eq_false_iff_ne]; omega
            have q2 : ¬ (q : Int) = 2 := by omega
            have HN2 : Hid (sub (at_ l) (P.take (k + 1)) = S ++ [⟨nm, ar⟩]) := by show _ = _; rw [HN.out, if_neg hv]
            have HT2 : Hid (∀ d ∈ P.take (k + 1), isV d = true → (look l d.nm).isSome = true) := HTC.out (fun h => absurd h hv)
            have HF2 : Hid (Fine (S ++ [⟨nm, ar⟩]) ∧ ∀ c ∈ S ++ [(⟨nm, ar⟩ : Cl)], c.nm.size ≤ 8) := ⟨fine_append HF.out.1 (fun c hc => by simp at hc; subst hc; exact hcf), fun c hc => by
              rcases List.mem_append.1 hc with hc | hc
              · exact HF.out.2 c hc
              · simp at hc; subst hc; exact hcn⟩
            have HROW : Hid (∀ o o', ((wr.alloc o).alloc o').ownsRow w3.heap.size 33 2 (.slice ma S.length mc) S.length (flatC S)) := fun o o' => (World.ownsRow.alloc (World.ownsRow.alloc hO o) o')
            have HB4 : Hid (∀ o o', Below w3.heap.size w3 ((wr.alloc o).alloc o')) := fun o o' => (hbr.alloc hbs o).alloc (by simp; omega) o'
            clear hv hv2 hk2 HN HTC hmap hHc HF hcf
            go_wp2_with (first | (go_at_call 33; refine (hkd _).mono ?_; rintro x w2 ⟨rfl, rfl⟩) | (at_builtin; refine wpList_append_own _ rfl _ _ 23 rfl w3.heap.size 33 i0 (.agg #[.string ⟨#[]⟩, .int .i64 0]) 2 24 Tryd.underlying23 hi hz0 hz1 hz2 rfl (by decide) _ S.length (flatC S) rfl (HROW.out _ _) ⟨(wr.alloc (.cells #[.string nm, .int .i64 ar] 33)).heap.size, 0, none⟩ 1 1 [.string nm, .int .i64 ar] (by simp [Act.eval, Act.put]) rfl (two_cells _ _ _ _) (by intro y hy; simp at hy; rcases hy with rfl | rfl <;> rfl) ?c3 ?c4 ?c5 ?_))
            case c3 => unfold maxLen; omega
            case c4 => omega
            case c5 => simp; omega
            intro v' w5 hown' hgrow _
            have hO5 : Owns w5 w3.heap.size v' (S ++ [⟨nm, ar⟩]) := by
              show World.ownsRow _ _ _ _ _ _ _
              rw [flatC_append, List.length_append]
              exact hown'
            have hb5 : Below w3.heap.size w3 w5 := (HB4.out _ _).grown hgrow (by simp; omega) (fun j hj => (World.ownsRow.lt hO j hj).1)
            clear hown' hgrow
            go_wp2_with fail
            go_roundw
            case rel => exact ⟨k + 1, by omega, by go_num, by rw [HN2.out]; exact hO5, by rw [HN2.out]; exact HF2, by rw [HN2.out, List.length_append]; simp; omega, HT2, hb5⟩
            case measure => simp [intOf]; omega
        · have hki : ¬ (k : Int) < (P.length : Int) := by omega
          have HKP : Hid (P.take k = P) := List.take_of_length_le (by omega)
          rw [HKP.out] at hO HF hml HT
          have HTT : Hid (told P l = true) := told_iff.2 HT.out
          have hbw : Below w.heap.size w wr := HB3.out.trans (hbr.mono hs3)
          by_cases h64 : (sub (at_ l) P).length ≤ 64
          · have HX : Hid (ER = 0 ∧ MR = sub (at_ l) P) := by
              have h0 : fillE P l = 0 := by rw [HSE.out, if_pos HTT.out, if_pos h64]
              exact ⟨HER.out.1.symm.trans h0, by rw [← HER.out.2]; unfold fillM; rw [if_pos h0]⟩
            have hfr := fresh_any wr _ _ (Owns.lies hO HF.out.1) (by omega) (fun c hc => by have := HF.out.2 c hc; omega)
            rw [HKP.out]
            obtain ⟨S, hS⟩ : ∃ S, sub (at_ l) P = S := ⟨_, rfl⟩
            rw [hS] at hfr HX h64 hO ⊢
            have h64i : ¬ (64 : Int) < (S.length : Int) := by omega
            have h64d : decide ((64 : Int) < (S.length : Int)) = false := decide_eq_false h64i
            clear hS
            go_wp2_with (first | (go_at_call 79; refine hfr.mono ?_; rintro e w5 ⟨v5, rfl, ho5, hb5⟩; obtain ⟨fa, fc, hfv, _⟩ := own_cells ho5; subst hfv; have ho6 := own_base ho5 hbw.size; have hb6 := hbw.trans (hb5.mono hbw.size)))
            go_ret2
            exact ⟨_, by rw [HX.out.1]; rfl, by rw [HX.out.2]; exact ho6, hb6⟩
          · have HX : Hid (ER = 6 ∧ MR = []) := by
              have h0 : fillE P l = 6 := by rw [HSE.out, if_pos HTT.out, if_neg h64]
              exact ⟨HER.out.1.symm.trans h0, by rw [← HER.out.2]; unfold fillM; rw [h0]; rfl⟩
            rw [HKP.out]
            obtain ⟨S, hS⟩ : ∃ S, sub (at_ l) P = S := ⟨_, rfl⟩
            rw [hS] at h64 hO ⊢
            have h64i : (64 : Int) < (S.length : Int) := by omega
            clear hS
            go_wp2_with fail
            go_ret2
            exact ⟨_, by rw [HX.out.1]; rfl, by rw [HX.out.2]; exact World.ownsRow_nil _ _ _ _, hbw⟩
    · have HX : Hid (ER = gatherE [] l ∧ MR = []) := by
        have h0 : fillE P l = gatherE [] l := by unfold fillE; rw [if_pos hP, if_neg hG]
        exact ⟨HER.out.1.symm.trans h0, by rw [← HER.out.2]; unfold fillM; rw [h0, if_neg hG]⟩
      have hga2 : ∀ w1, Below w.heap.size w w1 → Calls Tryd.prog 78 #[v] w1 fun e w' => e = .returned (.tuple #[.map none, .int .i64 (gatherE [] l : Nat)]) ∧ Below w1.heap.size w1 w' := fun w1 hb => (hga w1 hb).mono fun e w' h => by
        obtain ⟨h1, h2⟩ := h
        unfold Gathers at h1
        rw [if_neg hG] at h1
        exact ⟨h1, h2⟩
      generalize gatherE [] l = e0 at hga2 hG HX
      have e1 : ((e0 : Int) == 0) = false := by simp only [beq_eq_false_iff_ne]; omega
      have e2 : ¬ (e0 : Int) = 0 := by omega
      clear hga hP
      go_enter Tryd.func54, Tryd.ntmps54
      go_wp2_with (first | (go_at_call 29; refine hck.mono ?_; rintro e w1 ⟨rfl, hb1⟩) | (go_at_call 78; refine (hga2 _ hb1).mono ?_; rintro e w3 ⟨rfl, hb3⟩; replace hb3 := hb1.trans (hb3.mono hb1.size)))
      go_ret2
      exact ⟨_, by rw [HX.out.1]; rfl, by rw [HX.out.2]; exact World.ownsRow_nil _ _ _ _, hb3⟩
  · have HX : Hid (ER = check P ∧ MR = []) := by
      have h0 : fillE P l = check P := by unfold fillE; rw [if_neg hP]
      exact ⟨HER.out.1.symm.trans h0, by rw [← HER.out.2]; unfold fillM; rw [h0, if_neg hP]⟩
    generalize check P = e0 at hck hP HX
    have e1 : ((e0 : Int) == 0) = false := by simp only [beq_eq_false_iff_ne]; omega
    have e2 : ¬ (e0 : Int) = 0 := by omega
    clear hga
    go_enter Tryd.func54, Tryd.ntmps54
    go_wp2_with (first | (go_at_call 29; refine hck.mono ?_; rintro e w1 ⟨rfl, hb1⟩))
    go_ret2
    exact ⟨_, by rw [HX.out.1]; rfl, by rw [HX.out.2]; exact World.ownsRow_nil _ _ _ _, hb1⟩

end Go.Proofs.YtjpmlnigjbdnnaaDoor
