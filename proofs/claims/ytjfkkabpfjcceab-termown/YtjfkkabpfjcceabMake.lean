/-
  What the program's Make, and the document's, and CopyAll answer.
-/
import Derived.Test.YtjfkkabpfjcceabKids
import Derived.Test.YtjfkkabpfjcceabWake
namespace Go.Proofs.Ytjfkkabpfjcceab
open Go.RowKit
set_option linter.unusedVariables false
set_option maxRecDepth 100000
set_option linter.unusedSimpArgs false

/-- the first fault among terms -/
def kidsErr : List (List Cl) → Nat
  | [] => 0
  | l :: r => if check l = 0 then kidsErr r else check l
def mkStep (acc l : List Cl) : List Cl := if acc.length ≤ 64 then acc ++ l else acc
/-- a name above the first i of the terms, as far as they are taken -/
def mkT (nm : ByteArray) (K : List (List Cl)) (i : Nat) : List Cl := (K.take i).foldl mkStep [⟨nm, (K.length : Nat)⟩]
def makeE (nm : ByteArray) (K : List (List Cl)) : Nat := if kidsErr K = 0 then check (mkT nm K K.length) else kidsErr K

theorem kidsErr_all : ∀ {K : List (List Cl)}, (∀ l ∈ K, check l = 0) → kidsErr K = 0
  | [], _ => rfl
  | l :: r, h => by
    unfold kidsErr
    rw [if_pos (h l (by simp))]
    exact kidsErr_all fun m hm => h m (by simp [hm])
theorem kidsErr_at : ∀ {K : List (List Cl)} {i : Nat} {l : List Cl}, (∀ m ∈ K.take i, check m = 0) → K[i]? = some l → check l ≠ 0 → kidsErr K = check l
  | [], i, l, _, h, _ => by simp at h
  | m :: r, 0, l, _, h, hc => by
    simp at h
    subst h
    unfold kidsErr
    rw [if_neg hc]
  | m :: r, i + 1, l, hk, h, hc => by
    unfold kidsErr
    rw [if_pos (hk m (by simp))]
    exact kidsErr_at (i := i) (fun x hx => hk x (by rw [List.take_succ_cons]; exact List.mem_cons_of_mem _ hx)) (by simpa using h) hc
theorem mkT_next {nm : ByteArray} {K : List (List Cl)} {i : Nat} {l : List Cl} (h : K[i]? = some l) : mkT nm K (i + 1) = mkStep (mkT nm K i) l := by
  unfold mkT
  rw [List.take_add_one, h, List.foldl_append]
  rfl
theorem mk_stay : ∀ (R : List (List Cl)) (acc : List Cl), 64 < acc.length → R.foldl mkStep acc = acc
  | [], acc, _ => rfl
  | l :: r, acc, h => by
    have e : mkStep acc l = acc := by unfold mkStep; rw [if_neg (by omega)]
    rw [List.foldl_cons, e]
    exact mk_stay r acc h
theorem mkT_stay {nm : ByteArray} {K : List (List Cl)} {i : Nat} (h : 64 < (mkT nm K i).length) : mkT nm K K.length = mkT nm K i := by
  have e : mkT nm K K.length = (K.drop i).foldl mkStep (mkT nm K i) := by
    unfold mkT
    rw [List.take_length, ← List.foldl_append, List.take_append_drop]
  rw [e]
  exact mk_stay _ _ h
theorem check_big {L : List Cl} (h : 64 < L.length) : check L = 6 := by unfold check; rw [if_pos h]
theorem take_all {K : List (List Cl)} {i : Nat} {l : List Cl} (h : ∀ m ∈ K.take i, check m = 0) (hi : K[i]? = some l) (hc : check l = 0) : ∀ m ∈ K.take (i + 1), check m = 0 := by
  intro m hm
  rw [List.take_add_one, hi] at hm
  simp only [Option.toList_some, List.mem_append, List.mem_singleton] at hm
  rcases hm with hm | rfl
  · exact h m hm
  · exact hc
theorem fine_append {L M : List Cl} (h : Fine L) (k : Fine M) : Fine (L ++ M) := by
  intro c hc
  rcases List.mem_append.1 hc with hc | hc
  · exact h c hc
  · exact k c hc

/-- one cell in new memory -/
theorem own_one (w : World) (nm : ByteArray) (a : Int) : Owns (w.alloc (.cells #[.string nm, .int .i64 a] 28)) w.heap.size (.slice (some ⟨w.heap.size, 0, none⟩) 1 1) [⟨nm, a⟩] :=
  ⟨rfl, .inr ⟨w.heap.size, 1, #[.string nm, .int .i64 a], rfl, Nat.le_refl _, heap_alloc_new w _, Nat.le_refl _, by unfold maxLen; omega, rfl, rfl⟩⟩

set_option maxHeartbeats 4000000 in
theorem make_any (w : World) (nm : ByteArray) (kv : Value) (K : List (List Cl)) (hnm : nm.size ≤ 9223372036854775807) (hK : LiesT w kv K) :
    Calls Try.prog 8 #[.string nm, kv] w fun e w' => ((makeE nm K = 0 ∧ ∃ v', e = .returned (.tuple #[v', .int .i64 0]) ∧ Owns w' w.heap.size v' (mkT nm K K.length)) ∨ (makeE nm K ≠ 0 ∧ e = .returned (.tuple #[.slice none 0 0, .int .i64 (makeE nm K : Nat)]))) ∧ Below w.heap.size w w' := by
  obtain ⟨i0, hi, hz0, hz1, hz2⟩ := info_parts info59
  have HK : Hid (LiesT w kv K) := hK
  obtain ⟨ka, kc, rfl, hk1, hk2, _⟩ := hK
  have hkm : K.length ≤ 9223372036854775807 := by unfold maxLen at hk2; omega
  obtain ⟨ER, hER⟩ : ∃ ER, makeE nm K = ER := ⟨_, rfl⟩
  have HER : Hid (makeE nm K = ER) := hER
  have H1 : Hid (Owns (w.alloc (.cells #[.string nm, .int .i64 (K.length : Nat)] 28)) w.heap.size (.slice (some ⟨w.heap.size, 0, none⟩) 1 1) (mkT nm K 0)) := own_one w nm _
  have HF1 : Hid (Fine (mkT nm K 0)) := by
    intro c hc
    have e : c = ⟨nm, (K.length : Nat)⟩ := by simpa [mkT] using hc
    subst e
    exact ⟨hnm, by show _ ≤ ((K.length : Nat) : Int); omega, by show ((K.length : Nat) : Int) ≤ _; omega⟩
  have HB1 : Hid (Below w.heap.size w (w.alloc (.cells #[.string nm, .int .i64 (K.length : Nat)] 28))) := (Below.refl _ w).alloc (Nat.le_refl _) _
  rw [hER]
  clear hER
  go_enter Try.func8, Try.ntmps8
  go_wp2_with fail
  go_loopw [6, 18] (fun mv i wr => ∃ j : Nat, j ≤ K.length ∧ Hid (∀ l ∈ K.take j, check l = 0) ∧ Owns wr w.heap.size mv (mkT nm K j) ∧ Hid (Fine (mkT nm K j)) ∧ (mkT nm K j).length ≤ 128 ∧ Below w.heap.size w wr ∧ i = .int .i64 (j : Nat)) (fun _ i _ => K.length - (intOf i).toNat)
  case atStart => exact ⟨0, Nat.zero_le _, by show ∀ l ∈ _, _; simp, H1.out, HF1, by simp [mkT], HB1.out, rfl⟩
  case round =>
    obtain ⟨j, hj, HCK, hO, HF, hml, hbr, rfl⟩ := hrel
    clear H1 HF1 HB1
    have hbs := hbr.size
    by_cases hlt : j < K.length
    · obtain ⟨l, hl⟩ : ∃ l, K[j]? = some l := ⟨K[j], List.getElem?_eq_getElem hlt⟩
      obtain ⟨b, off, x, ha, hbl, hcx, hlx⟩ : ∃ b off x, ka = some ⟨b, off, none⟩ ∧ b < wr.heap.size ∧ wr.cell? ⟨b, off + j, none⟩ = some x ∧ Lies wr x l := by
        obtain ⟨a', cap', hv', _, _, HC'⟩ := HK.out.on hbr
        cases hv'
        exact HC' j _ hl
      subst ha
      have hji : (j : Int) < (K.length : Int) := by omega
      have hck := check_any wr x l hlx
      have HLX : Hid (Lies wr x l) := hlx
      obtain ⟨xa, xc, rfl, x1, x2, xF, xC⟩ := hlx
      have HN : Hid (mkT nm K (j + 1) = mkStep (mkT nm K j) l) := mkT_next hl
      have HLJ : Hid (K[j]? = some l) := hl
      clear hl
      obtain ⟨ma, mc, hmv, _⟩ := own_cells hO
      subst hmv
      by_cases hc0 : check l = 0
      · have HCK2 : Hid (∀ m ∈ K.take (j + 1), check m = 0) := take_all HCK.out HLJ.out hc0
        have hl64 := (check_zero hc0).1
        have hfl := (check_zero hc0).2.2
        rw [hc0] at hck
        obtain ⟨acc, hacc⟩ : ∃ acc, mkT nm K j = acc := ⟨_, rfl⟩
        rw [hacc] at hO HF hml HN ⊢
        by_cases h64 : acc.length ≤ 64
        · have HN2 : Hid (mkT nm K (j + 1) = acc ++ l) := by show _ = _; rw [HN.out]; unfold mkStep; rw [if_pos h64]
          have h64i : (acc.length : Int) ≤ 64 := by omega
          obtain ⟨c, hcl⟩ : ∃ c, l[0]? = some c := by
            cases l with
            | nil => cases hfl
            | cons c r => exact ⟨c, rfl⟩
          obtain ⟨b2, o2, hxa, _, _, _⟩ := xC 0 c hcl
          subst hxa
          have HXC : Hid (CellsAt wr (some ⟨b2, o2, none⟩) l) := xC
          have HF2 : Hid (Fine (acc ++ l)) := fine_append HF.out xF
          clear HN hacc hfl hcl xC hc0
          go_wp2_with (first | (go_at_call 15; refine hck.mono ?_; rintro e w3 ⟨rfl, hb3⟩; have hown3 := own_below hO hb3; have HS3 : Hid (∀ j u, (flatC l)[j]? = some u → w3.cell? ((⟨b2, o2, none⟩ : Addr).add j) = some u) := (HXC.out.on hb3).src; have hb4 := hbr.trans (hb3.mono hbs); have hs4 := hb4.size) | (at_builtin; refine wpList_append_own _ rfl _ _ 23 rfl w.heap.size 28 i0 (.agg #[.string ⟨#[]⟩, .int .i64 0]) 2 24 Try.underlying23 hi hz0 hz1 hz2 rfl (by decide) _ acc.length (flatC acc) rfl hown3 ⟨b2, o2, none⟩ l.length xc (flatC l) rfl (flatC_length l) HS3.out (flatC_one l) ?c3 ?c4 ?c5 ?_))
          case c3 => unfold maxLen; omega
          case c4 => omega
          case c5 => omega
          intro v' w5 hown' hgrow _
          have hO5 : Owns w5 w.heap.size v' (acc ++ l) := by
            show World.ownsRow _ _ _ _ _ _ _
            rw [flatC_append, List.length_append]
            exact hown'
          have hb5 : Below w.heap.size w w5 := hb4.grown hgrow hs4 (fun k hk => (World.ownsRow.lt hown3 k hk).1)
          clear hown' hgrow hown3 HS3 hb3 hb4
          go_wp2_with fail
          go_roundw
          case rel => exact ⟨j + 1, by omega, HCK2, by rw [HN2.out]; exact hO5, by rw [HN2.out]; exact HF2, by rw [HN2.out, List.length_append]; omega, hb5, by go_num⟩
          case measure => simp [intOf]; omega
        · have HN2 : Hid (mkT nm K (j + 1) = acc) := by show _ = _; rw [HN.out]; unfold mkStep; rw [if_neg h64]
          have h64i : ¬ (acc.length : Int) ≤ 64 := by omega
          have h64d : decide ((acc.length : Int) ≤ 64) = false := decide_eq_false h64i
          clear HN hacc hfl xC hc0
          go_wp2_with (first | (go_at_call 15; refine hck.mono ?_; rintro e w3 ⟨rfl, hb3⟩; have hown3 := own_below hO hb3; have hb4 := hbr.trans (hb3.mono hbs)))
          go_roundw
          case rel => exact ⟨j + 1, by omega, HCK2, by rw [HN2.out]; exact hown3, by rw [HN2.out]; exact HF, by rw [HN2.out]; exact hml, hb4, by go_num⟩
          case measure => simp [intOf]; omega
      · have HX : Hid (ER = check l) := by
          show _ = _
          have hke := kidsErr_at HCK.out HLJ.out hc0
          rw [← HER.out]
          unfold makeE
          rw [hke, if_neg hc0]
        generalize check l = e0 at hck hc0 HX
        have e1 : ((e0 : Int) == 0) = false := by simp only [beq_eq_false_iff_ne]; omega
        have e2 : ¬ (e0 : Int) = 0 := by omega
        clear HN xC
        go_wp2_with (first | (go_at_call 15; refine hck.mono ?_; rintro e w3 ⟨rfl, hb3⟩; have hb4 := hbr.trans (hb3.mono hbs)))
        go_ret2
        exact ⟨.inr (by rw [HX.out]; exact ⟨hc0, rfl⟩), hb4⟩
    · have hji : ¬ (j : Int) < (K.length : Int) := by omega
      have HJ : Hid (j = K.length) := by show _ = _; omega
      have HX : Hid (ER = check (mkT nm K j)) := by
        show _ = _
        have h1 := HCK.out
        rw [HJ.out, List.take_length] at h1
        rw [← HER.out]
        unfold makeE
        rw [if_pos (kidsErr_all h1), HJ.out]
      have hck := check_any wr _ _ (Owns.lies hO HF.out)
      obtain ⟨acc, hacc⟩ : ∃ acc, mkT nm K j = acc := ⟨_, rfl⟩
      have HACC : Hid (mkT nm K K.length = acc) := by show _ = _; rw [← HJ.out]; exact hacc
      rw [hacc] at hO HF hml HX hck
      obtain ⟨ma, mc, hmv, _⟩ := own_cells hO
      subst hmv
      clear hacc
      by_cases hc0 : check acc = 0
      · have hfr : ∀ w1, Below wr.heap.size wr w1 → _ := fun w1 hb => fresh_any w1 _ acc ((Owns.lies hO HF.out).on hb) (by omega) (fun c hc => by have := (name_len (cellsErr_zero.1 (check_zero hc0).2.1 c hc)).2; omega)
        rw [hc0] at hck HX
        clear hc0
        go_wp2_with (first | (go_at_call 15; refine hck.mono ?_; rintro e w3 ⟨rfl, hb3⟩; have hb4 := hbr.trans (hb3.mono hbs)) | (go_at_call 17; refine (hfr _ hb3).mono ?_; rintro e w5 ⟨v5, rfl, ho5, hb5⟩; obtain ⟨fa, fc, hfv, _⟩ := own_cells ho5; subst hfv; have ho6 := own_base ho5 hb4.size; have hb6 := hb4.trans (hb5.mono hb4.size)))
        go_ret2
        exact ⟨.inl ⟨HX.out, _, rfl, by rw [HACC.out]; exact ho6⟩, hb6⟩
      · generalize check acc = e0 at hck hc0 HX
        have e1 : ((e0 : Int) == 0) = false := by simp only [beq_eq_false_iff_ne]; omega
        have e2 : ¬ (e0 : Int) = 0 := by omega
        go_wp2_with (first | (go_at_call 15; refine hck.mono ?_; rintro e w3 ⟨rfl, hb3⟩; have hb4 := hbr.trans (hb3.mono hbs)))
        go_ret2
        exact ⟨.inr (by rw [HX.out]; exact ⟨hc0, rfl⟩), hb4⟩

end Go.Proofs.Ytjfkkabpfjcceab
