/-
  What the document's Check answers of any rule.
-/
import Derived.Test.YtjpmlnigjbdnnaaDoorRFit
import Derived.Test.YtjpmlnigjbdnnaaDoorRVars
import Derived.Test.YtjpmlnigjbdnnaaDoorCp
namespace Go.Proofs.YtjpmlnigjbdnnaaDoor
open Go.RowKit
set_option linter.unusedVariables false
set_option linter.unusedSimpArgs false
set_option maxRecDepth 100000

theorem chk_hit {id : Int} {L R : List Cl} (k : Nat) (hk : k < 6) (h : ∀ j, j < k → cks id L R j = 0) (h2 : cks id L R k ≠ 0) : chk id L R = cks id L R k :=
  fst_hit _ 6 0 k (Nat.zero_le _) (by omega) (fun j _ hj => h j hj) h2
theorem chk_all {id : Int} {L R : List Cl} (h : ∀ j, j < 6 → cks id L R j = 0) : chk id L R = 0 := fst_all _ 6 0 (fun j _ hj => h j (by omega))
theorem upto {P : Nat → Prop} {n : Nat} (h : ∀ j, j < n → P j) (h2 : P n) : ∀ j, j < n + 1 → P j := fun j hj => by
  by_cases e : j = n
  · subst e; exact h2
  · exact h j (by omega)

/-- the last part: the variables of both sides -/
theorem rCheck_vars (w : World) (id : Int) (lv rv : Value) (L R : List Cl) (hl : Lies w lv L) (hr : Lies w rv R) (h0 : 0 ≤ id ∧ id ≤ 65535) (hL : check L = 0) (hR : check R = 0) (h8 : L.length ≤ 8 ∧ R.length ≤ 8) (hv : kind (hd L).data.toList ≠ 2) :
    Calls Tryd.prog 12 #[.agg #[.int .i64 id, lv, rv]] w fun e w' => e = .returned (.int .i64 ((if unb L R then 7 else 0 : Nat) : Int)) ∧ Below w.heap.size w w' := by
  have hb : Below w.heap.size w (w.alloc (.cells #[.int .i64 id, lv, rv] 25)) := (Below.refl _ w).alloc (Nat.le_refl _) _
  have hx := Blk.made w #[.int .i64 id, lv, rv] 25
  have hcL := rCheck_any _ lv L (hl.on hb)
  have hcR := rCheck_any _ rv R (hr.on hb)
  have hvL : ∀ w1, Below w.heap.size w w1 → _ := fun w1 h => rVars_ok w1 lv L (hl.on h) hL
  have hvR : ∀ w1, Below w.heap.size w w1 → _ := fun w1 h => rVars_ok w1 rv R (hr.on h) hR
  rw [hL] at hcL
  rw [hR] at hcR
  obtain ⟨nm, kd, hLt⟩ := check_term hL
  have hva : Calls Tryd.prog 37 #[lv] (w.alloc (.cells #[.int .i64 id, lv, rv] 25)) fun e w' => e = .returned (.bool false) ∧ (w.alloc (.cells #[.int .i64 id, lv, rv] 25)) = w' := by
    have h1 := hl.on hb
    rw [hLt] at h1 hL hv
    have := var_any _ lv nm kd h1 hL
    rwa [decide_eq_false (show ¬ kind nm.data.toList = 2 from hv)] at this
  have hlen := vars_len L []
  have hlenR := vars_len R []
  have hU : unb L R = ((varsOf R).any fun v => !inS v (varsOf L)) := rfl
  have hVl : (varsOf R).length ≤ 8 := by show (R.foldl varStep []).length ≤ 8; simp only [List.length_nil] at hlenR; omega
  clear hv hLt hlen hlenR
  generalize varsOf L = VL at hvL hU
  generalize varsOf R = VR at hvR hU hVl
  rw [hU]
  have HU : Hid (∀ x : ByteArray, x = x) := fun _ => rfl
  clear hU HU hL hR
  obtain ⟨la, lc, rfl, l1, l2, _⟩ := hl
  obtain ⟨ra, rc, rfl, r1, r2, _⟩ := hr
  have q1 : ¬ id < 0 := by omega
  have q2 : ¬ 65535 < id := by omega
  have q3 : (L.length : Int) ≤ 8 := by omega
  have q4 : (R.length : Int) ≤ 8 := by omega
  clear h0 h8
  have HB : Hid (Below w.heap.size w (w.alloc (.cells #[.int .i64 id, .slice la L.length lc, .slice ra R.length rc] 25))) := hb
  have HX : Hid (Blk (w.alloc (.cells #[.int .i64 id, .slice la L.length lc, .slice ra R.length rc] 25)) w.heap.size #[.int .i64 id, .slice la L.length lc, .slice ra R.length rc] 25) := hx
  clear hb hx
  obtain ⟨d, hd⟩ : ∃ d : Nat, (if (VR.any fun v => !inS v VL) = true then 7 else 0) = d := ⟨_, rfl⟩
  have HD : Hid ((if (VR.any fun v => !inS v VL) = true then 7 else 0) = d) := hd
  rw [hd]
  clear hd
  go_enter Tryd.func12, Tryd.ntmps12
  go_wp2_with (first | (go_at_call 36; refine hcL.mono ?_; clear hcL; rintro e w1 ⟨rfl, rfl⟩) | (go_at_call 36; refine hcR.mono ?_; clear hcR; rintro e w1 ⟨rfl, rfl⟩) | (go_at_call 37; refine hva.mono ?_; clear hva; rintro e w1 ⟨rfl, rfl⟩))
  generalize w.alloc (.cells #[.int .i64 id, .slice la L.length lc, .slice ra R.length rc] 25) = wr at HB HX ⊢
  have hbd : Below w.heap.size w wr.drew := HB.out.drew
  have hX : Blk wr.drew w.heap.size #[.int .i64 id, .slice la L.length lc, .slice ra R.length rc] 25 := HX.out
  have HXX : Hid (Blk wr.drew w.heap.size #[.int .i64 id, .slice la L.length lc, .slice ra R.length rc] 25) := hX
  have HS0 : wr.drew.cell? ⟨w.heap.size, 1, none⟩ = some (.slice la L.length lc) ∧ wr.drew.cell? ⟨w.heap.size, 2, none⟩ = some (.slice ra R.length rc) := ⟨hX.cell rfl, hX.cell rfl⟩
  have hXl := hX.lt
  clear HB HX hX
  go_region_held3 (fun w' => w'.cell? ⟨w.heap.size, 1, none⟩ = some (.slice la L.length lc) ∧ w'.cell? ⟨w.heap.size, 2, none⟩ = some (.slice ra R.length rc)) (first | exact HS0 | exact HS8 | exact HS9)
    (first
      | (go_at_call 38; refine (hvL _ hbd).mono ?_; clear hvL; rintro e w8 ⟨v8, rfl, o8, b8⟩; have S8 := o8.lies; obtain ⟨xa, xc, hxv, _⟩ := o8.lies; subst hxv; have hX8 := HXX.out.on b8 hXl; have HS8 : w8.cell? ⟨w.heap.size, 1, none⟩ = some (.slice la L.length lc) ∧ w8.cell? ⟨w.heap.size, 2, none⟩ = some (.slice ra R.length rc) := ⟨hX8.cell rfl, hX8.cell rfl⟩; have hb8 := hbd.trans (b8.mono hbd.size))
      | (go_at_call 38; refine (hvR _ hb8).mono ?_; clear hvR; rintro e w9 ⟨v9, rfl, o9, b9⟩; have S9 := o9.lies; obtain ⟨ya, yc, hyv, y1, y2, _⟩ := o9.lies; subst hyv; have hX9 := hX8.on b9 hX8.lt; have HS9 : w9.cell? ⟨w.heap.size, 1, none⟩ = some (.slice la L.length lc) ∧ w9.cell? ⟨w.heap.size, 2, none⟩ = some (.slice ra R.length rc) := ⟨hX9.cell rfl, hX9.cell rfl⟩; have hb9 := hb8.trans (b9.mono hb8.size)))
  have HA : Hid (LiesS w9 (.slice xa VL.length xc) VL) := S8.on b9
  have HB9 : Hid (LiesS w9 (.slice ya VR.length yc) VR) := S9
  have HE : Hid (Below w.heap.size w w9) := hb9
  clear HS0 HS8 HS9 o8 o9 S8 S9 b8 b9 hb8 hb9 hX8 hX9 HXX hbd hXl
  go_wp2_with fail
  go_loop [49] (fun i => ∃ k : Nat, k ≤ VR.length ∧ i = .int .i64 k ∧ Hid (∀ x ∈ VR.take k, inS x VL = true)) (fun i => VR.length - (intOf i).toNat)
  case atStart => exact ⟨0, Nat.zero_le _, rfl, by intro x hx; simp at hx⟩
  case round =>
    obtain ⟨k, hk, rfl, HK⟩ := hrel
    by_cases hlt : k < VR.length
    · obtain ⟨y, hy⟩ : ∃ y, VR[k]? = some y := ⟨VR[k], List.getElem?_eq_getElem hlt⟩
      obtain ⟨g, off, rfl, hcell⟩ : ∃ g off, ya = some ⟨g, off, none⟩ ∧ w9.cell? ⟨g, off + k, none⟩ = some (.string y) := by
        obtain ⟨a', c', hv', _, _, HC'⟩ := HB9.out
        cases hv'
        obtain ⟨g, off, h1, _, h2⟩ := HC' k y hy
        exact ⟨g, off, h1, h2⟩
      have hki : (k : Int) < (VR.length : Int) := by omega
      have hly := has_any w9 _ VL y HA.out
      have HY : Hid (VR[k]? = some y) := hy
      clear hy
      cases hin : inS y VL with
      | true =>
        rw [hin] at hly
        have HN : Hid (∀ x ∈ VR.take (k + 1), inS x VL = true) := by
          intro x hx
          rw [List.take_add_one, HY.out, List.mem_append] at hx
          rcases hx with hx | hx
          · exact HK.out x hx
          · simp at hx; subst hx; exact hin
        clear hin HK
        go_wp2_with (go_at_call 39; refine hly.mono ?_; rintro e w1 ⟨rfl, rfl⟩)
        go_round
        case rel => exact ⟨k + 1, by omega, by go_num, HN⟩
        case measure => simp [intOf]; omega
      | false =>
        rw [hin] at hly
        have HN : Hid (d = 7) := by
          show _ = _
          rw [← HD.out, if_pos (List.any_eq_true.2 ⟨y, List.mem_of_getElem? HY.out, by rw [hin]; rfl⟩)]
        clear hin HK
        go_wp2_with (go_at_call 39; refine hly.mono ?_; rintro e w1 ⟨rfl, rfl⟩)
        go_ret
        exact ⟨by rw [HN.out]; rfl, HE.out⟩
    · have hki : ¬ (k : Int) < (VR.length : Int) := by omega
      have HN : Hid (d = 0) := by
        show _ = _
        have hf : (VR.any fun v => !inS v VL) = false := by
          rw [List.any_eq_false]
          intro x hx
          have := HK.out x (by rw [List.take_of_length_le (by omega)]; exact hx)
          rw [this]; simp
        rw [← HD.out, hf]
        rfl
      clear HK
      go_wp2_with fail
      go_ret
      exact ⟨by rw [HN.out]; rfl, HE.out⟩

theorem rChk_any (w : World) (id : Int) (lv rv : Value) (L R : List Cl) (hl : Lies w lv L) (hr : Lies w rv R) :
    Calls Tryd.prog 12 #[.agg #[.int .i64 id, lv, rv]] w fun e w' => e = .returned (.int .i64 (chk id L R : Nat)) ∧ Below w.heap.size w w' := by
  have hb : Below w.heap.size w (w.alloc (.cells #[.int .i64 id, lv, rv] 25)) := (Below.refl _ w).alloc (Nat.le_refl _) _
  have hcL := rCheck_any _ lv L (hl.on hb)
  have hcR := rCheck_any _ rv R (hr.on hb)
  by_cases h0 : id < 0 ∨ 65535 < id
  · have e : chk id L R = 1 := by
      have h1 : cks id L R 0 = 1 := by simp only [cks]; rw [if_pos h0]
      rw [chk_hit 0 (by omega) (fun j hj => by omega) (by rw [h1]; decide), h1]
    rw [e]
    obtain ⟨la, lc, rfl, _⟩ := hl
    obtain ⟨ra, rc, rfl, _⟩ := hr
    clear e hcL hcR
    by_cases h1 : id < 0
    · go_enter Tryd.func12, Tryd.ntmps12
      go_wp2_with fail
      go_ret
      exact ⟨rfl, hb⟩
    · have h2 : 65535 < id := by omega
      go_enter Tryd.func12, Tryd.ntmps12
      go_wp2_with fail
      go_ret
      exact ⟨rfl, hb⟩
  have z0 : ∀ j, j < 1 → cks id L R j = 0 := upto (fun j hj => by omega) (by simp only [cks]; rw [if_neg h0])
  have q1 : ¬ id < 0 := by omega
  have q2 : ¬ 65535 < id := by omega
  by_cases hL : check L = 0
  · have z1 : ∀ j, j < 2 → cks id L R j = 0 := upto z0 hL
    by_cases hR : check R = 0
    · have z2 : ∀ j, j < 3 → cks id L R j = 0 := upto z1 hR
      by_cases h8 : 8 < L.length ∨ 8 < R.length
      · have e : chk id L R = 6 := by
          have h1 : cks id L R 3 = 6 := by simp only [cks]; rw [if_pos h8]
          rw [chk_hit 3 (by omega) z2 (by rw [h1]; decide), h1]
        rw [e]
        rw [hL] at hcL
        rw [hR] at hcR
        obtain ⟨la, lc, rfl, _⟩ := hl
        obtain ⟨ra, rc, rfl, _⟩ := hr
        clear e z0 z1 z2 hL hR
        by_cases h9 : 8 < L.length
        · have q3 : (8 : Int) < L.length := by omega
          go_enter Tryd.func12, Tryd.ntmps12
          go_wp2_with (first | (go_at_call 36; refine hcL.mono ?_; clear hcL; rintro e w1 ⟨rfl, rfl⟩) | (go_at_call 36; refine hcR.mono ?_; clear hcR; rintro e w1 ⟨rfl, rfl⟩))
          go_ret
          exact ⟨rfl, hb⟩
        · have q3 : ¬ (8 : Int) < L.length := by omega
          have q4 : (8 : Int) < R.length := by omega
          go_enter Tryd.func12, Tryd.ntmps12
          go_wp2_with (first | (go_at_call 36; refine hcL.mono ?_; clear hcL; rintro e w1 ⟨rfl, rfl⟩) | (go_at_call 36; refine hcR.mono ?_; clear hcR; rintro e w1 ⟨rfl, rfl⟩))
          go_ret
          exact ⟨rfl, hb⟩
      have z3 : ∀ j, j < 4 → cks id L R j = 0 := upto z2 (by simp only [cks]; rw [if_neg h8])
      by_cases hv : kind (hd L).data.toList = 2
      · have e : chk id L R = 20 := by
          have h1 : cks id L R 4 = 20 := by simp only [cks]; rw [if_pos hv]
          rw [chk_hit 4 (by omega) z3 (by rw [h1]; decide), h1]
        rw [e]
        rw [hL] at hcL
        rw [hR] at hcR
        obtain ⟨nm, kd, hLt⟩ := check_term hL
        have hva : Calls Tryd.prog 37 #[lv] (w.alloc (.cells #[.int .i64 id, lv, rv] 25)) fun e w' => e = .returned (.bool true) ∧ (w.alloc (.cells #[.int .i64 id, lv, rv] 25)) = w' := by
          have h1 := hl.on hb
          rw [hLt] at h1 hL hv
          have := var_any _ lv nm kd h1 hL
          rwa [decide_eq_true (show kind nm.data.toList = 2 from hv)] at this
        obtain ⟨la, lc, rfl, _⟩ := hl
        obtain ⟨ra, rc, rfl, _⟩ := hr
        have q3 : (L.length : Int) ≤ 8 := by omega
        have q4 : (R.length : Int) ≤ 8 := by omega
        clear e z0 z1 z2 z3 hL hR hLt hv
        go_enter Tryd.func12, Tryd.ntmps12
        go_wp2_with (first | (go_at_call 36; refine hcL.mono ?_; clear hcL; rintro e w1 ⟨rfl, rfl⟩) | (go_at_call 36; refine hcR.mono ?_; clear hcR; rintro e w1 ⟨rfl, rfl⟩) | (go_at_call 37; refine hva.mono ?_; clear hva; rintro e w1 ⟨rfl, rfl⟩))
        go_ret
        exact ⟨rfl, hb⟩
      · have e : chk id L R = if unb L R then 7 else 0 := by
          have z4 : ∀ j, j < 5 → cks id L R j = 0 := upto z3 (by simp only [cks]; rw [if_neg hv])
          by_cases hu : unb L R = true
          · have h1 : cks id L R 5 = 7 := by simp only [cks]; rw [if_pos hu]
            rw [chk_hit 5 (by omega) z4 (by rw [h1]; decide), h1, if_pos hu]
          · rw [if_neg hu]
            exact chk_all (upto z4 (by simp only [cks]; rw [if_neg hu]))
        rw [e]
        exact rCheck_vars w id lv rv L R hl hr (by omega) hL hR (by omega) hv
    · have e : chk id L R = check R := chk_hit 2 (by omega) z1 hR
      rw [e]
      rw [hL] at hcL
      generalize check R = E at hcR hR ⊢
      have q3 : ((E : Int) == 0) = false := by simp only [beq_eq_false_iff_ne]; omega
      have q4 : ¬ (E : Int) = 0 := by omega
      obtain ⟨la, lc, rfl, _⟩ := hl
      obtain ⟨ra, rc, rfl, _⟩ := hr
      clear e z0 z1 hL hR
      go_enter Tryd.func12, Tryd.ntmps12
      go_wp2_with (first | (go_at_call 36; refine hcL.mono ?_; clear hcL; rintro e w1 ⟨rfl, rfl⟩) | (go_at_call 36; refine hcR.mono ?_; clear hcR; rintro e w1 ⟨rfl, rfl⟩))
      go_ret
      exact ⟨rfl, hb⟩
  · have e : chk id L R = check L := chk_hit 1 (by omega) z0 hL
    rw [e]
    generalize check L = E at hcL hL ⊢
    have q3 : ((E : Int) == 0) = false := by simp only [beq_eq_false_iff_ne]; omega
    have q4 : ¬ (E : Int) = 0 := by omega
    obtain ⟨la, lc, rfl, _⟩ := hl
    obtain ⟨ra, rc, rfl, _⟩ := hr
    clear e z0 hL hcR
    go_enter Tryd.func12, Tryd.ntmps12
    go_wp2_with (first | (go_at_call 36; refine hcL.mono ?_; clear hcL; rintro e w1 ⟨rfl, rfl⟩))
    go_ret
    exact ⟨rfl, hb⟩

end Go.Proofs.YtjpmlnigjbdnnaaDoor
