/-
  What the shelf's next, full and cut do; slices.Index and slices.IndexFunc on rows of numbers.
-/
import Derived.Test.YtoecopmbaoklkaaSh
import Derived.Deep.RegionHeld3
namespace Go.Proofs.Ytoecopmbaoklkaa
open Go.RowKit
set_option linter.unusedVariables false
set_option linter.unusedSimpArgs false
set_option maxRecDepth 100000

/-- where a number stands -/
theorem index_any (w : World) (B : Nat) (v : Value) (A L : List Int) (a : Int) (h : RowI w B v (A ++ a :: L)) (hl : (A ++ a :: L).length ≤ 1024) (hn : ∀ x ∈ A, ¬ x = a) :
    Calls Try.prog 69 #[v, .int .i64 a] w fun e w' => e = .returned (.int .i64 (A.length : Nat)) ∧ w = w' := by
  obtain ⟨p, c, e1⟩ := h.form
  subst e1
  have H := hid h
  have HN := hid hn
  obtain ⟨n, hnn⟩ : ∃ n, (A ++ a :: L).length = n := ⟨_, rfl⟩
  rw [hnn] at hl ⊢
  have hlt : A.length < n := by rw [← hnn]; simp
  have HA : Hid (∀ k, k < A.length → ∃ x, (A ++ a :: L)[k]? = some x ∧ ¬ x = a) := fun k hk => ⟨A[k], by rw [List.getElem?_append_left hk, List.getElem?_eq_getElem hk], HN.out _ (List.getElem_mem _)⟩
  have HZ : Hid ((A ++ a :: L)[A.length]? = some a) := by show _ = _; simp
  obtain ⟨m, hm⟩ : ∃ m, A.length = m := ⟨_, rfl⟩
  rw [hm] at hlt HA HZ ⊢
  clear h hn hnn hm
  generalize A ++ a :: L = U at *
  go_enter Try.func69, Try.ntmps69
  go_wp2_with fail
  go_loop [8] (fun i => ∃ k : Nat, k ≤ m ∧ i = .int .i64 (k : Nat)) (fun i => n - (intOf i).toNat)
  case atStart => exact ⟨0, Nat.zero_le _, rfl⟩
  case round =>
    obtain ⟨k, hk, rfl⟩ := hrel
    have hki : (k : Int) < (n : Int) := by omega
    by_cases hkm : k < m
    · obtain ⟨x, hx, hne⟩ := HA.out k hkm
      obtain ⟨g, rfl, _, _, c1, _⟩ := H.out.at hx
      have hne2 : (a == x) = false := by simp; omega
      clear hx
      go_wp2
      go_round
      case rel => exact ⟨k + 1, by omega, by go_num⟩
      case measure => simp [intOf]; omega
    · obtain rfl : k = m := by omega
      obtain ⟨g, rfl, _, _, c1, _⟩ := H.out.at HZ.out
      go_wp2
      go_ret
      exact ⟨rfl, rfl⟩

section
variable {w : World} {T : Nat → Prop} {k q room rd : Nat} {hs : List Hp} {ch : List Pg}

/-- the shelf's question of a page's pins -/
theorem asks_any (a : Int) (ha : I64 a) (h : Sh w T k q room rd hs ch) (b : Nat) (hb : Blk w b #[.pointer (some ⟨q, 2, none⟩)] 91) :
    Calls Try.prog 71 #[.int .i64 a, .pointer (some ⟨b, 0, none⟩)] w fun e w' => e = .returned (.bool (!pinned hs a)) ∧ w = w' := by
  have hp := hasPins_any a ha h
  have c0 := hb.cell (i := 0) rfl
  generalize pinned hs a = z at *
  clear h hb
  go_enter Try.func71, Try.ntmps71
  go_wp2_with (go_at_call 33; refine hp.mono ?_; rintro e w1 ⟨rfl, rfl⟩)
  go_ret
  exact ⟨rfl, rfl⟩

theorem indexf_any (hn : NdH hs) (hl : hs.length ≤ 1024) (hi : ∀ x ∈ hs, I64 x.pl) (h : Sh w T k q room rd hs ch) (b : Nat) (hb : Blk w b #[.pointer (some ⟨q, 2, none⟩)] 91) (v : Value) (hv : RowI w 0 v (hs.map Hp.pl)) :
    Calls Try.prog 70 #[v, .func (.func 71) #[] #[.pointer (some ⟨b, 0, none⟩)]] w fun e w' => e = .returned (.int .i64 (nextI hs)) ∧ w = w' := by
  obtain ⟨p, c, e1⟩ := hv.form
  subst e1
  rw [List.length_map] at hv ⊢
  have HV := hid hv
  have HC : Hid (∀ x, x ∈ hs → Calls Try.prog 71 #[.int .i64 x.pl, .pointer (some ⟨b, 0, none⟩)] w fun e w' => e = .returned (.bool (decide (x.pins = 0))) ∧ w = w') := fun x hx => by
    have := asks_any x.pl (hi x hx) h b hb
    unfold pinned at this
    rw [fndH_mem hn hx] at this
    have e : (!decide (0 < x.pins)) = decide (x.pins = 0) := by
      by_cases h0 : x.pins = 0
      · simp [h0]
      · simp [h0]; omega
    simp only [e] at this
    exact this
  have HL : Hid (hs.length = hs.length) := rfl
  obtain ⟨n, hnn⟩ : ∃ n, hs.length = n := ⟨_, rfl⟩
  have HN := hid hnn
  rw [hnn] at hl ⊢
  clear hv hi h hb hnn HL hn
  go_enter Try.func70, Try.ntmps70
  go_wp2_with fail
  go_loop [8] (fun i => ∃ k : Nat, k ≤ n ∧ i = .int .i64 (k : Nat) ∧ Hid (∀ i x, i < k → hs[i]? = some x → ¬ x.pins = 0)) (fun i => n - (intOf i).toNat)
  case atStart => exact ⟨0, Nat.zero_le _, rfl, fun i x hi => by omega⟩
  case round =>
    obtain ⟨j, hj, rfl, HO⟩ := hrel
    by_cases hjn : j < n
    · have hji : (j : Int) < (n : Int) := by omega
      obtain ⟨x, hx⟩ : ∃ x, hs[j]? = some x := ⟨_, List.getElem?_eq_getElem (by rw [HN.out]; exact hjn)⟩
      have hca := HC.out x (List.mem_of_getElem? hx)
      obtain ⟨g, rfl, _, _, c1, _⟩ := HV.out.at (k := j) (x := x.pl) (by rw [List.getElem?_map, hx]; rfl)
      by_cases hz : x.pins = 0
      · rw [decide_eq_true hz] at hca
        have HE := hid (nextI_at HO.out hx hz).1
        clear hx hz
        go_wp2_with (go_at_call 71; refine hca.mono ?_; rintro e w1 ⟨rfl, rfl⟩)
        go_ret
        exact ⟨by rw [HE.out]; rfl, rfl⟩
      · rw [decide_eq_false hz] at hca
        have HO2 : Hid (∀ i y, i < j + 1 → hs[i]? = some y → ¬ y.pins = 0) := fun i y hi hy => by
          by_cases e : i = j
          · subst e
            rw [hx] at hy
            cases hy
            exact hz
          · exact HO.out i y (by omega) hy
        clear hx hz
        go_wp2_with (go_at_call 71; refine hca.mono ?_; rintro e w1 ⟨rfl, rfl⟩)
        go_round
        case rel => exact ⟨j + 1, by omega, by go_num, HO2⟩
        case measure => simp [intOf]; omega
    · obtain rfl : j = n := by omega
      have HE : Hid (nextI hs = -1) := (nextI_none (fun x hx => by
        obtain ⟨i, hi⟩ := List.mem_iff_getElem?.1 hx
        exact HO.out i x (by have := (List.getElem?_eq_some_iff.1 hi).1; rw [HN.out] at this; exact this) hi)).1
      go_wp2
      go_ret
      exact ⟨by rw [HE.out]; rfl, rfl⟩

theorem next_any (hn : NdH hs) (hl : hs.length ≤ 1024) (hi : ∀ x ∈ hs, I64 x.pl) (h : Sh w T k q room rd hs ch) :
    Calls Try.prog 55 #[.pointer (some ⟨q, 2, none⟩)] w fun e w' => e = .returned (.int .i64 (nextI hs)) ∧ Below w.heap.size w w' := by
  have H := hid h
  obtain ⟨_, _, cv, uv, m, hb3, _, hu, _⟩ := h
  have hlt : q < w.heap.size := hb3.lt
  obtain ⟨W, hW⟩ : ∃ W, w.alloc (.cells #[.pointer (some ⟨q, 2, none⟩)] 91) = W := ⟨_, rfl⟩
  have hbW : Below w.heap.size w W := by rw [← hW]; exact (Below.refl _ _).alloc (Nat.le_refl _) _
  have hx := indexf_any hn hl hi (H.out.on hbW) w.heap.size (by rw [← hW]; exact Blk.made _ _ _) uv (hu.on hbW)
  have c4 : W.cell? ⟨q, 4, none⟩ = some uv := (hbW.cell (p := ⟨q, 4, none⟩) hlt).trans (hb3.cell (i := 4) rfl)
  have b6 : Blk W w.heap.size #[.pointer (some ⟨q, 2, none⟩)] 91 := by rw [← hW]; exact Blk.made _ _ _
  have c60 := b6.cell (i := 0) rfl
  obtain ⟨p, c, e1⟩ := hu.form
  subst e1
  rw [List.length_map] at hx c4
  have HBW := hid hbW
  clear hb3 hu b6 hn hl hi hbW
  generalize nextI hs = z at *
  go_enter Try.func55, Try.ntmps55
  go_wp2_with fail
  clear hW c60 c4
  refine hx.mono ?_
  clear hx
  rintro e w1 ⟨rfl, rfl⟩
  go_wp2
  go_ret
  exact ⟨rfl, HBW.out⟩

theorem nextI_neg (hs : List Hp) : decide (nextI hs < 0) = (freeH hs).isNone := by
  unfold nextI
  cases freeH hs with
  | none => rfl
  | some f => simp only [Option.isNone_some]; rw [decide_eq_false]; omega

theorem full_any (hn : NdH hs) (hl : hs.length ≤ 1024) (hi : ∀ x ∈ hs, I64 x.pl) (h : Sh w T k q room rd hs ch) :
    Calls Try.prog 38 #[.pointer (some ⟨q, 2, none⟩)] w fun e w' => e = .returned (.bool (fullH room hs)) ∧ Below w.heap.size w w' := by
  have hnx : ∀ w1, Below w.heap.size w w1 → _ := fun w1 hb => next_any hn hl hi (h.on hb)
  obtain ⟨_, _, cv, uv, m, hb3, _, hu, _⟩ := h
  have hlt : q < w.heap.size := hb3.lt
  obtain ⟨p, c, e1⟩ := hu.form
  subst e1
  have c2 : w.cell? ⟨q, 2, none⟩ = some (.int .i64 (room : Nat)) := hb3.cell (i := 2) rfl
  have c4 : w.cell? ⟨q, 4, none⟩ = some (.slice p (hs.map Hp.pl).length c) := hb3.cell (i := 4) rfl
  rw [List.length_map] at c4
  have hz := nextI_neg hs
  clear hb3 hu hi hn
  unfold fullH
  generalize (freeH hs).isNone = y at *
  generalize nextI hs = z at *
  obtain ⟨n, hnn⟩ : ∃ n, hs.length = n := ⟨_, rfl⟩
  rw [hnn] at hl c4 ⊢
  clear hnn
  have HK : Hid (∀ w5, Below w.heap.size w w5 → w5.cell? ⟨q, 2, none⟩ = some (.int .i64 (room : Nat)) ∧ w5.cell? ⟨q, 4, none⟩ = some (.slice p n c)) := fun w5 hb => ⟨(hb.cell (p := ⟨q, 2, none⟩) hlt).trans c2, (hb.cell (p := ⟨q, 4, none⟩) hlt).trans c4⟩
  have HBd := hid ((Below.refl w.heap.size w).drew)
  have HS0 := HK.out _ HBd.out
  have HNX := hid hnx
  clear hnx
  by_cases hr : room ≤ n
  · rw [decide_eq_true hr, Bool.true_and]
    have hri : (room : Int) ≤ (n : Int) := by omega
    clear c2 c4
    go_enter Try.func38, Try.ntmps38
    go_wp2_with fail
    go_region_held3 (fun w' => w'.cell? ⟨q, 2, none⟩ = some (.int .i64 (room : Nat)) ∧ w'.cell? ⟨q, 4, none⟩ = some (.slice p n c)) (first | exact HS0 | exact HS1)
      (first | (go_at_call 55; refine (HNX.out _ HBd.out).mono ?_; clear HNX; rintro e w5 ⟨rfl, hb5⟩; have HB5 := hid (HBd.out.trans (hb5.mono HBd.out.size)); have HS1 := HK.out w5 HB5.out; clear hb5))
    go_wp2_with fail
    go_ret
    exact ⟨by rw [← hz]; rfl, HB5.out⟩
  · rw [decide_eq_false hr, Bool.false_and]
    have hri : ¬ (room : Int) ≤ (n : Int) := by omega
    have hri2 : decide (room ≤ n) = false := decide_eq_false hr
    go_enter Try.func38, Try.ntmps38
    go_wp2_with fail
    go_region
    go_wp2_with fail
    go_ret
    exact ⟨rfl, HBd.out⟩
end

end Go.Proofs.Ytoecopmbaoklkaa
