/-
  Whether two lists of texts are alike, by the library's Equal.
-/
import Derived.Test.YthinhlmefifffaaRf
import Derived.Test.YthinhlmefifffaaP10
namespace Go.Proofs.Ythinhlmefifffaa
open Go.RowKit
set_option linter.unusedVariables false
set_option linter.unusedSimpArgs false
set_option maxRecDepth 100000

theorem other_texts {s t : ByteArray} (h : ¬ s = t) : (s.toList == t.toList) = false := by
  rw [ByteArray.toList_eq, ByteArray.toList_eq]
  have : s.data.toList ≠ t.data.toList := fun e => h (by rw [← bt_self s, ← bt_self t, e])
  simpa using this

theorem equal_self (w : World) (B B' : Nat) (u v : Value) (L : List ByteArray) (hu : RowS w B u L) (hv : RowS w B' v L) (hl : L.length ≤ 100000) :
    Calls Try.prog 75 #[u, v] w fun e w' => e = .returned (.bool true) ∧ Below w.heap.size w w' := by
  obtain ⟨a, c, e1⟩ := hu.form
  obtain ⟨a', c', e2⟩ := hv.form
  subst e1
  subst e2
  have HU := hid hu
  have HV := hid hv
  obtain ⟨n, hn⟩ : ∃ n, L.length = n := ⟨_, rfl⟩
  have HN := hid hn
  have hl2 := hl
  rw [hn] at hl2
  rw [hn]
  clear hu hv hn hl
  go_enter Try.func75, Try.ntmps75
  go_wp2_with fail
  go_loopw [13] (fun i wr => ∃ k : Nat, k ≤ n ∧ i = .int .i64 (k : Nat) ∧ Below w.heap.size w wr) (fun i _ => n - (intOf i).toNat)
  case atStart => exact ⟨0, Nat.zero_le _, rfl, Below.refl _ _⟩
  case round =>
    obtain ⟨k, hk, rfl, hb⟩ := hrel
    by_cases hlt : k < n
    · have hki : (k : Int) < (n : Int) := by omega
      obtain ⟨s, hs⟩ : ∃ s, L[k]? = some s := ⟨_, List.getElem?_eq_getElem (by rw [HN.out]; exact hlt)⟩
      obtain ⟨g, x1, _, e1⟩ := row_some HU.out (by rw [HN.out]; omega)
      obtain ⟨h, x2, _, e2⟩ := row_some HV.out (by rw [HN.out]; omega)
      subst x1
      subst x2
      have c1 := (HU.out.at hs).1
      have c2 := (HV.out.at hs).1
      have d1 : wr.cell? ⟨g, k, none⟩ = some (.string s) := (hb.cell (p := ⟨g, k, none⟩) e1).trans c1
      have d2 : wr.cell? ⟨h, k, none⟩ = some (.string s) := (hb.cell (p := ⟨h, k, none⟩) e2).trans c2
      clear c1 c2 hs e1 e2
      go_wp2
      go_region
      have hbd := hb.drew
      clear d1 d2
      go_wp2
      go_roundw
      case rel => exact ⟨k + 1, by omega, by go_num, hbd⟩
      case measure => simp [intOf]; omega
    · obtain rfl : k = n := by omega
      go_wp2
      go_ret
      exact ⟨rfl, hb⟩

theorem equal_any (w : World) (B B' : Nat) (u v : Value) (L M : List ByteArray) (hu : RowS w B u L) (hv : RowS w B' v M) (hl : L.length ≤ 100000) (hm : M.length ≤ 100000) :
    Calls Try.prog 75 #[u, v] w fun e w' => e = .returned (.bool (decide (L = M))) ∧ Below w.heap.size w w' := by
  by_cases he : L = M
  · subst he
    rw [decide_eq_true rfl]
    exact equal_self w B B' u v L hu hv hl
  · have hd : decide (L = M) = false := decide_eq_false he
    rw [hd]
    obtain ⟨a, c, e1⟩ := hu.form
    obtain ⟨a', c', e2⟩ := hv.form
    subst e1
    subst e2
    have HU := hid hu
    have HV := hid hv
    obtain ⟨n, hn⟩ : ∃ n, L.length = n := ⟨_, rfl⟩
    have HN := hid hn
    obtain ⟨m, hmm⟩ : ∃ m, M.length = m := ⟨_, rfl⟩
    have HM := hid hmm
    have HE := hid he
    rw [hn] at hl
    rw [hmm] at hm
    rw [hn, hmm]
    clear hu hv hn hmm he hd
    by_cases hnm : n = m
    · subst hnm
      have HX : Hid (∀ k, k = n → (∀ i : Nat, i < k → L[i]? = M[i]?) → False) := fun k hk h => HE.out (List.ext_getElem? (fun i => by
        by_cases hi : i < n
        · exact h i (by omega)
        · rw [List.getElem?_eq_none (by rw [HN.out]; omega), List.getElem?_eq_none (by rw [HM.out]; omega)]))
      go_enter Try.func75, Try.ntmps75
      go_wp2_with fail
      go_loopw [13] (fun i wr => ∃ k : Nat, k ≤ n ∧ i = .int .i64 (k : Nat) ∧ Below w.heap.size w wr ∧ Hid (∀ i : Nat, i < k → L[i]? = M[i]?)) (fun i _ => n - (intOf i).toNat)
      case atStart => exact ⟨0, Nat.zero_le _, rfl, Below.refl _ _, fun i hi => by omega⟩
      case round =>
        obtain ⟨k, hk, rfl, hb, HP⟩ := hrel
        by_cases hlt : k < n
        · have hki : (k : Int) < (n : Int) := by omega
          obtain ⟨s, hs⟩ : ∃ s, L[k]? = some s := ⟨_, List.getElem?_eq_getElem (by rw [HN.out]; exact hlt)⟩
          obtain ⟨t, ht⟩ : ∃ t, M[k]? = some t := ⟨_, List.getElem?_eq_getElem (by rw [HM.out]; exact hlt)⟩
          obtain ⟨g, x1, _, e1⟩ := row_some HU.out (by rw [HN.out]; omega)
          obtain ⟨h, x2, _, e2⟩ := row_some HV.out (by rw [HM.out]; omega)
          subst x1
          subst x2
          have d1 : wr.cell? ⟨g, k, none⟩ = some (.string s) := (hb.cell (p := ⟨g, k, none⟩) e1).trans (HU.out.at hs).1
          have d2 : wr.cell? ⟨h, k, none⟩ = some (.string t) := (hb.cell (p := ⟨h, k, none⟩) e2).trans (HV.out.at ht).1
          have HST : Hid (s = t → ∀ i : Nat, i < k + 1 → L[i]? = M[i]?) := fun e i hi => by
            by_cases hik : i < k
            · exact HP.out i hik
            · obtain rfl : i = k := by omega
              rw [hs, ht, e]
          clear hs ht e1 e2
          by_cases hst : s = t
          · subst hst
            have HP2 := hid (HST.out rfl)
            clear HST HP
            go_wp2
            go_region
            have hbd := hb.drew
            clear d1 d2
            go_wp2
            go_roundw
            case rel => exact ⟨k + 1, by omega, by go_num, hbd, HP2⟩
            case measure => simp [intOf]; omega
          · have hne := other_texts hst
            clear HST HP hst
            go_wp2
            go_region
            have hbd := hb.drew
            clear d1 d2
            go_wp2
            go_ret
            exact ⟨rfl, hbd⟩
        · obtain rfl : k = n := by omega
          exact (HX.out _ rfl HP.out).elim
    · have hni : ((n : Int) != (m : Int)) = true := by simp; omega
      go_enter Try.func75, Try.ntmps75
      go_wp2
      go_ret
      exact ⟨rfl, Below.refl _ _⟩

end Go.Proofs.Ythinhlmefifffaa
