/-
  What the document's Read and Parse answer.
-/
import Derived.Test.YtjpmlnigjbdnnaaDoorRefL
import Derived.Test.YtjpmlnigjbdnnaaDoorRefC
namespace Go.Proofs.YtjpmlnigjbdnnaaDoor
open Go.RowKit
set_option linter.unusedVariables false
set_option maxRecDepth 100000
set_option linter.unusedSimpArgs false

theorem rRead_any (s : ByteArray) (hs : s.size ≤ 1024) (B : Nat) : ∀ (f : Nat) (w : World) (k : Nat) (v : Value) (L : List Cl), B ≤ w.heap.size → Owns w B v L → k ≤ s.size → L.length ≤ 64 → 65 ≤ f + L.length →
    Calls Tryd.prog 74 #[.string s, .int .i64 (k : Nat), v] w fun x w' => Told B (rd s f k L) x w' ∧ Below B w w' := by
  intro f
  induction f with
  | zero => intro w k v L _ _ _ h1 h2; omega
  | succ f ih =>
    intro w k v L hB hown hk hL hf
    cases hne : nameErr s k L with
    | some e0 =>
      refine (rRead_bad s hs B w k v L hown hk hL e0 hne).mono fun x w' h => ?_
      obtain ⟨rfl, rfl⟩ := h
      rw [rd_err hne]
      exact ⟨rfl, Below.refl _ _⟩
    | none =>
      obtain ⟨hL64, hgo⟩ := rd_go (f := f) hne
      rw [hgo]
      have hle := endw_le s.data.toList k (by rw [size_list]; exact hk)
      rw [size_list] at hle
      unfold nameErr at hne
      obtain ⟨to, hto⟩ : ∃ to, endw s.data.toList k = to := ⟨_, rfl⟩
      rw [hto] at hne hle ⊢
      have hkt : to ≠ k := by intro h; rw [if_pos h] at hne; cases hne
      rw [if_neg hkt] at hne
      have hkd := fun w => rKind_any (s.extract k to) w (by have : (s.extract k to).size ≤ 1024 := by { rw [ByteArray.size_extract]; omega }; unfold maxLen; omega)
      have hq : kind (s.extract k to).data.toList ≠ 0 := by intro h; rw [if_pos h] at hne; cases hne
      by_cases hst : stand s to 40 = true
      · rw [if_pos hst]
        by_cases hq2 : kind (s.extract k to).data.toList = 2
        · rw [if_pos hq2]
          rw [hq2] at hkd
          refine (rRead_var s hs B w k v L hB hown hk (by omega) to hto (Ne.symm hkt) hkd hst).mono fun x w' h => ?_
          exact ⟨h.1, h.2⟩
        · rw [if_neg hq2]
          exact rRead_args s hs B w k v L hB hown hk (by omega) to hto (Ne.symm hkt) hkd hq hq2 hst f hf _ rfl ih
      · rw [if_neg hst]
        exact rRead_leaf s hs B w k v L hB hown hk (by omega) to hto (Ne.symm hkt) hkd hq (by simpa using hst)

theorem own_fine {w : World} {B : Nat} {v : Value} {M : List Cl} (h : Owns w B v M) (hf : Fine M) : Lies w v M := h.lies hf

theorem rParse_any (s : ByteArray) (w : World) : Calls Tryd.prog 45 #[.string s] w fun x w' => Told w.heap.size (parse s) x w' ∧ Below w.heap.size w w' := by
  by_cases hs : 1024 < s.size
  · have HP : Hid (parse s = .bad 0 2) := by show _ = _; unfold parse; rw [if_pos hs]
    generalize parse s = RES at HP ⊢
    have hsi : (1024 : Int) < (s.size : Int) := by omega
    go_enter Tryd.func45, Tryd.ntmps45
    go_wp2_with fail
    go_ret3
    exact ⟨by rw [HP.out]; rfl, Below.refl _ _⟩
  · have hrd := rRead_any s (by omega) w.heap.size 65 w 0 (.slice none 0 0) [] (Nat.le_refl _) (World.ownsRow_nil _ _ _ _) (Nat.zero_le _) (by simp) (by simp)
    have hsi : ¬ (1024 : Int) < (s.size : Int) := by omega
    have HP : Hid (parse s = match rd s 65 0 [] with | .bad j e => .bad j e | .ok M j => if j < s.size then .bad j 3 else .ok M 0) := by
      show _ = _; unfold parse; rw [if_neg hs]; cases rd s 65 0 [] <;> rfl
    generalize parse s = RES at HP ⊢
    have HB : Hid (∀ j e, rd s 65 0 [] = .bad j e → 0 < e) := fun j e h => (rd_bad s 65 0 [] j e h (Nat.zero_le _) (by simp)).2.1
    cases h : rd s 65 0 [] with
    | bad j e =>
      have HP2 : Hid (RES = .bad j e) := by show _ = _; rw [HP.out, h]
      have he := HB.out j e h
      have e2 : ((e : Int) == 0) = false := by simp only [beq_eq_false_iff_ne]; omega
      have e3 : ¬ (e : Int) = 0 := by omega
      rw [h] at hrd
      have hrd2 : Calls Tryd.prog 74 #[.string s, .int .i64 0, .slice none 0 0] w fun x w' => x = .returned (.tuple #[.slice none 0 0, .int .i64 (j : Nat), .int .i64 (e : Nat)]) ∧ Below w.heap.size w w' := hrd
      clear hrd h HP HB
      go_enter Tryd.func45, Tryd.ntmps45
      go_wp2_with (go_at_call 74; refine hrd2.mono ?_; rintro x w1 ⟨rfl, hb1⟩)
      go_ret3
      exact ⟨by rw [HP2.out]; rfl, hb1⟩
    | ok M j =>
      rw [h] at hrd
      have hrd2 : Calls Tryd.prog 74 #[.string s, .int .i64 0, .slice none 0 0] w fun x w' => (∃ v, x = .returned (.tuple #[v, .int .i64 (j : Nat), .int .i64 0]) ∧ Owns w' w.heap.size v M) ∧ Below w.heap.size w w' := hrd
      have HP1 : Hid (RES = if j < s.size then .bad j 3 else .ok M 0) := by show _ = _; rw [HP.out, h]
      clear hrd h HP HB
      by_cases hj : j < s.size
      · have HP2 : Hid (RES = .bad j 3) := by show _ = _; rw [HP1.out, if_pos hj]
        have hji : (j : Int) < (s.size : Int) := by omega
        clear HP1
        go_enter Tryd.func45, Tryd.ntmps45
        go_wp2_with (go_at_call 74; refine hrd2.mono ?_; rintro x w1 ⟨⟨v1, rfl, ho1⟩, hb1⟩)
        go_ret3
        exact ⟨by rw [HP2.out]; rfl, hb1⟩
      · have HP2 : Hid (RES = .ok M 0) := by show _ = _; rw [HP1.out, if_neg hj]
        have hji : ¬ (j : Int) < (s.size : Int) := by omega
        have hjd : decide ((j : Int) < (s.size : Int)) = false := decide_eq_false hji
        clear HP1
        go_enter Tryd.func45, Tryd.ntmps45
        go_wp2_with (go_at_call 74; refine hrd2.mono ?_; rintro x w1 ⟨⟨v1, rfl, ho1⟩, hb1⟩)
        go_ret3
        exact ⟨by rw [HP2.out]; exact ⟨_, rfl, ho1⟩, hb1⟩

end Go.Proofs.YtjpmlnigjbdnnaaDoor
