/-
  What the document's Read answers where no arguments are read.
-/
import Derived.Test.YtjpmlnigjbdnnaaDoorTerm
namespace Go.Proofs.YtjpmlnigjbdnnaaDoor
open Go.RowKit
set_option linter.unusedVariables false
set_option maxRecDepth 100000
set_option linter.unusedSimpArgs false

/-- how the document's Read ends: a list of the call's own from B on -/
def Told (B : Nat) (r : R) (x : Ending) (w' : World) : Prop :=
  match r with
  | .bad j e => x = .returned (.tuple #[.slice none 0 0, .int .i64 (j : Nat), .int .i64 (e : Nat)])
  | .ok M j => ∃ v, x = .returned (.tuple #[v, .int .i64 (j : Nat), .int .i64 0]) ∧ Owns w' B v M

theorem own_lt {w : World} {B : Nat} {v : Value} {L : List Cl} (h : Owns w B v L) : ∀ k, v.ownBlock = some k → B ≤ k := fun k hk => (World.ownsRow.lt h k hk).1

theorem own_at {w : World} {B : Nat} {v : Value} {L : List Cl} (h : Owns w B v L) {i : Nat} {c : Cl} (hi : L[i]? = some c) :
    ∃ g cap, v = .slice (some ⟨g, 0, none⟩) L.length cap ∧ B ≤ g ∧ g < w.heap.size ∧ L.length ≤ cap ∧ w.cell? ⟨g, i * 2, none⟩ = some (.string c.nm) ∧ w.cell? ⟨g, i * 2 + 1, none⟩ = some (.int .i64 c.ar) ∧ w.frozen? ⟨g, i * 2 + 1, none⟩ = false := by
  obtain ⟨hl, hn | ⟨g, cap, cur, hv, hB, hg, h1, h2, h3, h4⟩⟩ := id h
  · obtain ⟨_, h0⟩ := hn
    rw [List.eq_nil_of_length_eq_zero h0] at hi
    simp at hi
  · have hlt : g < w.heap.size := by
      rcases Nat.lt_or_ge g w.heap.size with h' | h'
      · exact h'
      · rw [Array.getElem?_eq_none h'] at hg; cases hg
    obtain ⟨a, cap', hv', _, _, h5⟩ := own_cells h
    obtain ⟨g1, e1, _, _, c1⟩ := h5 (i * 2) (.string c.nm) (by rw [flatC_even, hi]; rfl)
    obtain ⟨g2, e2, _, _, c2⟩ := h5 (i * 2 + 1) (.int .i64 c.ar) (by rw [flatC_odd, hi]; rfl)
    rw [hv] at hv'
    cases hv'
    cases e1; cases e2
    exact ⟨g, cap, hv, hB, hlt, h1, c1, c2, Lib.frozen_of_heap hg _⟩
theorem own_setA {w : World} {B g cap : Nat} {L : List Cl} (h : Owns w B (.slice (some ⟨g, 0, none⟩) L.length cap) L) (i : Nat) (a : Int) :
    Owns (w.setCell ⟨g, i * 2 + 1, none⟩ (.int .i64 a)) B (.slice (some ⟨g, 0, none⟩) L.length cap) (setA L i a) := by
  show World.ownsRow _ _ _ _ _ _ _
  rw [flatC_setA, setA_length]
  exact own_set h _ _

set_option maxHeartbeats 4000000 in
theorem rRead_bad (s : ByteArray) (hs : s.size ≤ 1024) (B : Nat) (w : World) (k : Nat) (v : Value) (L : List Cl) (hown : Owns w B v L) (hk : k ≤ s.size) (hL : L.length ≤ 64) (e : Nat) (he : nameErr s k L = some e) :
    Calls Tryd.prog 74 #[.string s, .int .i64 (k : Nat), v] w fun x w' => x = .returned (.tuple #[.slice none 0 0, .int .i64 (k : Nat), .int .i64 (e : Nat)]) ∧ w = w' := by
  obtain ⟨al, capv, hvv, _⟩ := own_cells hown
  subst hvv
  have hge := endw_ge s.data.toList k
  have hle := endw_le s.data.toList k (by rw [size_list]; exact hk)
  rw [size_list] at hle
  obtain ⟨to, hto⟩ : ∃ to, endw s.data.toList k = to := ⟨_, rfl⟩
  unfold nameErr at he
  rw [hto] at hge hle he
  have HTO : Hid (endw s.data.toList k = to) := hto
  have HE : Hid ((if to = k then some 3 else if kind (s.extract k to).data.toList = 0 then some 4 else if L.length = 64 then some 6 else none) = some e) := he
  have hkd := fun w => rKind_any (s.extract k to) w (by have : (s.extract k to).size ≤ 1024 := by { rw [ByteArray.size_extract]; omega }; unfold maxLen; omega)
  clear hto he hown
  go_enter Tryd.func74, Tryd.ntmps74
  go_wp2_with fail
  go_loop [9] (fun i => ∃ j : Nat, k ≤ j ∧ j ≤ to ∧ Hid (endw s.data.toList j = to) ∧ i = .int .i64 j) (fun i => s.size - (intOf i).toNat)
  case atStart => exact ⟨k, Nat.le_refl _, hge, HTO, rfl⟩
  case round =>
    obtain ⟨j, hj1, hj2, HJ, rfl⟩ := hrel
    by_cases hjs : j < s.size
    · have hji : (j : Int) < (s.size : Int) := by omega
      have HGJ : Hid (s.data.toList[j]? = some s[j]) := get_data s j hjs
      by_cases hS : isS s[j] = true
      · have HJ2 : Hid (endw s.data.toList (j + 1) = to) := by show _ = _; rw [← endw_hit HGJ.out hS]; exact HJ.out
        have hj3 : j + 1 ≤ to := by rw [← HJ2.out]; exact endw_ge _ _
        have hcall := rSign_any s[j]
        rw [hS] at hcall
        clear HJ HGJ hS
        go_wp2_with (go_at_call 93; refine (hcall _).mono ?_; rintro e w1 ⟨rfl, rfl⟩)
        go_wp2_with fail
        go_round
        case rel => exact ⟨j + 1, by omega, hj3, HJ2, by go_num⟩
        case measure => simp [intOf]; omega
      · have hS' : isS s[j] = false := by simpa using hS
        have hjt : j = to := by rw [← HJ.out]; exact (endw_miss HGJ.out hS').symm
        subst hjt
        have hcall := rSign_any s[j]
        rw [hS'] at hcall
        clear HJ hS hS' HTO
        have hjn : ((j : Int) == (s.size : Int)) = false := by simp only [beq_eq_false_iff_ne]; omega
        have hjm : ¬ (j : Int) = (s.size : Int) := by omega
        have hnsz : (s.extract k j).size ≤ 1024 := by rw [ByteArray.size_extract]; omega
        have hnsz0 : (s.extract k j).size = j - k := by rw [ByteArray.size_extract]; omega
        by_cases hjk : j = k
        · have HE2 : Hid (e = 3) := by have := HE.out; rw [if_pos hjk] at this; cases this; rfl
          have hemp : s.extract k j = ⟨#[]⟩ := empty_of _ (by omega)
          have t1 : (s.extract k j).toList.isEmpty = true := by rw [hemp, ByteArray.toList_eq]; rfl
          have t2 : (s.extract k j).toList = [] := by rw [hemp, ByteArray.toList_eq]
          clear HE hemp hnsz hnsz0 hkd hjk
          go_wp2_with (go_at_call 93; refine (hcall _).mono ?_; rintro e w1 ⟨rfl, rfl⟩)
          go_ret3
          exact ⟨by rw [HE2.out]; rfl, rfl⟩
        · have n1 := full_list (s.extract k j) (by omega)
          have n2 := full_isEmpty (s.extract k j) (by omega)
          have HE2 : Hid ((if kind (s.extract k j).data.toList = 0 then some 4 else if L.length = 64 then some 6 else none) = some e) := by have := HE.out; rw [if_neg hjk] at this; exact this
          clear HE
          generalize kind (s.extract k j).data.toList = q at hkd HE2
          by_cases hq : q = 0
          · subst hq
            have HE3 : Hid (e = 4) := by have := HE2.out; cases this; rfl
            clear HE2 hjk hnsz0
            go_wp2_with (first | (go_at_call 93; refine (hcall _).mono ?_; rintro e w1 ⟨rfl, rfl⟩) | (go_at_call 68; refine (hkd _).mono ?_; rintro e w2 ⟨rfl, rfl⟩))
            go_ret3
            exact ⟨by rw [HE3.out]; rfl, rfl⟩
          · have q1 : ((q : Int) == 0) = false := by simp only [beq_eq_false_iff_ne]; omega
            have q2 : ¬ (q : Int) = 0 := by omega
            have HE3 : Hid (L.length = 64 ∧ e = 6) := by
              have := HE2.out
              rw [if_neg hq] at this
              by_cases h64 : L.length = 64
              · rw [if_pos h64] at this; cases this; exact ⟨h64, rfl⟩
              · rw [if_neg h64] at this; cases this
            have l1 : ((L.length : Int) == 64) = true := by have := HE3.out.1; simp; omega
            clear HE2 hq hjk hnsz0
            go_wp2_with (first | (go_at_call 93; refine (hcall _).mono ?_; rintro e w1 ⟨rfl, rfl⟩) | (go_at_call 68; refine (hkd _).mono ?_; rintro e w2 ⟨rfl, rfl⟩))
            go_ret3
            exact ⟨by rw [HE3.out.2]; rfl, rfl⟩
    · have hjt : j = to := by rw [← HJ.out]; exact (endw_end (by rw [size_list]; omega)).symm
      subst hjt
      have hji : ¬ (j : Int) < (s.size : Int) := by omega
      have hdi : decide ((j : Int) < (s.size : Int)) = false := decide_eq_false hji
      have hjn : ((j : Int) == (s.size : Int)) = true := by simp; omega
      have hnl : ¬ j < s.size := hjs
      clear HJ HTO hjs
      have hnsz : (s.extract k j).size ≤ 1024 := by rw [ByteArray.size_extract]; omega
      have hnsz0 : (s.extract k j).size = j - k := by rw [ByteArray.size_extract]; omega
      by_cases hjk : j = k
      · have HE2 : Hid (e = 3) := by have := HE.out; rw [if_pos hjk] at this; cases this; rfl
        have hemp : s.extract k j = ⟨#[]⟩ := empty_of _ (by omega)
        have t1 : (s.extract k j).toList.isEmpty = true := by rw [hemp, ByteArray.toList_eq]; rfl
        have t2 : (s.extract k j).toList = [] := by rw [hemp, ByteArray.toList_eq]
        clear HE hemp hnsz hnsz0 hkd hjk
        go_wp2_with fail
        go_ret3
        exact ⟨by rw [HE2.out]; rfl, rfl⟩
      · have n1 := full_list (s.extract k j) (by omega)
        have n2 := full_isEmpty (s.extract k j) (by omega)
        have HE2 : Hid ((if kind (s.extract k j).data.toList = 0 then some 4 else if L.length = 64 then some 6 else none) = some e) := by have := HE.out; rw [if_neg hjk] at this; exact this
        clear HE
        generalize kind (s.extract k j).data.toList = q at hkd HE2
        by_cases hq : q = 0
        · subst hq
          have HE3 : Hid (e = 4) := by have := HE2.out; cases this; rfl
          clear HE2 hjk hnsz0
          go_wp2_with (first | (go_at_call 68; refine (hkd _).mono ?_; rintro e w2 ⟨rfl, rfl⟩))
          go_ret3
          exact ⟨by rw [HE3.out]; rfl, rfl⟩
        · have q1 : ((q : Int) == 0) = false := by simp only [beq_eq_false_iff_ne]; omega
          have q2 : ¬ (q : Int) = 0 := by omega
          have HE3 : Hid (L.length = 64 ∧ e = 6) := by
            have := HE2.out
            rw [if_neg hq] at this
            by_cases h64 : L.length = 64
            · rw [if_pos h64] at this; cases this; exact ⟨h64, rfl⟩
            · rw [if_neg h64] at this; cases this
          have l1 : ((L.length : Int) == 64) = true := by have := HE3.out.1; simp; omega
          clear HE2 hq hjk hnsz0
          go_wp2_with (first | (go_at_call 68; refine (hkd _).mono ?_; rintro e w2 ⟨rfl, rfl⟩))
          go_ret3
          exact ⟨by rw [HE3.out.2]; rfl, rfl⟩

end Go.Proofs.YtjpmlnigjbdnnaaDoor
