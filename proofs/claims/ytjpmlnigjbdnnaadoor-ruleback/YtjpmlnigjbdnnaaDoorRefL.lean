/-
  What the document's Read answers where a name stands alone.
-/
import Derived.Test.YtjpmlnigjbdnnaaDoorRefA
namespace Go.Proofs.YtjpmlnigjbdnnaaDoor
open Go.RowKit
set_option linter.unusedVariables false
set_option maxRecDepth 100000
set_option linter.unusedSimpArgs false

set_option maxHeartbeats 4000000 in
theorem rRead_leaf {q : Nat} (s : ByteArray) (hs : s.size ≤ 1024) (B : Nat) (w : World) (k : Nat) (v : Value) (L : List Cl) (hB : B ≤ w.heap.size) (hown : Owns w B v L) (hk : k ≤ s.size) (hL : L.length ≤ 63) (to : Nat) (hto : endw s.data.toList k = to) (hkt : k ≠ to) (hkd : ∀ w, Calls Tryd.prog 68 #[.string (s.extract k to)] w fun e w' => e = .returned (.int .i64 (q : Nat)) ∧ w = w') (hq : q ≠ 0) (hst : stand s to 40 = false) :
    Calls Tryd.prog 74 #[.string s, .int .i64 (k : Nat), v] w fun x w' => (∃ v, x = .returned (.tuple #[v, .int .i64 (to : Nat), .int .i64 0]) ∧ Owns w' B v (L ++ [⟨s.extract k to, 0⟩])) ∧ Below B w w' := by
  obtain ⟨al, capv, hvv, _⟩ := own_cells hown
  subst hvv
  have hge := endw_ge s.data.toList k
  have hle := endw_le s.data.toList k (by rw [size_list]; exact hk)
  rw [size_list] at hle
  obtain ⟨i0, hi, hz0, hz1, hz2⟩ := info_parts info59
  rw [hto] at hge hle
  have HTO : Hid (endw s.data.toList k = to) := hto
  have HJK : Hid (k < to) := by show k < to; omega
  have HOWN : Hid (Owns w B (.slice al L.length capv) L) := hown
  have l1 : ((L.length : Int) == 64) = false := by simp only [beq_eq_false_iff_ne]; omega
  have l2 : ¬ (L.length : Int) = 64 := by omega
  have q1 : ((q : Int) == 0) = false := by simp only [beq_eq_false_iff_ne]; omega
  have q2 : ¬ (q : Int) = 0 := by omega
  have HST : Hid (stand s to 40 = false) := hst
  clear hto hown hkt hst hq
  go_enter Tryd.func74, Tryd.ntmps74
  go_wp2_with fail
  go_loop [9] (fun i => ∃ j : Nat, k ≤ j ∧ j ≤ to ∧ Hid (endw s.data.toList j = to) ∧ i = .int .i64 j) (fun i => s.size - (intOf i).toNat)
  case atStart => exact ⟨k, Nat.le_refl _, hge, HTO, rfl⟩
  case round =>
    obtain ⟨j, hj1, hj2, HJ, rfl⟩ := hrel
    by_cases hjs : j < s.size
    · have hji : (j : Int) < (s.size : Int) := by omega
      have HGJ : Hid (s.data.toList[j]? = some s[j]) := get_data s j hjs
      by_cases hS : isS s[j] = true
      · have HJ2 : Hid (endw s.data.toList (j + 1) = to) := by show _ = _; rw [← endw_hit HGJ.out hS]; exact HJ.out
        have hj3 : j + 1 ≤ to := by rw [← HJ2.out]; exact endw_ge _ _
        have hcall := rSign_any s[j]
        rw [hS] at hcall
        clear HJ HGJ hS
        go_wp2_with (go_at_call 93; refine (hcall _).mono ?_; rintro e w1 ⟨rfl, rfl⟩)
        go_wp2_with fail
        go_round
        case rel => exact ⟨j + 1, by omega, hj3, HJ2, by go_num⟩
        case measure => simp [intOf]; omega
      · have hS' : isS s[j] = false := by simpa using hS
        have hjt : j = to := by rw [← HJ.out]; exact (endw_miss HGJ.out hS').symm
        subst hjt
        have hcall := rSign_any s[j]
        rw [hS'] at hcall
        clear HJ hS hS' HTO
        have hjn : ((j : Int) == (s.size : Int)) = false := by simp only [beq_eq_false_iff_ne]; omega
        have hjm : ¬ (j : Int) = (s.size : Int) := by omega
        have hnsz : (s.extract k j).size ≤ 1024 := by rw [ByteArray.size_extract]; omega
        have hnsz0 : 0 < (s.extract k j).size := by rw [ByteArray.size_extract]; have := HJK.out; omega
        have n1 := full_list (s.extract k j) (by omega)
        have n2 := full_isEmpty (s.extract k j) (by omega)
        go_wp2_with (first | (go_at_call 93; refine (hcall _).mono ?_; rintro e w1 ⟨rfl, rfl⟩) | (go_at_call 68; refine (hkd _).mono ?_; rintro e w2 ⟨rfl, rfl⟩) | (at_builtin; refine wpList_append_own _ rfl _ _ 23 rfl B 33 i0 (.agg #[.string ⟨#[]⟩, .int .i64 0]) 2 24 Tryd.underlying23 hi hz0 hz1 hz2 rfl (by decide) _ L.length (flatC L) rfl (HOWN.out.alloc _) ⟨w.heap.size, 0, none⟩ 1 1 [.string (s.extract k j), .int .i64 0] rfl rfl ?c1 ?c2 ?c3 ?c4 ?c5 ?_))
        case c1 => exact two_cells _ _ _ _
        case c2 => intro u hu; simp at hu; rcases hu with rfl | rfl <;> rfl
        case c3 => unfold maxLen; omega
        case c4 => omega
        case c5 => simp; omega
        intro v' w3 hown' hgrow _
        have hO : Owns w3 B v' (L ++ [⟨s.extract k j, 0⟩]) := by
          show World.ownsRow _ _ _ _ _ _ _
          rw [flatC_append, List.length_append]
          exact hown'
        have hb3 : Below B w w3 := ((Below.refl B w).alloc hB _).grown hgrow (by simp; omega) (fun k hk => (HOWN.out.lt k hk).1)
        obtain ⟨al', cap', hv', _⟩ := own_cells hown'
        subst hv'
        have HO : Hid (Owns w3 B (.slice al' (L.length + 1) cap') (L ++ [⟨s.extract k j, 0⟩])) := hO
        clear hO hown' hgrow

        have h40 : s[j] ≠ 40 := by intro h; have := HST.out; unfold stand at this; rw [HGJ.out, h] at this; cases this
        have h40i : ((s[j].toNat : Int) != 40) = true := by
          simp only [bne_iff_ne, ne_eq]
          intro e
          exact h40 (UInt8.toNat_inj.1 (by show s[j].toNat = 40; omega))
        have h40n : ¬ (s[j].toNat : Int) = 40 := by simpa using h40i
        clear h40
        go_wp2_with fail
        go_ret3
        exact ⟨⟨_, rfl, HO.out⟩, hb3⟩
    · have hjt : j = to := by rw [← HJ.out]; exact (endw_end (by rw [size_list]; omega)).symm
      subst hjt
      have hji : ¬ (j : Int) < (s.size : Int) := by omega
      have hdi : decide ((j : Int) < (s.size : Int)) = false := decide_eq_false hji
      have hjn : ((j : Int) == (s.size : Int)) = true := by simp; omega
      have hnl : ¬ j < s.size := hjs
      clear HJ HTO hjs
      have hnsz : (s.extract k j).size ≤ 1024 := by rw [ByteArray.size_extract]; omega
      have hnsz0 : 0 < (s.extract k j).size := by rw [ByteArray.size_extract]; have := HJK.out; omega
      have n1 := full_list (s.extract k j) (by omega)
      have n2 := full_isEmpty (s.extract k j) (by omega)
      go_wp2_with (first | (go_at_call 68; refine (hkd _).mono ?_; rintro e w2 ⟨rfl, rfl⟩) | (at_builtin; refine wpList_append_own _ rfl _ _ 23 rfl B 33 i0 (.agg #[.string ⟨#[]⟩, .int .i64 0]) 2 24 Tryd.underlying23 hi hz0 hz1 hz2 rfl (by decide) _ L.length (flatC L) rfl (HOWN.out.alloc _) ⟨w.heap.size, 0, none⟩ 1 1 [.string (s.extract k j), .int .i64 0] rfl rfl ?c1 ?c2 ?c3 ?c4 ?c5 ?_))
      case c1 => exact two_cells _ _ _ _
      case c2 => intro u hu; simp at hu; rcases hu with rfl | rfl <;> rfl
      case c3 => unfold maxLen; omega
      case c4 => omega
      case c5 => simp; omega
      intro v' w3 hown' hgrow _
      have hO : Owns w3 B v' (L ++ [⟨s.extract k j, 0⟩]) := by
        show World.ownsRow _ _ _ _ _ _ _
        rw [flatC_append, List.length_append]
        exact hown'
      have hb3 : Below B w w3 := ((Below.refl B w).alloc hB _).grown hgrow (by simp; omega) (fun k hk => (HOWN.out.lt k hk).1)
      obtain ⟨al', cap', hv', _⟩ := own_cells hown'
      subst hv'
      have HO : Hid (Owns w3 B (.slice al' (L.length + 1) cap') (L ++ [⟨s.extract k j, 0⟩])) := hO
      clear hO hown' hgrow

      go_wp2_with fail
      go_ret3
      exact ⟨⟨_, rfl, HO.out⟩, hb3⟩

set_option maxHeartbeats 4000000 in
theorem rRead_var (s : ByteArray) (hs : s.size ≤ 1024) (B : Nat) (w : World) (k : Nat) (v : Value) (L : List Cl) (hB : B ≤ w.heap.size) (hown : Owns w B v L) (hk : k ≤ s.size) (hL : L.length ≤ 63) (to : Nat) (hto : endw s.data.toList k = to) (hkt : k ≠ to) (hkd : ∀ w, Calls Tryd.prog 68 #[.string (s.extract k to)] w fun e w' => e = .returned (.int .i64 2) ∧ w = w') (hst : stand s to 40 = true) :
    Calls Tryd.prog 74 #[.string s, .int .i64 (k : Nat), v] w fun x w' => x = .returned (.tuple #[.slice none 0 0, .int .i64 (to : Nat), .int .i64 5]) ∧ Below B w w' := by
  obtain ⟨al, capv, hvv, _⟩ := own_cells hown
  subst hvv
  have hge := endw_ge s.data.toList k
  have hle := endw_le s.data.toList k (by rw [size_list]; exact hk)
  rw [size_list] at hle
  obtain ⟨i0, hi, hz0, hz1, hz2⟩ := info_parts info59
  rw [hto] at hge hle
  have HTO : Hid (endw s.data.toList k = to) := hto
  have HJK : Hid (k < to) := by show k < to; omega
  have HOWN : Hid (Owns w B (.slice al L.length capv) L) := hown
  have l1 : ((L.length : Int) == 64) = false := by simp only [beq_eq_false_iff_ne]; omega
  have l2 : ¬ (L.length : Int) = 64 := by omega
  have HST : Hid (stand s to 40 = true) := hst
  clear hto hown hkt hst
  go_enter Tryd.func74, Tryd.ntmps74
  go_wp2_with fail
  go_loop [9] (fun i => ∃ j : Nat, k ≤ j ∧ j ≤ to ∧ Hid (endw s.data.toList j = to) ∧ i = .int .i64 j) (fun i => s.size - (intOf i).toNat)
  case atStart => exact ⟨k, Nat.le_refl _, hge, HTO, rfl⟩
  case round =>
    obtain ⟨j, hj1, hj2, HJ, rfl⟩ := hrel
    by_cases hjs : j < s.size
    · have hji : (j : Int) < (s.size : Int) := by omega
      have HGJ : Hid (s.data.toList[j]? = some s[j]) := get_data s j hjs
      by_cases hS : isS s[j] = true
      · have HJ2 : Hid (endw s.data.toList (j + 1) = to) := by show _ = _; rw [← endw_hit HGJ.out hS]; exact HJ.out
        have hj3 : j + 1 ≤ to := by rw [← HJ2.out]; exact endw_ge _ _
        have hcall := rSign_any s[j]
        rw [hS] at hcall
        clear HJ HGJ hS
        go_wp2_with (go_at_call 93; refine (hcall _).mono ?_; rintro e w1 ⟨rfl, rfl⟩)
        go_wp2_with fail
        go_round
        case rel => exact ⟨j + 1, by omega, hj3, HJ2, by go_num⟩
        case measure => simp [intOf]; omega
      · have hS' : isS s[j] = false := by simpa using hS
        have hjt : j = to := by rw [← HJ.out]; exact (endw_miss HGJ.out hS').symm
        subst hjt
        have hcall := rSign_any s[j]
        rw [hS'] at hcall
        clear HJ hS hS' HTO
        have hjn : ((j : Int) == (s.size : Int)) = false := by simp only [beq_eq_false_iff_ne]; omega
        have hjm : ¬ (j : Int) = (s.size : Int) := by omega
        have hnsz : (s.extract k j).size ≤ 1024 := by rw [ByteArray.size_extract]; omega
        have hnsz0 : 0 < (s.extract k j).size := by rw [ByteArray.size_extract]; have := HJK.out; omega
        have n1 := full_list (s.extract k j) (by omega)
        have n2 := full_isEmpty (s.extract k j) (by omega)
        go_wp2_with (first | (go_at_call 93; refine (hcall _).mono ?_; rintro e w1 ⟨rfl, rfl⟩) | (go_at_call 68; refine (hkd _).mono ?_; rintro e w2 ⟨rfl, rfl⟩) | (at_builtin; refine wpList_append_own _ rfl _ _ 23 rfl B 33 i0 (.agg #[.string ⟨#[]⟩, .int .i64 0]) 2 24 Tryd.underlying23 hi hz0 hz1 hz2 rfl (by decide) _ L.length (flatC L) rfl (HOWN.out.alloc _) ⟨w.heap.size, 0, none⟩ 1 1 [.string (s.extract k j), .int .i64 0] rfl rfl ?c1 ?c2 ?c3 ?c4 ?c5 ?_))
        case c1 => exact two_cells _ _ _ _
        case c2 => intro u hu; simp at hu; rcases hu with rfl | rfl <;> rfl
        case c3 => unfold maxLen; omega
        case c4 => omega
        case c5 => simp; omega
        intro v' w3 hown' hgrow _
        have hO : Owns w3 B v' (L ++ [⟨s.extract k j, 0⟩]) := by
          show World.ownsRow _ _ _ _ _ _ _
          rw [flatC_append, List.length_append]
          exact hown'
        have hb3 : Below B w w3 := ((Below.refl B w).alloc hB _).grown hgrow (by simp; omega) (fun k hk => (HOWN.out.lt k hk).1)
        obtain ⟨al', cap', hv', _⟩ := own_cells hown'
        subst hv'
        have HO : Hid (Owns w3 B (.slice al' (L.length + 1) cap') (L ++ [⟨s.extract k j, 0⟩])) := hO
        clear hO hown' hgrow

        have h40i : (s[j].toNat : Int) = 40 := by
          have h := HST.out
          unfold stand at h
          rw [HGJ.out] at h
          have h2 : s[j] = 40 := by simpa using h
          rw [h2]; rfl
        go_wp2_with fail
        go_ret3
        exact ⟨rfl, hb3⟩
    · have hjt : j = to := by rw [← HJ.out]; exact (endw_end (by rw [size_list]; omega)).symm
      subst hjt
      have hji : ¬ (j : Int) < (s.size : Int) := by omega
      have hdi : decide ((j : Int) < (s.size : Int)) = false := decide_eq_false hji
      have hjn : ((j : Int) == (s.size : Int)) = true := by simp; omega
      have hnl : ¬ j < s.size := hjs
      clear HJ HTO hjs
      have h := HST.out
      unfold stand at h
      rw [List.getElem?_eq_none (by rw [size_list]; omega)] at h
      simp at h

end Go.Proofs.YtjpmlnigjbdnnaaDoor
