/-
  What the document's Read answers where arguments are read.
-/
import Derived.Test.YtjpmlnigjbdnnaaDoorRefA
namespace Go.Proofs.YtjpmlnigjbdnnaaDoor
open Go.RowKit
set_option linter.unusedVariables false
set_option maxRecDepth 100000
set_option linter.unusedSimpArgs false

set_option maxHeartbeats 4000000 in
theorem rRead_args {q : Nat} (s : ByteArray) (hs : s.size ≤ 1024) (B : Nat) (w : World) (k : Nat) (v : Value) (L : List Cl) (hB : B ≤ w.heap.size) (hown : Owns w B v L) (hk : k ≤ s.size) (hL : L.length ≤ 63) (to : Nat) (hto : endw s.data.toList k = to) (hkt : k ≠ to) (hkd : ∀ w, Calls Tryd.prog 68 #[.string (s.extract k to)] w fun e w' => e = .returned (.int .i64 (q : Nat)) ∧ w = w') (hq : q ≠ 0) (hq2 : q ≠ 2) (hst : stand s to 40 = true) (f : Nat) (hf : 65 ≤ f + 1 + L.length) (RES : R) (HR : Hid (RES = args (rd s f) s.data.toList L.length 4 to (L ++ [⟨s.extract k to, 0⟩])))
    (HIH : Hid (∀ (w : World) (k : Nat) (v : Value) (L : List Cl), B ≤ w.heap.size → Owns w B v L → k ≤ s.size → L.length ≤ 64 → 65 ≤ f + L.length → Calls Tryd.prog 74 #[.string s, .int .i64 (k : Nat), v] w fun x w' => Told B (rd s f k L) x w' ∧ Below B w w')) :
    Calls Tryd.prog 74 #[.string s, .int .i64 (k : Nat), v] w fun x w' => Told B RES x w' ∧ Below B w w' := by
  obtain ⟨al, capv, hvv, _⟩ := own_cells hown
  subst hvv
  have hge := endw_ge s.data.toList k
  have hle := endw_le s.data.toList k (by rw [size_list]; exact hk)
  rw [size_list] at hle
  obtain ⟨i0, hi, hz0, hz1, hz2⟩ := info_parts info59
  rw [hto] at hge hle
  have HTO : Hid (endw s.data.toList k = to) := hto
  have HJK : Hid (k < to) := by show k < to; omega
  have HOWN : Hid (Owns w B (.slice al L.length capv) L) := hown
  have l1 : ((L.length : Int) == 64) = false := by simp only [beq_eq_false_iff_ne]; omega
  have l2 : ¬ (L.length : Int) = 64 := by omega
  have q1 : ((q : Int) == 0) = false := by simp only [beq_eq_false_iff_ne]; omega
  have q2 : ¬ (q : Int) = 0 := by omega
  have HST : Hid (stand s to 40 = true) := hst
  have q3 : ((q : Int) == 2) = false := by simp only [beq_eq_false_iff_ne]; omega
  have q4 : ¬ (q : Int) = 2 := by omega
  clear hto hown hkt hst hq hq2
  go_enter Tryd.func74, Tryd.ntmps74
  go_wp2_with fail
  go_loop [9] (fun i => ∃ j : Nat, k ≤ j ∧ j ≤ to ∧ Hid (endw s.data.toList j = to) ∧ i = .int .i64 j) (fun i => s.size - (intOf i).toNat)
  case atStart => exact ⟨k, Nat.le_refl _, hge, HTO, rfl⟩
  case round =>
    obtain ⟨j, hj1, hj2, HJ, rfl⟩ := hrel
    by_cases hjs : j < s.size
    · have hji : (j : Int) < (s.size : Int) := by omega
      have HGJ : Hid (s.data.toList[j]? = some s[j]) := get_data s j hjs
      by_cases hS : isS s[j] = true
      · have HJ2 : Hid (endw s.data.toList (j + 1) = to) := by show _ = _; rw [← endw_hit HGJ.out hS]; exact HJ.out
        have hj3 : j + 1 ≤ to := by rw [← HJ2.out]; exact endw_ge _ _
        have hcall := rSign_any s[j]
        rw [hS] at hcall
        clear HJ HGJ hS
        go_wp2_with (go_at_call 93; refine (hcall _).mono ?_; rintro e w1 ⟨rfl, rfl⟩)
        go_wp2_with fail
        go_round
        case rel => exact ⟨j + 1, by omega, hj3, HJ2, by go_num⟩
        case measure => simp [intOf]; omega
      · have hS' : isS s[j] = false := by simpa using hS
        have hjt : j = to := by rw [← HJ.out]; exact (endw_miss HGJ.out hS').symm
        subst hjt
        have hcall := rSign_any s[j]
        rw [hS'] at hcall
        clear HJ hS hS' HTO
        have hjn : ((j : Int) == (s.size : Int)) = false := by simp only [beq_eq_false_iff_ne]; omega
        have hjm : ¬ (j : Int) = (s.size : Int) := by omega
        have hnsz : (s.extract k j).size ≤ 1024 := by rw [ByteArray.size_extract]; omega
        have hnsz0 : 0 < (s.extract k j).size := by rw [ByteArray.size_extract]; have := HJK.out; omega
        have n1 := full_list (s.extract k j) (by omega)
        have n2 := full_isEmpty (s.extract k j) (by omega)
        go_wp2_with (first | (go_at_call 93; refine (hcall _).mono ?_; rintro e w1 ⟨rfl, rfl⟩) | (go_at_call 68; refine (hkd _).mono ?_; rintro e w2 ⟨rfl, rfl⟩) | (at_builtin; refine wpList_append_own _ rfl _ _ 23 rfl B 33 i0 (.agg #[.string ⟨#[]⟩, .int .i64 0]) 2 24 Tryd.underlying23 hi hz0 hz1 hz2 rfl (by decide) _ L.length (flatC L) rfl (HOWN.out.alloc _) ⟨w.heap.size, 0, none⟩ 1 1 [.string (s.extract k j), .int .i64 0] rfl rfl ?c1 ?c2 ?c3 ?c4 ?c5 ?_))
        case c1 => exact two_cells _ _ _ _
        case c2 => intro u hu; simp at hu; rcases hu with rfl | rfl <;> rfl
        case c3 => unfold maxLen; omega
        case c4 => omega
        case c5 => simp; omega
        intro v' w3 hown' hgrow _
        have hO : Owns w3 B v' (L ++ [⟨s.extract k j, 0⟩]) := by
          show World.ownsRow _ _ _ _ _ _ _
          rw [flatC_append, List.length_append]
          exact hown'
        have hb3 : Below B w w3 := ((Below.refl B w).alloc hB _).grown hgrow (by simp; omega) (fun k hk => (HOWN.out.lt k hk).1)
        obtain ⟨al', cap', hv', _⟩ := own_cells hown'
        subst hv'
        have HO : Hid (Owns w3 B (.slice al' (L.length + 1) cap') (L ++ [⟨s.extract k j, 0⟩])) := hO
        clear hO hown' hgrow

        have h40i : (s[j].toNat : Int) = 40 := by
          have h := HST.out
          unfold stand at h
          rw [HGJ.out] at h
          have h2 : s[j] = 40 := by simpa using h
          rw [h2]; rfl
        obtain ⟨nm, hnm⟩ : ∃ nm, s.extract k j = nm := ⟨_, rfl⟩
        rw [hnm] at HR HO
        clear hnm hkd n1 n2 hnsz hnsz0 HJK
        go_wp2_with fail
        clear h40i
        go_loopw [2, 9, 13] (fun hv t n wr => ∃ (m j' : Nat) (X : List Cl), 0 < m ∧ m ≤ 4 ∧ j' < s.size ∧ Owns wr B hv (L ++ ⟨nm, ((4 - m : Nat) : Int)⟩ :: X) ∧ (L ++ (⟨nm, ((4 - m : Nat) : Int)⟩ : Cl) :: X).length ≤ 64 ∧ Below B w wr ∧ Hid (RES = args (rd s f) s.data.toList L.length m j' (L ++ ⟨nm, ((4 - m : Nat) : Int)⟩ :: X)) ∧ t = .int .i64 (j' : Nat) ∧ n = .int .i64 ((5 - m : Nat) : Int)) (fun _ _ n _ => (5 - intOf n).toNat)
        case atStart => exact ⟨4, j, [], by omega, Nat.le_refl _, hjs, HO.out, by simp; omega, hb3, HR, rfl, rfl⟩
        case round =>
          obtain ⟨m, j', X, hm0, hm4, hj', hO', hX, hb', HA, rfl, rfl⟩ := hrel
          clear HO hb3 HR HST HGJ
          obtain ⟨m', rfl⟩ : ∃ m', m = m' + 1 := ⟨m - 1, by omega⟩
          obtain ⟨a, ha⟩ : ∃ a : Nat, 4 - (m' + 1) = a := ⟨_, rfl⟩
          have ha3 : a ≤ 3 := by omega
          have hn5 : 5 - (m' + 1) = a + 1 := by omega
          have HAM : Hid (4 - m' = a + 1 ∧ m' + a = 3) := ⟨by omega, by omega⟩
          rw [ha] at hO' hX HA
          rw [hn5]
          have HA2 : Hid (RES = match rd s f (j' + 1) (L ++ ⟨nm, (a : Int)⟩ :: X) with
              | .bad j e => .bad j e
              | .ok M j => match behindArg s j ((a + 1 : Nat) : Int) with
                | some e => .bad j e
                | none => if stand s j 41 then .ok (setA M L.length ((a + 1 : Nat) : Int)) (j + 1) else args (rd s f) s.data.toList L.length m' j (setA M L.length ((a + 1 : Nat) : Int))) := by
            show _ = _
            rw [HA.out, args_next, HAM.out.1]
            rfl
          have hfl : 65 ≤ f + (L ++ (⟨nm, (a : Int)⟩ : Cl) :: X).length := by simp; omega
          have hcall3 := HIH.out wr (j' + 1) _ _ (Nat.le_trans hB (Nat.le_trans hb'.size (Nat.le_refl _))) hO' (by omega) hX hfl
          rw [show ((j' + 1 : Nat) : Int) = (j' : Int) + 1 from rfl] at hcall3
          have HGOT : Hid (∀ M j1, rd s f (j' + 1) (L ++ ⟨nm, (a : Int)⟩ :: X) = .ok M j1 → ∃ t, Got s.data.toList (j' + 1) (L ++ ⟨nm, (a : Int)⟩ :: X) M j1 t) :=
            fun M j1 h1 => rd_ok s f _ _ _ _ h1 (by rw [size_list]; omega) hX
          have HBAD : Hid (∀ j1 e1, rd s f (j' + 1) (L ++ ⟨nm, (a : Int)⟩ :: X) = .bad j1 e1 → 0 < e1) :=
            fun j1 e1 h1 => (rd_bad s f _ _ _ _ h1 (by rw [size_list]; omega) hX).2.1
          obtain ⟨avv, acv, hvv, _⟩ := own_cells hO'
          subst hvv
          rw [show (L ++ (⟨nm, (a : Int)⟩ : Cl) :: X).length = L.length + (X.length + 1) by simp] at hcall3
          have a1 : ∀ b : Bool, (((a + 1 : Nat) : Int) == 4) = b → ((a : Int) + 1 == 4) = b := fun b h => by rw [← h]; congr 1
          clear HA ha hn5 hm0 hm4 HIH hfl hX
          cases hrd : rd s f (j' + 1) (L ++ ⟨nm, (a : Int)⟩ :: X) with
          | bad j1 e1 =>
            have HA3 : Hid (RES = .bad j1 e1) := by show _ = _; rw [HA2.out, hrd]
            have he1 := HBAD.out j1 e1 hrd
            have he2 : ((e1 : Int) == 0) = false := by simp only [beq_eq_false_iff_ne]; omega
            have he3 : ¬ (e1 : Int) = 0 := by omega
            rw [hrd] at hcall3
            have hcall2 : Calls Tryd.prog 74 _ wr fun x w' => x = .returned (.tuple #[.slice none 0 0, .int .i64 (j1 : Nat), .int .i64 (e1 : Nat)]) ∧ Below B wr w' := hcall3
            clear HA2 HGOT HBAD hcall3 hrd hO' a1
            go_wp2_with (go_at_call 74; refine hcall2.mono ?_; rintro x w8 ⟨rfl, hb8⟩)
            go_ret3
            exact ⟨by rw [HA3.out]; rfl, hb'.trans hb8⟩
          | ok M1 j1 =>
            obtain ⟨t, G⟩ := HGOT.out M1 j1 hrd
            have HM1 : Hid (M1 = L ++ ⟨nm, (a : Int)⟩ :: (X ++ t.flat)) := by show _ = _; rw [G.cells]; simp
            have HML : Hid (M1[L.length]? = some ⟨nm, (a : Int)⟩) := by show _ = _; rw [HM1.out]; simp
            have hML : L.length < M1.length := by rw [HM1.out]; simp
            have hMi : (L.length : Int) < (M1.length : Int) := by omega
            have hM64 := G.small
            have hj1 := G.le
            rw [size_list] at hj1
            have HA3 : Hid (RES = match behindArg s j1 ((a + 1 : Nat) : Int) with
                | some e => .bad j1 e
                | none => if stand s j1 41 then .ok (setA M1 L.length ((a + 1 : Nat) : Int)) (j1 + 1) else args (rd s f) s.data.toList L.length m' j1 (setA M1 L.length ((a + 1 : Nat) : Int))) := by
              show _ = _; rw [HA2.out, hrd]
            have HSET : Hid (setA M1 L.length ((a + 1 : Nat) : Int) = L ++ ⟨nm, ((4 - m' : Nat) : Int)⟩ :: (X ++ t.flat)) := by show _ = _; rw [HM1.out, setA_at, HAM.out.1]
            rw [hrd] at hcall3
            have hcall2 : Calls Tryd.prog 74 _ wr fun x w' => (∃ v, x = .returned (.tuple #[v, .int .i64 (j1 : Nat), .int .i64 0]) ∧ Owns w' B v M1) ∧ Below B wr w' := hcall3
            clear HA2 HGOT HBAD hcall3 hrd G hO'
            by_cases hjs1 : j1 < s.size
            · have hji1 : (j1 : Int) < (s.size : Int) := by omega
              have hje1 : ((j1 : Int) == (s.size : Int)) = false := by simp only [beq_eq_false_iff_ne]; omega
              have hjn1 : ¬ (j1 : Int) = (s.size : Int) := by omega
              have HG1 : Hid (s.data.toList[j1]? = some s[j1]) := get_data s j1 hjs1
              by_cases h41 : s[j1] = 41
              · have h41i : (s[j1].toNat : Int) = 41 := by rw [h41]; rfl
                have hst : stand s j1 41 = true := by unfold stand; rw [HG1.out, h41]; decide
                have HA4 : Hid (RES = .ok (setA M1 L.length ((a + 1 : Nat) : Int)) (j1 + 1)) := by
                  have hba : behindArg s j1 ((a + 1 : Nat) : Int) = none := by unfold behindArg; rw [if_pos hst]
                  show _ = _; rw [HA3.out, hba]; simp only [hst, if_true]
                clear HA3 h41 hst a1
                go_wp2_with (go_at_call 74; refine hcall2.mono ?_; rintro x w8 ⟨⟨v1, rfl, hO8⟩, hb8⟩; obtain ⟨g1, cp1, hv1, hbg1, hgl1, hcp1, d1, d2, d3⟩ := own_at hO8 HML.out; subst hv1; have HO9 : Hid _ := own_setA hO8 L.length ((a + 1 : Nat) : Int); have hb9 := (hb'.trans hb8).setCell (p := ⟨g1, L.length * 2 + 1, none⟩) hbg1 (.int .i64 ((a + 1 : Nat) : Int)); clear hO8 hb8)
                go_ret3
                exact ⟨by rw [HA4.out]; exact ⟨.slice (some ⟨g1, 0, none⟩) M1.length cp1, rfl, HO9.out⟩, hb9⟩
              · have h41i : ((s[j1].toNat : Int) == 41) = false := by
                  simp only [beq_eq_false_iff_ne]
                  intro e
                  exact h41 (UInt8.toNat_inj.1 (by show s[j1].toNat = 41; omega))
                have h41n : ¬ (s[j1].toNat : Int) = 41 := by simpa using h41i
                have hst : stand s j1 41 = false := by unfold stand; rw [HG1.out]; simpa using h41
                by_cases h44 : s[j1] = 44
                · have h44i : (s[j1].toNat : Int) = 44 := by rw [h44]; rfl
                  have hst4 : stand s j1 44 = true := by unfold stand; rw [HG1.out, h44]; decide
                  by_cases ha4 : a = 3
                  · have HA4 : Hid (RES = .bad j1 5) := by
                      have hba : behindArg s j1 ((a + 1 : Nat) : Int) = some 5 := by unfold behindArg; simp [hst, hst4, ha4]
                      show _ = _; rw [HA3.out, hba]
                    have ha5 : (((a + 1 : Nat) : Int) == 4) = true := by simp; omega
                    have ha6 := a1 _ ha5
                    clear HA3 h41 h44 hst hst4 ha4 a1 h41n
                    go_wp2_with (go_at_call 74; refine hcall2.mono ?_; rintro x w8 ⟨⟨v1, rfl, hO8⟩, hb8⟩; obtain ⟨g1, cp1, hv1, hbg1, hgl1, hcp1, d1, d2, d3⟩ := own_at hO8 HML.out; subst hv1; have HO9 : Hid _ := own_setA hO8 L.length ((a + 1 : Nat) : Int); have hb9 := (hb'.trans hb8).setCell (p := ⟨g1, L.length * 2 + 1, none⟩) hbg1 (.int .i64 ((a + 1 : Nat) : Int)); clear hO8 hb8)
                    go_ret3
                    exact ⟨by rw [HA4.out]; rfl, hb9⟩
                  · have hba : behindArg s j1 ((a + 1 : Nat) : Int) = none := by unfold behindArg; simp [hst, hst4]; omega
                    have HA4 : Hid (RES = args (rd s f) s.data.toList L.length m' j1 (setA M1 L.length ((a + 1 : Nat) : Int))) := by
                      show _ = _; rw [HA3.out, hba]; simp [hst]
                    have ha5 : (((a + 1 : Nat) : Int) == 4) = false := by simp only [beq_eq_false_iff_ne]; omega
                    have ha6 := a1 _ ha5
                    have ha7 : ¬ (a : Int) + 1 = 4 := by omega
                    have HN3 : Hid (a ≠ 3) := ha4
                    clear HA3 h41 h44 hst hst4 hba a1 ha4 ha7
                    set_option maxRecDepth 20000 in go_wp2_with (go_at_call 74; refine hcall2.mono ?_; rintro x w8 ⟨⟨v1, rfl, hO8⟩, hb8⟩; obtain ⟨g1, cp1, hv1, hbg1, hgl1, hcp1, d1, d2, d3⟩ := own_at hO8 HML.out; subst hv1; have HO9 : Hid _ := own_setA hO8 L.length ((a + 1 : Nat) : Int); have hb9 := (hb'.trans hb8).setCell (p := ⟨g1, L.length * 2 + 1, none⟩) hbg1 (.int .i64 ((a + 1 : Nat) : Int)); clear hO8 hb8)
                    go_roundw
                    case rel =>
                      have hO10 := HO9.out
                      rw [HSET.out] at hO10 HA4
                      have hlen : (L ++ (⟨nm, ((4 - m' : Nat) : Int)⟩ : Cl) :: (X ++ t.flat)).length ≤ 64 := by rw [HM1.out] at hM64; simpa using hM64
                      have := HAM.out
                      have := HN3.out
                      exact ⟨m', j1, X ++ t.flat, by omega, by omega, hjs1, hO10, hlen, hb9, HA4, rfl, by rw [show 5 - m' = a + 1 + 1 by omega]; go_num⟩
                    case measure => simp [intOf]; omega
                · have h44i : ((s[j1].toNat : Int) != 44) = true := by
                    simp only [bne_iff_ne, ne_eq]
                    intro e
                    exact h44 (UInt8.toNat_inj.1 (by show s[j1].toNat = 44; omega))
                  have h44n : ¬ (s[j1].toNat : Int) = 44 := by simpa using h44i
                  have hst4 : stand s j1 44 = false := by unfold stand; rw [HG1.out]; simpa using h44
                  have HA4 : Hid (RES = .bad j1 3) := by
                    have hba : behindArg s j1 ((a + 1 : Nat) : Int) = some 3 := by unfold behindArg; rw [hst, hst4]; rfl
                    show _ = _; rw [HA3.out, hba]
                  clear HA3 h41 h44 hst hst4 a1
                  go_wp2_with (go_at_call 74; refine hcall2.mono ?_; rintro x w8 ⟨⟨v1, rfl, hO8⟩, hb8⟩; obtain ⟨g1, cp1, hv1, hbg1, hgl1, hcp1, d1, d2, d3⟩ := own_at hO8 HML.out; subst hv1; have HO9 : Hid _ := own_setA hO8 L.length ((a + 1 : Nat) : Int); have hb9 := (hb'.trans hb8).setCell (p := ⟨g1, L.length * 2 + 1, none⟩) hbg1 (.int .i64 ((a + 1 : Nat) : Int)); clear hO8 hb8)
                  go_ret3
                  exact ⟨by rw [HA4.out]; rfl, hb9⟩
            · have hji1 : ¬ (j1 : Int) < (s.size : Int) := by omega
              have hjd1 : decide ((j1 : Int) < (s.size : Int)) = false := decide_eq_false hji1
              have hje1 : ((j1 : Int) == (s.size : Int)) = true := by simp; omega
              have hno : ∀ c, stand s j1 c = false := by intro c; unfold stand; rw [List.getElem?_eq_none (by rw [size_list]; omega)]; simp
              have HA4 : Hid (RES = .bad j1 3) := by
                have hba : behindArg s j1 ((a + 1 : Nat) : Int) = some 3 := by unfold behindArg; rw [hno, hno]; rfl
                show _ = _; rw [HA3.out, hba]
              clear HA3 hno a1 hjs1
              go_wp2_with (go_at_call 74; refine hcall2.mono ?_; rintro x w8 ⟨⟨v1, rfl, hO8⟩, hb8⟩; obtain ⟨g1, cp1, hv1, hbg1, hgl1, hcp1, d1, d2, d3⟩ := own_at hO8 HML.out; subst hv1; have HO9 : Hid _ := own_setA hO8 L.length ((a + 1 : Nat) : Int); have hb9 := (hb'.trans hb8).setCell (p := ⟨g1, L.length * 2 + 1, none⟩) hbg1 (.int .i64 ((a + 1 : Nat) : Int)); clear hO8 hb8)
              go_ret3
              exact ⟨by rw [HA4.out]; rfl, hb9⟩
    · have hjt : j = to := by rw [← HJ.out]; exact (endw_end (by rw [size_list]; omega)).symm
      subst hjt
      have hji : ¬ (j : Int) < (s.size : Int) := by omega
      have hdi : decide ((j : Int) < (s.size : Int)) = false := decide_eq_false hji
      have hjn : ((j : Int) == (s.size : Int)) = true := by simp; omega
      have hnl : ¬ j < s.size := hjs
      clear HJ HTO hjs
      have h := HST.out
      unfold stand at h
      rw [List.getElem?_eq_none (by rw [size_list]; omega)] at h
      simp at h

end Go.Proofs.YtjpmlnigjbdnnaaDoor
