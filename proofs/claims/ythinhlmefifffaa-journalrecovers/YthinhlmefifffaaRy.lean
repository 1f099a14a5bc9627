/-
  What the document's May answers.
-/
import Derived.Test.YthinhlmefifffaaRn
namespace Go.Proofs.Ythinhlmefifffaa
open Go.RowKit
set_option linter.unusedVariables false
set_option linter.unusedSimpArgs false
set_option maxRecDepth 100000

set_option maxHeartbeats 4000000 in
theorem rMay_any (n : Nat) (h1 : 64 ≤ n) (h2 : n ≤ 2048) (w : World) (S : Nat → Prop) (v : Value) (L : List Pg) (hl : LiesO w S v L) :
    Calls Try.prog 44 #[.int .i64 (n : Nat), v] w fun e w' => e = .returned (.int .i64 (ck n L : Nat)) ∧ Below w.heap.size w w' := by
  obtain ⟨a, c, e1⟩ := hl.form
  subst e1
  have HL := hid hl
  have hlen := hl.len
  unfold maxLen at hlen
  have hpg := rPages_any n h1 h2 w
  have hq := pgs_hi h2
  have hip : ∀ (x : Int) w1, _ := fun x w1 => rPage_any n h1 h2 x w1
  obtain ⟨N, hN⟩ : ∃ N, L.length = N := ⟨_, rfl⟩
  have HN := hid hN
  obtain ⟨e, he⟩ : ∃ e, ck n L = e := ⟨_, rfl⟩
  rw [he]
  have HE := hid he
  rw [hN] at hlen ⊢
  clear hl hN he
  obtain ⟨q, hqq⟩ : ∃ q, pgs n = q := ⟨_, rfl⟩
  rw [hqq] at hpg hq
  have HQ := hid hqq
  clear hqq
  by_cases hm : q < N
  · have hmi : (q : Int) < (N : Int) := by omega
    obtain rfl : 10 = e := by rw [← HE.out]; unfold ck; rw [HQ.out, HN.out, if_pos hm]
    go_enter Try.func44, Try.ntmps44
    go_wp2_with (go_at_call 12; refine hpg.mono ?_; rintro e w1 ⟨rfl, rfl⟩)
    go_ret
    exact ⟨rfl, Below.refl _ _⟩
  have hmi : ¬ (q : Int) < (N : Int) := by omega
  have HC0 : Hid (e = ckL n ((L.take 0).map Pg.pl) (L.drop 0)) := by
    show _ = _
    rw [← HE.out]
    unfold ck
    rw [HQ.out, HN.out, if_neg hm]
    rfl
  clear HE
  go_enter Try.func44, Try.ntmps44
  go_wp2_with (go_at_call 12; refine hpg.mono ?_; clear hpg; rintro e w1 ⟨rfl, rfl⟩)
  go_loopw [14] (fun i wr => ∃ k : Nat, k ≤ N ∧ i = .int .i64 (k : Nat) ∧ Hid (Below w.heap.size w wr) ∧ Hid (e = ckL n ((L.take k).map Pg.pl) (L.drop k))) (fun i _ => N - (intOf i).toNat)
  case atStart => exact ⟨0, Nat.zero_le _, rfl, Below.refl _ _, HC0⟩
  case round =>
    obtain ⟨k, hk, rfl, HB, HC⟩ := hrel
    clear HC0
    by_cases hlt : k < N
    · have hki : (k : Int) < (N : Int) := by omega
      obtain ⟨p, hp⟩ : ∃ p, L[k]? = some p := ⟨_, List.getElem?_eq_getElem (by rw [HN.out]; exact hlt)⟩
      obtain ⟨b, off, hab, hblt, _, cp0, cp1, hpl, hpd⟩ := (HL.out.on HB.out).at hp
      subst hab
      have HC2 : Hid _ := HC.out.trans (ckL_at hp)
      have hip1 := hip p.pl
      obtain ⟨pl, data⟩ := p
      simp only at cp0 cp1 hpl hpd hip1 HC2
      unfold maxLen at hpd
      by_cases g1 : isPg n pl
      · rw [decide_eq_true g1] at hip1
        have HC3 : Hid _ := HC2.out.trans (if_neg (fun h => h g1))
        by_cases g2 : data.size = 256
        · have HC4 : Hid _ := HC3.out.trans (if_neg (fun h => h g2))
          have g2i : ((data.size : Int) != 256) = false := by simp; omega
          clear HC HC2 HC3 g1
          obtain ⟨wb, hwb⟩ : ∃ wb, wb = wr := ⟨_, rfl⟩
          subst hwb
          go_upto_region 11 with (go_at_call 66; refine (hip1 _).mono ?_; clear hip1; rintro e w1 ⟨rfl, rfl⟩)
          go_loopw [6] (fun i wr2 => ∃ j : Nat, j ≤ k ∧ i = .int .i64 (j : Nat) ∧ Hid (pl ∉ (L.take j).map Pg.pl) ∧ Hid (Below wb.heap.size wb wr2)) (fun i _ => k - (intOf i).toNat)
          case atStart => exact ⟨0, Nat.zero_le _, rfl, (by show ¬ _; simp), Below.refl _ _⟩
          case round =>
            obtain ⟨j, hj, rfl, HP, HB2⟩ := hrel
            by_cases hjk : j < k
            · have hji : (j : Int) < (k : Int) := by omega
              have hjn : (j : Int) < (N : Int) := by omega
              obtain ⟨p2, hp2⟩ : ∃ p, L[j]? = some p := ⟨_, List.getElem?_eq_getElem (by rw [HN.out]; omega)⟩
              obtain ⟨b', off', hab, hblt2, _, cq0, _, hpl2, _⟩ := ((HL.out.on HB.out).on HB2.out).at hp2
              cases hab
              have cx0 : wr.cell? ⟨b, off + k * 2, none⟩ = some (.int .i64 pl) := (HB2.out.cell (p := ⟨b, off + k * 2, none⟩) hblt).trans cp0
              obtain ⟨pl2, data2⟩ := p2
              simp only at cq0 hpl2
              have HSN := hid (take_snoc hp2)
              by_cases g3 : pl2 = pl
              · subst g3
                obtain rfl : e = 9 := HC4.out.trans (if_pos (List.mem_map.2 ⟨⟨pl2, data2⟩, List.mem_of_getElem? (show (L.take k)[j]? = some _ by rw [List.getElem?_take, if_pos hjk]; exact hp2), rfl⟩))
                have HB3 := hid (HB.out.trans ((HB2.out.drew).mono HB.out.size))
                clear HC4 HSN hp2 hp HP HL HB HB2 cp0 cp1
                go_wp2_with fail
                go_region
                go_wp2_with fail
                go_ret
                exact ⟨rfl, HB3.out⟩
              · have HP2 : Hid (pl ∉ (L.take (j + 1)).map Pg.pl) := by
                  show ¬ _
                  rw [HSN.out, List.map_append]
                  intro hmm
                  rcases List.mem_append.1 hmm with h | h
                  · exact HP.out h
                  · simp at h
                    exact g3 h.symm
                have HB3 := hid (HB2.out.drew)
                have g3' : (pl2 == pl) = false := by simpa using g3
                clear HC4 HSN hp2 hp HP HL HB HB2 cp0 cp1
                go_wp2_with fail
                go_region
                go_wp2_with fail
                go_roundw
                case rel => exact ⟨j + 1, by omega, by go_num, HP2, HB3⟩
                case measure => simp [intOf]; omega
            · have hji : ¬ (j : Int) < (k : Int) := by omega
              obtain rfl : j = k := by omega
              have HC5 : Hid (e = ckL n ((L.take (j + 1)).map Pg.pl) (L.drop (j + 1))) := HC4.out.trans (if_neg HP.out)
              have HB3 := hid (HB.out.trans (HB2.out.mono HB.out.size))
              clear HC4 hp HP HL HB HB2 cp0 cp1
              go_wp2_with fail
              go_roundw
              case rel => exact ⟨j + 1, by omega, by go_num, HB3, HC5⟩
              case measure => simp [intOf]; omega
        · obtain rfl : e = 3 := HC3.out.trans (if_pos g2)
          have g2i : ((data.size : Int) != 256) = true := by simp; omega
          have g2j : ¬ (data.size : Int) = 256 := by omega
          clear HC HC2 HC3 g1 hp HL
          go_wp2_with (go_at_call 66; refine (hip1 _).mono ?_; clear hip1; rintro e w1 ⟨rfl, rfl⟩)
          go_ret
          exact ⟨rfl, HB.out⟩
      · obtain rfl : e = 1 := HC2.out.trans (if_pos g1)
        rw [decide_eq_false g1] at hip1
        clear HC HC2 g1 hp HL
        go_wp2_with (go_at_call 66; refine (hip1 _).mono ?_; clear hip1; rintro e w1 ⟨rfl, rfl⟩)
        go_ret
        exact ⟨rfl, HB.out⟩
    · have hki : ¬ (k : Int) < (N : Int) := by omega
      obtain rfl : k = N := by omega
      obtain rfl : e = 0 := by
        rw [HC.out, List.drop_eq_nil_of_le (by rw [HN.out]; omega)]
        rfl
      go_wp2_with fail
      go_ret
      exact ⟨rfl, HB.out⟩

end Go.Proofs.Ythinhlmefifffaa
