/-
  What the document's Vars answers; that two lists of texts that hold the same are told as alike; what the program's Depth answers.
-/
import Derived.Test.YtjpmlnigjbdnnaaDoorVars
import Derived.Deep.QuietTactic
import Derived.BigQuiet
namespace Go.Proofs.YtjpmlnigjbdnnaaDoor
open Go.RowKit
set_option linter.unusedVariables false
set_option maxRecDepth 100000
set_option linter.unusedSimpArgs false

set_option maxHeartbeats 2000000 in
theorem rVars_ok (w : World) (v : Value) (L : List Cl) (hv : Lies w v L) (hE : check L = 0) :
    Calls Tryd.prog 38 #[v] w fun e w' => ∃ v', e = .returned v' ∧ OwnsS w' w.heap.size v' (varsOf L) ∧ Below w.heap.size w w' := by
  obtain ⟨h64, hcE, _⟩ := check_zero hE
  obtain ⟨i0, hi, hz0, hz1, hz2⟩ := info_parts info9
  have HNM : Hid (∀ c ∈ L, c.nm.size ≤ 8) := fun c hc => (name_len (cellsErr_zero.1 hcE c hc)).2
  obtain ⟨a, cap, rfl, hc1, hc2, hF, HC0⟩ := hv
  have HC : Hid (CellsAt w a L) := HC0
  obtain ⟨T, hT⟩ : ∃ T, varsOf L = T := ⟨_, rfl⟩
  have HT : Hid (varsOf L = T) := hT
  rw [hT]
  clear hE hcE HC0 hT
  go_enter Tryd.func38, Tryd.ntmps38
  go_wp2_with fail
  go_loopw [3, 7] (fun kv i wr => ∃ k : Nat, k ≤ L.length ∧ i = .int .i64 k ∧ OwnsS wr w.heap.size kv (varsOf (L.take k)) ∧ Below w.heap.size w wr) (fun _ i _ => L.length - (intOf i).toNat)
  case atStart => exact ⟨0, Nat.zero_le _, rfl, World.ownsRow_nil _ _ _ _, Below.refl _ _⟩
  case round =>
    obtain ⟨k, hk, rfl, hO, hbr⟩ := hrel
    have hvl := varsOf_len L k
    obtain ⟨ka, kc, hkv, _⟩ := own_cells hO
    subst hkv
    by_cases hlt : k < L.length
    · obtain ⟨c, hc⟩ : ∃ c, L[k]? = some c := ⟨L[k], List.getElem?_eq_getElem hlt⟩
      obtain ⟨b, off, rfl, d1, d2⟩ := cell_at HC.out hbr hc
      have hcn := HNM.out c (List.mem_of_getElem? hc)
      have hki : (k : Int) < (L.length : Int) := by omega
      have HN : Hid (varsOf (L.take (k + 1)) = varStep (varsOf (L.take k)) c) := vars_next hc
      have hkd := fun w => rKind_any c.nm w (by unfold maxLen; omega)
      obtain ⟨nm, ar⟩ := c
      simp only at d1 d2 hcn hkd
      have hbs := hbr.size
      have HOA : Hid (OwnsS wr w.heap.size (.slice ka (varsOf (L.take k)).length kc) (varsOf (L.take k))) := hO
      have hcon := has_any _ _ _ nm (OwnsS.lies HOA.out)
      clear hc hO
      generalize varsOf (L.take k) = S at HN HOA hcon hvl ⊢
      unfold varStep at HN
      generalize kind nm.data.toList = q at hkd HN
      by_cases hq : q = 2
      · subst hq
        by_cases hm : inS nm S = true
        · have HN2 : Hid (varsOf (L.take (k + 1)) = S) := by show _ = _; rw [HN.out, if_neg (by simp [hm])]
          rw [hm] at hcon
          clear HN hm
          go_wp2_with (first | (go_at_call 68; refine (hkd _).mono ?_; rintro e w2 ⟨rfl, rfl⟩) | (go_at_call 39; refine hcon.mono ?_; rintro e w3 ⟨rfl, rfl⟩))
          go_roundw
          case rel => exact ⟨k + 1, by omega, by go_num, by rw [HN2.out]; exact HOA.out, hbr⟩
          case measure => simp [intOf]; omega
        · have HN2 : Hid (varsOf (L.take (k + 1)) = S ++ [nm]) := by show _ = _; rw [HN.out, if_pos (by simp [hm])]
          rw [show inS nm S = false by simpa using hm] at hcon
          clear HN hm
          go_wp2_with (first | (go_at_call 68; refine (hkd _).mono ?_; rintro e w2 ⟨rfl, rfl⟩) | (go_at_call 39; refine hcon.mono ?_; rintro e w3 ⟨rfl, rfl⟩; have hrow4 : wr.ownsRow w.heap.size 9 1 _ S.length (S.map Value.string) := HOA.out) | (at_builtin; refine wpList_append_own _ rfl _ _ 58 rfl w.heap.size 9 i0 (.string ⟨#[]⟩) 1 16 Tryd.underlying58 hi hz0 hz1 hz2 rfl (by decide) _ S.length (S.map Value.string) rfl (hrow4.alloc _) ⟨wr.heap.size, 0, none⟩ 1 1 [.string nm] rfl rfl ?c1 ?c2 ?c3 ?c4 ?c5 ?_))
          case c1 => exact one_cell wr _ _
          case c2 => intro u hu; simp at hu; subst hu; rfl
          case c3 => unfold maxLen; omega
          case c4 => omega
          case c5 => simp; omega
          intro v' w6 hown' hgrow _
          have hOS : OwnsS w6 w.heap.size v' (S ++ [nm]) := ownS_more (w := w6) hown'
          have hb6 : Below w.heap.size w w6 := (hbr.alloc hbs _).grown hgrow (by simp; omega) (fun k hk => (hrow4.lt k hk).1)
          clear hown' hgrow hrow4
          go_wp2_with fail
          go_roundw
          case rel => exact ⟨k + 1, by omega, by go_num, by rw [HN2.out]; exact hOS, hb6⟩
          case measure => simp [intOf]; omega
      · have HN2 : Hid (varsOf (L.take (k + 1)) = S) := by show _ = _; rw [HN.out, if_neg (by simp [hq])]
        have q1 : ((q : Int) == 2) = false := by simp only [beq_eq_false_iff_ne]; omega
        have q2 : ¬ (q : Int) = 2 := by omega
        clear HN hq
        go_wp2_with (first | (go_at_call 68; refine (hkd _).mono ?_; rintro e w2 ⟨rfl, rfl⟩))
        go_roundw
        case rel => exact ⟨k + 1, by omega, by go_num, by rw [HN2.out]; exact HOA.out, hbr⟩
        case measure => simp [intOf]; omega
    · have hki : ¬ (k : Int) < (L.length : Int) := by omega
      have HX : Hid (varsOf (L.take k) = T) := by show _ = _; rw [List.take_of_length_le (by omega)]; exact HT.out
      go_wp2_with fail
      go_ret
      exact ⟨_, rfl, by rw [← HX.out]; exact hO, hbr⟩

theorem dep_le : ∀ f : Fo, f.dep ≤ f.size
  | .nil => Nat.le_refl _
  | .cons _ k r => by have := dep_le k; have := dep_le r; simp only [Fo.dep, Fo.size]; omega
end Go.Proofs.YtjpmlnigjbdnnaaDoor
