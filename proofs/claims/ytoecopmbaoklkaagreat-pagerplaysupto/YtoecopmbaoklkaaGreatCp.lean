/-
  What the document's CopyPages answers; whether two lists of pages, of texts, are alike.
-/
import Derived.Test.YtoecopmbaoklkaaGreatCm
import Derived.Test.YtoecopmbaoklkaaGreatRw
import Derived.Laws.StructEq
import Derived.Deep.QuietTactic
import Derived.BigQuiet
namespace Go.Proofs.YtoecopmbaoklkaaGreat
open Go.RowKit
set_option linter.unusedVariables false
set_option linter.unusedSimpArgs false
set_option maxRecDepth 100000

theorem other_texts {s t : ByteArray} (h : ¬ s = t) : (s.toList == t.toList) = false := by
  rw [ByteArray.toList_eq, ByteArray.toList_eq]
  have : s.data.toList ≠ t.data.toList := fun e => h (by rw [← bt_self s, ← bt_self t, e])
  simpa using this
theorem info54 : (Tryz.prog.info? 75).map (fun i => (i.zero, i.size, i.bytes)) = some (some (.agg #[.int .i64 0, .string ⟨#[]⟩]), 2, 24) := by kernel_rfl
theorem lies_flat {w : World} {S : Nat → Prop} {b off n c : Nat} {L : List Pg} (h : LiesO w S (.slice (some ⟨b, off, none⟩) n c) L) : ∀ j x, (flatP L)[j]? = some x → w.cell? ((⟨b, off, none⟩ : Addr).add j) = some x := by
  intro j x hj
  rw [add_plain]
  obtain ⟨k, hk⟩ : ∃ k, j = k * 2 ∨ j = k * 2 + 1 := ⟨j / 2, by omega⟩
  rcases hk with rfl | rfl
  · rw [flatP_even] at hj
    cases hp : L[k]? with
    | none => rw [hp] at hj; cases hj
    | some p =>
      rw [hp] at hj
      obtain ⟨b', off', e, _, _, c0, _⟩ := h.at hp
      cases e
      cases hj
      exact c0
  · rw [flatP_odd] at hj
    cases hp : L[k]? with
    | none => rw [hp] at hj; cases hj
    | some p =>
      rw [hp] at hj
      obtain ⟨b', off', e, _, _, _, c1, _⟩ := h.at hp
      cases e
      cases hj
      rw [← Nat.add_assoc]
      exact c1
theorem append_zero (a : Option Addr) (c : Nat) (ty : TypeId) (w : World) : (Builtin.append_ #[35, 35] ty #[.slice none 0 0, .slice a 0 c]).run Tryz.prog w = .ok (.slice none 0 0) w := by
  obtain ⟨i0, hi, hz0, hz1, hz2⟩ := info_parts info54
  cases a <;> simp [Builtin.append_, run_underlying Tryz.underlying35, sizeOf, typeInfo, hi, Builtin.lenOf, Builtin.firstCells, loadCells, loadCellsFrom]

theorem wpList_append_zero {w : World} {ops : Array Oper} {rest : List Oper} {o : Oper} {a : Act} {Q : Exit → Act → World → Prop} (hgd : o.guard = none) (s x : Operand) (ho : o.op = .call { callee := .builtin .append, args := #[s, x], argTypes := #[35, 35] }) (ad : Option Addr) (c : Nat) (hs : a.eval s = .slice none 0 0) (hx : a.eval x = .slice ad 0 c) (h : wpList Tryz.prog ops Q rest (a.put o.dst (.slice none 0 0)) w) : wpList Tryz.prog ops Q (o :: rest) a w := by
  refine wpList_plain hgd fun K hK => ?_
  unfold Oper.wp execOp
  simp only [ho, resolve, invoke, builtin, Sem.run_bind, Sem.run_pure, Result.andThen_ok, List.map_toArray, List.map_cons, List.map_nil, hs, hx, append_zero]
  exact hK _ _ h

/-- two lists of pages that lie anywhere -/
theorem samePages_lies (w : World) (S S' : Nat → Prop) (u v : Value) (L : List Pg) (hu : LiesO w S u L) (hv : LiesO w S' v L) (hl : L.length ≤ 5864062014635) :
    Calls Tryz.prog 17 #[u, v] w fun e w' => e = .returned (.bool true) ∧ Below w.heap.size w w' := by
  obtain ⟨a, c, e1⟩ := hu.form
  obtain ⟨a', c', e2⟩ := hv.form
  subst e1
  subst e2
  have HU := hid hu
  have HV := hid hv
  obtain ⟨n, hn⟩ : ∃ n, L.length = n := ⟨_, rfl⟩
  have HN := hid hn
  have hl2 := hl
  rw [hn] at hl2
  rw [hn]
  clear hu hv hn hl
  go_enter Tryz.func17, Tryz.ntmps17
  go_wp2_with fail
  go_loopw [13] (fun i wr => ∃ k : Nat, k ≤ n ∧ i = .int .i64 (k : Nat) ∧ Below w.heap.size w wr) (fun i _ => n - (intOf i).toNat)
  case atStart => exact ⟨0, Nat.zero_le _, rfl, Below.refl _ _⟩
  case round =>
    obtain ⟨k, hk, rfl, hb⟩ := hrel
    by_cases hlt : k < n
    · have hki : (k : Int) < (n : Int) := by omega
      obtain ⟨p, hs⟩ : ∃ p, L[k]? = some p := ⟨_, List.getElem?_eq_getElem (by rw [HN.out]; exact hlt)⟩
      obtain ⟨b1, o1, x1, _, _, d1, d2, _⟩ := (HU.out.on hb).at hs
      obtain ⟨b2, o2, x2, _, _, d3, d4, _⟩ := (HV.out.on hb).at hs
      subst x1
      subst x2
      have hEq := neq49 p.data p.pl
      have HB0 : Hid (∀ nq, Below w.heap.size w (wr.drewN nq)) := fun nq => hb.trans ((below_drewN wr nq).mono hb.size)
      clear hs
      go_wp2_with fail
      go_quiet (fail)
      go_wp2_with fail
      go_roundw
      case rel => exact ⟨k + 1, by omega, by go_num, HB0.out _⟩
      case measure => simp [intOf]; omega
    · obtain rfl : k = n := by omega
      go_wp2
      go_ret
      exact ⟨rfl, hb⟩

/-- two lists of texts, of whatever length -/
theorem same_texts_any (w : World) (B B' : Nat) (u v : Value) (L M : List ByteArray) (hu : RowS w B u L) (hv : RowS w B' v M) (hl : L.length ≤ 100000) (hm : M.length ≤ 100000) :
    Calls Tryz.prog 15 #[u, v] w fun e w' => e = .returned (.bool (decide (L = M))) ∧ Below w.heap.size w w' := by
  by_cases he : L = M
  · subst he
    rw [decide_eq_true rfl]
    exact same_self w B B' u v L hu hv hl
  · have hd : decide (L = M) = false := decide_eq_false he
    rw [hd]
    obtain ⟨a, c, e1⟩ := hu.form
    obtain ⟨a', c', e2⟩ := hv.form
    subst e1
    subst e2
    have HU := hid hu
    have HV := hid hv
    obtain ⟨n, hn⟩ : ∃ n, L.length = n := ⟨_, rfl⟩
    have HN := hid hn
    obtain ⟨m, hmm⟩ : ∃ m, M.length = m := ⟨_, rfl⟩
    have HM := hid hmm
    have HE := hid he
    rw [hn] at hl
    rw [hmm] at hm
    rw [hn, hmm]
    clear hu hv hn hmm he hd
    by_cases hnm : n = m
    · subst hnm
      have HX : Hid (∀ k, k = n → (∀ i : Nat, i < k → L[i]? = M[i]?) → False) := fun k hk h => HE.out (List.ext_getElem? (fun i => by
        by_cases hi : i < n
        · exact h i (by omega)
        · rw [List.getElem?_eq_none (by rw [HN.out]; omega), List.getElem?_eq_none (by rw [HM.out]; omega)]))
      go_enter Tryz.func15, Tryz.ntmps15
      go_wp2_with fail
      go_loopw [13] (fun i wr => ∃ k : Nat, k ≤ n ∧ i = .int .i64 (k : Nat) ∧ Below w.heap.size w wr ∧ Hid (∀ i : Nat, i < k → L[i]? = M[i]?)) (fun i _ => n - (intOf i).toNat)
      case atStart => exact ⟨0, Nat.zero_le _, rfl, Below.refl _ _, fun i hi => by omega⟩
      case round =>
        obtain ⟨k, hk, rfl, hb, HP⟩ := hrel
        by_cases hlt : k < n
        · have hki : (k : Int) < (n : Int) := by omega
          obtain ⟨s, hs⟩ : ∃ s, L[k]? = some s := ⟨_, List.getElem?_eq_getElem (by rw [HN.out]; exact hlt)⟩
          obtain ⟨t, ht⟩ : ∃ t, M[k]? = some t := ⟨_, List.getElem?_eq_getElem (by rw [HM.out]; exact hlt)⟩
          obtain ⟨g, x1, _, e1⟩ := row_some HU.out (by rw [HN.out]; omega)
          obtain ⟨h, x2, _, e2⟩ := row_some HV.out (by rw [HM.out]; omega)
          subst x1
          subst x2
          have d1 : wr.cell? ⟨g, k, none⟩ = some (.string s) := (hb.cell (p := ⟨g, k, none⟩) e1).trans (HU.out.at hs).1
          have d2 : wr.cell? ⟨h, k, none⟩ = some (.string t) := (hb.cell (p := ⟨h, k, none⟩) e2).trans (HV.out.at ht).1
          have HST : Hid (s = t → ∀ i : Nat, i < k + 1 → L[i]? = M[i]?) := fun e i hi => by
            by_cases hik : i < k
            · exact HP.out i hik
            · obtain rfl : i = k := by omega
              rw [hs, ht, e]
          clear hs ht e1 e2
          by_cases hst : s = t
          · subst hst
            have HP2 := hid (HST.out rfl)
            clear HST HP
            go_wp2
            go_region
            have hbd := hb.drew
            clear d1 d2
            go_wp2
            go_roundw
            case rel => exact ⟨k + 1, by omega, by go_num, hbd, HP2⟩
            case measure => simp [intOf]; omega
          · have hne := other_texts hst
            clear HST HP hst
            go_wp2
            go_region
            have hbd := hb.drew
            clear d1 d2
            go_wp2
            go_ret
            exact ⟨rfl, hbd⟩
        · obtain rfl : k = n := by omega
          exact (HX.out _ rfl HP.out).elim
    · have hni : ((n : Int) != (m : Int)) = true := by simp; omega
      go_enter Tryz.func15, Tryz.ntmps15
      go_wp2
      go_ret
      exact ⟨rfl, Below.refl _ _⟩

end Go.Proofs.YtoecopmbaoklkaaGreat
