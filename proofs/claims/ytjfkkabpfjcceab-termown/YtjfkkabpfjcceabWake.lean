/-
  The three calls at fixed inputs with which each law begins; two lists of cells alike.
-/
import Derived.Test.YtjfkkabpfjcceabParse
import Derived.Test.YtjfkkabpfjcceabPrint
import Derived.Laws.StructEq
namespace Go.Proofs.Ytjfkkabpfjcceab
open Go.RowKit
set_option linter.unusedVariables false
set_option maxRecDepth 100000
set_option linter.unusedSimpArgs false

theorem equal59 (a b : ByteArray) (x y : Int) (w : World) : (Op.equalIn 10000 28 (.agg #[.string a, .int .i64 x]) (.agg #[.string b, .int .i64 y])).run Try.prog w = .ok (decide ((⟨a, x⟩ : Cl) = ⟨b, y⟩)) w := by
  have u3 := Try.underlying3
  have u9 := Try.underlying9
  have a3 := Try.isAgg3
  have a9 := Try.isAgg9
  have z3 := Try.sizeOf3
  have z9 := Try.sizeOf9
  have hS : Try.prog.underlying 28 = some (.struct (Try.prog.fieldsOf 28)) := by kernel_rfl
  have hp : Try.prog.stoodInHeld 28 = false := by kernel_rfl
  rw [show (10000 : Nat) = 9999 + 1 from rfl, run_equalIn_agg w 9999 28 _ _ hS hp]
  simp only [Program.fieldsOf, Try.underlying28]
  go_simp
  have hab : (a.toList = b.toList) ↔ a = b := by
    constructor
    · intro h
      rw [ByteArray.toList_eq, ByteArray.toList_eq] at h
      exact ByteArray.ext (Array.toList_inj.1 h)
    · rintro rfl; rfl
  by_cases h1 : a = b <;> by_cases h2 : x = y <;> simp [h1, h2, hab]

theorem eql59 (a b : ByteArray) (x y : Int) (w : World) : (binOp .eql 28 (.agg #[.string a, .int .i64 x]) (.agg #[.string b, .int .i64 y])).run Try.prog w = .ok (.bool (decide ((⟨a, x⟩ : Cl) = ⟨b, y⟩))) w := by
  rw [run_eql_struct, equal59]; rfl
theorem neq59 (a b : ByteArray) (x y : Int) (w : World) : (binOp .neq 28 (.agg #[.string a, .int .i64 x]) (.agg #[.string b, .int .i64 y])).run Try.prog w = .ok (.bool (!decide ((⟨a, x⟩ : Cl) = ⟨b, y⟩))) w := by
  rw [run_neq_struct, equal59]; rfl

def wk1 : ByteArray := ⟨#[102, 40, 97, 44, 88, 41]⟩
def wk2 : ByteArray := ⟨#[102, 40, 97]⟩
def wkL : List Cl := [⟨⟨#[102]⟩, 2⟩, ⟨⟨#[97]⟩, 0⟩, ⟨⟨#[88]⟩, 0⟩]
def wkP : List Cl := [⟨⟨#[102]⟩, 1⟩, ⟨⟨#[98]⟩, 0⟩]
theorem parse_wk1 : parse wk1 = .ok wkL 0 := by kernel_rfl
theorem parse_wk2 : parse wk2 = .bad 3 3 := by kernel_rfl
theorem check_wkP : check wkP = 0 := by decide +kernel
theorem flat_wkP : wkP = (Fo.cons ⟨#[102]⟩ (.cons ⟨#[98]⟩ .nil .nil) .nil).flat := by rfl
theorem text_wkP : (Fo.cons ⟨#[102]⟩ (.cons ⟨#[98]⟩ .nil .nil) .nil).text = [102, 40, 98, 41] := by decide +kernel

set_option maxHeartbeats 2000000 in
theorem wakes_any (w : World) : Calls Try.prog 4 #[] w fun e w' => e = .returned (.bool true) ∧ Below w.heap.size w w' := by
  have h1 : ∀ w : World, Calls Try.prog 13 #[.string ⟨#[102, 40, 97, 44, 88, 41]⟩] w fun x w' => ∃ v, x = .returned (.tuple #[v, .int .i64 0, .int .i64 0]) ∧ Owns w' w.heap.size v wkL ∧ Fine wkL ∧ Below w.heap.size w w' := by
    intro w
    have := parse_any wk1 w
    rw [parse_wk1] at this
    exact this
  have h2 : ∀ w : World, Calls Try.prog 13 #[.string ⟨#[102, 40, 97]⟩] w fun x w' => x = .returned (.tuple #[.slice none 0 0, .int .i64 3, .int .i64 3]) ∧ Below w.heap.size w w' := by
    intro w
    have := parse_any wk2 w
    rw [parse_wk2] at this
    exact this
  have h3 : ∀ w : World, Calls Try.prog 14 #[.slice (some ⟨w.heap.size, 0, none⟩) 2 2] (w.alloc (.cells #[.string ⟨#[102]⟩, .int .i64 1, .string ⟨#[98]⟩, .int .i64 0] 28)) fun e w' => e = .returned (.tuple #[.string ⟨#[102, 40, 98, 41]⟩, .int .i64 0]) ∧ Below w.heap.size w w' := by
    intro w
    have hb := (Below.refl w.heap.size w).alloc (Nat.le_refl _) (.cells #[.string ⟨#[102]⟩, .int .i64 1, .string ⟨#[98]⟩, .int .i64 0] 28)
    have hl : Lies (w.alloc (.cells #[.string ⟨#[102]⟩, .int .i64 1, .string ⟨#[98]⟩, .int .i64 0] 28)) (.slice (some ⟨w.heap.size, 0, none⟩) 2 2) wkP := by
      refine ⟨some ⟨w.heap.size, 0, none⟩, 2, rfl, by decide, by decide, ?_, ?_⟩
      · intro c hc
        simp [wkP] at hc
        rcases hc with rfl | rfl <;> exact ⟨by decide, by decide, by decide⟩
      · intro k c hk
        match k, hk with
        | 0, hk => simp [wkP] at hk; subst hk; exact ⟨w.heap.size, 0, rfl, by simp, by simp, by simp⟩
        | 1, hk => simp [wkP] at hk; subst hk; exact ⟨w.heap.size, 0, rfl, by simp, by simp, by simp⟩
        | k + 2, hk => simp [wkP] at hk
    refine (print_ok _ _ wkP hl check_wkP _ _ flat_wkP).mono ?_
    rintro e w' ⟨rfl, hb'⟩
    exact ⟨by rw [text_wkP], hb.trans (hb'.mono (by simp))⟩
  have HE := eql59 ⟨#[102]⟩ ⟨#[102]⟩ 2 2
  have hd : decide ((⟨⟨#[102]⟩, 2⟩ : Cl) = ⟨⟨#[102]⟩, 2⟩) = true := by decide
  rw [hd] at HE
  go_enter Try.func4, Try.ntmps4
  go_wp2_with (first
    | (go_at_call_of 13 (Value.string { data := #[102, 40, 97, 44, 88, 41] }); refine (h1 _).mono ?_; rintro e w1 ⟨v1, rfl, hown, hfine, hb1⟩; obtain ⟨ao, cap, hv1, _, _, hcl⟩ := own_cells hown; subst hv1; obtain ⟨g, ha, _, hg, c0⟩ := hcl 0 (.string ⟨#[102]⟩) rfl; obtain ⟨g', ha', _, _, c1⟩ := hcl 1 (.int .i64 2) rfl; subst ha; obtain rfl : g' = g := by { cases ha'; rfl }; have hwl : wkL.length = 3 := rfl)
    | (go_at_call_of 13 (Value.string { data := #[102, 40, 97] }); refine (h2 _).mono ?_; rintro e w2 ⟨rfl, hb2⟩; have d0 := (hb2.cell (p := ⟨g', 0, none⟩) hg).trans c0; have d1 := (hb2.cell (p := ⟨g', 1, none⟩) hg).trans c1; have hg2 : g' < w2.heap.size := Nat.lt_of_lt_of_le hg hb2.size; replace hb2 := hb1.trans (hb2.mono hb1.size))
    | (go_at_call 14; refine (h3 _).mono ?_; rintro e w3 ⟨rfl, hb3⟩; have e0 := (hb3.cell (p := ⟨g', 0, none⟩) hg2).trans d0; have e1 := (hb3.cell (p := ⟨g', 1, none⟩) hg2).trans d1; replace hb3 := hb2.trans (hb3.mono hb2.size)))
  go_ret
  exact ⟨rfl, hb3⟩

/-- two lists of cells alike -/
theorem same_any (w : World) (u v : Value) (L M : List Cl) (hu : Lies w u L) (hv : Lies w v M) :
    Calls Try.prog 12 #[u, v] w fun e w' => e = .returned (.bool (decide (L = M))) ∧ Below w.heap.size w w' := by
  obtain ⟨a, cap, rfl, hc1, hc2, _, HC⟩ := hu
  obtain ⟨a', cap', rfl, hc1', hc2', _, HC'⟩ := hv
  have hml : L.length ≤ 9223372036854775807 := by unfold maxLen at hc2; omega
  have hml' : M.length ≤ 9223372036854775807 := by unfold maxLen at hc2'; omega
  by_cases hlen : L.length = M.length
  · obtain ⟨r, hr⟩ : ∃ r, decide (L = M) = r := ⟨_, rfl⟩
    have HR : Hid (r = decide (L = M)) := hr.symm
    have hHC : Hid (CellsAt w a L) := HC
    have hHC' : Hid (CellsAt w a' M) := HC'
    rw [hr]
    clear hr HC HC'
    have hle1 : ((L.length : Int) == (M.length : Int)) = true := by simp [hlen]
    have hle2 : (L.length : Int) = (M.length : Int) := by omega
    have hlc : cap' = cap' := rfl
    go_enter Try.func12, Try.ntmps12
    go_wp2_with fail
    go_loopw [13] (fun i wr => ∃ k : Nat, k ≤ L.length ∧ Hid (L.take k = M.take k) ∧ i = .int .i64 k ∧ Below w.heap.size w wr) (fun i _ => L.length - (intOf i).toNat)
    case atStart => exact ⟨0, Nat.zero_le _, by show _ = _; simp, rfl, Below.refl _ _⟩
    case round =>
      obtain ⟨k, hk, HK, rfl, hb⟩ := hrel
      by_cases hlt : k < L.length
      · obtain ⟨c, hc⟩ : ∃ c, L[k]? = some c := ⟨L[k], List.getElem?_eq_getElem hlt⟩
        obtain ⟨d, hd⟩ : ∃ d, M[k]? = some d := ⟨M[k]'(by omega), List.getElem?_eq_getElem (by omega)⟩
        obtain ⟨b1, o1, rfl, p1, p2⟩ := cell_at hHC.out hb hc
        obtain ⟨b2, o2, rfl, q1, q2⟩ := cell_at hHC'.out hb hd
        have hltM : (k : Int) < (M.length : Int) := by omega
        have hltL : (k : Int) < (L.length : Int) := by omega
        have hEq := neq59 c.nm d.nm c.ar d.ar
        have hb0 : ∀ nq, Below w.heap.size w (wr.drewN nq) := fun nq => hb.trans ((below_drewN wr nq).mono hb.size)
        have HB0 : Hid (∀ nq, Below w.heap.size w (wr.drewN nq)) := hb0
        clear hb0
        by_cases hcd : c = d
        · subst hcd
          have hde : (!decide ((⟨c.nm, c.ar⟩ : Cl) = ⟨c.nm, c.ar⟩)) = false := by simp
          rw [hde] at hEq
          have HK2 : Hid (L.take (k + 1) = M.take (k + 1)) := by
            show _ = _
            rw [List.take_add_one, List.take_add_one, HK.out, hc, hd]
          clear HK hc hd
          go_wp2_with fail
          go_quiet (fail)
          go_wp2_with fail
          go_roundw
          case rel => exact ⟨k + 1, by omega, HK2, by go_num, HB0.out _⟩
          case measure => simp [intOf]; omega
        · have hde : (!decide ((⟨c.nm, c.ar⟩ : Cl) = ⟨d.nm, d.ar⟩)) = true := by
            have hn : ¬ ((⟨c.nm, c.ar⟩ : Cl) = ⟨d.nm, d.ar⟩) := hcd
            rw [decide_eq_false hn]; rfl
          rw [hde] at hEq
          have HRF : Hid (r = false) := by
            show _ = _
            rw [HR.out, decide_eq_false_iff_not]
            rintro rfl
            rw [hc] at hd; cases hd; exact hcd rfl
          clear HK hc hd hde hcd
          go_wp2_with fail
          go_quiet (fail)
          go_wp2_with fail
          go_ret
          exact ⟨by rw [HRF.out]; rfl, HB0.out _⟩
      · obtain rfl : k = L.length := by omega
        have HRT : Hid (r = true) := by
          show _ = _
          rw [HR.out, decide_eq_true_iff]
          have := HK.out
          rw [List.take_length, hlen, List.take_length] at this
          exact this
        clear HK
        go_wp2_with fail
        go_ret
        exact ⟨by rw [HRT.out]; rfl, hb⟩
  · have HR : Hid (decide (L = M) = false) := by show _ = _; rw [decide_eq_false_iff_not]; rintro rfl; exact hlen rfl
    have hle1 : ((L.length : Int) != (M.length : Int)) = true := by simp; omega
    have hle2 : ¬ (L.length : Int) = (M.length : Int) := by omega
    have hle3 : ((L.length : Int) == (M.length : Int)) = false := by simp; omega
    go_enter Try.func12, Try.ntmps12
    go_wp2_with fail
    go_ret
    exact ⟨by rw [HR.out]; rfl, Below.refl _ _⟩

end Go.Proofs.Ytjfkkabpfjcceab
