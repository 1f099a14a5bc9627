/-
  The three calls at fixed inputs with which each law begins; two lists of cells alike.
-/
import Derived.Test.YtjpmlnigjbdnnaaDoorParse
import Derived.Test.YtjpmlnigjbdnnaaDoorPrint
import Derived.Laws.StructEq
namespace Go.Proofs.YtjpmlnigjbdnnaaDoor
open Go.RowKit
set_option linter.unusedVariables false
set_option maxRecDepth 100000
set_option linter.unusedSimpArgs false

theorem equal59 (a b : ByteArray) (x y : Int) (w : World) : (Op.equalIn 10000 33 (.agg #[.string a, .int .i64 x]) (.agg #[.string b, .int .i64 y])).run Tryd.prog w = .ok (decide ((⟨a, x⟩ : Cl) = ⟨b, y⟩)) w := by
  have u3 := Tryd.underlying3
  have u9 := Tryd.underlying9
  have a3 := Tryd.isAgg3
  have a9 := Tryd.isAgg9
  have z3 := Tryd.sizeOf3
  have z9 := Tryd.sizeOf9
  have hS : Tryd.prog.underlying 33 = some (.struct (Tryd.prog.fieldsOf 33)) := by kernel_rfl
  have hp : Tryd.prog.stoodInHeld 33 = false := by kernel_rfl
  rw [show (10000 : Nat) = 9999 + 1 from rfl, run_equalIn_agg w 9999 33 _ _ hS hp]
  simp only [Program.fieldsOf, Tryd.underlying33]
  go_simp
  have hab : (a.toList = b.toList) ↔ a = b := by
    constructor
    · intro h
      rw [ByteArray.toList_eq, ByteArray.toList_eq] at h
      exact ByteArray.ext (Array.toList_inj.1 h)
    · rintro rfl; rfl
  by_cases h1 : a = b <;> by_cases h2 : x = y <;> simp [h1, h2, hab]

theorem eql59 (a b : ByteArray) (x y : Int) (w : World) : (binOp .eql 33 (.agg #[.string a, .int .i64 x]) (.agg #[.string b, .int .i64 y])).run Tryd.prog w = .ok (.bool (decide ((⟨a, x⟩ : Cl) = ⟨b, y⟩))) w := by
  rw [run_eql_struct, equal59]; rfl
theorem neq59 (a b : ByteArray) (x y : Int) (w : World) : (binOp .neq 33 (.agg #[.string a, .int .i64 x]) (.agg #[.string b, .int .i64 y])).run Tryd.prog w = .ok (.bool (!decide ((⟨a, x⟩ : Cl) = ⟨b, y⟩))) w := by
  rw [run_neq_struct, equal59]; rfl

def wk1 : ByteArray := ⟨#[102, 40, 97, 44, 88, 41]⟩
def wk2 : ByteArray := ⟨#[102, 40, 97]⟩
def wkL : List Cl := [⟨⟨#[102]⟩, 2⟩, ⟨⟨#[97]⟩, 0⟩, ⟨⟨#[88]⟩, 0⟩]
def wkP : List Cl := [⟨⟨#[102]⟩, 1⟩, ⟨⟨#[98]⟩, 0⟩]
theorem parse_wk1 : parse wk1 = .ok wkL 0 := by kernel_rfl
theorem parse_wk2 : parse wk2 = .bad 3 3 := by kernel_rfl
theorem check_wkP : check wkP = 0 := by decide +kernel
theorem flat_wkP : wkP = (Fo.cons ⟨#[102]⟩ (.cons ⟨#[98]⟩ .nil .nil) .nil).flat := by rfl
theorem text_wkP : (Fo.cons ⟨#[102]⟩ (.cons ⟨#[98]⟩ .nil .nil) .nil).text = [102, 40, 98, 41] := by decide +kernel

/-- two lists of cells alike -/
theorem same_any (w : World) (u v : Value) (L M : List Cl) (hu : Lies w u L) (hv : Lies w v M) :
    Calls Tryd.prog 24 #[u, v] w fun e w' => e = .returned (.bool (decide (L = M))) ∧ Below w.heap.size w w' := by
  obtain ⟨a, cap, rfl, hc1, hc2, _, HC⟩ := hu
  obtain ⟨a', cap', rfl, hc1', hc2', _, HC'⟩ := hv
  have hml : L.length ≤ 9223372036854775807 := by unfold maxLen at hc2; omega
  have hml' : M.length ≤ 9223372036854775807 := by unfold maxLen at hc2'; omega
  by_cases hlen : L.length = M.length
  · obtain ⟨r, hr⟩ : ∃ r, decide (L = M) = r := ⟨_, rfl⟩
    have HR : Hid (r = decide (L = M)) := hr.symm
    have hHC : Hid (CellsAt w a L) := HC
    have hHC' : Hid (CellsAt w a' M) := HC'
    rw [hr]
    clear hr HC HC'
    have hle1 : ((L.length : Int) == (M.length : Int)) = true := by simp [hlen]
    have hle2 : (L.length : Int) = (M.length : Int) := by omega
    have hlc : cap' = cap' := rfl
    go_enter Tryd.func24, Tryd.ntmps24
    go_wp2_with fail
    go_loopw [13] (fun i wr => ∃ k : Nat, k ≤ L.length ∧ Hid (L.take k = M.take k) ∧ i = .int .i64 k ∧ Below w.heap.size w wr) (fun i _ => L.length - (intOf i).toNat)
    case atStart => exact ⟨0, Nat.zero_le _, by show _ = _; simp, rfl, Below.refl _ _⟩
    case round =>
      obtain ⟨k, hk, HK, rfl, hb⟩ := hrel
      by_cases hlt : k < L.length
      · obtain ⟨c, hc⟩ : ∃ c, L[k]? = some c := ⟨L[k], List.getElem?_eq_getElem hlt⟩
        obtain ⟨d, hd⟩ : ∃ d, M[k]? = some d := ⟨M[k]'(by omega), List.getElem?_eq_getElem (by omega)⟩
        obtain ⟨b1, o1, rfl, p1, p2⟩ := cell_at hHC.out hb hc
        obtain ⟨b2, o2, rfl, q1, q2⟩ := cell_at hHC'.out hb hd
        have hltM : (k : Int) < (M.length : Int) := by omega
        have hltL : (k : Int) < (L.length : Int) := by omega
        have hEq := neq59 c.nm d.nm c.ar d.ar
        have hb0 : ∀ nq, Below w.heap.size w (wr.drewN nq) := fun nq => hb.trans ((below_drewN wr nq).mono hb.size)
        have HB0 : Hid (∀ nq, Below w.heap.size w (wr.drewN nq)) := hb0
        clear hb0
        by_cases hcd : c = d
        · subst hcd
          have hde : (!decide ((⟨c.nm, c.ar⟩ : Cl) = ⟨c.nm, c.ar⟩)) = false := by simp
          rw [hde] at hEq
          have HK2 : Hid (L.take (k + 1) = M.take (k + 1)) := by
            show _ = _
            rw [List.take_add_one, List.take_add_one, HK.out, hc, hd]
          clear HK hc hd
          go_wp2_with fail
          go_quiet (fail)
          go_wp2_with fail
          go_roundw
          case rel => exact ⟨k + 1, by omega, HK2, by go_num, HB0.out _⟩
          case measure => simp [intOf]; omega
        · have hde : (!decide ((⟨c.nm, c.ar⟩ : Cl) = ⟨d.nm, d.ar⟩)) = true := by
            have hn : ¬ ((⟨c.nm, c.ar⟩ : Cl) = ⟨d.nm, d.ar⟩) := hcd
            rw [decide_eq_false hn]; rfl
          rw [hde] at hEq
          have HRF : Hid (r = false) := by
            show _ = _
            rw [HR.out, decide_eq_false_iff_not]
            rintro rfl
            rw [hc] at hd; cases hd; exact hcd rfl
          clear HK hc hd hde hcd
          go_wp2_with fail
          go_quiet (fail)
          go_wp2_with fail
          go_ret
          exact ⟨by rw [HRF.out]; rfl, HB0.out _⟩
      · obtain rfl : k = L.length := by omega
        have HRT : Hid (r = true) := by
          show _ = _
          rw [HR.out, decide_eq_true_iff]
          have := HK.out
          rw [List.take_length, hlen, List.take_length] at this
          exact this
        clear HK
        go_wp2_with fail
        go_ret
        exact ⟨by rw [HRT.out]; rfl, hb⟩
  · have HR : Hid (decide (L = M) = false) := by show _ = _; rw [decide_eq_false_iff_not]; rintro rfl; exact hlen rfl
    have hle1 : ((L.length : Int) != (M.length : Int)) = true := by simp; omega
    have hle2 : ¬ (L.length : Int) = (M.length : Int) := by omega
    have hle3 : ((L.length : Int) == (M.length : Int)) = false := by simp; omega
    go_enter Tryd.func24, Tryd.ntmps24
    go_wp2_with fail
    go_ret
    exact ⟨by rw [HR.out]; rfl, Below.refl _ _⟩

end Go.Proofs.YtjpmlnigjbdnnaaDoor
