/-
  The program's Of, and the document's disk: what its calls answer; two lists alike.
-/
import Derived.Test.YtoecopmbaoklkaaNew
import Derived.Laws.StructEq
import Derived.Deep.QuietTactic
import Derived.BigQuiet
namespace Go.Proofs.Ytoecopmbaoklkaa
open Go.RowKit
set_option linter.unusedVariables false
set_option linter.unusedSimpArgs false
set_option maxRecDepth 100000

/-! ## two lists alike -/

theorem row_some {w : World} {B : Nat} {e : TypeId} {size n m c : Nat} {a : Option Addr} {xs : List Value} (h : w.ownsRow B e size (.slice a n c) m xs) (hm : 0 < m) : ∃ g, a = some ⟨g, 0, none⟩ ∧ B ≤ g ∧ g < w.heap.size := by
  obtain ⟨g, cap, e1, _, _, h2, h3⟩ := own_some h hm
  injection e1 with e2 _ _
  exact ⟨g, e2, h2, h3⟩


theorem same_self (w : World) (B B' : Nat) (u v : Value) (L : List ByteArray) (hu : RowS w B u L) (hv : RowS w B' v L) (hl : L.length ≤ 100000) :
    Calls Try.prog 22 #[u, v] w fun e w' => e = .returned (.bool true) ∧ Below w.heap.size w w' := by
  obtain ⟨a, c, e1⟩ := hu.form
  obtain ⟨a', c', e2⟩ := hv.form
  subst e1
  subst e2
  have HU := hid hu
  have HV := hid hv
  obtain ⟨n, hn⟩ : ∃ n, L.length = n := ⟨_, rfl⟩
  have HN := hid hn
  have hl2 := hl
  rw [hn] at hl2
  rw [hn]
  clear hu hv hn hl
  go_enter Try.func22, Try.ntmps22
  go_wp2_with fail
  go_loopw [13] (fun i wr => ∃ k : Nat, k ≤ n ∧ i = .int .i64 (k : Nat) ∧ Below w.heap.size w wr) (fun i _ => n - (intOf i).toNat)
  case atStart => exact ⟨0, Nat.zero_le _, rfl, Below.refl _ _⟩
  case round =>
    obtain ⟨k, hk, rfl, hb⟩ := hrel
    by_cases hlt : k < n
    · have hki : (k : Int) < (n : Int) := by omega
      obtain ⟨s, hs⟩ : ∃ s, L[k]? = some s := ⟨_, List.getElem?_eq_getElem (by rw [HN.out]; exact hlt)⟩
      obtain ⟨g, x1, _, e1⟩ := row_some HU.out (by rw [HN.out]; omega)
      obtain ⟨h, x2, _, e2⟩ := row_some HV.out (by rw [HN.out]; omega)
      subst x1
      subst x2
      have c1 := (HU.out.at hs).1
      have c2 := (HV.out.at hs).1
      have d1 : wr.cell? ⟨g, k, none⟩ = some (.string s) := (hb.cell (p := ⟨g, k, none⟩) e1).trans c1
      have d2 : wr.cell? ⟨h, k, none⟩ = some (.string s) := (hb.cell (p := ⟨h, k, none⟩) e2).trans c2
      clear c1 c2 hs e1 e2
      go_wp2
      go_region
      have hbd := hb.drew
      clear d1 d2
      go_wp2
      go_roundw
      case rel => exact ⟨k + 1, by omega, by go_num, hbd⟩
      case measure => simp [intOf]; omega
    · obtain rfl : k = n := by omega
      go_wp2
      go_ret
      exact ⟨rfl, hb⟩

theorem equal49 (a : ByteArray) (x : Int) (w : World) : (Op.equalIn 10000 64 (.agg #[.int .i64 x, .string a]) (.agg #[.int .i64 x, .string a])).run Try.prog w = .ok true w := by
  have u3 := Try.underlying3
  have u9 := Try.underlying9
  have a3 := Try.isAgg3
  have a9 := Try.isAgg9
  have z3 := Try.sizeOf3
  have z9 := Try.sizeOf9
  have hS : Try.prog.underlying 64 = some (.struct (Try.prog.fieldsOf 64)) := by kernel_rfl
  have hp : Try.prog.stoodInHeld 64 = false := by kernel_rfl
  rw [show (10000 : Nat) = 9999 + 1 from rfl, run_equalIn_agg w 9999 64 _ _ hS hp]
  simp only [Program.fieldsOf, Try.underlying64]
  go_simp
theorem neq49 (a : ByteArray) (x : Int) (w : World) : (binOp .neq 64 (.agg #[.int .i64 x, .string a]) (.agg #[.int .i64 x, .string a])).run Try.prog w = .ok (.bool false) w := by
  rw [run_neq_struct, equal49]; rfl

/-- why blocks are no disk -/
def ofE (bs : List ByteArray) : Nat := if ¬ (64 ≤ bs.length ∧ bs.length ≤ 2048) then 1 else if bs.all (fun s => decide (s.size = 256)) then 0 else 3
theorem take_all {bs : List ByteArray} {k : Nat} {s : ByteArray} (h : ∀ t ∈ bs.take k, t.size = 256) (hk : bs[k]? = some s) (hs : s.size = 256) : ∀ t ∈ bs.take (k + 1), t.size = 256 := by
  intro t ht
  rw [List.take_add_one, hk] at ht
  rcases List.mem_append.1 ht with h' | h'
  · exact h t h'
  · simp at h'; rw [h']; exact hs

/-- what Of leaves -/
def OfPost (w : World) (bs : List ByteArray) (e : Ending) (w' : World) : Prop :=
  Below w.heap.size w w' ∧ ((ofE bs ≠ 0 ∧ e = .returned (.tuple #[.pointer none, .int .i64 (ofE bs : Nat)])) ∨ (ofE bs = 0 ∧ ∃ k, e = .returned (.tuple #[.pointer (some ⟨k, 0, none⟩), .int .i64 0]) ∧ Dk w' (Bt w.heap.size w'.heap.size) k ⟨bs, [], -1, false⟩))

end Go.Proofs.Ytoecopmbaoklkaa
