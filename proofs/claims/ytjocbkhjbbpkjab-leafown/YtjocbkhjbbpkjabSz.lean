/-
  The size of a list, and whether it is right: the program's and the document's.
-/
import Derived.Test.YtjocbkhjbbpkjabEn
namespace Go.Proofs.Ytjocbkhjbbpkjab
open Go.RowKit
set_option linter.unusedVariables false
set_option linter.unusedSimpArgs false
set_option maxRecDepth 100000

def Ent.sz (x : Ent) : Nat := 2 + x.k.size + x.v.size
def sumE : List Ent → Nat
  | [] => 0
  | x :: r => x.sz + sumE r
theorem sumE_append : ∀ L M, sumE (L ++ M) = sumE L + sumE M
  | [], M => by simp [sumE]
  | x :: r, M => by simp only [List.cons_append, sumE, sumE_append r M]; omega
theorem take_snoc {α : Type} {L : List α} {k : Nat} {p : α} (h : L[k]? = some p) : L.take (k + 1) = L.take k ++ [p] := by
  rw [List.take_add_one, h]; rfl
theorem drop_cons {α : Type} {L : List α} {k : Nat} {p : α} (h : L[k]? = some p) : L.drop k = p :: L.drop (k + 1) := by
  obtain ⟨hk, rfl⟩ := List.getElem?_eq_some_iff.1 h
  exact List.drop_eq_getElem_cons hk
theorem sumE_snoc {L : List Ent} {k : Nat} {x : Ent} (h : L[k]? = some x) : sumE (L.take (k + 1)) = sumE (L.take k) + x.sz := by
  rw [take_snoc h, sumE_append]; simp [sumE]
/-- a size, as an int tells it -/
def wr64 (n : Nat) : Int := IntKind.i64.wrap (n : Int)
theorem wr64_add (n m : Nat) : IntKind.i64.wrap (wr64 n + (m : Int)) = wr64 (n + m) := by
  unfold wr64
  rw [IntKind.wrap_i64, IntKind.wrap_i64, IntKind.wrap_i64]
  omega
theorem wr64_in {n : Nat} (h : n < 9223372036854775808) : wr64 n = (n : Int) := by
  unfold wr64
  rw [IntKind.wrap_i64]
  omega
theorem wr64_lo (n : Nat) : -9223372036854775808 ≤ wr64 n ∧ wr64 n ≤ 9223372036854775807 := by
  unfold wr64
  rw [IntKind.wrap_i64]
  omega
def szL (L : List Ent) : Int := wr64 (2 + sumE L)

theorem sizeOf_any (x : Ent) (h1 : Sml x.k) (h2 : Sml x.v) (w : World) : Calls Try.prog 21 #[.agg #[.string x.k, .string x.v]] w fun e w' => e = .returned (.int .i64 (x.sz : Nat)) ∧ Below w.heap.size w w' := by
  unfold Sml at h1 h2
  have e : ((x.sz : Nat) : Int) = 1 + (x.k.size : Int) + 1 + (x.v.size : Int) := by unfold Ent.sz; omega
  rw [e]
  generalize x.k = a at *
  generalize x.v = b at *
  have g1 : IntKind.i64.wrap (1 + (a.size : Int)) = 1 + (a.size : Int) := by rw [IntKind.wrap_i64]; omega
  have g2 : IntKind.i64.wrap (1 + (a.size : Int) + 1) = 1 + (a.size : Int) + 1 := by rw [IntKind.wrap_i64]; omega
  have g3 : IntKind.i64.wrap (1 + (a.size : Int) + 1 + (b.size : Int)) = 1 + (a.size : Int) + 1 + (b.size : Int) := by rw [IntKind.wrap_i64]; omega
  go_enter Try.func21, Try.ntmps21
  go_wp2_with fail
  go_ret
  exact ⟨rfl, (Below.refl _ _).alloc (Nat.le_refl _) _⟩

theorem size_any (w : World) (v : Value) (L : List Ent) (hl : LiesE w v L) : Calls Try.prog 13 #[v] w fun e w' => e = .returned (.int .i64 (szL L)) ∧ Below w.heap.size w w' := by
  obtain ⟨a, c, hv⟩ := hl.form
  subst hv
  have hlen := hl.len
  unfold maxLen at hlen
  have HL := hid hl
  have HE : Hid (L.take L.length = L) := List.take_length
  obtain ⟨m, hm⟩ : ∃ m, L.length = m := ⟨_, rfl⟩
  have HM := hid hm
  unfold szL
  rw [hm] at HL HE hlen ⊢
  clear hm hl
  go_enter Try.func13, Try.ntmps13
  go_wp2_with fail
  go_loopw [3, 8] (fun x i wr => ∃ j : Nat, j ≤ m ∧ i = .int .i64 (j : Nat) ∧ x = .int .i64 (wr64 (2 + sumE (L.take j))) ∧ Hid (Below w.heap.size w wr)) (fun _ i _ => m - (intOf i).toNat)
  case atStart => exact ⟨0, Nat.zero_le _, rfl, rfl, Below.refl _ _⟩
  case round =>
    obtain ⟨j, hj, rfl, rfl, HB⟩ := hrel
    by_cases hjm : j < m
    · have hji : (j : Int) < (m : Int) := by omega
      obtain ⟨x, hx⟩ : ∃ x, L[j]? = some x := ⟨_, List.getElem?_eq_getElem (by rw [HM.out]; exact hjm)⟩
      obtain ⟨b, off, e1, _, c1, c2, s1, s2⟩ := (HL.out.on HB.out).at hx
      subst e1
      have HS := hid (sumE_snoc hx)
      have hso : ∀ w1 : World, _ := fun w1 => sizeOf_any x s1 s2 w1
      have HA := hid (wr64_add (2 + sumE (L.take j)) x.sz)
      have HN : Hid (wr64 (2 + sumE (L.take j) + x.sz) = wr64 (2 + sumE (L.take (j + 1)))) := by show _ = _; rw [HS.out, Nat.add_assoc]
      rw [HN.out] at HA
      have ha := HA.out
      clear HA HN HS hx
      generalize wr64 (2 + sumE (L.take j)) = p at *
      obtain ⟨q, hq⟩ : ∃ q, wr64 (2 + sumE (L.take (j + 1))) = q := ⟨_, rfl⟩
      have HQ := hid hq
      rw [hq] at ha
      clear hq
      generalize x.sz = z at *
      generalize x.k = xk at *
      generalize x.v = xv at *
      go_wp2_with (go_at_call 21; refine (hso _).mono ?_; clear hso; rintro e w1 ⟨rfl, hb1⟩; have HB1 := hid ((HB.out.alloc HB.out.size (.cells #[.string xk, .string xv] 26)).trans (hb1.mono (by have := HB.out.size; simp; omega))); clear hb1)
      go_roundw
      case rel => exact ⟨j + 1, by omega, by go_num, by rw [HQ.out], HB1⟩
      case measure => simp [intOf]; omega
    · obtain rfl : j = m := by omega
      have hji : ¬ (j : Int) < (j : Int) := by omega
      rw [HE.out]
      go_wp2_with fail
      go_ret
      exact ⟨rfl, HB.out⟩
end Go.Proofs.Ytjocbkhjbbpkjab

