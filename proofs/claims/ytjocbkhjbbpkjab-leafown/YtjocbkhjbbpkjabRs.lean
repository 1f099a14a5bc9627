/-
  The document's Same, of lists that are alike, and Right.
-/
import Derived.Test.YtjocbkhjbbpkjabRt
namespace Go.Proofs.Ytjocbkhjbbpkjab
open Go.RowKit
set_option linter.unusedVariables false
set_option linter.unusedSimpArgs false
set_option maxRecDepth 100000

set_option maxHeartbeats 1000000 in
theorem same_self (w : World) (u v : Value) (L : List Ent) (hu : LiesE w u L) (hv : LiesE w v L) :
    Calls Try.prog 9 #[u, v] w fun e w' => e = .returned (.bool true) ∧ Below w.heap.size w w' := by
  obtain ⟨a, c, e1⟩ := hu.form
  obtain ⟨a', c', e2⟩ := hv.form
  subst e1
  subst e2
  have hlen := hu.len
  unfold maxLen at hlen
  have HU := hid hu
  have HV := hid hv
  obtain ⟨m, hm⟩ : ∃ m, L.length = m := ⟨_, rfl⟩
  have HM := hid hm
  rw [hm] at HU HV hlen ⊢
  clear hu hv hm
  have hmm : ((m : Int) != (m : Int)) = false := by simp
  go_enter Try.func9, Try.ntmps9
  go_wp2_with fail
  go_loopw [13] (fun i wr => ∃ j : Nat, j ≤ m ∧ i = .int .i64 (j : Nat) ∧ Hid (Below w.heap.size w wr)) (fun i _ => m - (intOf i).toNat)
  case atStart => exact ⟨0, Nat.zero_le _, rfl, Below.refl _ _⟩
  case round =>
    obtain ⟨j, hj, rfl, HB⟩ := hrel
    by_cases hjm : j < m
    · have hji : (j : Int) < (m : Int) := by omega
      obtain ⟨x, hx⟩ : ∃ x, L[j]? = some x := ⟨_, List.getElem?_eq_getElem (by rw [HM.out]; exact hjm)⟩
      obtain ⟨b, off, e1, hbl, c1, c2, _, _⟩ := (HU.out.on HB.out.drew).at hx
      obtain ⟨b', off', e2, hbl', d1, d2, _, _⟩ := (HV.out.on HB.out.drew).at hx
      subst e1
      subst e2
      have hne : ∀ w1 : World, _ := fun w1 => neqE x.k x.v x.k x.v w1
      have hdd : decide (x.k = x.k ∧ x.v = x.v) = true := decide_eq_true ⟨rfl, rfl⟩
      rw [hdd] at hne
      clear hx hdd
      generalize x.k = xk at *
      generalize x.v = xv at *
      go_wp2_with fail
      go_region
      have HB1 := hid HB.out.drew
      clear HB c1 c2 d1 d2
      go_wp2_with fail
      go_roundw
      case rel => exact ⟨j + 1, by omega, by go_num, HB1⟩
      case measure => simp [intOf]; omega
    · obtain rfl : j = m := by omega
      have hji : ¬ (j : Int) < (j : Int) := by omega
      go_wp2_with fail
      go_ret
      exact ⟨rfl, HB.out⟩

end Go.Proofs.Ytjocbkhjbbpkjab

