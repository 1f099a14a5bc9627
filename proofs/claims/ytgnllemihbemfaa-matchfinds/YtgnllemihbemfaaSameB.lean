/-
  That two lists of binds that hold the same are told as alike.
-/
import Derived.Test.YtgnllemihbemfaaRFit
namespace Go.Proofs.Ytgnllemihbemfaa
open Go.RowKit
set_option linter.unusedVariables false
set_option maxRecDepth 100000
set_option linter.unusedSimpArgs false

theorem same_self (w : World) (u v : Value) (L : List Cl) (hu : Lies w u L) (hv : Lies w v L) :
    Calls Try.prog 17 #[u, v] w fun e w' => e = .returned (.bool true) ∧ Below w.heap.size w w' := by
  have := same_any w u v L L hu hv
  rwa [decide_eq_true rfl] at this

set_option maxHeartbeats 4000000 in
theorem sameB_self (w : World) (u v : Value) (l : List Bd) (hu : LiesB w u l) (hv : LiesB w v l) :
    Calls Try.prog 13 #[u, v] w fun e w' => e = .returned (.bool true) ∧ Below w.heap.size w w' := by
  have HU : Hid (LiesB w u l) := hu
  have HV : Hid (LiesB w v l) := hv
  obtain ⟨ua, uc, rfl, hu1, hu2, _⟩ := hu
  obtain ⟨va, vc, rfl, hv1, hv2, _⟩ := hv
  have hm : l.length ≤ 9223372036854775807 := by unfold maxLen at hu2; omega
  go_enter Try.func13, Try.ntmps13
  go_wp2_with fail
  go_loopw [13] (fun i wr => ∃ k : Nat, k ≤ l.length ∧ i = .int .i64 (k : Nat) ∧ Below w.heap.size w wr) (fun i _ => l.length - (intOf i).toNat)
  case atStart => exact ⟨0, Nat.zero_le _, rfl, Below.refl _ _⟩
  case round =>
    obtain ⟨k, hk, rfl, hbr⟩ := hrel
    have hbs := hbr.size
    by_cases hlt : k < l.length
    · obtain ⟨bd, hbd⟩ : ∃ b, l[k]? = some b := ⟨l[k], List.getElem?_eq_getElem hlt⟩
      obtain ⟨nm, val⟩ := bd
      obtain ⟨g1, o1, x1, hA, g1l, c1, c2, m1⟩ := (HU.out.on hbr).at hbd
      obtain ⟨g2, o2, x2, hB, g2l, c3, c4, m2⟩ := (HV.out.on hbr).at hbd
      subst hA hB
      have hki : (k : Int) < (l.length : Int) := by omega
      have hst : (nm.toList == nm.toList) = true := by simp
      have HB00 : Below wr.heap.size wr wr.drew := (Below.refl _ wr).drew
      have HBD : Hid (Below w.heap.size w wr.drew) := hbr.drew
      obtain ⟨ya, yc, hx1, _⟩ := id m1
      obtain ⟨za, zc, hx2, _⟩ := id m2
      subst hx1 hx2
      have HM1 : Hid (Lies wr (.slice ya val.length yc) val) := m1
      have HM2 : Hid (Lies wr (.slice za val.length zc) val) := m2
      have d1 : wr.drew.cell? ⟨g1, o1 + k * 2, none⟩ = some (.string nm) := c1
      have d2 : wr.drew.cell? ⟨g1, o1 + k * 2 + 1, none⟩ = some (.slice ya val.length yc) := c2
      have d3 : wr.drew.cell? ⟨g2, o2 + k * 2, none⟩ = some (.string nm) := c3
      have d4 : wr.drew.cell? ⟨g2, o2 + k * 2 + 1, none⟩ = some (.slice za val.length zc) := c4
      clear m1 m2 hbd hbr
      go_wp2_with fail
      go_region_held3 (fun w' => w'.cell? ⟨g1, o1 + k * 2, none⟩ = some (.string nm) ∧ w'.cell? ⟨g1, o1 + k * 2 + 1, none⟩ = some (.slice ya val.length yc) ∧ w'.cell? ⟨g2, o2 + k * 2, none⟩ = some (.string nm) ∧ w'.cell? ⟨g2, o2 + k * 2 + 1, none⟩ = some (.slice za val.length zc) ∧ Below wr.heap.size wr w') (first | exact ⟨d1, d2, d3, d4, HB00⟩ | exact HS9 | go_keep)
        (first | (go_at_call 17; refine (same_self _ _ _ val (HM1.out.on (by assumption)) (HM2.out.on (by assumption))).mono ?_; rintro e w8 ⟨rfl, hb8⟩; have HS9 : w8.cell? ⟨g1, o1 + k * 2, none⟩ = some (.string nm) ∧ w8.cell? ⟨g1, o1 + k * 2 + 1, none⟩ = some (.slice ya val.length yc) ∧ w8.cell? ⟨g2, o2 + k * 2, none⟩ = some (.string nm) ∧ w8.cell? ⟨g2, o2 + k * 2 + 1, none⟩ = some (.slice za val.length zc) ∧ Below wr.heap.size wr w8 := ⟨(hb8.cell (p := ⟨g1, o1 + k * 2, none⟩) g1l).trans d1, (hb8.cell (p := ⟨g1, o1 + k * 2 + 1, none⟩) g1l).trans d2, (hb8.cell (p := ⟨g2, o2 + k * 2, none⟩) g2l).trans d3, (hb8.cell (p := ⟨g2, o2 + k * 2 + 1, none⟩) g2l).trans d4, HB00.trans hb8⟩; have hb9 : Below w.heap.size w w8 := HBD.out.trans (hb8.mono hbs)))
      all_goals
        (go_wp2_with fail
         go_roundw
         case rel => exact ⟨k + 1, by omega, by go_num, hb9⟩
         case measure => simp [intOf]; omega)
    · have hki : ¬ (k : Int) < (l.length : Int) := by omega
      go_wp2_with fail
      go_ret
      exact ⟨rfl, hbr⟩

end Go.Proofs.Ytgnllemihbemfaa
