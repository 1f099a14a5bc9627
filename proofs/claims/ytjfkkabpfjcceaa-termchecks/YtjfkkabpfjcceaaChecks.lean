/-
  Proved: TermChecks returns true for every list of cells, and its argument reads behind the call as before.
-/
import Derived.Test.YtjfkkabpfjcceaaRows
import Derived.Test.YtjfkkabpfjcceaaWake
import Derived.Test.YtjfkkabpfjcceaaOpen
import Derived.ProofKit
import Derived.OpenShut
import Derived.ShutString
import Derived.ChangeOld
import Derived.Below
import Derived.SizedLaws
import Derived.Lib.SmallJoins
namespace Go.Proofs.Ytjfkkabpfjcceaa
open Go.ChangeShapes Go.WideShapes Go.ChangeAt Go.RowKit Go.Joins
open Go.ChangeMaps (open_string shut_string)
set_option linter.unusedVariables false
set_option maxRecDepth 100000
set_option linter.unusedSimpArgs false

theorem termChecks_walk (v : Value) (L : List Cl) (w : World) (hl : Lies w v L) (hz : L.length * 24 ≤ 140737488355328) :
    Calls Try.prog 3 #[v] w fun e w' => e = .returned (.bool true) ∧ Below w.heap.size w w' := by
  have hwk := wakes_any w
  have HL : Hid (Lies w v L) := hl
  have hcp : ∀ w1, Below w.heap.size w w1 → _ := fun w1 hb => copy_any w1 v L (HL.out.on hb) hz
  have hrc : ∀ w1, Below w.heap.size w w1 → _ := fun w1 hb => rCheck_any w1 v L (HL.out.on hb)
  have hck : ∀ w1 v1, Lies w1 v1 L → _ := fun w1 v1 h1 => check_any w1 v1 L h1
  have HF : Hid (Fine L) := by obtain ⟨_, _, _, _, _, hf, _⟩ := hl; exact hf
  clear hl
  generalize check L = q at hrc hck
  go_enter Try.func3, Try.ntmps3
  go_wp2_with (first
    | (go_at_call 9; refine hwk.mono ?_; rintro e w1 ⟨rfl, hb1⟩)
    | (go_at_call 11; refine (hcp _ hb1).mono ?_; rintro e w2 ⟨v2, rfl, hown2, hb2⟩; have hl2 := hown2.lies HF.out; replace hb2 := hb1.trans (hb2.mono hb1.size))
    | (go_at_call 10; refine (hck _ _ hl2).mono ?_; rintro e w3 ⟨rfl, hb3⟩; replace hb3 := hb2.trans (hb3.mono hb2.size))
    | (go_at_call 12; refine (hrc _ hb3).mono ?_; rintro e w4 ⟨rfl, rfl⟩))
  go_ret
  exact ⟨rfl, hb3⟩

theorem termChecks_own : ownKnob Try.prog.godebug = none := by kernel_rfl
theorem termChecks_laidOut : laidOutB Try.prog = true := by kernel_rfl

set_option maxRecDepth 100000 in
theorem termChecks_lifted (os : Os) (started : os.Started) (H : Type) (enc : TypeId × Value → H) :
    ReturnsInHanded {} Try.checked os 3 .any (Rows.termChecksSpec.pre6 enc Try.prog Try.f3 Rows.termChecksRow.domain false) (Rows.termChecksSpec.post enc Try.prog Try.f3 false true false false) := by
  refine returnsInHanded_of_change_sized (C := Try.checked) termChecks_own started (by kernel_rfl) Try.func3
    (ChangeSpec.witness6 (enc := enc) (C := Try.checked) false ⟨#[], #[.slice none 0 0], []⟩ 8 (by kernel_rfl) (by kernel_rfl) (by kernel_rfl) (by kernel_rfl)) ?_
  intro W base args ds gs before hval0 hW hcnd hsz0 _
  have hsz : (DataW.weightsEach Try.prog (Try.f3.params.toList ++ Rows.termChecksSpec.plain.varTypes Try.prog) (ds ++ gs)).all (· ≤ reachBytes) = true := hsz0
  have hval : ∀ (j : Nat) t v, Try.f3.params[j]? = some t → args[j]? = some v → Value.okWide Try.prog W .any base t v := hval0
  have hW' := hW
  obtain ⟨p, q, hA0, hV, rfl, hfz, hnd⟩ := hW
  have hA : DataW.TrodAll enc Try.prog W 0 (fun _ => true) true Try.f3.params.toList args.toList ds p := hA0
  rw [Try.params3] at hA hval hsz
  obtain ⟨v0, vs0, d0, ds0, p0, q0, hargs, rfl, rfl, h0, r0⟩ := trodAll_cons hA
  obtain ⟨rfl, rfl, rfl⟩ := trodAll_nil r0
  obtain rfl : args = #[v0] := by cases args; simp_all
  obtain ⟨rfl, rfl⟩ := trodVars_none hV
  have k0 := h0
  have lt0 : ∀ x ∈ p0, x.block < W.heap.size := by obtain ⟨m, hm⟩ := k0; exact DataW.trod_lt m _ _ _ hm
  obtain ⟨L0, l0, z0⟩ := open_cells (hval 0 23 v0 rfl rfl) h0 (fun n hn => by simpa using List.all_eq_true.1 hsz n (DataW.weights_mem_each (j := 0) (t := 23) rfl rfl n hn))
  clear hA0 hval0
  refine (termChecks_walk v0 L0 W l0 z0).mono fun e W' ⟨he, bel⟩ => ?_
  subst he
  exact ⟨_, rfl, _, _, _, [], _, [], hW', trodAll_mk1 (shut_bool Try.underlying4 _), (trodAll_cons_mk (Below.trod termChecks_laidOut (by kernel_rfl) (of_decide_eq_true (by kernel_rfl)) k0 bel lt0) trodAll_mk0), rfl, bel.frame _, fun h => by cases h⟩

theorem termChecks_holds : Rows.TermChecksSaid :=
  OpenClaim.holds_of_wide 3 Try.f3 rfl rfl rfl rfl rfl rfl rfl ⟨rfl, rfl, rfl, rfl, rfl⟩ rfl rfl rfl rfl rfl (by kernel_rfl) Try.func3 (by kernel_rfl)
    (of_decide_eq_true (by kernel_rfl)) (by unfold Func.isWrapper; first | (rw [if_pos (by decide +kernel)]; kernel_rfl) | (rw [if_neg (by decide +kernel)]; exact ⟨rfl, rfl⟩))
    (fun os started H enc _ => termChecks_lifted os started H enc)

#print axioms termChecks_holds

end Go.Proofs.Ytjfkkabpfjcceaa
