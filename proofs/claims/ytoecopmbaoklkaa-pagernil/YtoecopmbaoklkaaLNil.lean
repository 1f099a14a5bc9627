/-
  A nil pager is refused by each of its functions, and has nothing; a nil disk is refused by New; no condition.
-/
import Derived.Test.YtoecopmbaoklkaaRows
import Derived.Test.YtoecopmbaoklkaaWz
import Derived.ProofKit
import Derived.OpenShut
import Derived.ShutString
import Derived.ChangeOld
import Derived.Below
import Derived.SizedLaws
import Derived.Lib.SmallJoins
namespace Go.Proofs.Ytoecopmbaoklkaa
open Go.ChangeShapes Go.WideShapes Go.ChangeAt Go.RowKit Go.Joins
open Go.ChangeMaps (open_string shut_string)
set_option linter.unusedVariables false
set_option linter.unusedSimpArgs false
set_option maxRecDepth 100000

set_option maxHeartbeats 1000000 in
theorem pagerNil_walk (a0 : Int) (s : ByteArray) (r : Int) (wf0 : (Lit.int .i64 a0).wf = true) (hs : s.size ≤ reachBytes) (wf2 : (Lit.int .i64 r).wf = true) (w : World) :
    Calls Try.prog 6 #[.int .i64 a0, .string s, .int .i64 r] w fun e w' => e = .returned (.bool true) ∧ Below w.heap.size w w' := by
  clear wf0 wf2 hs
  have hwk := wakes_any w
  have h1 : ∀ w1, _ := fun w1 => undo_nil w1
  have h2 : ∀ w1, _ := fun w1 => load_nil a0 w1
  have h3 : ∀ w1, _ := fun w1 => pnew_nil r w1
  have h4 : ∀ w1, _ := fun w1 => store_nil a0 s w1
  have h5 : ∀ w1, _ := fun w1 => pin_nil a0 w1
  have h6 : ∀ w1, _ := fun w1 => unpin_nil a0 w1
  have h7 : ∀ w1, _ := fun w1 => pcommit_nil w1
  have h8 : ∀ w1, _ := fun w1 => dirty_nil w1
  have h9 : ∀ w1, _ := fun w1 => held_nil w1
  have h10 : ∀ w1, _ := fun w1 => reads_nil w1
  go_enter Try.func6, Try.ntmps6
  go_wp2_with (first
    | (go_at_call 7; refine hwk.mono ?_; clear hwk; rintro e w1 ⟨rfl, hb1⟩)
    | (go_at_call 21; refine (h1 _).mono ?_; clear h1; rintro e w2 ⟨rfl, rfl⟩)
    | (go_at_call 11; refine (h2 _).mono ?_; clear h2; rintro e w2 ⟨rfl, rfl⟩)
    | (go_at_call 9; refine (h3 _).mono ?_; clear h3; rintro e w2 ⟨rfl, rfl⟩)
    | (go_at_call 13; refine (h4 _).mono ?_; clear h4; rintro e w2 ⟨rfl, rfl⟩)
    | (go_at_call 15; refine (h5 _).mono ?_; clear h5; rintro e w2 ⟨rfl, rfl⟩)
    | (go_at_call 16; refine (h6 _).mono ?_; clear h6; rintro e w2 ⟨rfl, rfl⟩)
    | (go_at_call 17; refine (h7 _).mono ?_; clear h7; rintro e w2 ⟨rfl, rfl⟩)
    | (go_at_call 18; refine (h8 _).mono ?_; clear h8; rintro e w2 ⟨rfl, rfl⟩)
    | (go_at_call 19; refine (h9 _).mono ?_; clear h9; rintro e w2 ⟨rfl, rfl⟩)
    | (go_at_call 20; refine (h10 _).mono ?_; clear h10; rintro e w2 ⟨rfl, rfl⟩))
  go_ret
  exact ⟨rfl, hb1⟩

theorem pagerNil_own : ownKnob Try.prog.godebug = none := by kernel_rfl
theorem pagerNil_laidOut : laidOutB Try.prog = true := by kernel_rfl

set_option maxRecDepth 100000 in
theorem pagerNil_lifted (os : Os) (started : os.Started) (H : Type) (enc : TypeId × Value → H) :
    ReturnsInHanded {} Try.checked os 6 .any (Rows.pagerNilSpec.pre6 enc Try.prog Try.f6 Rows.pagerNilRow.domain false) (Rows.pagerNilSpec.post enc Try.prog Try.f6 false true false false) := by
  refine returnsInHanded_of_change_sized (C := Try.checked) pagerNil_own started (by kernel_rfl) Try.func6
    (ChangeSpec.witness6 (enc := enc) (C := Try.checked) false ⟨#[], #[.int .i64 0, .string ByteArray.empty, .int .i64 0], []⟩ 8 (by kernel_rfl) (by kernel_rfl) (by kernel_rfl) (by kernel_rfl)) ?_
  intro W base args ds gs before hval0 hW hcnd hsz0 _
  have hsz : (DataW.weightsEach Try.prog (Try.f6.params.toList ++ Rows.pagerNilSpec.plain.varTypes Try.prog) (ds ++ gs)).all (· ≤ reachBytes) = true := hsz0
  have hval : ∀ (j : Nat) t v, Try.f6.params[j]? = some t → args[j]? = some v → Value.okWide Try.prog W .any base t v := hval0
  have hW' := hW
  obtain ⟨p, q, hA0, hV, rfl, hfz, hnd⟩ := hW
  have hA : DataW.TrodAll enc Try.prog W 0 (fun _ => true) true Try.f6.params.toList args.toList ds p := hA0
  rw [Try.params6] at hA hval hsz
  obtain ⟨v0, vs0, d0, ds0, p0, q0, hargs, rfl, rfl, h0, r0⟩ := trodAll_cons hA
  obtain ⟨v1, vs1, d1, ds1, p1, q1, rfl, rfl, rfl, h1, r1⟩ := trodAll_cons r0
  obtain ⟨v2, vs2, d2, ds2, p2, q2, rfl, rfl, rfl, h2, r2⟩ := trodAll_cons r1
  obtain ⟨rfl, rfl, rfl⟩ := trodAll_nil r2
  obtain rfl : args = #[v0, v1, v2] := by cases args; simp_all
  obtain ⟨rfl, rfl⟩ := trodVars_none hV
  have k0 := h0
  have lt0 : ∀ x ∈ p0, x.block < W.heap.size := by obtain ⟨m, hm⟩ := k0; exact DataW.trod_lt m _ _ _ hm
  have k1 := h1
  have lt1 : ∀ x ∈ p1, x.block < W.heap.size := by obtain ⟨m, hm⟩ := k1; exact DataW.trod_lt m _ _ _ hm
  have k2 := h2
  have lt2 : ∀ x ∈ p2, x.block < W.heap.size := by obtain ⟨m, hm⟩ := k2; exact DataW.trod_lt m _ _ _ hm
  obtain ⟨a0, rfl, rfl, rfl, w0⟩ := open_int Try.underlying3 (hval 0 3 v0 rfl rfl) h0
  obtain ⟨a1, rfl, rfl, rfl, w1⟩ := open_string Try.underlying9 (hval 1 9 v1 rfl rfl) h1
  have z1 : a1.size ≤ reachBytes := by have := sized_string hsz (j := 1) (t := 9) rfl rfl; simpa using this
  obtain ⟨a2, rfl, rfl, rfl, w2⟩ := open_int Try.underlying3 (hval 2 3 v2 rfl rfl) h2
  clear hA0 hval0
  refine (pagerNil_walk a0 a1 a2 w0 z1 w2 W).mono fun e W' ⟨he, bel⟩ => ?_
  subst he
  exact ⟨_, rfl, _, _, _, [], _, [], hW', trodAll_mk1 (shut_bool Try.underlying4 _), (trodAll_cons_mk (Below.trod pagerNil_laidOut (by kernel_rfl) (of_decide_eq_true (by kernel_rfl)) k0 bel lt0) (trodAll_cons_mk (Below.trod pagerNil_laidOut (by kernel_rfl) (of_decide_eq_true (by kernel_rfl)) k1 bel lt1) (trodAll_cons_mk (Below.trod pagerNil_laidOut (by kernel_rfl) (of_decide_eq_true (by kernel_rfl)) k2 bel lt2) trodAll_mk0))), rfl, bel.frame _, fun h => by cases h⟩

theorem pagerNil_holds : Rows.PagerNilSaid :=
  OpenClaim.holds_of_wide 6 Try.f6 rfl rfl rfl rfl rfl rfl rfl ⟨rfl, rfl, rfl, rfl, rfl⟩ rfl rfl rfl rfl rfl (by kernel_rfl) Try.func6 (by kernel_rfl)
    (of_decide_eq_true (by kernel_rfl)) (by unfold Func.isWrapper; first | (rw [if_pos (by decide +kernel)]; kernel_rfl) | (rw [if_neg (by decide +kernel)]; exact ⟨rfl, rfl⟩))
    (fun os started H enc _ => pagerNil_lifted os started H enc)

#print axioms pagerNil_holds

end Go.Proofs.Ytoecopmbaoklkaa
