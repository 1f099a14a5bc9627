/-
  At every size: how many pages a disk has, and where the first one stands, are what the document says; no condition.
-/
import Derived.Test.YthinhlmefifffaaRows
import Derived.Test.YthinhlmefifffaaWk
import Derived.ProofKit
import Derived.OpenShut
import Derived.ShutString
import Derived.ChangeOld
import Derived.Below
import Derived.SizedLaws
import Derived.Lib.SmallJoins
namespace Go.Proofs.Ythinhlmefifffaa
open Go.ChangeShapes Go.WideShapes Go.ChangeAt Go.RowKit Go.Joins
open Go.ChangeMaps (open_string shut_string)
set_option linter.unusedVariables false
set_option linter.unusedSimpArgs false
set_option maxRecDepth 100000

set_option maxHeartbeats 4000000 in
theorem journalRooms_walk (n : Int) (wf : (Lit.int .i64 n).wf = true) (w : World) :
    Calls Try.prog 3 #[.int .i64 n] w fun e w' => e = .returned (.bool true) ∧ Below w.heap.size w w' := by
  have hwk := wakes_any w
  clear wf
  by_cases hr : n < 64 ∨ 2048 < n
  · have h1 : ∀ w1, _ := fun w1 => pages_no n hr w1
    have h2 : ∀ w1, _ := fun w1 => first_no n hr w1
    have h3 : ∀ w1, _ := fun w1 => rPages_no n hr w1
    have h4 : ∀ w1, _ := fun w1 => rFirst_no n hr w1
    clear hr
    go_enter Try.func3, Try.ntmps3
    go_wp2_with (first
      | (go_at_call 9; refine hwk.mono ?_; clear hwk; rintro e w1 ⟨rfl, hb1⟩; have HB1 := hid hb1; clear hb1)
      | (go_at_call 10; refine (h1 _).mono ?_; clear h1; rintro e w2 ⟨rfl, rfl⟩)
      | (go_at_call 11; refine (h2 _).mono ?_; clear h2; rintro e w2 ⟨rfl, rfl⟩)
      | (go_at_call 12; refine (h3 _).mono ?_; clear h3; rintro e w2 ⟨rfl, rfl⟩)
      | (go_at_call 13; refine (h4 _).mono ?_; clear h4; rintro e w2 ⟨rfl, rfl⟩))
    go_ret
    exact ⟨rfl, HB1.out⟩
  · obtain ⟨m, rfl⟩ : ∃ m : Nat, n = (m : Int) := ⟨n.toNat, by omega⟩
    have l1 : 64 ≤ m := by omega
    have l2 : m ≤ 2048 := by omega
    have h1 : ∀ w1, _ := fun w1 => pages_any m l1 l2 w1
    have h2 : ∀ w1, _ := fun w1 => first_any m l1 l2 w1
    have h3 : ∀ w1, _ := fun w1 => rPages_any m l1 l2 w1
    have h4 : ∀ w1, _ := fun w1 => rFirst_any m l1 l2 w1
    have b1 := pgs_lo l1
    have b2 := pgs_hi l2
    have b3 := frs_end l1
    generalize pgs m = q at *
    generalize frs m = r at *
    have t1 : ((q : Int) == 0) = false := by simp; omega
    have t2 : decide ((31 : Int) ≤ (q : Int)) = true := decide_eq_true (by omega)
    have t3 : decide ((r : Int) + (q : Int) - 1 ≤ (m : Int)) = true := decide_eq_true (by omega)
    have t4 : ((q : Int) != (q : Int)) = false := by simp
    have t5 : ((r : Int) != (r : Int)) = false := by simp
    clear hr
    go_enter Try.func3, Try.ntmps3
    go_wp2_with (first
      | (go_at_call 9; refine hwk.mono ?_; clear hwk; rintro e w1 ⟨rfl, hb1⟩; have HB1 := hid hb1; clear hb1)
      | (go_at_call 10; refine (h1 _).mono ?_; clear h1; rintro e w2 ⟨rfl, rfl⟩)
      | (go_at_call 11; refine (h2 _).mono ?_; clear h2; rintro e w2 ⟨rfl, rfl⟩)
      | (go_at_call 12; refine (h3 _).mono ?_; clear h3; rintro e w2 ⟨rfl, rfl⟩)
      | (go_at_call 13; refine (h4 _).mono ?_; clear h4; rintro e w2 ⟨rfl, rfl⟩))
    go_ret
    exact ⟨rfl, HB1.out⟩

theorem journalRooms_own : ownKnob Try.prog.godebug = none := by kernel_rfl
theorem journalRooms_laidOut : laidOutB Try.prog = true := by kernel_rfl

set_option maxRecDepth 100000 in
theorem journalRooms_lifted (os : Os) (started : os.Started) (H : Type) (enc : TypeId × Value → H) :
    ReturnsInHanded {} Try.checked os 3 .any (Rows.journalRoomsSpec.pre6 enc Try.prog Try.f3 Rows.journalRoomsRow.domain false) (Rows.journalRoomsSpec.post enc Try.prog Try.f3 false true false false) := by
  refine returnsInHanded_of_change_sized (C := Try.checked) journalRooms_own started (by kernel_rfl) Try.func3
    (ChangeSpec.witness6 (enc := enc) (C := Try.checked) false ⟨#[], #[.int .i64 0], []⟩ 8 (by kernel_rfl) (by kernel_rfl) (by kernel_rfl) (by kernel_rfl)) ?_
  intro W base args ds gs before hval0 hW hcnd hsz0 _
  have hsz : (DataW.weightsEach Try.prog (Try.f3.params.toList ++ Rows.journalRoomsSpec.plain.varTypes Try.prog) (ds ++ gs)).all (· ≤ reachBytes) = true := hsz0
  have hval : ∀ (j : Nat) t v, Try.f3.params[j]? = some t → args[j]? = some v → Value.okWide Try.prog W .any base t v := hval0
  have hW' := hW
  obtain ⟨p, q, hA0, hV, rfl, hfz, hnd⟩ := hW
  have hA : DataW.TrodAll enc Try.prog W 0 (fun _ => true) true Try.f3.params.toList args.toList ds p := hA0
  rw [Try.params3] at hA hval hsz
  obtain ⟨v0, vs0, d0, ds0, p0, q0, hargs, rfl, rfl, h0, r0⟩ := trodAll_cons hA
  obtain ⟨rfl, rfl, rfl⟩ := trodAll_nil r0
  obtain rfl : args = #[v0] := by cases args; simp_all
  obtain ⟨rfl, rfl⟩ := trodVars_none hV
  have k0 := h0
  have lt0 : ∀ x ∈ p0, x.block < W.heap.size := by obtain ⟨m, hm⟩ := k0; exact DataW.trod_lt m _ _ _ hm
  obtain ⟨a0, rfl, rfl, rfl, w0⟩ := open_int Try.underlying3 (hval 0 3 v0 rfl rfl) h0
  clear hA0 hval0
  refine (journalRooms_walk a0 w0 W).mono fun e W' ⟨he, bel⟩ => ?_
  subst he
  exact ⟨_, rfl, _, _, _, [], _, [], hW', trodAll_mk1 (shut_bool Try.underlying4 _), (trodAll_cons_mk (Below.trod journalRooms_laidOut (by kernel_rfl) (of_decide_eq_true (by kernel_rfl)) k0 bel lt0) trodAll_mk0), rfl, bel.frame _, fun h => by cases h⟩

theorem journalRooms_holds : Rows.JournalRoomsSaid :=
  OpenClaim.holds_of_wide 3 Try.f3 rfl rfl rfl rfl rfl rfl rfl ⟨rfl, rfl, rfl, rfl, rfl⟩ rfl rfl rfl rfl rfl (by kernel_rfl) Try.func3 (by kernel_rfl)
    (of_decide_eq_true (by kernel_rfl)) (by unfold Func.isWrapper; first | (rw [if_pos (by decide +kernel)]; kernel_rfl) | (rw [if_neg (by decide +kernel)]; exact ⟨rfl, rfl⟩))
    (fun os started H enc _ => journalRooms_lifted os started H enc)

#print axioms journalRooms_holds

end Go.Proofs.Ythinhlmefifffaa
