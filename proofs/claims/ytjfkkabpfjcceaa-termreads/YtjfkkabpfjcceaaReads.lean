/-
  TermReads holds: any text is read as the document says, or refused at its place.
-/
import Derived.Test.YtjfkkabpfjcceaaRows
import Derived.Test.YtjfkkabpfjcceaaWake
import Derived.Test.YtjfkkabpfjcceaaRef
import Derived.Test.YtjfkkabpfjcceaaText
import Derived.ProofKit
import Derived.OpenShut
import Derived.ShutString
import Derived.ChangeOld
import Derived.Below
import Derived.SizedLaws
import Derived.Lib.SmallJoins
namespace Go.Proofs.Ytjfkkabpfjcceaa
open Go.ChangeShapes Go.WideShapes Go.ChangeAt Go.RowKit Go.Joins
open Go.ChangeMaps (open_string shut_string)
set_option linter.unusedVariables false
set_option maxRecDepth 100000
set_option linter.unusedSimpArgs false

theorem termReads_walk (s : ByteArray) (zs : s.size ≤ reachBytes) (w : World) :
    Calls Try.prog 4 #[.string s] w fun e w' => e = .returned (.bool true) ∧ Below w.heap.size w w' := by
  have hwk := wakes_any w
  have hp := fun w1 => parse_any s w1
  have hr := fun w1 => rParse_any s w1
  cases hpq : parse s with
  | bad j e =>
    rw [hpq] at hp hr
    have hp2 : ∀ w1 : World, Calls Try.prog 13 #[.string s] w1 fun x w' => x = .returned (.tuple #[.slice none 0 0, .int .i64 (j : Nat), .int .i64 (e : Nat)]) ∧ Below w1.heap.size w1 w' := hp
    have hr2 : ∀ w1 : World, Calls Try.prog 14 #[.string s] w1 fun x w' => x = .returned (.tuple #[.slice none 0 0, .int .i64 (j : Nat), .int .i64 (e : Nat)]) ∧ Below w1.heap.size w1 w' := hr
    have hnil : ∀ w1 : World, Lies w1 (.slice none 0 0) [] := fun w1 => ⟨none, 0, rfl, Nat.le_refl _, Nat.zero_le _, (fun c hc => by cases hc), (fun k c hc => by simp at hc)⟩
    have hsame := fun w1 => same_any w1 _ _ [] [] (hnil w1) (hnil w1)
    have hd : decide (([] : List Cl) = []) = true := decide_eq_true rfl
    simp only [hd] at hsame
    clear hp hr hpq hd
    go_enter Try.func4, Try.ntmps4
    go_wp2_with (first
      | (go_at_call 9; refine hwk.mono ?_; rintro x w1 ⟨rfl, hb1⟩)
      | (go_at_call 13; refine (hp2 _).mono ?_; rintro x w2 ⟨rfl, hb2⟩; replace hb2 := hb1.trans (hb2.mono hb1.size))
      | (go_at_call 14; refine (hr2 _).mono ?_; rintro x w3 ⟨rfl, hb3⟩; replace hb3 := hb2.trans (hb3.mono hb2.size))
      | (go_at_call 15; refine (hsame _).mono ?_; rintro x w4 ⟨rfl, hb4⟩; replace hb4 := hb3.trans (hb4.mono hb3.size)))
    go_ret
    exact ⟨rfl, hb4⟩
  | ok M j =>
    obtain ⟨_, rfl, _⟩ := text_parse hpq
    rw [hpq] at hp hr
    have hp2 : ∀ w1 : World, Calls Try.prog 13 #[.string s] w1 fun x w' => ∃ v, x = .returned (.tuple #[v, .int .i64 0, .int .i64 0]) ∧ Owns w' w1.heap.size v M ∧ Fine M ∧ Below w1.heap.size w1 w' := hp
    have hr2 : ∀ w1 : World, Calls Try.prog 14 #[.string s] w1 fun x w' => (∃ v, x = .returned (.tuple #[v, .int .i64 0, .int .i64 0]) ∧ Owns w' w1.heap.size v M) ∧ Below w1.heap.size w1 w' := hr
    have hsame : ∀ w1 u1 u2, Lies w1 u1 M → Lies w1 u2 M → _ := fun w1 u1 u2 h1 h2 => same_any w1 u1 u2 M M h1 h2
    have hd : decide (M = M) = true := decide_eq_true rfl
    simp only [hd] at hsame
    clear hp hr hpq hd
    go_enter Try.func4, Try.ntmps4
    go_wp2_with (first
      | (go_at_call 9; refine hwk.mono ?_; rintro x w1 ⟨rfl, hb1⟩)
      | (go_at_call 13; refine (hp2 _).mono ?_; rintro x w2 ⟨v2, rfl, ho2, hf2, hb2⟩; have hl2 := ho2.lies hf2; replace hb2 := hb1.trans (hb2.mono hb1.size))
      | (go_at_call 14; refine (hr2 _).mono ?_; rintro x w3 ⟨⟨v3, rfl, ho3⟩, hb3⟩; have hl3 := ho3.lies hf2; have hl2' := hl2.on hb3; replace hb3 := hb2.trans (hb3.mono hb2.size))
      | (go_at_call 15; refine (hsame _ _ _ hl2' hl3).mono ?_; rintro x w4 ⟨rfl, hb4⟩; replace hb4 := hb3.trans (hb4.mono hb3.size)))
    go_ret
    exact ⟨rfl, hb4⟩

theorem termReads_own : ownKnob Try.prog.godebug = none := by kernel_rfl
theorem termReads_laidOut : laidOutB Try.prog = true := by kernel_rfl

set_option maxRecDepth 100000 in
theorem termReads_lifted (os : Os) (started : os.Started) (H : Type) (enc : TypeId × Value → H) :
    ReturnsInHanded {} Try.checked os 4 .any (Rows.termReadsSpec.pre6 enc Try.prog Try.f4 Rows.termReadsRow.domain false) (Rows.termReadsSpec.post enc Try.prog Try.f4 false true false false) := by
  refine returnsInHanded_of_change_sized (C := Try.checked) termReads_own started (by kernel_rfl) Try.func4
    (ChangeSpec.witness6 (enc := enc) (C := Try.checked) false ⟨#[], #[.string ByteArray.empty], []⟩ 8 (by kernel_rfl) (by kernel_rfl) (by kernel_rfl) (by kernel_rfl)) ?_
  intro W base args ds gs before hval0 hW hcnd hsz0 _
  have hsz : (DataW.weightsEach Try.prog (Try.f4.params.toList ++ Rows.termReadsSpec.plain.varTypes Try.prog) (ds ++ gs)).all (· ≤ reachBytes) = true := hsz0
  have hval : ∀ (j : Nat) t v, Try.f4.params[j]? = some t → args[j]? = some v → Value.okWide Try.prog W .any base t v := hval0
  have hW' := hW
  obtain ⟨p, q, hA0, hV, rfl, hfz, hnd⟩ := hW
  have hA : DataW.TrodAll enc Try.prog W 0 (fun _ => true) true Try.f4.params.toList args.toList ds p := hA0
  rw [Try.params4] at hA hval hsz
  obtain ⟨v0, vs0, d0, ds0, p0, q0, hargs, rfl, rfl, h0, r0⟩ := trodAll_cons hA
  obtain ⟨rfl, rfl, rfl⟩ := trodAll_nil r0
  obtain rfl : args = #[v0] := by cases args; simp_all
  obtain ⟨rfl, rfl⟩ := trodVars_none hV
  have k0 := h0
  have lt0 : ∀ x ∈ p0, x.block < W.heap.size := by obtain ⟨m, hm⟩ := k0; exact DataW.trod_lt m _ _ _ hm
  obtain ⟨a0, rfl, rfl, rfl, w0⟩ := open_string Try.underlying9 (hval 0 9 v0 rfl rfl) h0
  have z0 : a0.size ≤ reachBytes := by have := sized_string hsz (j := 0) (t := 9) rfl rfl; simpa using this
  clear hA0 hval0
  refine (termReads_walk a0 z0 W).mono fun e W' ⟨he, bel⟩ => ?_
  subst he
  exact ⟨_, rfl, _, _, _, [], _, [], hW', trodAll_mk1 (shut_bool Try.underlying4 _), (trodAll_cons_mk (Below.trod termReads_laidOut (by kernel_rfl) (of_decide_eq_true (by kernel_rfl)) k0 bel lt0) trodAll_mk0), rfl, bel.frame _, fun h => by cases h⟩

theorem termReads_holds : Rows.TermReadsSaid :=
  OpenClaim.holds_of_wide 4 Try.f4 rfl rfl rfl rfl rfl rfl rfl ⟨rfl, rfl, rfl, rfl, rfl⟩ rfl rfl rfl rfl rfl (by kernel_rfl) Try.func4 (by kernel_rfl)
    (of_decide_eq_true (by kernel_rfl)) (by unfold Func.isWrapper; first | (rw [if_pos (by decide +kernel)]; kernel_rfl) | (rw [if_neg (by decide +kernel)]; exact ⟨rfl, rfl⟩))
    (fun os started H enc _ => termReads_lifted os started H enc)

#print axioms termReads_holds

end Go.Proofs.Ytjfkkabpfjcceaa
