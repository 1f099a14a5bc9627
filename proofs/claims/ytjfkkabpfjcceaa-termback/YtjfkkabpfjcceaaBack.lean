/-
  Proved: TermBack returns true for every list of cells and every text, and its arguments read behind the call as before.
-/
import Derived.Test.YtjfkkabpfjcceaaRows
import Derived.Test.YtjfkkabpfjcceaaWake
import Derived.Test.YtjfkkabpfjcceaaOpen
import Derived.Test.YtjfkkabpfjcceaaText
import Derived.ProofKit
import Derived.OpenShut
import Derived.ShutString
import Derived.ChangeOld
import Derived.Below
import Derived.SizedLaws
import Derived.Lib.SmallJoins
namespace Go.Proofs.Ytjfkkabpfjcceaa
open Go.ChangeShapes Go.WideShapes Go.ChangeAt Go.RowKit Go.Joins
open Go.ChangeMaps (open_string shut_string)
set_option linter.unusedVariables false
set_option maxRecDepth 100000
set_option linter.unusedSimpArgs false

theorem termBack_walk (v : Value) (L : List Cl) (s : ByteArray) (zs : s.size ≤ reachBytes) (w : World) (hl : Lies w v L) (hz : L.length * 24 ≤ 140737488355328) :
    Calls Try.prog 6 #[v, .string s] w fun e w' => e = .returned (.bool true) ∧ Below w.heap.size w w' := by
  have hwk := wakes_any w
  have HL : Hid (Lies w v L) := hl
  have hcp : ∀ w1, Below w.heap.size w w1 → _ := fun w1 hb => copy_any w1 v L (HL.out.on hb) hz
  have HF : Hid (Fine L) := by obtain ⟨_, _, _, _, _, hf, _⟩ := hl; exact hf
  clear hl
  have hps := fun w1 => parse_any s w1
  have hr1 : s.size ≤ 9223372036854775807 := by unfold reachBytes at zs; omega
  by_cases hE : check L = 0
  · obtain ⟨nm, kd, hL⟩ := check_term hE
    have hpr : ∀ w1 v1, Lies w1 v1 L → _ := fun w1 v1 h1 => print_ok w1 v1 L h1 hE nm kd hL
    have hpt := fun w1 => parse_any ⟨(Fo.cons nm kd .nil).text.toArray⟩ w1
    rw [parse_text hE hL] at hpt
    have hpt2 : ∀ w1 : World, Calls Try.prog 13 #[.string ⟨(Fo.cons nm kd .nil).text.toArray⟩] w1 fun x w' => ∃ v, x = .returned (.tuple #[v, .int .i64 0, .int .i64 0]) ∧ Owns w' w1.heap.size v L ∧ Fine L ∧ Below w1.heap.size w1 w' := hpt
    generalize hT : (⟨(Fo.cons nm kd .nil).text.toArray⟩ : ByteArray) = T at hpr hpt2
    have hsame : ∀ w1 u1, Lies w1 u1 L → Lies w1 v L → _ := fun w1 u1 h1 h2 => same_any w1 u1 v L L h1 h2
    have hd : decide (L = L) = true := decide_eq_true rfl
    simp only [hd] at hsame
    clear hpt hT hL hE hd
    cases hpq : parse s with
    | bad j e =>
      obtain ⟨b1, b2, b3⟩ := parse_bad_le hpq
      rw [hpq] at hps
      have hps2 : ∀ w1 : World, Calls Try.prog 13 #[.string s] w1 fun x w' => x = .returned (.tuple #[.slice none 0 0, .int .i64 (j : Nat), .int .i64 (e : Nat)]) ∧ Below w1.heap.size w1 w' := hps
      have e1 : ((e : Int) != 0) = true := by simp; omega
      have e2 : ((e : Int) == 0) = false := by simp only [beq_eq_false_iff_ne]; omega
      have e3 : ¬ (e : Int) = 0 := by omega
      have j1 : (0 : Int) ≤ (j : Int) := by omega
      have j2 : (j : Int) ≤ (s.size : Int) := by omega
      clear hps hpq
      go_enter Try.func6, Try.ntmps6
      go_wp2_with (first
        | (go_at_call 9; refine hwk.mono ?_; rintro x w1 ⟨rfl, hb1⟩)
        | (go_at_call 11; refine (hcp _ hb1).mono ?_; rintro x w2 ⟨v2, rfl, hown2, hb2⟩; have hl2 := hown2.lies HF.out; replace hb2 := hb1.trans (hb2.mono hb1.size))
        | (go_at_call 16; refine (hpr _ _ hl2).mono ?_; rintro x w3 ⟨rfl, hb3⟩; replace hb3 := hb2.trans (hb3.mono hb2.size))
        | (go_at_call_of 13 (Value.string T); refine (hpt2 _).mono ?_; rintro x w4 ⟨v4, rfl, hown4, _, hb4⟩; have hl4 := hown4.lies HF.out; replace hb4 := hb3.trans (hb4.mono hb3.size))
        | (go_at_call 15; refine (hsame _ _ hl4 (HL.out.on hb4)).mono ?_; rintro x w5 ⟨rfl, hb5⟩; replace hb5 := hb4.trans (hb5.mono hb4.size))
        | (go_at_call_of 13 (Value.string s); refine (hps2 _).mono ?_; rintro x w6 ⟨rfl, hb6⟩; replace hb6 := hb5.trans (hb6.mono hb5.size)))
      go_ret
      exact ⟨rfl, hb6⟩
    | ok M j =>
      obtain ⟨c1, rfl, nm2, kd2, hM, hS⟩ := text_parse hpq
      rw [hpq] at hps
      have hps2 : ∀ w1 : World, Calls Try.prog 13 #[.string s] w1 fun x w' => ∃ v, x = .returned (.tuple #[v, .int .i64 0, .int .i64 0]) ∧ Owns w' w1.heap.size v M ∧ Fine M ∧ Below w1.heap.size w1 w' := hps
      have hpr2 : ∀ w1 v1, Lies w1 v1 M → _ := fun w1 v1 h1 => print_ok w1 v1 M h1 c1 nm2 kd2 hM
      simp only [← hS] at hpr2
      have hst : (s.toList == s.toList) = true := by simp
      clear hps hpq hM hS c1
      go_enter Try.func6, Try.ntmps6
      go_wp2_with (first
        | (go_at_call 9; refine hwk.mono ?_; rintro x w1 ⟨rfl, hb1⟩)
        | (go_at_call 11; refine (hcp _ hb1).mono ?_; rintro x w2 ⟨v2, rfl, hown2, hb2⟩; have hl2 := hown2.lies HF.out; replace hb2 := hb1.trans (hb2.mono hb1.size))
        | (go_at_call_of 16 v2; refine (hpr _ _ hl2).mono ?_; rintro x w3 ⟨rfl, hb3⟩; replace hb3 := hb2.trans (hb3.mono hb2.size))
        | (go_at_call_of 13 (Value.string T); refine (hpt2 _).mono ?_; rintro x w4 ⟨v4, rfl, hown4, _, hb4⟩; have hl4 := hown4.lies HF.out; replace hb4 := hb3.trans (hb4.mono hb3.size))
        | (go_at_call 15; refine (hsame _ _ hl4 (HL.out.on hb4)).mono ?_; rintro x w5 ⟨rfl, hb5⟩; replace hb5 := hb4.trans (hb5.mono hb4.size))
        | (go_at_call_of 13 (Value.string s); refine (hps2 _).mono ?_; rintro x w6 ⟨v6, rfl, hown6, hf6, hb6⟩; have hl6 := hown6.lies hf6; replace hb6 := hb5.trans (hb6.mono hb5.size))
        | (go_at_call_of 16 v6; refine (hpr2 _ _ hl6).mono ?_; rintro x w7 ⟨rfl, hb7⟩; replace hb7 := hb6.trans (hb7.mono hb6.size)))
      go_ret
      exact ⟨rfl, hb7⟩
  · have hpr : ∀ w1 v1, Lies w1 v1 L → _ := fun w1 v1 h1 => print_bad w1 v1 L h1 hE
    generalize check L = q at hpr hE
    have q1 : ((q : Int) == 0) = false := by simp only [beq_eq_false_iff_ne]; omega
    have q2 : ¬ (q : Int) = 0 := by omega
    cases hpq : parse s with
    | bad j e =>
      obtain ⟨b1, b2, b3⟩ := parse_bad_le hpq
      rw [hpq] at hps
      have hps2 : ∀ w1 : World, Calls Try.prog 13 #[.string s] w1 fun x w' => x = .returned (.tuple #[.slice none 0 0, .int .i64 (j : Nat), .int .i64 (e : Nat)]) ∧ Below w1.heap.size w1 w' := hps
      have e1 : ((e : Int) != 0) = true := by simp; omega
      have e2 : ((e : Int) == 0) = false := by simp only [beq_eq_false_iff_ne]; omega
      have e3 : ¬ (e : Int) = 0 := by omega
      have j1 : (0 : Int) ≤ (j : Int) := by omega
      have j2 : (j : Int) ≤ (s.size : Int) := by omega
      clear hps hpq
      go_enter Try.func6, Try.ntmps6
      go_wp2_with (first
        | (go_at_call 9; refine hwk.mono ?_; rintro x w1 ⟨rfl, hb1⟩)
        | (go_at_call 11; refine (hcp _ hb1).mono ?_; rintro x w2 ⟨v2, rfl, hown2, hb2⟩; have hl2 := hown2.lies HF.out; replace hb2 := hb1.trans (hb2.mono hb1.size))
        | (go_at_call 16; refine (hpr _ _ hl2).mono ?_; rintro x w3 ⟨rfl, hb3⟩; replace hb3 := hb2.trans (hb3.mono hb2.size))
        | (go_at_call 13; refine (hps2 _).mono ?_; rintro x w6 ⟨rfl, hb6⟩; replace hb6 := hb3.trans (hb6.mono hb3.size)))
      go_ret
      exact ⟨rfl, hb6⟩
    | ok M j =>
      obtain ⟨c1, rfl, nm2, kd2, hM, hS⟩ := text_parse hpq
      rw [hpq] at hps
      have hps2 : ∀ w1 : World, Calls Try.prog 13 #[.string s] w1 fun x w' => ∃ v, x = .returned (.tuple #[v, .int .i64 0, .int .i64 0]) ∧ Owns w' w1.heap.size v M ∧ Fine M ∧ Below w1.heap.size w1 w' := hps
      have hpr2 : ∀ w1 v1, Lies w1 v1 M → _ := fun w1 v1 h1 => print_ok w1 v1 M h1 c1 nm2 kd2 hM
      simp only [← hS] at hpr2
      have hst : (s.toList == s.toList) = true := by simp
      clear hps hpq hM hS c1
      go_enter Try.func6, Try.ntmps6
      go_wp2_with (first
        | (go_at_call 9; refine hwk.mono ?_; rintro x w1 ⟨rfl, hb1⟩)
        | (go_at_call 11; refine (hcp _ hb1).mono ?_; rintro x w2 ⟨v2, rfl, hown2, hb2⟩; have hl2 := hown2.lies HF.out; replace hb2 := hb1.trans (hb2.mono hb1.size))
        | (go_at_call_of 16 v2; refine (hpr _ _ hl2).mono ?_; rintro x w3 ⟨rfl, hb3⟩; replace hb3 := hb2.trans (hb3.mono hb2.size))
        | (go_at_call 13; refine (hps2 _).mono ?_; rintro x w6 ⟨v6, rfl, hown6, hf6, hb6⟩; have hl6 := hown6.lies hf6; replace hb6 := hb3.trans (hb6.mono hb3.size))
        | (go_at_call_of 16 v6; refine (hpr2 _ _ hl6).mono ?_; rintro x w7 ⟨rfl, hb7⟩; replace hb7 := hb6.trans (hb7.mono hb6.size)))
      go_ret
      exact ⟨rfl, hb7⟩

theorem termBack_own : ownKnob Try.prog.godebug = none := by kernel_rfl
theorem termBack_laidOut : laidOutB Try.prog = true := by kernel_rfl

set_option maxRecDepth 100000 in
theorem termBack_lifted (os : Os) (started : os.Started) (H : Type) (enc : TypeId × Value → H) :
    ReturnsInHanded {} Try.checked os 6 .any (Rows.termBackSpec.pre6 enc Try.prog Try.f6 Rows.termBackRow.domain false) (Rows.termBackSpec.post enc Try.prog Try.f6 false true false false) := by
  refine returnsInHanded_of_change_sized (C := Try.checked) termBack_own started (by kernel_rfl) Try.func6
    (ChangeSpec.witness6 (enc := enc) (C := Try.checked) false ⟨#[], #[.slice none 0 0, .string ByteArray.empty], []⟩ 8 (by kernel_rfl) (by kernel_rfl) (by kernel_rfl) (by kernel_rfl)) ?_
  intro W base args ds gs before hval0 hW hcnd hsz0 _
  have hsz : (DataW.weightsEach Try.prog (Try.f6.params.toList ++ Rows.termBackSpec.plain.varTypes Try.prog) (ds ++ gs)).all (· ≤ reachBytes) = true := hsz0
  have hval : ∀ (j : Nat) t v, Try.f6.params[j]? = some t → args[j]? = some v → Value.okWide Try.prog W .any base t v := hval0
  have hW' := hW
  obtain ⟨p, q, hA0, hV, rfl, hfz, hnd⟩ := hW
  have hA : DataW.TrodAll enc Try.prog W 0 (fun _ => true) true Try.f6.params.toList args.toList ds p := hA0
  rw [Try.params6] at hA hval hsz
  obtain ⟨v0, vs0, d0, ds0, p0, q0, hargs, rfl, rfl, h0, r0⟩ := trodAll_cons hA
  obtain ⟨v1, vs1, d1, ds1, p1, q1, rfl, rfl, rfl, h1, r1⟩ := trodAll_cons r0
  obtain ⟨rfl, rfl, rfl⟩ := trodAll_nil r1
  obtain rfl : args = #[v0, v1] := by cases args; simp_all
  obtain ⟨rfl, rfl⟩ := trodVars_none hV
  have k0 := h0
  have lt0 : ∀ x ∈ p0, x.block < W.heap.size := by obtain ⟨m, hm⟩ := k0; exact DataW.trod_lt m _ _ _ hm
  have k1 := h1
  have lt1 : ∀ x ∈ p1, x.block < W.heap.size := by obtain ⟨m, hm⟩ := k1; exact DataW.trod_lt m _ _ _ hm
  obtain ⟨L0, l0, z0⟩ := open_cells (hval 0 23 v0 rfl rfl) h0 (fun n hn => by simpa using List.all_eq_true.1 hsz n (DataW.weights_mem_each (j := 0) (t := 23) rfl rfl n hn))
  obtain ⟨a1, rfl, rfl, rfl, w1⟩ := open_string Try.underlying9 (hval 1 9 v1 rfl rfl) h1
  have z1 : a1.size ≤ reachBytes := by have := sized_string hsz (j := 1) (t := 9) rfl rfl; simpa using this
  clear hA0 hval0
  refine (termBack_walk v0 L0 a1 z1 W l0 z0).mono fun e W' ⟨he, bel⟩ => ?_
  subst he
  exact ⟨_, rfl, _, _, _, [], _, [], hW', trodAll_mk1 (shut_bool Try.underlying4 _), (trodAll_cons_mk (Below.trod termBack_laidOut (by kernel_rfl) (of_decide_eq_true (by kernel_rfl)) k0 bel lt0) (trodAll_cons_mk (Below.trod termBack_laidOut (by kernel_rfl) (of_decide_eq_true (by kernel_rfl)) k1 bel lt1) trodAll_mk0)), rfl, bel.frame _, fun h => by cases h⟩

theorem termBack_holds : Rows.TermBackSaid :=
  OpenClaim.holds_of_wide 6 Try.f6 rfl rfl rfl rfl rfl rfl rfl ⟨rfl, rfl, rfl, rfl, rfl⟩ rfl rfl rfl rfl rfl (by kernel_rfl) Try.func6 (by kernel_rfl)
    (of_decide_eq_true (by kernel_rfl)) (by unfold Func.isWrapper; first | (rw [if_pos (by decide +kernel)]; kernel_rfl) | (rw [if_neg (by decide +kernel)]; exact ⟨rfl, rfl⟩))
    (fun os started H enc _ => termBack_lifted os started H enc)

#print axioms termBack_holds

end Go.Proofs.Ytjfkkabpfjcceaa
