/-
  Proved: MixTurned returns true for every text and place, and its arguments read behind the call as before.
-/
import Derived.Test.YtjkeildfcbbehaaRows
import Derived.Test.YtjkeildfcbbehaaMix
import Derived.ProofKit
import Derived.OpenShut
import Derived.ShutString
import Derived.ChangeOld
import Derived.Below
import Derived.SizedLaws
import Derived.Lib.SmallJoins
import Derived.Lib.UnsafeStr
import Derived.Laws.IdiomStrings
import Derived.Deep.QuietTactic
import Derived.BigQuiet
namespace Go.Proofs.Ytjkeildfcbbehaa
open Go.ChangeShapes Go.WideShapes Go.ChangeAt Go.RowKit Go.Joins
open Go.ChangeMaps (open_string shut_string)
set_option linter.unusedVariables false

theorem add_zero_off (g j : Nat) : (⟨g, 0, none⟩ : Addr).add j = ⟨g, j, none⟩ := by
  cases j <;> simp [Addr.add]

theorem conv_two (W : World) (c d : UInt8) :
    (convert 29 9 (.slice (some ⟨W.heap.size, 0, none⟩) 2 2)).run Try.prog (W.alloc (.cells #[.int .u8 (c.toNat : Int), .int .u8 (d.toNat : Int)] 5)).drew = .ok (.string ⟨#[c, d]⟩) (W.alloc (.cells #[.int .u8 (c.toNat : Int), .int .u8 (d.toNat : Int)] 5)).drew := by
  have h := run_convert_bytes_back (P := Try.prog) (W.alloc (.cells #[.int .u8 (c.toNat : Int), .int .u8 (d.toNat : Int)] 5)).drew 29 9 5 ⟨W.heap.size, 0, none⟩ 2 [c, d] Try.underlying29 Try.underlying5 Try.underlying9 (fun j hj => by
    have hj2 : j < 2 := by simpa using hj
    rw [add_zero_off]
    show (W.alloc (.cells #[.int .u8 (c.toNat : Int), .int .u8 (d.toNat : Int)] 5)).cell? _ = _
    rw [World.cell?_alloc_mark]
    obtain rfl | rfl : j = 0 ∨ j = 1 := by omega
    · simp
    · simp)
  simpa using h

theorem turned_off (s : ByteArray) (p : Int) (w : World) (zs : s.size ≤ maxLen) (h : p < 0 ∨ (0 ≤ p ∧ s.size - 1 ≤ p)) :
    Calls Try.prog 7 #[.string s, .int .i64 p] w fun e w' => e = .returned (.bool true) ∧ Below w.heap.size w w' := by
  unfold maxLen at zs
  rcases h with h | ⟨h, h2⟩
  · go_enter Try.func7, Try.ntmps7
    go_wp2_with (go_at_call 8; refine (wakes_any _).mono ?_; rintro e w1 ⟨rfl, rfl⟩)
    go_ret
    exact ⟨rfl, Below.refl _ _⟩
  · go_enter Try.func7, Try.ntmps7
    go_wp2_with (go_at_call 8; refine (wakes_any _).mono ?_; rintro e w1 ⟨rfl, rfl⟩)
    go_ret
    exact ⟨rfl, Below.refl _ _⟩

theorem list_size (s : ByteArray) : s.data.toList.length = s.size := rfl

/-- The text s with its bytes at p and p + 1 turned round. -/
def turnedAt (s : ByteArray) (p : Nat) (h : p + 1 < s.size) : ByteArray := s.extract 0 p ++ ⟨#[s[p + 1], s[p]]⟩ ++ s.extract (p + 2) s.size

theorem turnedAt_list (s : ByteArray) (p : Nat) (h : p + 1 < s.size) : (turnedAt s p h).data.toList = s.data.toList.take p ++ s[p + 1] :: s[p] :: s.data.toList.drop (p + 2) := by
  unfold turnedAt
  rw [ByteArray.data_append, ByteArray.data_append, Array.toList_append, Array.toList_append, Lib.extract_data, Lib.extract_data, List.drop_zero, Nat.sub_zero, List.append_assoc]
  rw [List.take_of_length_le (l := List.drop (p + 2) s.data.toList) (by rw [List.length_drop, list_size]; omega)]
  rfl

theorem turnedAt_size (s : ByteArray) (p : Nat) (h : p + 1 < s.size) : (turnedAt s p h).size = s.size := by
  rw [← list_size, turnedAt_list, List.length_append, List.length_cons, List.length_cons, List.length_take, List.length_drop, list_size]
  omega

theorem split_two (s : ByteArray) (p : Nat) (h : p + 1 < s.size) : s.data.toList = s.data.toList.take p ++ s[p] :: s[p + 1] :: s.data.toList.drop (p + 2) := by
  have hl : p < s.data.toList.length := by rw [list_size]; omega
  have hl2 : p + 1 < s.data.toList.length := h
  have h1 := List.take_append_drop p s.data.toList
  rw [List.drop_eq_getElem_cons hl, List.drop_eq_getElem_cons hl2] at h1
  exact h1.symm

theorem turned_told (s : ByteArray) (p : Nat) (h : p + 1 < s.size) :
    ((((more 1 (turnedAt s p h).data.toList : Nat) : Int) == ((more 1 s.data.toList : Nat) : Int)) == (((s[p].toNat : Nat) : Int) == ((s[p + 1].toNat : Nat) : Int))) = true := by
  have h1 := more_turned 1 (s.data.toList.take p) (s.data.toList.drop (p + 2)) s[p] s[p + 1]
  rw [← turnedAt_list s p h, ← split_two s p h] at h1
  rw [beq_iff_eq, Bool.eq_iff_iff, beq_iff_eq, beq_iff_eq, Int.natCast_inj, Int.natCast_inj, UInt8.toNat_inj, h1]

theorem sum_same (s : ByteArray) (w : World) (hs : s.size ≤ maxLen) :
    Calls Try.prog 11 #[.string s] w fun e w' => e = .returned (.int .u32 (more 1 s.data.toList)) ∧ w' = w :=
  (sum_any s w hs).mono fun e w' ⟨he, hw⟩ => ⟨he, hw.symm⟩

set_option maxHeartbeats 400000 in
theorem turned_in (s : ByteArray) (p : Nat) (w : World) (zs : s.size ≤ maxLen) (h : p + 1 < s.size) :
    Calls Try.prog 7 #[.string s, .int .i64 p] w fun e w' => e = .returned (.bool true) ∧ Below w.heap.size w w' := by
  unfold maxLen at zs
  have hd : decide ((s.size : Int) - 1 ≤ (p : Int)) = false := by simp; omega
  have hc := conv_two w s[p + 1] s[p]
  have hz := turnedAt_size s p h
  have HT : Hid (s.extract 0 p ++ ⟨#[s[p + 1], s[p]]⟩ ++ s.extract (p + 2) s.size = turnedAt s p h) := rfl
  have hle : p ≤ s.size := by omega
  have hle2 : p + 2 ≤ s.size := by omega
  have hp0 : p < s.size := by omega
  have hi1 : (p : Int) + 1 < (s.size : Int) := by omega
  have hi0 : 0 ≤ (p : Int) + 1 := by omega
  have hit : ((p : Int) + 1).toNat = p + 1 := by omega
  go_enter Try.func7, Try.ntmps7
  go_wp2_with (go_at_call 8; refine (wakes_any _).mono ?_; rintro e w1 ⟨rfl, rfl⟩)
  go_region
  rw [HT.out]
  have hB : Below w.heap.size w (w.alloc (.cells #[.int .u8 (s[p + 1].toNat : Int), .int .u8 (s[p].toNat : Int)] 5)).drew := ((Below.refl _ w).alloc (Nat.le_refl _) _).drew
  clear hc
  generalize (w.alloc (.cells #[.int .u8 (s[p + 1].toNat : Int), .int .u8 (s[p].toNat : Int)] 5)).drew = W at hB ⊢
  have HC : Hid _ := turned_told s p h
  go_wp2
  go_quiet (first | (go_at_call 11; exact Calls.quiet_of_same (sum_same s _ (by unfold maxLen; omega))) | (go_at_call 11; exact Calls.quiet_of_same (sum_same (turnedAt s p h) _ (by unfold maxLen; omega))))
  go_wp2
  go_ret
  refine ⟨?_, below_drewN hB _⟩
  exact congrArg (fun b => Ending.returned (.bool b)) HC.out

theorem mixTurned_walk (s : ByteArray) (a : Int) (z : s.size ≤ reachBytes) (w1 : (Lit.int .i64 a).wf = true) (w : World) :
    Calls Try.prog 7 #[.string s, .int .i64 a] w fun e w' => e = .returned (.bool true) ∧ Below w.heap.size w w' := by
  have hs : s.size ≤ maxLen := by unfold reachBytes at z; unfold maxLen; omega
  by_cases h : a < 0 ∨ (0 ≤ a ∧ s.size - 1 ≤ a)
  · exact turned_off s a w hs h
  · obtain ⟨p, rfl⟩ : ∃ n : Nat, a = n := ⟨a.toNat, by omega⟩
    exact turned_in s p w hs (by omega)

theorem mixTurned_own : ownKnob Try.prog.godebug = none := by kernel_rfl
theorem mixTurned_laidOut : laidOutB Try.prog = true := by kernel_rfl

set_option maxRecDepth 100000 in
theorem mixTurned_lifted (os : Os) (started : os.Started) (H : Type) (enc : TypeId × Value → H) :
    ReturnsInHanded {} Try.checked os 7 .any (Rows.mixTurnedSpec.pre6 enc Try.prog Try.f7 Rows.mixTurnedRow.domain false) (Rows.mixTurnedSpec.post enc Try.prog Try.f7 false true false false) := by
  refine returnsInHanded_of_change_sized (C := Try.checked) mixTurned_own started (by kernel_rfl) Try.func7
    (ChangeSpec.witness6 (enc := enc) (C := Try.checked) false ⟨#[], #[.string ByteArray.empty, .int .i64 0], []⟩ 8 (by kernel_rfl) (by kernel_rfl) (by kernel_rfl) (by kernel_rfl)) ?_
  intro W base args ds gs before hval0 hW hcnd hsz0 _
  have hsz : (DataW.weightsEach Try.prog (Try.f7.params.toList ++ Rows.mixTurnedSpec.plain.varTypes Try.prog) (ds ++ gs)).all (· ≤ reachBytes) = true := hsz0
  have hval : ∀ (j : Nat) t v, Try.f7.params[j]? = some t → args[j]? = some v → Value.okWide Try.prog W .any base t v := hval0
  have hW' := hW
  obtain ⟨p, q, hA0, hV, rfl, hfz, hnd⟩ := hW
  have hA : DataW.TrodAll enc Try.prog W 0 (fun _ => true) true Try.f7.params.toList args.toList ds p := hA0
  rw [Try.params7] at hA hval hsz
  obtain ⟨v0, vs0, d0, ds0, p0, q0, hargs, rfl, rfl, h0, r0⟩ := trodAll_cons hA
  obtain ⟨v1, vs1, d1, ds1, p1, q1, rfl, rfl, rfl, h1, r1⟩ := trodAll_cons r0
  obtain ⟨rfl, rfl, rfl⟩ := trodAll_nil r1
  obtain rfl : args = #[v0, v1] := by cases args; simp_all
  obtain ⟨rfl, rfl⟩ := trodVars_none hV
  have k0 := h0
  have lt0 : ∀ x ∈ p0, x.block < W.heap.size := by obtain ⟨m, hm⟩ := k0; exact DataW.trod_lt m _ _ _ hm
  have k1 := h1
  have lt1 : ∀ x ∈ p1, x.block < W.heap.size := by obtain ⟨m, hm⟩ := k1; exact DataW.trod_lt m _ _ _ hm
  obtain ⟨a0, rfl, rfl, rfl, w0⟩ := open_string Try.underlying9 (hval 0 9 v0 rfl rfl) h0
  have z0 : a0.size ≤ reachBytes := by have := sized_string hsz (j := 0) (t := 9) rfl rfl; simpa using this
  obtain ⟨a1, rfl, rfl, rfl, w1⟩ := open_int Try.underlying3 (hval 1 3 v1 rfl rfl) h1
  clear hA0 hval0
  refine (mixTurned_walk a0 a1 z0 w1 W).mono fun e W' ⟨he, bel⟩ => ?_
  subst he
  exact ⟨_, rfl, _, _, _, [], _, [], hW', trodAll_mk1 (shut_bool Try.underlying4 _), (trodAll_cons_mk (Below.trod mixTurned_laidOut (by kernel_rfl) (of_decide_eq_true (by kernel_rfl)) k0 bel lt0) (trodAll_cons_mk (Below.trod mixTurned_laidOut (by kernel_rfl) (of_decide_eq_true (by kernel_rfl)) k1 bel lt1) trodAll_mk0)), rfl, bel.frame _, fun h => by cases h⟩

theorem mixTurned_holds : Rows.MixTurnedSaid :=
  OpenClaim.holds_of_wide 7 Try.f7 rfl rfl rfl rfl rfl rfl rfl ⟨rfl, rfl, rfl, rfl, rfl⟩ rfl rfl rfl rfl rfl (by kernel_rfl) Try.func7 (by kernel_rfl)
    (of_decide_eq_true (by kernel_rfl)) (by unfold Func.isWrapper; first | (rw [if_pos (by decide +kernel)]; kernel_rfl) | (rw [if_neg (by decide +kernel)]; exact ⟨rfl, rfl⟩))
    (fun os started H enc _ => mixTurned_lifted os started H enc)

#print axioms mixTurned_holds

end Go.Proofs.Ytjkeildfcbbehaa
