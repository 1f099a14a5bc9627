/-
  Proved: MixChanged returns true for every text, place and byte, and its arguments read behind the call as before.
-/
import Derived.Test.YtjkeildfcbbehaaRows
import Derived.Test.YtjkeildfcbbehaaMix
import Derived.ProofKit
import Derived.OpenShut
import Derived.ShutString
import Derived.ChangeOld
import Derived.Below
import Derived.SizedLaws
import Derived.Lib.SmallJoins
import Derived.Lib.UnsafeStr
import Derived.Laws.IdiomStrings
import Derived.Deep.QuietTactic
import Derived.BigQuiet
namespace Go.Proofs.Ytjkeildfcbbehaa
open Go.ChangeShapes Go.WideShapes Go.ChangeAt Go.RowKit Go.Joins
open Go.ChangeMaps (open_string shut_string)
set_option linter.unusedVariables false

theorem add_zero_off (g j : Nat) : (⟨g, 0, none⟩ : Addr).add j = ⟨g, j, none⟩ := by
  cases j <;> simp [Addr.add]

theorem conv_one (W : World) (c : UInt8) :
    (convert 29 9 (.slice (some ⟨W.heap.size, 0, none⟩) 1 1)).run Try.prog (W.alloc (.cells #[.int .u8 (c.toNat : Int)] 5)) = .ok (.string ⟨#[c]⟩) (W.alloc (.cells #[.int .u8 (c.toNat : Int)] 5)) := by
  have h := run_convert_bytes_back (P := Try.prog) (W.alloc (.cells #[.int .u8 (c.toNat : Int)] 5)) 29 9 5 ⟨W.heap.size, 0, none⟩ 1 [c] Try.underlying29 Try.underlying5 Try.underlying9 (fun j hj => by
    have hj0 : j = 0 := by simpa using hj
    subst hj0
    rw [add_zero_off, World.cell?_alloc_mark]
    simp)
  simpa using h

theorem conv_drew (W : World) (c : UInt8) :
    (convert 29 9 (.slice (some ⟨W.heap.size, 0, none⟩) 1 1)).run Try.prog (W.alloc (.cells #[.int .u8 (c.toNat : Int)] 5)).drew = .ok (.string ⟨#[c]⟩) (W.alloc (.cells #[.int .u8 (c.toNat : Int)] 5)).drew := by
  have h := run_convert_bytes_back (P := Try.prog) (W.alloc (.cells #[.int .u8 (c.toNat : Int)] 5)).drew 29 9 5 ⟨W.heap.size, 0, none⟩ 1 [c] Try.underlying29 Try.underlying5 Try.underlying9 (fun j hj => by
    have hj0 : j = 0 := by simpa using hj
    subst hj0
    rw [add_zero_off]
    show (W.alloc (.cells #[.int .u8 (c.toNat : Int)] 5)).cell? _ = _
    rw [World.cell?_alloc_mark]
    simp)
  simpa using h

theorem changed_off (s : ByteArray) (p c : Int) (w : World) (zs : s.size ≤ maxLen) (h : p < 0 ∨ (0 ≤ p ∧ s.size ≤ p)) :
    Calls Try.prog 6 #[.string s, .int .i64 p, .int .u8 c] w fun e w' => e = .returned (.bool true) ∧ Below w.heap.size w w' := by
  unfold maxLen at zs
  rcases h with h | ⟨h, h2⟩
  · go_enter Try.func6, Try.ntmps6
    go_wp2_with (go_at_call 8; refine (wakes_any _).mono ?_; rintro e w1 ⟨rfl, rfl⟩)
    go_ret
    exact ⟨rfl, Below.refl _ _⟩
  · go_enter Try.func6, Try.ntmps6
    go_wp2_with (go_at_call 8; refine (wakes_any _).mono ?_; rintro e w1 ⟨rfl, rfl⟩)
    go_ret
    exact ⟨rfl, Below.refl _ _⟩

theorem list_size (s : ByteArray) : s.data.toList.length = s.size := rfl

/-- The text s with byte c at place p. -/
def withByte (s : ByteArray) (p : Nat) (c : UInt8) : ByteArray := s.extract 0 p ++ ⟨#[c]⟩ ++ s.extract (p + 1) s.size

theorem withByte_list (s : ByteArray) (p : Nat) (c : UInt8) : (withByte s p c).data.toList = s.data.toList.take p ++ c :: s.data.toList.drop (p + 1) := by
  unfold withByte
  rw [ByteArray.data_append, ByteArray.data_append, Array.toList_append, Array.toList_append, Lib.extract_data, Lib.extract_data, List.drop_zero, Nat.sub_zero, List.append_assoc]
  rw [List.take_of_length_le (l := List.drop (p + 1) s.data.toList) (by rw [List.length_drop, list_size]; omega)]
  rfl

theorem withByte_size (s : ByteArray) (p : Nat) (c : UInt8) (h : p < s.size) : (withByte s p c).size = s.size := by
  rw [← list_size, withByte_list, List.length_append, List.length_cons, List.length_take, List.length_drop, list_size]
  omega

theorem split_at (s : ByteArray) (p : Nat) (h : p < s.size) : s.data.toList = s.data.toList.take p ++ s[p] :: s.data.toList.drop (p + 1) := by
  have hl : p < s.data.toList.length := h
  have h1 := List.take_append_drop p s.data.toList
  rw [List.drop_eq_getElem_cons hl] at h1
  exact h1.symm

theorem changed_told (s : ByteArray) (p : Nat) (c : UInt8) (h : p < s.size) :
    ((((more 1 (withByte s p c).data.toList : Nat) : Int) == ((more 1 s.data.toList : Nat) : Int)) == (((s[p].toNat : Nat) : Int) == ((c.toNat : Nat) : Int))) = true := by
  have h1 := more_changed 1 (s.data.toList.take p) (s.data.toList.drop (p + 1)) c s[p]
  rw [← withByte_list, ← split_at s p h] at h1
  rw [beq_iff_eq, Bool.eq_iff_iff, beq_iff_eq, beq_iff_eq, Int.natCast_inj, Int.natCast_inj, UInt8.toNat_inj, h1]
  exact eq_comm

theorem sum_same (s : ByteArray) (w : World) (hs : s.size ≤ maxLen) :
    Calls Try.prog 11 #[.string s] w fun e w' => e = .returned (.int .u32 (more 1 s.data.toList)) ∧ w' = w :=
  (sum_any s w hs).mono fun e w' ⟨he, hw⟩ => ⟨he, hw.symm⟩

theorem changed_in (s : ByteArray) (p : Nat) (c : UInt8) (w : World) (zs : s.size ≤ maxLen) (h : p < s.size) :
    Calls Try.prog 6 #[.string s, .int .i64 p, .int .u8 c.toNat] w fun e w' => e = .returned (.bool true) ∧ Below w.heap.size w w' := by
  unfold maxLen at zs
  have hd : decide ((s.size : Int) ≤ (p : Int)) = false := by simp; omega
  have hc := conv_drew w c
  have hz := withByte_size s p c h
  have HT : Hid (s.extract 0 p ++ ⟨#[c]⟩ ++ s.extract (p + 1) s.size = withByte s p c) := rfl
  have hle : p ≤ s.size := by omega
  have hle2 : p + 1 ≤ s.size := by omega
  go_enter Try.func6, Try.ntmps6
  go_wp2_with (go_at_call 8; refine (wakes_any _).mono ?_; rintro e w1 ⟨rfl, rfl⟩)
  go_region
  rw [HT.out]
  have hB : Below w.heap.size w (w.alloc (.cells #[.int .u8 (c.toNat : Int)] 5)).drew := ((Below.refl _ w).alloc (Nat.le_refl _) _).drew
  clear hc
  generalize (w.alloc (.cells #[.int .u8 (c.toNat : Int)] 5)).drew = W at hB ⊢
  have HC : Hid _ := changed_told s p c h
  go_wp2
  go_quiet (first | (go_at_call 11; exact Calls.quiet_of_same (sum_same s _ (by unfold maxLen; omega))) | (go_at_call 11; exact Calls.quiet_of_same (sum_same (withByte s p c) _ (by unfold maxLen; omega))))
  go_wp2
  go_ret
  refine ⟨?_, below_drewN hB _⟩
  exact congrArg (fun b => Ending.returned (.bool b)) HC.out

theorem mixChanged_walk (s : ByteArray) (a b : Int) (z : s.size ≤ reachBytes) (w1 : (Lit.int .i64 a).wf = true) (w2 : (Lit.int .u8 b).wf = true) (w : World) :
    Calls Try.prog 6 #[.string s, .int .i64 a, .int .u8 b] w fun e w' => e = .returned (.bool true) ∧ Below w.heap.size w w' := by
  have hs : s.size ≤ maxLen := by unfold reachBytes at z; unfold maxLen; omega
  obtain ⟨b1, b2⟩ := bounds_u8 w2
  by_cases h : a < 0 ∨ (0 ≤ a ∧ s.size ≤ a)
  · exact changed_off s a b w hs h
  · obtain ⟨p, rfl⟩ : ∃ n : Nat, a = n := ⟨a.toNat, by omega⟩
    have e : b = ((UInt8.ofNat b.toNat).toNat : Int) := by
      rw [UInt8.toNat_ofNat']
      omega
    rw [e]
    exact changed_in s p _ w hs (by omega)

theorem mixChanged_own : ownKnob Try.prog.godebug = none := by kernel_rfl
theorem mixChanged_laidOut : laidOutB Try.prog = true := by kernel_rfl

set_option maxRecDepth 100000 in
theorem mixChanged_lifted (os : Os) (started : os.Started) (H : Type) (enc : TypeId × Value → H) :
    ReturnsInHanded {} Try.checked os 6 .any (Rows.mixChangedSpec.pre6 enc Try.prog Try.f6 Rows.mixChangedRow.domain false) (Rows.mixChangedSpec.post enc Try.prog Try.f6 false true false false) := by
  refine returnsInHanded_of_change_sized (C := Try.checked) mixChanged_own started (by kernel_rfl) Try.func6
    (ChangeSpec.witness6 (enc := enc) (C := Try.checked) false ⟨#[], #[.string ByteArray.empty, .int .i64 0, .int .u8 0], []⟩ 8 (by kernel_rfl) (by kernel_rfl) (by kernel_rfl) (by kernel_rfl)) ?_
  intro W base args ds gs before hval0 hW hcnd hsz0 _
  have hsz : (DataW.weightsEach Try.prog (Try.f6.params.toList ++ Rows.mixChangedSpec.plain.varTypes Try.prog) (ds ++ gs)).all (· ≤ reachBytes) = true := hsz0
  have hval : ∀ (j : Nat) t v, Try.f6.params[j]? = some t → args[j]? = some v → Value.okWide Try.prog W .any base t v := hval0
  have hW' := hW
  obtain ⟨p, q, hA0, hV, rfl, hfz, hnd⟩ := hW
  have hA : DataW.TrodAll enc Try.prog W 0 (fun _ => true) true Try.f6.params.toList args.toList ds p := hA0
  rw [Try.params6] at hA hval hsz
  obtain ⟨v0, vs0, d0, ds0, p0, q0, hargs, rfl, rfl, h0, r0⟩ := trodAll_cons hA
  obtain ⟨v1, vs1, d1, ds1, p1, q1, rfl, rfl, rfl, h1, r1⟩ := trodAll_cons r0
  obtain ⟨v2, vs2, d2, ds2, p2, q2, rfl, rfl, rfl, h2, r2⟩ := trodAll_cons r1
  obtain ⟨rfl, rfl, rfl⟩ := trodAll_nil r2
  obtain rfl : args = #[v0, v1, v2] := by cases args; simp_all
  obtain ⟨rfl, rfl⟩ := trodVars_none hV
  have k0 := h0
  have lt0 : ∀ x ∈ p0, x.block < W.heap.size := by obtain ⟨m, hm⟩ := k0; exact DataW.trod_lt m _ _ _ hm
  have k1 := h1
  have lt1 : ∀ x ∈ p1, x.block < W.heap.size := by obtain ⟨m, hm⟩ := k1; exact DataW.trod_lt m _ _ _ hm
  have k2 := h2
  have lt2 : ∀ x ∈ p2, x.block < W.heap.size := by obtain ⟨m, hm⟩ := k2; exact DataW.trod_lt m _ _ _ hm
  obtain ⟨a0, rfl, rfl, rfl, w0⟩ := open_string Try.underlying9 (hval 0 9 v0 rfl rfl) h0
  have z0 : a0.size ≤ reachBytes := by have := sized_string hsz (j := 0) (t := 9) rfl rfl; simpa using this
  obtain ⟨a1, rfl, rfl, rfl, w1⟩ := open_int Try.underlying3 (hval 1 3 v1 rfl rfl) h1
  obtain ⟨a2, rfl, rfl, rfl, w2⟩ := open_int Try.underlying5 (hval 2 5 v2 rfl rfl) h2
  clear hA0 hval0
  refine (mixChanged_walk a0 a1 a2 z0 w1 w2 W).mono fun e W' ⟨he, bel⟩ => ?_
  subst he
  exact ⟨_, rfl, _, _, _, [], _, [], hW', trodAll_mk1 (shut_bool Try.underlying4 _), (trodAll_cons_mk (Below.trod mixChanged_laidOut (by kernel_rfl) (of_decide_eq_true (by kernel_rfl)) k0 bel lt0) (trodAll_cons_mk (Below.trod mixChanged_laidOut (by kernel_rfl) (of_decide_eq_true (by kernel_rfl)) k1 bel lt1) (trodAll_cons_mk (Below.trod mixChanged_laidOut (by kernel_rfl) (of_decide_eq_true (by kernel_rfl)) k2 bel lt2) trodAll_mk0))), rfl, bel.frame _, fun h => by cases h⟩

theorem mixChanged_holds : Rows.MixChangedSaid :=
  OpenClaim.holds_of_wide 6 Try.f6 rfl rfl rfl rfl rfl rfl rfl ⟨rfl, rfl, rfl, rfl, rfl⟩ rfl rfl rfl rfl rfl (by kernel_rfl) Try.func6 (by kernel_rfl)
    (of_decide_eq_true (by kernel_rfl)) (by unfold Func.isWrapper; first | (rw [if_pos (by decide +kernel)]; kernel_rfl) | (rw [if_neg (by decide +kernel)]; exact ⟨rfl, rfl⟩))
    (fun os started H enc _ => mixChanged_lifted os started H enc)

#print axioms mixChanged_holds

end Go.Proofs.Ytjkeildfcbbehaa
