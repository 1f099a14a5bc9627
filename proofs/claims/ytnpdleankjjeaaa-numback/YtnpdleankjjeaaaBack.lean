/-
  Proved: NumBack returns true for every number, every width and every text, and its arguments read behind the call as before.
-/
import Derived.Test.YtnpdleankjjeaaaRows
import Derived.Test.YtnpdleankjjeaaaNumB
import Derived.ProofKit
import Derived.OpenShut
import Derived.ShutString
import Derived.ChangeOld
import Derived.Below
import Derived.SizedLaws
import Derived.Lib.SmallJoins
namespace Go.Proofs.Ytnpdleankjjeaaa
open Go.ChangeShapes Go.WideShapes Go.ChangeAt Go.RowKit Go.Joins
open Go.ChangeMaps (open_string shut_string)
set_option linter.unusedVariables false

theorem size_toList (s : ByteArray) : s.data.toList.length = s.size := rfl

theorem sub_mid (s : ByteArray) (l : List UInt8) (t : ByteArray) : sub (s ++ ⟨l.toArray⟩ ++ t) s.size l.length = l := by
  unfold sub
  rw [ByteArray.data_append, ByteArray.data_append]
  simp only [Array.toList_append]
  rw [List.append_assoc, ← size_toList s, List.drop_left, List.take_left]

theorem get_back (s : ByteArray) (n c : Nat) (w : World) (h1 : 1 ≤ c) (h2 : c ≤ 8) (hn : n < 256 ^ c) (hs : s.size ≤ 1048576) :
    Calls Try.prog 12 #[.string (s ++ ⟨(be n c).toArray⟩ ++ s), .int .i64 s.size, .int .i64 c] w fun e w' => e = .returned (.tuple #[.int .u64 n, .int .i64 0]) ∧ w = w' := by
  have hz : (s ++ ⟨(be n c).toArray⟩ ++ s : ByteArray).size = s.size + c + s.size := by
    have : (⟨(be n c).toArray⟩ : ByteArray).size = c := by
      show (be n c).toArray.size = c
      simp [be_length]
    simp [ByteArray.size_append, this]
  have h := get_ok (s ++ ⟨(be n c).toArray⟩ ++ s) s.size c w h1 h2 (by rw [hz]; unfold maxLen; omega) (by rw [hz]; omega)
  have e : val (sub (s ++ ⟨(be n c).toArray⟩ ++ s) s.size c) = n := by
    have := sub_mid s (be n c) s
    rw [be_length] at this
    rw [this, val_be_of_lt hn]
  rw [e] at h
  exact h

theorem numBack_long (n c : Int) (s : ByteArray) (w : World) (hs : s.size ≤ maxLen) (h : 1048576 < s.size) :
    Calls Try.prog 6 #[.int .u64 n, .int .i64 c, .string s] w fun e w' => e = .returned (.bool true) ∧ Below w.heap.size w w' := by
  unfold maxLen at hs
  go_enter Try.func6, Try.ntmps6
  go_wp2_with (go_at_call 9; refine (wakes_any _).mono ?_; rintro e w1 ⟨rfl, hb1⟩)
  go_ret
  exact ⟨rfl, hb1⟩

theorem numBack_bad (n c : Int) (s : ByteArray) (w : World) (hs : s.size ≤ 1048576) (h : c < 1 ∨ 8 < c) :
    Calls Try.prog 6 #[.int .u64 n, .int .i64 c, .string s] w fun e w' => e = .returned (.bool true) ∧ Below w.heap.size w w' := by
  go_enter Try.func6, Try.ntmps6
  go_wp2_with (first
    | (go_at_call 9; refine (wakes_any _).mono ?_; rintro e w1 ⟨rfl, hb1⟩)
    | (go_at_call 10; refine (put_badWidth _ _ _ h).mono ?_; rintro e w2 ⟨rfl, rfl⟩))
  go_ret
  exact ⟨rfl, hb1⟩

theorem numBack_great (n c : Nat) (s : ByteArray) (w : World) (hs : s.size ≤ 1048576) (h1 : 1 ≤ c) (h2 : c ≤ 8) (hu : n ≤ 18446744073709551615) (hn : 256 ^ c ≤ n) :
    Calls Try.prog 6 #[.int .u64 n, .int .i64 c, .string s] w fun e w' => e = .returned (.bool true) ∧ Below w.heap.size w w' := by
  go_enter Try.func6, Try.ntmps6
  go_wp2_with (first
    | (go_at_call 9; refine (wakes_any _).mono ?_; rintro e w1 ⟨rfl, hb1⟩)
    | (go_at_call 10; refine (put_great n c _ h1 h2 hu hn).mono ?_; rintro e w2 ⟨rfl, rfl⟩))
  go_ret
  exact ⟨rfl, hb1⟩

theorem numBack_ok (n c : Nat) (s : ByteArray) (w : World) (hs : s.size ≤ 1048576) (h1 : 1 ≤ c) (h2 : c ≤ 8) (hn : n < 256 ^ c) :
    Calls Try.prog 6 #[.int .u64 n, .int .i64 c, .string s] w fun e w' => e = .returned (.bool true) ∧ Below w.heap.size w w' := by
  have hlen := be_length n c
  go_enter Try.func6, Try.ntmps6
  go_wp2_with (first
    | (go_at_call 9; refine (wakes_any _).mono ?_; rintro e w1 ⟨rfl, hb1⟩)
    | (go_at_call 10; refine (put_ok n c _ h1 h2 hn).mono ?_; rintro e w2 ⟨rfl, hb2⟩)
    | (go_at_call 12; refine (get_back s n c _ h1 h2 hn hs).mono ?_; rintro e w3 ⟨rfl, rfl⟩))
  go_ret
  exact ⟨rfl, hb1.trans (hb2.mono hb1.size)⟩

theorem numBack_walk (a0 a1 : Int) (s : ByteArray) (w0 : (Lit.int .u64 a0).wf = true) (w1 : (Lit.int .i64 a1).wf = true) (z : s.size ≤ reachBytes) (w : World) :
    Calls Try.prog 6 #[.int .u64 a0, .int .i64 a1, .string s] w fun e w' => e = .returned (.bool true) ∧ Below w.heap.size w w' := by
  obtain ⟨b1, b2⟩ := bounds_u64 w0
  by_cases hs : s.size ≤ 1048576
  · by_cases h : a1 < 1 ∨ 8 < a1
    · exact numBack_bad a0 a1 s w hs h
    · obtain ⟨n, rfl⟩ : ∃ n : Nat, a0 = n := ⟨a0.toNat, by omega⟩
      obtain ⟨c, rfl⟩ : ∃ c : Nat, a1 = c := ⟨a1.toNat, by omega⟩
      by_cases hn : n < 256 ^ c
      · exact numBack_ok n c s w hs (by omega) (by omega) hn
      · exact numBack_great n c s w hs (by omega) (by omega) (by omega) (by omega)
  · exact numBack_long a0 a1 s w (by unfold reachBytes at z; unfold maxLen; omega) (by omega)

theorem numBack_own : ownKnob Try.prog.godebug = none := by kernel_rfl
theorem numBack_laidOut : laidOutB Try.prog = true := by kernel_rfl

set_option maxRecDepth 100000 in
theorem numBack_lifted (os : Os) (started : os.Started) (H : Type) (enc : TypeId × Value → H) :
    ReturnsInHanded {} Try.checked os 6 .any (Rows.numBackSpec.pre6 enc Try.prog Try.f6 Rows.numBackRow.domain false) (Rows.numBackSpec.post enc Try.prog Try.f6 false true false false) := by
  refine returnsInHanded_of_change_sized (C := Try.checked) numBack_own started (by kernel_rfl) Try.func6
    (ChangeSpec.witness6 (enc := enc) (C := Try.checked) false ⟨#[], #[.int .u64 0, .int .i64 0, .string ByteArray.empty], []⟩ 8 (by kernel_rfl) (by kernel_rfl) (by kernel_rfl) (by kernel_rfl)) ?_
  intro W base args ds gs before hval0 hW hcnd hsz0 _
  have hsz : (DataW.weightsEach Try.prog (Try.f6.params.toList ++ Rows.numBackSpec.plain.varTypes Try.prog) (ds ++ gs)).all (· ≤ reachBytes) = true := hsz0
  have hval : ∀ (j : Nat) t v, Try.f6.params[j]? = some t → args[j]? = some v → Value.okWide Try.prog W .any base t v := hval0
  have hW' := hW
  obtain ⟨p, q, hA0, hV, rfl, hfz, hnd⟩ := hW
  have hA : DataW.TrodAll enc Try.prog W 0 (fun _ => true) true Try.f6.params.toList args.toList ds p := hA0
  rw [Try.params6] at hA hval hsz
  obtain ⟨v0, vs0, d0, ds0, p0, q0, hargs, rfl, rfl, h0, r0⟩ := trodAll_cons hA
  obtain ⟨v1, vs1, d1, ds1, p1, q1, rfl, rfl, rfl, h1, r1⟩ := trodAll_cons r0
  obtain ⟨v2, vs2, d2, ds2, p2, q2, rfl, rfl, rfl, h2, r2⟩ := trodAll_cons r1
  obtain ⟨rfl, rfl, rfl⟩ := trodAll_nil r2
  obtain rfl : args = #[v0, v1, v2] := by cases args; simp_all
  obtain ⟨rfl, rfl⟩ := trodVars_none hV
  have k0 := h0
  have lt0 : ∀ x ∈ p0, x.block < W.heap.size := by obtain ⟨m, hm⟩ := k0; exact DataW.trod_lt m _ _ _ hm
  have k1 := h1
  have lt1 : ∀ x ∈ p1, x.block < W.heap.size := by obtain ⟨m, hm⟩ := k1; exact DataW.trod_lt m _ _ _ hm
  have k2 := h2
  have lt2 : ∀ x ∈ p2, x.block < W.heap.size := by obtain ⟨m, hm⟩ := k2; exact DataW.trod_lt m _ _ _ hm
  obtain ⟨a0, rfl, rfl, rfl, w0⟩ := open_int Try.underlying22 (hval 0 22 v0 rfl rfl) h0
  obtain ⟨a1, rfl, rfl, rfl, w1⟩ := open_int Try.underlying3 (hval 1 3 v1 rfl rfl) h1
  obtain ⟨a2, rfl, rfl, rfl, w2⟩ := open_string Try.underlying9 (hval 2 9 v2 rfl rfl) h2
  have z2 : a2.size ≤ reachBytes := by have := sized_string hsz (j := 2) (t := 9) rfl rfl; simpa using this
  clear hA0 hval0
  refine (numBack_walk a0 a1 a2 w0 w1 z2 W).mono fun e W' ⟨he, bel⟩ => ?_
  subst he
  exact ⟨_, rfl, _, _, _, [], _, [], hW', trodAll_mk1 (shut_bool Try.underlying4 _), (trodAll_cons_mk (Below.trod numBack_laidOut (by kernel_rfl) (of_decide_eq_true (by kernel_rfl)) k0 bel lt0) (trodAll_cons_mk (Below.trod numBack_laidOut (by kernel_rfl) (of_decide_eq_true (by kernel_rfl)) k1 bel lt1) (trodAll_cons_mk (Below.trod numBack_laidOut (by kernel_rfl) (of_decide_eq_true (by kernel_rfl)) k2 bel lt2) trodAll_mk0))), rfl, bel.frame _, fun h => by cases h⟩

theorem numBack_holds : Rows.NumBackSaid :=
  OpenClaim.holds_of_wide 6 Try.f6 rfl rfl rfl rfl rfl rfl rfl ⟨rfl, rfl, rfl, rfl, rfl⟩ rfl rfl rfl rfl rfl (by kernel_rfl) Try.func6 (by kernel_rfl)
    (of_decide_eq_true (by kernel_rfl)) (by unfold Func.isWrapper; first | (rw [if_pos (by decide +kernel)]; kernel_rfl) | (rw [if_neg (by decide +kernel)]; exact ⟨rfl, rfl⟩))
    (fun os started H enc _ => numBack_lifted os started H enc)

#print axioms numBack_holds

end Go.Proofs.Ytnpdleankjjeaaa
