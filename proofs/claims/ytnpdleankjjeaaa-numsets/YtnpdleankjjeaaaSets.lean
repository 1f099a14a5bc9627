/-
  Proved: NumSets returns true for every text, place, width and number, and its arguments read behind the call as before.
-/
import Derived.Test.YtnpdleankjjeaaaRows
import Derived.Test.YtnpdleankjjeaaaNumB
import Derived.ProofKit
import Derived.OpenShut
import Derived.ShutString
import Derived.ChangeOld
import Derived.Below
import Derived.SizedLaws
import Derived.Lib.SmallJoins
namespace Go.Proofs.Ytnpdleankjjeaaa
open Go.ChangeShapes Go.WideShapes Go.ChangeAt Go.RowKit Go.Joins
open Go.ChangeMaps (open_string shut_string)
set_option linter.unusedVariables false

theorem bcell {W w1 : World} (hb : Below W.heap.size W w1) : (∀ b o, b < W.heap.size → w1.cell? ⟨b, o, none⟩ = W.cell? ⟨b, o, none⟩) ∧ (∀ b o, b < W.heap.size → w1.frozen? ⟨b, o, none⟩ = W.frozen? ⟨b, o, none⟩) :=
  ⟨fun b o h => hb.cell (p := ⟨b, o, none⟩) h, fun b o h => hb.frozen (p := ⟨b, o, none⟩) h⟩

theorem ba_ext {a b : ByteArray} (h : a.data.toList = b.data.toList) : a = b := ByteArray.ext (Array.toList_inj.1 h)

theorem size_list (s : ByteArray) : s.data.toList.length = s.size := rfl

theorem setOf_list (s : ByteArray) (p n c : Nat) : (setOf s p n c).data.toList = s.data.toList.take p ++ (be n c ++ s.data.toList.drop (p + c)) := by
  unfold setOf
  rw [ByteArray.data_append, ByteArray.data_append, Array.toList_append, Array.toList_append, Lib.extract_data, Lib.extract_data, List.drop_zero, Nat.sub_zero, List.append_assoc]
  rw [List.take_of_length_le (l := List.drop (p + c) s.data.toList) (by rw [List.length_drop, size_list]; omega)]

theorem setOf_size (s : ByteArray) (p n c : Nat) (h : p + c ≤ s.size) : (setOf s p n c).size = s.size := by
  rw [← size_list, setOf_list, List.length_append, List.length_append, List.length_take, List.length_drop, size_list, be_length]
  omega

theorem setOf_ahead (s : ByteArray) (p n c : Nat) (h : p + c ≤ s.size) : (setOf s p n c).extract 0 p = s.extract 0 p := by
  apply ba_ext
  rw [Lib.extract_data, Lib.extract_data, setOf_list, List.drop_zero, List.drop_zero, Nat.sub_zero]
  rw [List.take_append_of_le_length (by rw [List.length_take, size_list]; omega), List.take_take, Nat.min_self]

theorem setOf_behind (s : ByteArray) (p n c : Nat) (h : p + c ≤ s.size) : (setOf s p n c).extract (p + c) s.size = s.extract (p + c) s.size := by
  apply ba_ext
  rw [Lib.extract_data, Lib.extract_data, setOf_list]
  congr 1
  have h1 : (s.data.toList.take p ++ be n c).length = p + c := by rw [List.length_append, List.length_take, size_list, be_length]; omega
  rw [← List.append_assoc, ← h1, List.drop_left]

theorem get_set (s : ByteArray) (p n c : Nat) (w : World) (h1 : 1 ≤ c) (h2 : c ≤ 8) (hn : n < 256 ^ c) (hs : s.size ≤ maxLen) (h : p + c ≤ s.size) :
    Calls Try.prog 12 #[.string (setOf s p n c), .int .i64 p, .int .i64 c] w fun e w' => e = .returned (.tuple #[.int .u64 n, .int .i64 0]) ∧ w = w' := by
  have hz := setOf_size s p n c h
  have e : val (sub (setOf s p n c) p c) = n := by
    have h1 : (s.data.toList.take p).length = p := by rw [List.length_take, size_list]; omega
    unfold sub
    rw [setOf_list]
    have h2 := List.drop_left (l₁ := s.data.toList.take p) (l₂ := be n c ++ s.data.toList.drop (p + c))
    rw [h1] at h2
    rw [h2]
    rw [List.take_append_of_le_length (by rw [be_length]; omega), List.take_of_length_le (by rw [be_length]; omega), val_be_of_lt hn]
  have h := get_ok (setOf s p n c) p c w h1 h2 (by omega) (by omega)
  rw [e] at h
  exact h

set_option maxHeartbeats 1000000 in
theorem numSets_ok (s : ByteArray) (p n c : Nat) (w : World) (h1 : 1 ≤ c) (h2 : c ≤ 8) (hn : n < 256 ^ c) (hs : s.size ≤ maxLen) (h : p + c ≤ s.size) :
    Calls Try.prog 5 #[.string s, .agg #[.int .i64 p, .int .i64 c], .int .u64 n] w fun e w' => e = .returned (.bool true) ∧ Below w.heap.size w w' := by
  have hs' := hs
  unfold maxLen at hs'
  have hz := setOf_size s p n c h
  have ha := setOf_ahead s p n c h
  have hbh := setOf_behind s p n c h
  go_enter Try.func5, Try.ntmps5
  go_wp2_with (first
    | (go_at_call 9; refine (wakes_any _).mono ?_; rintro e w1 ⟨rfl, hb1⟩; obtain ⟨hc1, hf1⟩ := bcell hb1; have hz1 : w.heap.size < w1.heap.size := (by have := hb1.size; simp at this; omega))
    | (go_at_call 14; refine (set_ok s p n c _ h1 h2 hn hs h).mono ?_; rintro e w2 ⟨rfl, hb2⟩; obtain ⟨hc2, hf2⟩ := bcell hb2; have hz2 : w.heap.size < w2.heap.size := (by have := hb2.size; omega))
    | (go_at_call 15; refine (rSet_ok s p n c _ h1 h2 hn hs h).mono ?_; rintro e w3 ⟨rfl, hb3⟩; obtain ⟨hc3, hf3⟩ := bcell hb3)
    | (go_at_call 12; refine (get_set s p n c _ h1 h2 hn hs h).mono ?_; rintro e w4 ⟨rfl, rfl⟩))
  go_quiet (fail)
  go_wp2
  go_ret
  exact ⟨rfl, below_drewN (((Below.refl _ _).alloc (Nat.le_refl _) _).trans ((hb1.trans ((hb2.trans (hb3.mono hb2.size)).mono hb1.size)).mono (by simp))) _⟩

set_option maxHeartbeats 400000 in
theorem numSets_off (s : ByteArray) (p : Int) (n c : Nat) (w : World) (h1 : 1 ≤ c) (h2 : c ≤ 8) (hn : n < 256 ^ c) (hp : -9223372036854775808 ≤ p ∧ p ≤ 9223372036854775807) (hs : s.size ≤ maxLen) (h : p < 0 ∨ s.size < p + c) :
    Calls Try.prog 5 #[.string s, .agg #[.int .i64 p, .int .i64 c], .int .u64 n] w fun e w' => e = .returned (.bool true) ∧ Below w.heap.size w w' := by
  go_enter Try.func5, Try.ntmps5
  go_wp2_with (first
    | (go_at_call 9; refine (wakes_any _).mono ?_; rintro e w1 ⟨rfl, hb1⟩; obtain ⟨hc1, hf1⟩ := bcell hb1; have hz1 : w.heap.size < w1.heap.size := (by have := hb1.size; simp at this; omega))
    | (go_at_call 14; refine (set_off s p n c _ h1 h2 hn hp hs h).mono ?_; rintro e w2 ⟨rfl, hb2⟩; obtain ⟨hc2, hf2⟩ := bcell hb2; have hz2 : w.heap.size < w2.heap.size := (by have := hb2.size; omega))
    | (go_at_call 15; refine (rSet_off s p n c _ h1 h2 hn hp hs h).mono ?_; rintro e w3 ⟨rfl, hb3⟩; obtain ⟨hc3, hf3⟩ := bcell hb3))
  go_ret
  exact ⟨rfl, ((Below.refl _ _).alloc (Nat.le_refl _) _).trans ((hb1.trans ((hb2.trans (hb3.mono hb2.size)).mono hb1.size)).mono (by simp))⟩

theorem numSets_great (s : ByteArray) (p : Int) (n c : Nat) (w : World) (h1 : 1 ≤ c) (h2 : c ≤ 8) (hu : n ≤ 18446744073709551615) (hn : 256 ^ c ≤ n) :
    Calls Try.prog 5 #[.string s, .agg #[.int .i64 p, .int .i64 c], .int .u64 n] w fun e w' => e = .returned (.bool true) ∧ Below w.heap.size w w' := by
  go_enter Try.func5, Try.ntmps5
  go_wp2_with (first
    | (go_at_call 9; refine (wakes_any _).mono ?_; rintro e w1 ⟨rfl, hb1⟩; obtain ⟨hc1, hf1⟩ := bcell hb1)
    | (go_at_call 14; refine (set_great s p n c _ h1 h2 hu hn).mono ?_; rintro e w2 ⟨rfl, rfl⟩)
    | (go_at_call 15; refine (rSet_great s p n c _ h1 h2 hu hn).mono ?_; rintro e w3 ⟨rfl, rfl⟩))
  go_ret
  exact ⟨rfl, ((Below.refl _ _).alloc (Nat.le_refl _) _).trans (hb1.mono (by simp))⟩

theorem numSets_bad (s : ByteArray) (p n c : Int) (w : World) (h : c < 1 ∨ 8 < c) :
    Calls Try.prog 5 #[.string s, .agg #[.int .i64 p, .int .i64 c], .int .u64 n] w fun e w' => e = .returned (.bool true) ∧ Below w.heap.size w w' := by
  go_enter Try.func5, Try.ntmps5
  go_wp2_with (first
    | (go_at_call 9; refine (wakes_any _).mono ?_; rintro e w1 ⟨rfl, hb1⟩; obtain ⟨hc1, hf1⟩ := bcell hb1)
    | (go_at_call 14; refine (set_badWidth s p n c _ h).mono ?_; rintro e w2 ⟨rfl, rfl⟩)
    | (go_at_call 15; refine (rSet_badWidth s p n c _ h).mono ?_; rintro e w3 ⟨rfl, rfl⟩))
  go_ret
  exact ⟨rfl, ((Below.refl _ _).alloc (Nat.le_refl _) _).trans (hb1.mono (by simp))⟩

theorem numSets_walk (s : ByteArray) (p c a : Int) (z : s.size ≤ reachBytes) (w0 : (Lit.int .i64 p).wf = true) (w1 : (Lit.int .i64 c).wf = true) (w2 : (Lit.int .u64 a).wf = true) (w : World) :
    Calls Try.prog 5 #[.string s, .agg #[.int .i64 p, .int .i64 c], .int .u64 a] w fun e w' => e = .returned (.bool true) ∧ Below w.heap.size w w' := by
  have hp := bounds_i64 w0
  obtain ⟨b1, b2⟩ := bounds_u64 w2
  have hs : s.size ≤ maxLen := by unfold reachBytes at z; unfold maxLen; omega
  by_cases h : c < 1 ∨ 8 < c
  · exact numSets_bad s p a c w h
  · obtain ⟨n, rfl⟩ : ∃ n : Nat, a = n := ⟨a.toNat, by omega⟩
    obtain ⟨c, rfl⟩ : ∃ n : Nat, c = n := ⟨c.toNat, by omega⟩
    by_cases hn : n < 256 ^ c
    · by_cases hq : p < 0 ∨ s.size < p + c
      · exact numSets_off s p n c w (by omega) (by omega) hn hp hs hq
      · obtain ⟨p, rfl⟩ : ∃ n : Nat, p = n := ⟨p.toNat, by omega⟩
        exact numSets_ok s p n c w (by omega) (by omega) hn hs (by omega)
    · exact numSets_great s p n c w (by omega) (by omega) (by omega) (by omega)

theorem numSets_own : ownKnob Try.prog.godebug = none := by kernel_rfl
theorem numSets_laidOut : laidOutB Try.prog = true := by kernel_rfl

set_option maxRecDepth 100000 in
theorem numSets_lifted (os : Os) (started : os.Started) (H : Type) (enc : TypeId × Value → H) :
    ReturnsInHanded {} Try.checked os 5 .any (Rows.numSetsSpec.pre6 enc Try.prog Try.f5 Rows.numSetsRow.domain false) (Rows.numSetsSpec.post enc Try.prog Try.f5 false true false false) := by
  refine returnsInHanded_of_change_sized (C := Try.checked) numSets_own started (by kernel_rfl) Try.func5
    (ChangeSpec.witness6 (enc := enc) (C := Try.checked) false ⟨#[], #[.string ByteArray.empty, .agg #[.int .i64 0, .int .i64 0], .int .u64 0], []⟩ 8 (by kernel_rfl) (by kernel_rfl) (by kernel_rfl) (by kernel_rfl)) ?_
  intro W base args ds gs before hval0 hW hcnd hsz0 _
  have hsz : (DataW.weightsEach Try.prog (Try.f5.params.toList ++ Rows.numSetsSpec.plain.varTypes Try.prog) (ds ++ gs)).all (· ≤ reachBytes) = true := hsz0
  have hval : ∀ (j : Nat) t v, Try.f5.params[j]? = some t → args[j]? = some v → Value.okWide Try.prog W .any base t v := hval0
  have hW' := hW
  obtain ⟨p, q, hA0, hV, rfl, hfz, hnd⟩ := hW
  have hA : DataW.TrodAll enc Try.prog W 0 (fun _ => true) true Try.f5.params.toList args.toList ds p := hA0
  rw [Try.params5] at hA hval hsz
  obtain ⟨v0, vs0, d0, ds0, p0, q0, hargs, rfl, rfl, h0, r0⟩ := trodAll_cons hA
  obtain ⟨v1, vs1, d1, ds1, p1, q1, rfl, rfl, rfl, h1, r1⟩ := trodAll_cons r0
  obtain ⟨v2, vs2, d2, ds2, p2, q2, rfl, rfl, rfl, h2, r2⟩ := trodAll_cons r1
  obtain ⟨rfl, rfl, rfl⟩ := trodAll_nil r2
  obtain rfl : args = #[v0, v1, v2] := by cases args; simp_all
  obtain ⟨rfl, rfl⟩ := trodVars_none hV
  have k0 := h0
  have lt0 : ∀ x ∈ p0, x.block < W.heap.size := by obtain ⟨m, hm⟩ := k0; exact DataW.trod_lt m _ _ _ hm
  have k1 := h1
  have lt1 : ∀ x ∈ p1, x.block < W.heap.size := by obtain ⟨m, hm⟩ := k1; exact DataW.trod_lt m _ _ _ hm
  have k2 := h2
  have lt2 : ∀ x ∈ p2, x.block < W.heap.size := by obtain ⟨m, hm⟩ := k2; exact DataW.trod_lt m _ _ _ hm
  obtain ⟨a0, rfl, rfl, rfl, w0⟩ := open_string Try.underlying9 (hval 0 9 v0 rfl rfl) h0
  have z0 : a0.size ≤ reachBytes := by have := sized_string hsz (j := 0) (t := 9) rfl rfl; simpa using this
  obtain ⟨c10, c11, y10, y11, m1, rfl, rfl, rfl, hy10, hy11⟩ := open_agg2 Try.underlying31 (by kernel_rfl) (by kernel_rfl) (hval 1 31 v1 rfl rfl) h1
  obtain ⟨a10, e10, rfl, w10⟩ := DataW.trod_int Try.underlying3 hy10
  simp only [List.cons.injEq, and_true] at e10
  subst e10
  obtain ⟨a11, e11, rfl, w11⟩ := DataW.trod_int Try.underlying3 hy11
  simp only [List.cons.injEq, and_true] at e11
  subst e11
  obtain ⟨a2, rfl, rfl, rfl, w2⟩ := open_int Try.underlying22 (hval 2 22 v2 rfl rfl) h2
  clear hA0 hval0
  refine (numSets_walk a0 a10 a11 a2 z0 w10 w11 w2 W).mono fun e W' ⟨he, bel⟩ => ?_
  subst he
  exact ⟨_, rfl, _, _, _, [], _, [], hW', trodAll_mk1 (shut_bool Try.underlying4 _), (trodAll_cons_mk (Below.trod numSets_laidOut (by kernel_rfl) (of_decide_eq_true (by kernel_rfl)) k0 bel lt0) (trodAll_cons_mk (Below.trod numSets_laidOut (by kernel_rfl) (of_decide_eq_true (by kernel_rfl)) k1 bel lt1) (trodAll_cons_mk (Below.trod numSets_laidOut (by kernel_rfl) (of_decide_eq_true (by kernel_rfl)) k2 bel lt2) trodAll_mk0))), rfl, bel.frame _, fun h => by cases h⟩

theorem numSets_holds : Rows.NumSetsSaid :=
  OpenClaim.holds_of_wide 5 Try.f5 rfl rfl rfl rfl rfl rfl rfl ⟨rfl, rfl, rfl, rfl, rfl⟩ rfl rfl rfl rfl rfl (by kernel_rfl) Try.func5 (by kernel_rfl)
    (of_decide_eq_true (by kernel_rfl)) (by unfold Func.isWrapper; first | (rw [if_pos (by decide +kernel)]; kernel_rfl) | (rw [if_neg (by decide +kernel)]; exact ⟨rfl, rfl⟩))
    (fun os started H enc _ => numSets_lifted os started H enc)

#print axioms numSets_holds

end Go.Proofs.Ytnpdleankjjeaaa
