/-
  SlotUnpacks: Unpack answers what the document's rule says; any bytes. No condition of its own.
-/
import Derived.Test.YthohopbolalpcaaRows
import Derived.Test.YthohopbolalpcaaTd
import Derived.ProofKit
import Derived.OpenShut
import Derived.ShutString
import Derived.ChangeOld
import Derived.Below
import Derived.SizedLaws
import Derived.Lib.SmallJoins
namespace Go.Proofs.Ythohopbolalpcaa
open Go.ChangeShapes Go.WideShapes Go.ChangeAt Go.RowKit Go.Joins
open Go.ChangeMaps (open_string shut_string)
set_option linter.unusedVariables false
set_option linter.unusedSimpArgs false
set_option maxRecDepth 100000

theorem rUnp_ok (c : Bk) (hb : bkE c = 0) (w : World) : Calls Try.prog 20 #[.string ⟨(pageB c).toArray⟩] w fun e w' => UnpB c w e w' := by
  have hsz : (⟨(pageB c).toArray⟩ : ByteArray).size ≤ maxLen := by rw [Lib.size_eq]; show (pageB c).length ≤ maxLen; rw [pageB_len (BkOk.of hb)]; unfold maxLen; omega
  refine (rUnpack_any _ w hsz).mono fun e w' h => ?_
  rcases h with ⟨b', va, vc, M, h0, hp, rfl, hM, hO, hL, hbl⟩ | ⟨h, _⟩
  · have hbb : b' = c := page_inj h0 hb (by have := congrArg (fun x : ByteArray => x.data.toList) hp; simpa using this)
    subst hbb
    exact ⟨va, vc, M, rfl, hM, hO, hL, hbl⟩
  · exact absurd rfl (h c hb)
theorem rUnp_no (s : ByteArray) (w : World) (hs : s.size ≤ maxLen) (hn : ∀ b, bkE b = 0 → (⟨(pageB b).toArray⟩ : ByteArray) ≠ s) : Calls Try.prog 20 #[.string s] w fun e w' => e = .returned (.tuple #[.agg #[.int .i64 0, .int .i64 0, .slice none 0 0], .int .i64 3]) ∧ Below w.heap.size w w' := by
  refine (rUnpack_any s w hs).mono fun e w' h => ?_
  rcases h with ⟨b, _, _, _, h0, hp, _⟩ | ⟨_, h⟩
  · exact absurd hp (hn b h0)
  · exact h
theorem slotUnpacks_a (s : ByteArray) (c : Bk) (w : World) (hc0 : bkE c = 0) (hc1 : (⟨(pageB c).toArray⟩ : ByteArray) = s) :
    Calls Try.prog 6 #[.string s] w fun e w' => e = .returned (.bool true) ∧ Below w.heap.size w w' := by
  have HWK : Hid (∀ w1, _) := fun w1 => wakes_any w1
  have HU1 : Hid (∀ w1, Calls Try.prog 19 #[.string s] w1 fun e w' => UnpB c w1 e w') := fun w1 => by rw [← hc1]; exact unp_ok c hc0 w1
  have HU2 : Hid (∀ w1, Calls Try.prog 20 #[.string s] w1 fun e w' => UnpB c w1 e w') := fun w1 => by rw [← hc1]; exact rUnp_ok c hc0 w1
  have HS1 : Hid (∀ w1 v u, LiesN w1 v c.nodes → LiesN w1 u c.nodes → Calls Try.prog 21 #[.agg #[.int .i64 c.depth, .int .i64 c.next, v], .agg #[.int .i64 c.depth, .int .i64 c.next, u]] w1 fun e w' => e = .returned (.bool true) ∧ Below w1.heap.size w1 w') := fun w1 v u h1 h2 => same_true c v u w1 h1 h2
  clear hc0 hc1
  go_enter Try.func6, Try.ntmps6
  go_wp2_with (first
    | (go_at_call 9; refine (HWK.out _).mono ?_; clear HWK; rintro e w1 ⟨rfl, hb1⟩; have HW1 := hid hb1; clear hb1)
    | (go_at_call 19; refine (HU1.out _).mono ?_; clear HU1; rintro e w2 ⟨ua, uc, M, rfl, hM, hO, hL, hb2⟩; have HW2 := hid (HW1.out.trans (hb2.mono HW1.out.size)); have hal := (Below.refl w2.heap.size w2).alloc (Nat.le_refl _) (.cells #[.int .i64 c.depth, .int .i64 c.next, .slice ua c.nodes.length uc] 42); have HW3 := hid (HW2.out.trans (hal.mono HW2.out.size)); have HL3 := hid (hL.on hal); have HX3 := hid (Blk.made w2 #[.int .i64 c.depth, .int .i64 c.next, .slice ua c.nodes.length uc] 42); clear hM hO hL hb2 hal)
    | (go_at_call 20; refine (HU2.out _).mono ?_; clear HU2; rintro e w4 ⟨va, vc, M4, rfl, hM, hO, hL, hb4⟩; have HW4 := hid (HW3.out.trans (hb4.mono HW3.out.size)); have hx4 := HX3.out.on hb4 HX3.out.lt; have hl4 := HL3.out.on hb4; have hal := (Below.refl w4.heap.size w4).alloc (Nat.le_refl _) (.cells #[.int .i64 c.depth, .int .i64 c.next, .slice va c.nodes.length vc] 42); have HW5 := hid (HW4.out.trans (hal.mono HW4.out.size)); have HL5 := hid (hL.on hal); have HK5 := hid (hl4.on hal); have hx5 := hx4.on hal hx4.lt; have c0 := hx5.cell (i := 0) rfl; have c1 := hx5.cell (i := 1) rfl; have c2 := hx5.cell (i := 2) rfl; clear hM hO hL hb4 hal hx4 hl4 hx5)
    | (go_at_call 21; (refine (HS1.out _ _ _ HK5.out HL5.out).mono ?_; clear HS1; rintro e w6 ⟨rfl, hb6⟩; have HW6 := hid (HW5.out.trans (hb6.mono HW5.out.size)); clear hb6)))
  go_ret
  exact ⟨rfl, HW6.out⟩
theorem slotUnpacks_n (s : ByteArray) (w : World) (hs : s.size ≤ maxLen) (hn : ∀ b, bkE b = 0 → (⟨(pageB b).toArray⟩ : ByteArray) ≠ s) :
    Calls Try.prog 6 #[.string s] w fun e w' => e = .returned (.bool true) ∧ Below w.heap.size w w' := by
  have HWK : Hid (∀ w1, _) := fun w1 => wakes_any w1
  have HU1 : Hid (∀ w1, _) := fun w1 => unp_no s w1 hs hn
  have HU2 : Hid (∀ w1, _) := fun w1 => rUnp_no s w1 hs hn
  have HS1 : Hid (∀ w1, _) := fun w1 => same_zero w1
  clear hn
  go_enter Try.func6, Try.ntmps6
  go_wp2_with (first
    | (go_at_call 9; refine (HWK.out _).mono ?_; clear HWK; rintro e w1 ⟨rfl, hb1⟩; have HW1 := hid hb1; clear hb1)
    | (go_at_call 19; refine (HU1.out _).mono ?_; clear HU1; rintro e w2 ⟨rfl, hb2⟩; have HW2 := hid (HW1.out.trans (hb2.mono HW1.out.size)); have hal := (Below.refl w2.heap.size w2).alloc (Nat.le_refl _) (.cells #[.int .i64 0, .int .i64 0, .slice none 0 0] 42); have HW3 := hid (HW2.out.trans (hal.mono HW2.out.size)); have HX3 := hid (Blk.made w2 #[.int .i64 0, .int .i64 0, .slice none 0 0] 42); clear hb2 hal)
    | (go_at_call 20; refine (HU2.out _).mono ?_; clear HU2; rintro e w4 ⟨rfl, hb4⟩; have HW4 := hid (HW3.out.trans (hb4.mono HW3.out.size)); have hx4 := HX3.out.on hb4 HX3.out.lt; have hal := (Below.refl w4.heap.size w4).alloc (Nat.le_refl _) (.cells #[.int .i64 0, .int .i64 0, .slice none 0 0] 42); have HW5 := hid (HW4.out.trans (hal.mono HW4.out.size)); have hx5 := hx4.on hal hx4.lt; have c0 := hx5.cell (i := 0) rfl; have c1 := hx5.cell (i := 1) rfl; have c2 := hx5.cell (i := 2) rfl; clear hb4 hal hx4 hx5)
    | (go_at_call 21; (refine (HS1.out _).mono ?_; clear HS1; rintro e w6 ⟨rfl, hb6⟩; have HW6 := hid (HW5.out.trans (hb6.mono HW5.out.size)); clear hb6)))
  go_ret
  exact ⟨rfl, HW6.out⟩
theorem slotUnpacks_walk (s : ByteArray) (z0 : s.size ≤ reachBytes) (w : World) :
    Calls Try.prog 6 #[.string s] w fun e w' => e = .returned (.bool true) ∧ Below w.heap.size w w' := by
  have hr : reachBytes = 140737488351232 := rfl
  have hs : s.size ≤ maxLen := by unfold maxLen; omega
  by_cases hx : ∃ c, bkE c = 0 ∧ (⟨(pageB c).toArray⟩ : ByteArray) = s
  · obtain ⟨c, h0, h1⟩ := hx
    exact slotUnpacks_a s c w h0 h1
  · exact slotUnpacks_n s w hs (fun b h0 h1 => hx ⟨b, h0, h1⟩)

theorem slotUnpacks_own : ownKnob Try.prog.godebug = none := by kernel_rfl
theorem slotUnpacks_laidOut : laidOutB Try.prog = true := by kernel_rfl

set_option maxRecDepth 100000 in
theorem slotUnpacks_lifted (os : Os) (started : os.Started) (H : Type) (enc : TypeId × Value → H) :
    ReturnsInHanded {} Try.checked os 6 .any (Rows.slotUnpacksSpec.pre6 enc Try.prog Try.f6 Rows.slotUnpacksRow.domain false) (Rows.slotUnpacksSpec.post enc Try.prog Try.f6 false true false false) := by
  refine returnsInHanded_of_change_sized (C := Try.checked) slotUnpacks_own started (by kernel_rfl) Try.func6
    (ChangeSpec.witness6 (enc := enc) (C := Try.checked) false ⟨#[], #[.string ByteArray.empty], []⟩ 8 (by kernel_rfl) (by kernel_rfl) (by kernel_rfl) (by kernel_rfl)) ?_
  intro W base args ds gs before hval0 hW hcnd hsz0 _
  have hsz : (DataW.weightsEach Try.prog (Try.f6.params.toList ++ Rows.slotUnpacksSpec.plain.varTypes Try.prog) (ds ++ gs)).all (· ≤ reachBytes) = true := hsz0
  have hval : ∀ (j : Nat) t v, Try.f6.params[j]? = some t → args[j]? = some v → Value.okWide Try.prog W .any base t v := hval0
  have hW' := hW
  obtain ⟨p, q, hA0, hV, rfl, hfz, hnd⟩ := hW
  have hA : DataW.TrodAll enc Try.prog W 0 (fun _ => true) true Try.f6.params.toList args.toList ds p := hA0
  rw [Try.params6] at hA hval hsz
  obtain ⟨v0, vs0, d0, ds0, p0, q0, hargs, rfl, rfl, h0, r0⟩ := trodAll_cons hA
  obtain ⟨rfl, rfl, rfl⟩ := trodAll_nil r0
  obtain rfl : args = #[v0] := by cases args; simp_all
  obtain ⟨rfl, rfl⟩ := trodVars_none hV
  have k0 := h0
  have lt0 : ∀ x ∈ p0, x.block < W.heap.size := by obtain ⟨m, hm⟩ := k0; exact DataW.trod_lt m _ _ _ hm
  obtain ⟨a0, rfl, rfl, rfl, w0⟩ := open_string Try.underlying9 (hval 0 9 v0 rfl rfl) h0
  have z0 : a0.size ≤ reachBytes := by have := sized_string hsz (j := 0) (t := 9) rfl rfl; simpa using this
  clear hA0 hval0
  refine (slotUnpacks_walk a0 z0 W).mono fun e W' ⟨he, bel⟩ => ?_
  subst he
  exact ⟨_, rfl, _, _, _, [], _, [], hW', trodAll_mk1 (shut_bool Try.underlying4 _), (trodAll_cons_mk (Below.trod slotUnpacks_laidOut (by kernel_rfl) (of_decide_eq_true (by kernel_rfl)) k0 bel lt0) trodAll_mk0), rfl, bel.frame _, fun h => by cases h⟩

theorem slotUnpacks_holds : Rows.SlotUnpacksSaid :=
  OpenClaim.holds_of_wide 6 Try.f6 rfl rfl rfl rfl rfl rfl rfl ⟨rfl, rfl, rfl, rfl, rfl⟩ rfl rfl rfl rfl rfl (by kernel_rfl) Try.func6 (by kernel_rfl)
    (of_decide_eq_true (by kernel_rfl)) (by unfold Func.isWrapper; first | (rw [if_pos (by decide +kernel)]; kernel_rfl) | (rw [if_neg (by decide +kernel)]; exact ⟨rfl, rfl⟩))
    (fun os started H enc _ => slotUnpacks_lifted os started H enc)

#print axioms slotUnpacks_holds

end Go.Proofs.Ythohopbolalpcaa
