/-
  SlotPacks: Pack answers what the document's rule says; any bucket. No condition of its own.
-/
import Derived.Test.YthohopbolalpcaaRows
import Derived.Test.YthohopbolalpcaaTb
import Derived.ProofKit
import Derived.OpenShut
import Derived.ShutString
import Derived.ChangeOld
import Derived.Below
import Derived.SizedLaws
import Derived.Lib.SmallJoins
namespace Go.Proofs.Ythohopbolalpcaa
open Go.ChangeShapes Go.WideShapes Go.ChangeAt Go.RowKit Go.Joins
open Go.ChangeMaps (open_string shut_string)
set_option linter.unusedVariables false
set_option linter.unusedSimpArgs false
set_option maxRecDepth 100000

theorem slotPacks_walk (b : Bk) (nv : Value) (w : World) (l0 : LiesN w nv b.nodes ∧ b.nodes.length * 72 ≤ 140737488351232 ∧ SmN b.nodes ∧ (-9223372036854775808 ≤ b.depth ∧ b.depth ≤ 9223372036854775807) ∧ (-9223372036854775808 ≤ b.next ∧ b.next ≤ 9223372036854775807)) :
    Calls Try.prog 5 #[.agg #[.int .i64 b.depth, .int .i64 b.next, nv]] w fun e w' => e = .returned (.bool true) ∧ Below w.heap.size w w' := by
  obtain ⟨hl, hz, hk, _⟩ := l0
  obtain ⟨na, nc, rfl, _⟩ := hl.form
  have HWK : Hid (∀ w1, _) := fun w1 => wakes_any w1
  have HL : Hid (∀ w1, Below w.heap.size w w1 → LiesN w1 (.slice na b.nodes.length nc) b.nodes) := fun w1 hb => hl.on hb
  have HCP : Hid (∀ w1, Below w.heap.size w w1 → Calls Try.prog 17 #[.agg #[.int .i64 b.depth, .int .i64 b.next, .slice na b.nodes.length nc]] w1 fun e w' => CopL b w1 e w') := fun w1 hb => copy_lies b _ w1 (hl.on hb) hz hk
  have HPK : Hid (∀ w1 v, LiesN w1 v b.nodes → Calls Try.prog 16 #[.agg #[.int .i64 b.depth, .int .i64 b.next, v]] w1 fun e w' => e = .returned (.tuple #[.string (if bkE b = 0 then ⟨(pageB b).toArray⟩ else ⟨#[]⟩), .int .i64 (bkE b : Nat)]) ∧ Below w1.heap.size w1 w') := fun w1 v h => sPack_any b v w1 h
  have HRP : Hid (∀ w1 v, LiesN w1 v b.nodes → Calls Try.prog 18 #[.agg #[.int .i64 b.depth, .int .i64 b.next, v]] w1 fun e w' => e = .returned (.tuple #[.string (if bkE b = 0 then ⟨(pageB b).toArray⟩ else ⟨#[]⟩), .int .i64 (bkE b : Nat)]) ∧ Below w1.heap.size w1 w') := fun w1 v h => rPack_any b v w1 h
  generalize (if bkE b = 0 then (⟨(pageB b).toArray⟩ : ByteArray) else ⟨#[]⟩) = s at *
  generalize bkE b = r at *
  have hss : (s.toList == s.toList) = true := by simp
  have HB1 := hid ((Below.refl w.heap.size w).alloc (Nat.le_refl _) (.cells #[.int .i64 b.depth, .int .i64 b.next, .slice na b.nodes.length nc] 42))
  have HX1 := hid (Blk.made w #[.int .i64 b.depth, .int .i64 b.next, .slice na b.nodes.length nc] 42)
  obtain ⟨p, hp⟩ : ∃ p, w.heap.size = p := ⟨_, rfl⟩
  have HXB : Hid (∀ w1, Below (w.alloc (.cells #[.int .i64 b.depth, .int .i64 b.next, .slice na b.nodes.length nc] 42)).heap.size (w.alloc (.cells #[.int .i64 b.depth, .int .i64 b.next, .slice na b.nodes.length nc] 42)) w1 → Blk w1 p #[.int .i64 b.depth, .int .i64 b.next, .slice na b.nodes.length nc] 42 ∧ Below w.heap.size w w1) := fun w1 hb => ⟨by rw [← hp]; exact HX1.out.on hb HX1.out.lt, HB1.out.trans (hb.mono HB1.out.size)⟩
  clear hl HX1
  go_enter Try.func5, Try.ntmps5
  go_wp2_with (first
    | (go_at_call 9; refine (HWK.out _).mono ?_; clear HWK; rintro e w1 ⟨rfl, hb1⟩; have HD1 := hid hb1; have hx1 := (HXB.out _ hb1).1; have c0 := hx1.cell (i := 0) rfl; have c1 := hx1.cell (i := 1) rfl; have c2 := hx1.cell (i := 2) rfl; have HW1 := hid (HXB.out _ hb1).2; clear hb1 hx1)
    | (go_at_call 17; refine (HCP.out _ HW1.out).mono ?_; clear HCP; rintro e w2 ⟨va, vc, rfl, hL2, hb2⟩; have HL2 := hid hL2; have HW2 := hid (HW1.out.trans (hb2.mono HW1.out.size)); have HD2 := hid (HD1.out.trans (hb2.mono HD1.out.size)); clear hL2 hb2)
    | (go_at_call 16; refine (HPK.out _ _ HL2.out).mono ?_; clear HPK HL2; rintro e w3 ⟨rfl, hb3⟩; have HW3 := hid (HW2.out.trans (hb3.mono HW2.out.size)); have HD3 := hid (HD2.out.trans (hb3.mono HD2.out.size)); have hx3 := (HXB.out _ HD3.out).1; have e0 := hx3.cell (i := 0) rfl; have e1 := hx3.cell (i := 1) rfl; have e2 := hx3.cell (i := 2) rfl; clear hb3 hx3)
    | (go_at_call 18; refine (HRP.out _ _ (HL.out _ HW3.out)).mono ?_; clear HRP; rintro e w4 ⟨rfl, hb4⟩; have HW4 := hid (HW3.out.trans (hb4.mono HW3.out.size)); clear hb4))
  go_ret
  exact ⟨rfl, HW4.out⟩

theorem slotPacks_own : ownKnob Try.prog.godebug = none := by kernel_rfl
theorem slotPacks_laidOut : laidOutB Try.prog = true := by kernel_rfl

set_option maxRecDepth 100000 in
theorem slotPacks_lifted (os : Os) (started : os.Started) (H : Type) (enc : TypeId × Value → H) :
    ReturnsInHanded {} Try.checked os 5 .any (Rows.slotPacksSpec.pre6 enc Try.prog Try.f5 Rows.slotPacksRow.domain false) (Rows.slotPacksSpec.post enc Try.prog Try.f5 false true false false) := by
  refine returnsInHanded_of_change_sized (C := Try.checked) slotPacks_own started (by kernel_rfl) Try.func5
    (ChangeSpec.witness6 (enc := enc) (C := Try.checked) false ⟨#[], #[.agg #[.int .i64 0, .int .i64 0, .slice none 0 0]], []⟩ 8 (by kernel_rfl) (by kernel_rfl) (by kernel_rfl) (by kernel_rfl)) ?_
  intro W base args ds gs before hval0 hW hcnd hsz0 _
  have hsz : (DataW.weightsEach Try.prog (Try.f5.params.toList ++ Rows.slotPacksSpec.plain.varTypes Try.prog) (ds ++ gs)).all (· ≤ reachBytes) = true := hsz0
  have hval : ∀ (j : Nat) t v, Try.f5.params[j]? = some t → args[j]? = some v → Value.okWide Try.prog W .any base t v := hval0
  have hW' := hW
  obtain ⟨p, q, hA0, hV, rfl, hfz, hnd⟩ := hW
  have hA : DataW.TrodAll enc Try.prog W 0 (fun _ => true) true Try.f5.params.toList args.toList ds p := hA0
  rw [Try.params5] at hA hval hsz
  obtain ⟨v0, vs0, d0, ds0, p0, q0, hargs, rfl, rfl, h0, r0⟩ := trodAll_cons hA
  obtain ⟨rfl, rfl, rfl⟩ := trodAll_nil r0
  obtain rfl : args = #[v0] := by cases args; simp_all
  obtain ⟨rfl, rfl⟩ := trodVars_none hV
  have k0 := h0
  have lt0 : ∀ x ∈ p0, x.block < W.heap.size := by obtain ⟨m, hm⟩ := k0; exact DataW.trod_lt m _ _ _ hm
  obtain ⟨B0, n0, rfl, l0⟩ := open_bucket (hval 0 42 v0 rfl rfl) h0 (fun n hn => by simpa using List.all_eq_true.1 hsz n (DataW.weights_mem_each (j := 0) (t := 42) rfl rfl n hn))
  clear hA0 hval0
  refine (slotPacks_walk B0 n0 W l0).mono fun e W' ⟨he, bel⟩ => ?_
  subst he
  exact ⟨_, rfl, _, _, _, [], _, [], hW', trodAll_mk1 (shut_bool Try.underlying4 _), (trodAll_cons_mk (Below.trod slotPacks_laidOut (by kernel_rfl) (of_decide_eq_true (by kernel_rfl)) k0 bel lt0) trodAll_mk0), rfl, bel.frame _, fun h => by cases h⟩

theorem slotPacks_holds : Rows.SlotPacksSaid :=
  OpenClaim.holds_of_wide 5 Try.f5 rfl rfl rfl rfl rfl rfl rfl ⟨rfl, rfl, rfl, rfl, rfl⟩ rfl rfl rfl rfl rfl (by kernel_rfl) Try.func5 (by kernel_rfl)
    (of_decide_eq_true (by kernel_rfl)) (by unfold Func.isWrapper; first | (rw [if_pos (by decide +kernel)]; kernel_rfl) | (rw [if_neg (by decide +kernel)]; exact ⟨rfl, rfl⟩))
    (fun os started H enc _ => slotPacks_lifted os started H enc)

#print axioms slotPacks_holds

end Go.Proofs.Ythohopbolalpcaa
