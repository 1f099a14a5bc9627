/-
  leafUnpacks_holds: all bytes are read as a page, or refused, as the document says.
-/
import Derived.Test.YtjocbkhjbbpkjaaRows
import Derived.Test.YtjocbkhjbbpkjaaRw
import Derived.Test.YtjocbkhjbbpkjaaWk
import Derived.ProofKit
import Derived.OpenShut
import Derived.ShutString
import Derived.ChangeOld
import Derived.Below
import Derived.SizedLaws
import Derived.Lib.SmallJoins
namespace Go.Proofs.Ytjocbkhjbbpkjaa
open Go.ChangeShapes Go.WideShapes Go.ChangeAt Go.RowKit Go.Joins
open Go.ChangeMaps (open_string shut_string)
set_option linter.unusedVariables false
set_option linter.unusedSimpArgs false
set_option maxRecDepth 100000

theorem rUnpack_yes (w : World) (l : List UInt8) (hl : l.length ≤ 140737488351232) {k n : Nat} {M : List Ent} (h : unp l = some (k, M)) (hn : M.length = n) :
    Calls Try.prog 16 #[.string (bt l)] w fun e w' => ∃ a c, e = .returned (.tuple #[.int .i64 (k : Nat), .slice a n c, .int .i64 0]) ∧ RowE w' w.heap.size (.slice a n c) M ∧ Below w.heap.size w w' := by
  have := rUnpack_any w l hl
  rw [h] at this
  subst hn
  exact this
theorem rUnpack_no (w : World) (l : List UInt8) (hl : l.length ≤ 140737488351232) (h : unp l = none) :
    Calls Try.prog 16 #[.string (bt l)] w fun e w' => ∃ a c, e = .returned (.tuple #[.int .i64 0, .slice a 0 c, .int .i64 3]) ∧ RowE w' w.heap.size (.slice a 0 c) [] ∧ Below w.heap.size w w' := by
  have := rUnpack_any w l hl
  rw [h] at this
  exact this
set_option maxHeartbeats 4000000 in
theorem leafUnpacks_walk (s : ByteArray) (zs : s.size ≤ reachBytes) (w : World) :
    Calls Try.prog 4 #[.string s] w fun e w' => e = .returned (.bool true) ∧ Below w.heap.size w w' := by
  have hre : reachBytes = 140737488351232 := rfl
  rw [hre] at zs
  have hsl : s.data.toList.length ≤ 140737488351232 := by rw [data_len]; exact zs
  cases hu : unp s.data.toList with
  | none =>
    have HU1 : Hid (∀ w1 : World, Calls Try.prog 15 #[.string s] w1 fun e w' => ∃ a c, e = .returned (.tuple #[.int .i64 0, .slice a 0 c, .int .i64 3]) ∧ RowE w' w1.heap.size (.slice a 0 c) [] ∧ Below w1.heap.size w1 w') := fun w1 => by
      have := unpack_no w1 _ hsl hu
      rw [bt_self] at this
      exact this
    have HU2 : Hid (∀ w1 : World, Calls Try.prog 16 #[.string s] w1 fun e w' => ∃ a c, e = .returned (.tuple #[.int .i64 0, .slice a 0 c, .int .i64 3]) ∧ RowE w' w1.heap.size (.slice a 0 c) [] ∧ Below w1.heap.size w1 w') := fun w1 => by
      have := rUnpack_no w1 _ hsl hu
      rw [bt_self] at this
      exact this
    have HSM : Hid (∀ (w1 : World) (B1 B2 : Nat) (x y : Value), RowE w1 B1 x [] → RowE w1 B2 y [] → Calls Try.prog 17 #[x, y] w1 fun e w' => e = .returned (.bool true) ∧ Below w1.heap.size w1 w') := fun w1 B1 B2 x y h1 h2 => same_self w1 x y [] (h1.lies (fun x hx => by cases hx)) (h2.lies (fun x hx => by cases hx))
    clear hu hsl zs hre
    go_enter Try.func4, Try.ntmps4
    go_wp2_with (first
      | (go_at_call 9; refine (wakes_any _).mono ?_; rintro e w1 ⟨rfl, hb1⟩; have HB1 := hid hb1; clear hb1)
      | (go_at_call 15; refine (HU1.out _).mono ?_; clear HU1; rintro e w2 ⟨a2, c2, rfl, hr2, hb2⟩; have HR2 := hid hr2; have HB2 := hid (HB1.out.trans (hb2.mono HB1.out.size)); clear hr2 hb2)
      | (go_at_call 16; refine (HU2.out _).mono ?_; clear HU2; rintro e w3 ⟨a3, c3, rfl, hr3, hb3⟩; have HR3 := hid hr3; have HR4 := hid (HR2.out.on hb3); have HB3 := hid (HB2.out.trans (hb3.mono HB2.out.size)); clear hr3 hb3)
      | (go_at_call 17; refine (HSM.out _ _ _ _ _ HR4.out HR3.out).mono ?_; clear HSM; rintro e w5 ⟨rfl, hb5⟩; have HB5 := hid (HB3.out.trans (hb5.mono HB3.out.size)); clear hb5))
    go_ret
    exact ⟨rfl, HB5.out⟩
  | some q =>
    obtain ⟨k, M⟩ := q
    obtain ⟨e3, e4⟩ := unp_sml hu
    obtain ⟨n, hn⟩ : ∃ n, M.length = n := ⟨_, rfl⟩
    have HU1 : Hid (∀ w1 : World, Calls Try.prog 15 #[.string s] w1 fun e w' => ∃ a c, e = .returned (.tuple #[.int .i64 (k : Nat), .slice a n c, .int .i64 0]) ∧ RowE w' w1.heap.size (.slice a n c) M ∧ Below w1.heap.size w1 w') := fun w1 => by
      have := unpack_yes w1 _ hsl hu hn
      rw [bt_self] at this
      exact this
    have HU2 : Hid (∀ w1 : World, Calls Try.prog 16 #[.string s] w1 fun e w' => ∃ a c, e = .returned (.tuple #[.int .i64 (k : Nat), .slice a n c, .int .i64 0]) ∧ RowE w' w1.heap.size (.slice a n c) M ∧ Below w1.heap.size w1 w') := fun w1 => by
      have := rUnpack_yes w1 _ hsl hu hn
      rw [bt_self] at this
      exact this
    have HSM : Hid (∀ (w1 : World) (B1 B2 : Nat) (x y : Value), RowE w1 B1 x M → RowE w1 B2 y M → Calls Try.prog 17 #[x, y] w1 fun e w' => e = .returned (.bool true) ∧ Below w1.heap.size w1 w') := fun w1 B1 B2 x y h1 h2 => same_self w1 x y M (h1.lies e3) (h2.lies e3)
    have hkk : ((k : Int) == (k : Int)) = true := by simp
    clear hu hsl zs hre e3 e4 hn
    go_enter Try.func4, Try.ntmps4
    go_wp2_with (first
      | (go_at_call 9; refine (wakes_any _).mono ?_; rintro e w1 ⟨rfl, hb1⟩; have HB1 := hid hb1; clear hb1)
      | (go_at_call 15; refine (HU1.out _).mono ?_; clear HU1; rintro e w2 ⟨a2, c2, rfl, hr2, hb2⟩; have HR2 := hid hr2; have HB2 := hid (HB1.out.trans (hb2.mono HB1.out.size)); clear hr2 hb2)
      | (go_at_call 16; refine (HU2.out _).mono ?_; clear HU2; rintro e w3 ⟨a3, c3, rfl, hr3, hb3⟩; have HR3 := hid hr3; have HR4 := hid (HR2.out.on hb3); have HB3 := hid (HB2.out.trans (hb3.mono HB2.out.size)); clear hr3 hb3)
      | (go_at_call 17; refine (HSM.out _ _ _ _ _ HR4.out HR3.out).mono ?_; clear HSM; rintro e w5 ⟨rfl, hb5⟩; have HB5 := hid (HB3.out.trans (hb5.mono HB3.out.size)); clear hb5))
    go_ret
    exact ⟨rfl, HB5.out⟩

theorem leafUnpacks_own : ownKnob Try.prog.godebug = none := by kernel_rfl
theorem leafUnpacks_laidOut : laidOutB Try.prog = true := by kernel_rfl

set_option maxRecDepth 100000 in
theorem leafUnpacks_lifted (os : Os) (started : os.Started) (H : Type) (enc : TypeId × Value → H) :
    ReturnsInHanded {} Try.checked os 4 .any (Rows.leafUnpacksSpec.pre6 enc Try.prog Try.f4 Rows.leafUnpacksRow.domain false) (Rows.leafUnpacksSpec.post enc Try.prog Try.f4 false true false false) := by
  refine returnsInHanded_of_change_sized (C := Try.checked) leafUnpacks_own started (by kernel_rfl) Try.func4
    (ChangeSpec.witness6 (enc := enc) (C := Try.checked) false ⟨#[], #[.string ByteArray.empty], []⟩ 8 (by kernel_rfl) (by kernel_rfl) (by kernel_rfl) (by kernel_rfl)) ?_
  intro W base args ds gs before hval0 hW hcnd hsz0 _
  have hsz : (DataW.weightsEach Try.prog (Try.f4.params.toList ++ Rows.leafUnpacksSpec.plain.varTypes Try.prog) (ds ++ gs)).all (· ≤ reachBytes) = true := hsz0
  have hval : ∀ (j : Nat) t v, Try.f4.params[j]? = some t → args[j]? = some v → Value.okWide Try.prog W .any base t v := hval0
  have hW' := hW
  obtain ⟨p, q, hA0, hV, rfl, hfz, hnd⟩ := hW
  have hA : DataW.TrodAll enc Try.prog W 0 (fun _ => true) true Try.f4.params.toList args.toList ds p := hA0
  rw [Try.params4] at hA hval hsz
  obtain ⟨v0, vs0, d0, ds0, p0, q0, hargs, rfl, rfl, h0, r0⟩ := trodAll_cons hA
  obtain ⟨rfl, rfl, rfl⟩ := trodAll_nil r0
  obtain rfl : args = #[v0] := by cases args; simp_all
  obtain ⟨rfl, rfl⟩ := trodVars_none hV
  have k0 := h0
  have lt0 : ∀ x ∈ p0, x.block < W.heap.size := by obtain ⟨m, hm⟩ := k0; exact DataW.trod_lt m _ _ _ hm
  obtain ⟨a0, rfl, rfl, rfl, w0⟩ := open_string Try.underlying9 (hval 0 9 v0 rfl rfl) h0
  have z0 : a0.size ≤ reachBytes := by have := sized_string hsz (j := 0) (t := 9) rfl rfl; simpa using this
  clear hA0 hval0
  refine (leafUnpacks_walk a0 z0 W).mono fun e W' ⟨he, bel⟩ => ?_
  subst he
  exact ⟨_, rfl, _, _, _, [], _, [], hW', trodAll_mk1 (shut_bool Try.underlying4 _), (trodAll_cons_mk (Below.trod leafUnpacks_laidOut (by kernel_rfl) (of_decide_eq_true (by kernel_rfl)) k0 bel lt0) trodAll_mk0), rfl, bel.frame _, fun h => by cases h⟩

theorem leafUnpacks_holds : Rows.LeafUnpacksSaid :=
  OpenClaim.holds_of_wide 4 Try.f4 rfl rfl rfl rfl rfl rfl rfl ⟨rfl, rfl, rfl, rfl, rfl⟩ rfl rfl rfl rfl rfl (by kernel_rfl) Try.func4 (by kernel_rfl)
    (of_decide_eq_true (by kernel_rfl)) (by unfold Func.isWrapper; first | (rw [if_pos (by decide +kernel)]; kernel_rfl) | (rw [if_neg (by decide +kernel)]; exact ⟨rfl, rfl⟩))
    (fun os started H enc _ => leafUnpacks_lifted os started H enc)

#print axioms leafUnpacks_holds

end Go.Proofs.Ytjocbkhjbbpkjaa
