/-
  What the net's grow answers: the branch that goes on by a key.
-/
import Derived.Test.YtpflbdkbbkobbaaGrow
namespace Go.Proofs.Ytpflbdkbbkobbaa
open Go.RowKit Go.Maps
set_option linter.unusedVariables false
set_option maxRecDepth 100000
set_option linter.unusedSimpArgs false

theorem map_some (m : Nat) (w : World) : (binOp .eql 58 (.map (some m)) (.map none)).run Try.prog w = .ok (.bool false) w := by kernel_rfl
theorem map_none (w : World) : (binOp .eql 58 (.map none) (.map none)).run Try.prog w = .ok (.bool true) w := by kernel_rfl
theorem below_d2 (w : World) (a b : Nat) : Below w.heap.size w ((w.drewN a).drewN b) := by rw [World.drewN_drewN]; exact below_drewN _ _
/-- what grow leaves: the tree with this branch, and nothing else changed -/
def Grew (w : World) (B nb : Nat) (sv : Value) (mx : Nat) (T : List Cl → Option Nd) (E : List Cl → List Nat) (q : List Cl) (e : Ending) (w' : World) : Prop :=
  ∃ T' d', e = .returned (.pointer (some ⟨d'.a, 0, none⟩)) ∧ Tre w' B nb sv (mx + 1) T' E ∧ T' q = some d' ∧ (∀ r, (T' r).isSome = true ↔ (T r).isSome = true ∨ r = q) ∧ Kq B w w'

set_option maxHeartbeats 2000000 in
/-- the branch is there -/
theorem grow_old (w : World) (B nb : Nat) (sv : Value) (mx : Nat) (T : List Cl → Option Nd) (E : List Cl → List Nat) (p : List Cl) (d x : Nd) (k : Cl) (h : Tre w B nb sv mx T E) (hp : T p = some d) (hk : FineC k) (hx : T (p ++ [k]) = some x) (hB : B ≤ w.heap.size) :
    Calls Try.prog 46 #[.pointer (some ⟨d.a, ofs p, none⟩), .agg #[.string k.nm, .int .i64 k.ar]] w fun e w' => Grew w B nb sv mx T E (p ++ [k]) e w' := by
  have hat := h.at' p d hp
  have hk2 : kidsT T p k = some (ptr x.a) := by unfold kidsT; rw [hx]; rfl
  obtain ⟨m, hm⟩ : ∃ m, d.m = some m := by
    cases hm : d.m with
    | none => have := hat.no hm k; rw [hk2] at this; cases this
    | some m => exact ⟨m, rfl⟩
  obtain ⟨_, n, hn, hM⟩ := hat.mp m hm
  have hA := hat.cells
  have hal := hat.blk.lt
  rw [hm] at hA
  have HT : Hid (Tre (w.alloc (.cells #[.string k.nm, .int .i64 k.ar] 51)) B nb sv mx T E) := h.alloc _
  have hbel : Below w.heap.size w (w.alloc (.cells #[.string k.nm, .int .i64 k.ar] 51)) := (Below.refl _ w).alloc (Nat.le_refl _) _
  have hM2 := hM.on hbel hM.lt
  have c0 : (w.alloc (.cells #[.string k.nm, .int .i64 k.ar] 51)).cell? ⟨d.a, ofs p, none⟩ = some (.map (some m)) := (hbel.cell (p := ⟨d.a, ofs p, none⟩) hal).trans hA.1
  have hkb := Blk.made w #[.string k.nm, .int .i64 k.ar] 51
  have k0 := hkb.cell (i := 0) (v := .string k.nm) rfl
  have k1 := hkb.cell (i := 1) (v := .int .i64 k.ar) rfl
  have hlk : ∀ q, (Instr.lookup 58 (.map (some m)) (.agg #[.string k.nm, .int .i64 k.ar]) false).run Try.prog ((w.alloc (.cells #[.string k.nm, .int .i64 k.ar] 51)).drewN q) = .ok (.pointer (some ⟨x.a, 0, none⟩)) ((w.alloc (.cells #[.string k.nm, .int .i64 k.ar] 51)).drewN q) := fun q => by
    have := (hM2.same (w' := (w.alloc (.cells #[.string k.nm, .int .i64 k.ar] 51)).drewN q) rfl).get hk
    rw [hk2] at this
    exact this
  have hms := map_some m
  clear hat hM hM2 hA hk2 h hkb
  generalize ofs p = o at c0
  go_enter Try.func46, Try.ntmps46
  go_wp2_with fail
  generalize w.alloc (.cells #[.string k.nm, .int .i64 k.ar] 51) = wr at HT hbel c0 k0 k1 hlk ⊢
  go_quiet (fail)
  have hlk2 : ∀ a b, (Instr.lookup 58 (.map (some m)) (.agg #[.string k.nm, .int .i64 k.ar]) false).run Try.prog ((wr.drewN a).drewN b) = .ok (.pointer (some ⟨x.a, 0, none⟩)) ((wr.drewN a).drewN b) := fun a b => by rw [World.drewN_drewN]; exact hlk _
  go_wp2_with fail
  go_quiet (fail)
  go_wp2_with fail
  go_ret
  exact ⟨T, x, rfl, ((HT.out.drewN _).drewN _).mono (Nat.le_succ mx), hx, fun r => ⟨.inl, fun h => h.elim id (fun e => by rw [e, hx]; rfl)⟩, Kq.of_below (hbel.trans ((below_d2 _ _ _).mono hbel.size)) hB⟩

set_option maxHeartbeats 2000000 in
/-- the branch is not there, its map is -/
theorem grow_new (w : World) (B nb : Nat) (sv : Value) (mx : Nat) (T : List Cl → Option Nd) (E : List Cl → List Nat) (p : List Cl) (d : Nd) (m : Nat) (k : Cl) (h : Tre w B nb sv mx T E) (hp : T p = some d) (hm : d.m = some m) (hk : FineC k) (hx : T (p ++ [k]) = none) (hB : B ≤ w.heap.size) (hmx : mx < 1000000) :
    Calls Try.prog 46 #[.pointer (some ⟨d.a, ofs p, none⟩), .agg #[.string k.nm, .int .i64 k.ar]] w fun e w' => Grew w B nb sv mx T E (p ++ [k]) e w' := by
  have hat := h.at' p d hp
  have hk2 : kidsT T p k = none := by unfold kidsT; rw [hx]; rfl
  obtain ⟨hmB, n, hn, hM⟩ := hat.mp m hm
  have hA := hat.cells
  have hal := hat.blk.lt
  rw [hm] at hA
  have HT : Hid (Tre (w.alloc (.cells #[.string k.nm, .int .i64 k.ar] 51)) B nb sv mx T E) := h.alloc _
  have hbel : Below w.heap.size w (w.alloc (.cells #[.string k.nm, .int .i64 k.ar] 51)) := (Below.refl _ w).alloc (Nat.le_refl _) _
  have hM2 := hM.on hbel hM.lt
  have c0 : (w.alloc (.cells #[.string k.nm, .int .i64 k.ar] 51)).cell? ⟨d.a, ofs p, none⟩ = some (.map (some m)) := (hbel.cell (p := ⟨d.a, ofs p, none⟩) hal).trans hA.1
  have hkb := Blk.made w #[.string k.nm, .int .i64 k.ar] 51
  have k0 := hkb.cell (i := 0) (v := .string k.nm) rfl
  have k1 := hkb.cell (i := 1) (v := .int .i64 k.ar) rfl
  have hlk : ∀ q, (Instr.lookup 58 (.map (some m)) (.agg #[.string k.nm, .int .i64 k.ar]) false).run Try.prog ((w.alloc (.cells #[.string k.nm, .int .i64 k.ar] 51)).drewN q) = .ok (.pointer none) ((w.alloc (.cells #[.string k.nm, .int .i64 k.ar] 51)).drewN q) := fun q => by
    have := (hM2.same (w' := (w.alloc (.cells #[.string k.nm, .int .i64 k.ar] 51)).drewN q) rfl).get hk
    rw [hk2] at this
    exact this
  have hms := map_some m
  have HK : Hid (w.heap.size < (w.alloc (.cells #[.string k.nm, .int .i64 k.ar] 51)).heap.size ∧ Blk (w.alloc (.cells #[.string k.nm, .int .i64 k.ar] 51)) w.heap.size #[.string k.nm, .int .i64 k.ar] 51) := ⟨by simp, hkb⟩
  have HP : Hid (T p = some d ∧ d.m = some m ∧ ofs p = ofs p) := ⟨hp, hm, rfl⟩
  clear hat hM hM2 hA hk2 h hkb
  go_enter Try.func46, Try.ntmps46
  go_wp2_with fail
  generalize w.alloc (.cells #[.string k.nm, .int .i64 k.ar] 51) = wr at HT hbel c0 k0 k1 hlk HK ⊢
  go_quiet (fail)
  go_wp2_with fail
  generalize hwq : wr.drewN _ = wq
  have eH : wq.heap = wr.heap := by rw [← hwq]; rfl
  have HTq : Hid (Tre wq.drew B nb sv mx T E) := HT.out.hi' fun g _ _ => by show wq.heap[g]? = _; rw [eH]
  have hbq : Below w.heap.size w wq.drew := hbel.trans ((by rw [← hwq]; exact (below_drewN wr _).trans (Below.drew (Below.refl _ _)) : Below wr.heap.size wr wq.drew).mono hbel.size)
  have kq : Blk wq.drew w.heap.size #[.string k.nm, .int .i64 k.ar] 51 := by show wq.heap[w.heap.size]? = _; rw [eH]; exact HK.out.2
  have kl : w.heap.size < wq.drew.heap.size := by show w.heap.size < wq.heap.size; rw [eH]; exact HK.out.1
  clear hlk c0 k0 k1 HT HK hbel hwq eH
  have hatq := HTq.out.at' p d HP.out.1
  obtain ⟨_, n2, hn2, hMq⟩ := hatq.mp m hm
  have hmk := hMq.at
  obtain ⟨w5, hu, hM5, hg5⟩ := (hMq.same (w' := (wq.alloc (.cells #[.map none, .slice none 0 0] 60)).drew) (Below.heap_alloc wq.drew _ _ hMq.lt)).put (by unfold maxLen; omega) hk (.pointer (some ⟨wq.heap.size, 0, none⟩))
  have cq := hatq.cells
  rw [hm] at cq
  have hBq : B ≤ wq.drew.heap.size := Nat.le_trans hB hbq.size
  have HTn : Hid (Tre w5 B nb sv (mx + 1) (updT T (p ++ [k]) ⟨wq.heap.size, none, .slice none 0 0⟩) E) := by
    refine HTq.out.grown HP.out.1 hm hx hBq (fun n f hc hn => ?_) hg5
    obtain ⟨w6, hu6, hM6, _⟩ := hc.put (by unfold maxLen; omega) hk (.pointer (some ⟨wq.heap.size, 0, none⟩))
    have e6 := hu.symm.trans hu6
    cases e6
    exact hM6
  have hal2 := hatq.blk.lt
  have hal3 : d.a < wq.heap.size := hal2
  have hc1 : wq.drew.cell? ⟨d.a, ofs p, none⟩ = some (.map (some m)) := cq.1
  have hc2 : ((wq.alloc (.cells #[.map none, .slice none 0 0] 60)).drew).cell? ⟨d.a, ofs p, none⟩ = some (.map (some m)) := (((Below.refl _ wq.drew).alloc (Nat.le_refl _) _).cell (p := ⟨d.a, ofs p, none⟩) hal2).trans cq.1
  have k0 := kq.cell (i := 0) (v := .string k.nm) rfl
  have k1 := kq.cell (i := 1) (v := .int .i64 k.ar) rfl
  have kqa : Blk (wq.alloc (.cells #[.map none, .slice none 0 0] 60)).drew w.heap.size #[.string k.nm, .int .i64 k.ar] 51 := kq.alloc _
  have k2 := kqa.cell (i := 0) (v := .string k.nm) rfl
  have k3 := kqa.cell (i := 1) (v := .int .i64 k.ar) rfl
  clear hatq hMq hM5 cq hal2
  have k5 : Blk w5 w.heap.size #[.string k.nm, .int .i64 k.ar] 51 := (hg5.block w.heap.size (by simp; exact Nat.lt_succ_of_lt kl) (fun e => by
    have e2 := Option.some.inj e
    obtain ⟨es, c, h6⟩ := hmk
    rw [← e2] at h6
    unfold Blk at kqa
    rw [show (wq.alloc (.cells #[.map none, .slice none 0 0] 60)).drew.heap[w.heap.size]? = wq.drew.heap[w.heap.size]? from Below.heap_alloc wq.drew _ _ kl] at kqa
    rw [h6] at kqa
    cases kqa)).trans kqa
  have hat5 := HTn.out.at' p d (by rw [updT_ne _ (Ne.symm (snoc_ne p k))]; exact HP.out.1)
  obtain ⟨_, n5, hn5, hM5⟩ := hat5.mp m hm
  have c5 := hat5.cells
  rw [hm] at c5
  have c50 := c5.1
  have k50 := k5.cell (i := 0) (v := .string k.nm) rfl
  have k51 := k5.cell (i := 1) (v := .int .i64 k.ar) rfl
  have hlk5 : ∀ q, (Instr.lookup 58 (.map (some m)) (.agg #[.string k.nm, .int .i64 k.ar]) false).run Try.prog (w5.drewN q) = .ok (.pointer (some ⟨wq.heap.size, 0, none⟩)) (w5.drewN q) := fun q => by
    have := (hM5.same (w' := w5.drewN q) rfl).get hk
    unfold kidsT at this
    rw [updT_self] at this
    exact this
  have HKq : Hid (Kq B w w5) := by
    refine (Kq.of_below (hbq.trans (c := (wq.alloc (.cells #[.map none, .slice none 0 0] 60)).drew) (((Below.refl _ wq.drew).alloc (Nat.le_refl _) _).mono hbq.size)) hB).trans (Kq.grown hg5 (by simp; exact Nat.le_succ_of_le hBq) hmB ?_)
    intro cur t ht h7
    obtain ⟨es, c, h6⟩ := hmk
    rw [show (wq.alloc (.cells #[.map none, .slice none 0 0] 60)).drew.heap[m]? = wq.drew.heap[m]? from Below.heap_alloc wq.drew _ _ (lt_of_block h6), h6] at h7
    cases h7
  clear hat5 hM5 c5 k5 hg5 hmk kqa kq
  go_region
  clear k0 k1 k2 k3 hc1 hc2 hu
  go_wp2_with fail
  go_quiet (fail)
  go_wp2_with fail
  go_ret
  refine ⟨updT T (p ++ [k]) ⟨wq.heap.size, none, .slice none 0 0⟩, ⟨wq.heap.size, none, .slice none 0 0⟩, rfl, HTn.out.drewN _, updT_self _ _ _, fun r => ?_, HKq.out.trans (Kq.of_below (below_drewN _ _) ?_)⟩
  · by_cases e : r = p ++ [k]
    · subst e; rw [updT_self]; simp
    · rw [updT_ne _ e]; simp [e]
  · exact Nat.le_trans hB HKq.out.below.size

end Go.Proofs.Ytpflbdkbbkobbaa
