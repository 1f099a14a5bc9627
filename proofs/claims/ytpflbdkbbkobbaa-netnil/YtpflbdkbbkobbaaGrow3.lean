/-
  What the net's grow answers where a branch has no map yet.
-/
import Derived.Test.YtpflbdkbbkobbaaGrow2
namespace Go.Proofs.Ytpflbdkbbkobbaa
open Go.RowKit Go.Maps
set_option linter.unusedVariables false
set_option maxRecDepth 100000
set_option linter.unusedSimpArgs false

theorem mkmap (w : World) : (Instr.makeMap 58 none).run Try.prog w = .ok (.map (some w.heap.size)) (w.alloc (.map #[] 0)) := by kernel_rfl
set_option maxHeartbeats 2000000 in
/-- neither the branch is there nor its map -/
theorem grow_bare (w : World) (B nb : Nat) (sv : Value) (mx : Nat) (T : List Cl → Option Nd) (E : List Cl → List Nat) (p : List Cl) (d : Nd) (k : Cl) (h : Tre w B nb sv mx T E) (hp : T p = some d) (hm : d.m = none) (hk : FineC k) (hx : T (p ++ [k]) = none) (hB : B ≤ w.heap.size) (hmx : mx < 1000000) :
    Calls Try.prog 46 #[.pointer (some ⟨d.a, ofs p, none⟩), .agg #[.string k.nm, .int .i64 k.ar]] w fun e w' => Grew w B nb sv mx T E (p ++ [k]) e w' := by
  have hat := h.at' p d hp
  have hA := hat.cells
  have hal := hat.blk.lt
  rw [hm] at hA
  have hbel0 : Below w.heap.size w (w.alloc (.cells #[.string k.nm, .int .i64 k.ar] 51)) := (Below.refl _ w).alloc (Nat.le_refl _) _
  have HT1 : Hid (Tre (w.alloc (.cells #[.string k.nm, .int .i64 k.ar] 51)) B nb sv mx T E) := h.alloc _
  have c0 : (w.alloc (.cells #[.string k.nm, .int .i64 k.ar] 51)).cell? ⟨d.a, ofs p, none⟩ = some (.map none) := (hbel0.cell (p := ⟨d.a, ofs p, none⟩) hal).trans hA.1
  have hkb := Blk.made w #[.string k.nm, .int .i64 k.ar] 51
  have hms := map_none
  have hf0 : (w.alloc (.cells #[.string k.nm, .int .i64 k.ar] 51)).frozen? ⟨d.a, ofs p, none⟩ = false := (HT1.out.at' p d hp).cells.2.2.1
  have hc0 : ((w.alloc (.cells #[.string k.nm, .int .i64 k.ar] 51)).alloc (.map #[] 0)).cell? ⟨d.a, ofs p, none⟩ = some (.map none) := ((HT1.out.alloc (.map #[] 0)).at' p d hp).cells.1.trans (by rw [hm])
  have hfz : ((w.alloc (.cells #[.string k.nm, .int .i64 k.ar] 51)).alloc (.map #[] 0)).frozen? ⟨d.a, ofs p, none⟩ = false := ((HT1.out.alloc (.map #[] 0)).at' p d hp).cells.2.2.1
  have hB1 : B ≤ (w.alloc (.cells #[.string k.nm, .int .i64 k.ar] 51)).heap.size := by simp; omega
  have HT0 := HT1.out.made hp hm hB1
  have hKq0 : Kq B w (((w.alloc (.cells #[.string k.nm, .int .i64 k.ar] 51)).alloc (.map #[] 0)).setCell ⟨d.a, ofs p, none⟩ (.map (some (w.alloc (.cells #[.string k.nm, .int .i64 k.ar] 51)).heap.size))) := by
    refine (Kq.of_below ((hbel0.trans (((Below.refl _ _).alloc (Nat.le_refl _) (.map #[] 0)).mono hbel0.size))) hB).trans (Kq.grown (set_grown _ d.a (ofs p) _) (by simp; omega) hat.hi ?_)
    intro cur t ht h7
    have h8 := ((HT1.out.alloc (.map #[] 0)).at' p d hp).blk
    unfold Blk at h8
    rw [h8] at h7
    simp only [Option.some.injEq, Obj.cells.injEq] at h7
    have h9 := h7.2.1
    unfold tyP at h9
    split at h9 <;> rcases ht with rfl | rfl <;> cases h9
  have hk0 : Blk (((w.alloc (.cells #[.string k.nm, .int .i64 k.ar] 51)).alloc (.map #[] 0)).setCell ⟨d.a, ofs p, none⟩ (.map (some (w.alloc (.cells #[.string k.nm, .int .i64 k.ar] 51)).heap.size))) w.heap.size #[.string k.nm, .int .i64 k.ar] 51 := (hkb.alloc _).other (by omega) _
  obtain ⟨d2, hd2⟩ : ∃ d2 : Nd, d2 = { d with m := some (w.heap.size + 1) } := ⟨_, rfl⟩
  have HDA : Hid (d.a = d2.a) := by show _ = _; rw [hd2]
  have hm2 : d2.m = some (w.heap.size + 1) := by rw [hd2]
  have hmsz : (w.alloc (.cells #[.string k.nm, .int .i64 k.ar] 51)).heap.size = w.heap.size + 1 := by simp
  rw [hmsz, ← hd2] at HT0
  rw [hmsz] at hKq0 hk0
  have hp2 := updT_self T p d2
  have hx2 : updT T p d2 (p ++ [k]) = none := by rw [updT_ne _ (snoc_ne p k)]; exact hx
  have HR : Hid (∀ r, (updT T p d2 r).isSome = true ↔ (T r).isSome = true) := fun r => by
    by_cases e : r = p
    · subst e; rw [updT_self, hp]; simp
    · rw [updT_ne _ e]
  generalize hT2 : updT T p d2 = T2 at HT0 hp2 hx2 HR
  have HT : Hid (Tre (((w.alloc (.cells #[.string k.nm, .int .i64 k.ar] 51)).alloc (.map #[] 0)).setCell ⟨d.a, ofs p, none⟩ (.map (some (w.heap.size + 1)))) B nb sv mx T2 E) := HT0
  have hmB : B ≤ w.heap.size + 1 := by omega
  clear hat hA h HT1 HT0 hT2 hd2 hmsz hal
  have hms2 := map_some (w.heap.size + 1)
  have hmk0 := mkmap
  go_enter Try.func46, Try.ntmps46
  go_wp2_with fail
  have HK : Hid (w.heap.size < (((w.alloc (.cells #[.string k.nm, .int .i64 k.ar] 51)).alloc (.map #[] 0)).setCell ⟨d.a, ofs p, none⟩ (.map (some (w.heap.size + 1)))).heap.size ∧ Blk (((w.alloc (.cells #[.string k.nm, .int .i64 k.ar] 51)).alloc (.map #[] 0)).setCell ⟨d.a, ofs p, none⟩ (.map (some (w.heap.size + 1)))) w.heap.size #[.string k.nm, .int .i64 k.ar] 51) := ⟨hk0.lt, hk0⟩
  generalize ((w.alloc (.cells #[.string k.nm, .int .i64 k.ar] 51)).alloc (.map #[] 0)).setCell ⟨d.a, ofs p, none⟩ (.map (some (w.heap.size + 1))) = wr at HT HK hKq0 hk0 ⊢
  clear hms2 hc0 hfz hf0 c0 hms hmk0 hbel0
  generalize w.heap.size + 1 = m at hm2 hmB ⊢
  rw [HDA.out]
  have cw := (HT.out.at' p d2 hp2).cells.1
  rw [hm2] at cw
  have k0 := hk0.cell (i := 0) (v := .string k.nm) rfl
  have k1 := hk0.cell (i := 1) (v := .int .i64 k.ar) rfl
  have hlk : ∀ q, (Instr.lookup 58 (.map (some m)) (.agg #[.string k.nm, .int .i64 k.ar]) false).run Try.prog (wr.drewN q) = .ok (.pointer none) (wr.drewN q) := fun q => by
    obtain ⟨_, n, hn, hM⟩ := (HT.out.at' p d2 hp2).mp m hm2
    have := (hM.same (w' := wr.drewN q) rfl).get hk
    unfold kidsT at this
    rw [hx2] at this
    exact this
  go_quiet (fail)
  go_wp2_with fail
  generalize hwq : wr.drewN _ = wq
  have eH : wq.heap = wr.heap := by rw [← hwq]; rfl
  have HTq : Hid (Tre wq.drew B nb sv mx T2 E) := HT.out.hi' fun g _ _ => by show wq.heap[g]? = _; rw [eH]
  have hbq : Below wr.heap.size wr wq.drew := by rw [← hwq]; exact (below_drewN wr _).trans (Below.drew (Below.refl _ _))
  have kq : Blk wq.drew w.heap.size #[.string k.nm, .int .i64 k.ar] 51 := by show wq.heap[w.heap.size]? = _; rw [eH]; exact HK.out.2
  have kl : w.heap.size < wq.drew.heap.size := by show w.heap.size < wq.heap.size; rw [eH]; exact HK.out.1
  clear hlk cw k0 k1 HT HK hwq eH
  have hatq := HTq.out.at' p d2 hp2
  obtain ⟨_, n2, hn2, hMq⟩ := hatq.mp m hm2
  have hmk := hMq.at
  obtain ⟨w5, hu, hM5, hg5⟩ := (hMq.same (w' := (wq.alloc (.cells #[.map none, .slice none 0 0] 60)).drew) (Below.heap_alloc wq.drew _ _ hMq.lt)).put (by unfold maxLen; omega) hk (.pointer (some ⟨wq.heap.size, 0, none⟩))
  have cq := hatq.cells
  rw [hm2] at cq
  have hBr : B ≤ wr.heap.size := Nat.le_trans hB hKq0.below.size
  have hBq : B ≤ wq.drew.heap.size := Nat.le_trans hBr hbq.size
  have HTn : Hid (Tre w5 B nb sv (mx + 1) (updT T2 (p ++ [k]) ⟨wq.heap.size, none, .slice none 0 0⟩) E) := by
    refine HTq.out.grown hp2 hm2 hx2 hBq (fun n f hc hn => ?_) hg5
    obtain ⟨w6, hu6, hM6, _⟩ := hc.put (by unfold maxLen; omega) hk (.pointer (some ⟨wq.heap.size, 0, none⟩))
    have e6 := hu.symm.trans hu6
    cases e6
    exact hM6
  have hal2 := hatq.blk.lt
  have hal3 : d2.a < wq.heap.size := hal2
  have hc1 : wq.drew.cell? ⟨d2.a, ofs p, none⟩ = some (.map (some m)) := cq.1
  have hc2 : ((wq.alloc (.cells #[.map none, .slice none 0 0] 60)).drew).cell? ⟨d2.a, ofs p, none⟩ = some (.map (some m)) := (((Below.refl _ wq.drew).alloc (Nat.le_refl _) _).cell (p := ⟨d2.a, ofs p, none⟩) hal2).trans cq.1
  have k0 := kq.cell (i := 0) (v := .string k.nm) rfl
  have k1 := kq.cell (i := 1) (v := .int .i64 k.ar) rfl
  have kqa : Blk (wq.alloc (.cells #[.map none, .slice none 0 0] 60)).drew w.heap.size #[.string k.nm, .int .i64 k.ar] 51 := kq.alloc _
  have k2 := kqa.cell (i := 0) (v := .string k.nm) rfl
  have k3 := kqa.cell (i := 1) (v := .int .i64 k.ar) rfl
  clear hatq hMq hM5 cq hal2
  have k5 : Blk w5 w.heap.size #[.string k.nm, .int .i64 k.ar] 51 := (hg5.block w.heap.size (by simp; exact Nat.lt_succ_of_lt kl) (fun e => by
    have e2 := Option.some.inj e
    obtain ⟨es, c, h6⟩ := hmk
    rw [← e2] at h6
    unfold Blk at kqa
    rw [show (wq.alloc (.cells #[.map none, .slice none 0 0] 60)).drew.heap[w.heap.size]? = wq.drew.heap[w.heap.size]? from Below.heap_alloc wq.drew _ _ kl] at kqa
    rw [h6] at kqa
    cases kqa)).trans kqa
  have hat5 := HTn.out.at' p d2 (by rw [updT_ne _ (Ne.symm (snoc_ne p k))]; exact hp2)
  obtain ⟨_, n5, hn5, hM5⟩ := hat5.mp m hm2
  have c5 := hat5.cells
  rw [hm2] at c5
  have c50 := c5.1
  have k50 := k5.cell (i := 0) (v := .string k.nm) rfl
  have k51 := k5.cell (i := 1) (v := .int .i64 k.ar) rfl
  have hlk5 : ∀ q, (Instr.lookup 58 (.map (some m)) (.agg #[.string k.nm, .int .i64 k.ar]) false).run Try.prog (w5.drewN q) = .ok (.pointer (some ⟨wq.heap.size, 0, none⟩)) (w5.drewN q) := fun q => by
    have := (hM5.same (w' := w5.drewN q) rfl).get hk
    unfold kidsT at this
    rw [updT_self] at this
    exact this
  have HKq : Hid (Kq B wr w5) := by
    refine (Kq.of_below (hbq.trans (c := (wq.alloc (.cells #[.map none, .slice none 0 0] 60)).drew) (((Below.refl _ wq.drew).alloc (Nat.le_refl _) _).mono hbq.size)) hBr).trans (Kq.grown hg5 (by simp; exact Nat.le_succ_of_le hBq) hmB ?_)
    intro cur t ht h7
    obtain ⟨es, c, h6⟩ := hmk
    rw [show (wq.alloc (.cells #[.map none, .slice none 0 0] 60)).drew.heap[m]? = wq.drew.heap[m]? from Below.heap_alloc wq.drew _ _ (lt_of_block h6), h6] at h7
    cases h7
  clear hat5 hM5 c5 k5 hg5 hmk kqa kq
  go_region
  clear k0 k1 k2 k3 hc1 hc2 hu
  go_wp2_with fail
  go_quiet (fail)
  go_wp2_with fail
  go_ret
  refine ⟨updT T2 (p ++ [k]) ⟨wq.heap.size, none, .slice none 0 0⟩, ⟨wq.heap.size, none, .slice none 0 0⟩, rfl, HTn.out.drewN _, updT_self _ _ _, fun r => ?_, (hKq0.trans HKq.out).trans (Kq.of_below (below_drewN _ _) ?_)⟩
  · rw [← HR.out r]
    by_cases e : r = p ++ [k]
    · subst e; rw [updT_self]; simp
    · rw [updT_ne _ e]; simp [e]
  · exact Nat.le_trans hBr HKq.out.below.size

/-- whatever is there, the branch that goes on by a key is there behind grow -/
theorem grow_any (w : World) (B nb : Nat) (sv : Value) (mx : Nat) (T : List Cl → Option Nd) (E : List Cl → List Nat) (p : List Cl) (d : Nd) (k : Cl) (h : Tre w B nb sv mx T E) (hp : T p = some d) (hk : FineC k) (hB : B ≤ w.heap.size) (hmx : mx < 1000000) :
    Calls Try.prog 46 #[.pointer (some ⟨d.a, ofs p, none⟩), .agg #[.string k.nm, .int .i64 k.ar]] w fun e w' => Grew w B nb sv mx T E (p ++ [k]) e w' := by
  cases hx : T (p ++ [k]) with
  | some x => exact grow_old w B nb sv mx T E p d x k h hp hk hx hB
  | none =>
    cases hm : d.m with
    | some m => exact grow_new w B nb sv mx T E p d m k h hp hm hk hx hB hmx
    | none => exact grow_bare w B nb sv mx T E p d k h hp hm hk hx hB hmx

end Go.Proofs.Ytpflbdkbbkobbaa
