/-
  What fresh.Term answers: the cells again, in memory of the call's own.
-/
import Derived.Test.YtjpmlnigjbdnnabDoorBase
namespace Go.Proofs.YtjpmlnigjbdnnabDoor
open Go.RowKit
set_option linter.unusedVariables false
set_option maxRecDepth 100000
set_option linter.unusedSimpArgs false

/-- a cell that nothing was written into -/
def noCl : Cl := ⟨⟨#[]⟩, 0⟩
theorem made_cells (n : Nat) : (madeCells #[.string ⟨#[]⟩, .int .i64 0] (n * 2)).toList = flatC (List.replicate n noCl) := by
  apply List.ext_getElem?
  intro j
  have e : (madeCells #[Value.string ⟨#[]⟩, Value.int .i64 0] (n * 2)).toList[j]? = if j < n * 2 then some (if j % 2 = 0 then Value.string ⟨#[]⟩ else Value.int .i64 0) else none := by
    unfold madeCells
    rw [Array.toList_map, List.getElem?_map, Array.toList_range]
    by_cases hj : j < n * 2
    · rw [List.getElem?_range hj, if_pos hj]
      rcases Nat.mod_two_eq_zero_or_one j with h | h
      · simp [h]
      · simp [h]
    · rw [List.getElem?_eq_none (by simp; omega), if_neg hj]; rfl
  rw [e]
  obtain ⟨k, hk | hk⟩ : ∃ k, j = k * 2 ∨ j = k * 2 + 1 := ⟨j / 2, by omega⟩
  · subst hk
    rw [flatC_even, List.getElem?_replicate]
    by_cases h : k < n
    · rw [if_pos h, if_pos (by omega), if_pos (by omega)]; rfl
    · rw [if_neg h, if_neg (by omega)]; rfl
  · subst hk
    rw [flatC_odd, List.getElem?_replicate]
    by_cases h : k < n
    · rw [if_pos h, if_pos (by omega), if_neg (by omega)]; rfl
    · rw [if_neg h, if_neg (by omega)]; rfl

theorem flatC_set (c : Cl) : ∀ (M : List Cl) (k : Nat), flatC (M.set k c) = ((flatC M).set (k * 2) (.string c.nm)).set (k * 2 + 1) (.int .i64 c.ar)
  | [], k => by simp [flatC]
  | d :: r, 0 => rfl
  | d :: r, k + 1 => by
    rw [show (k + 1) * 2 = k * 2 + 1 + 1 by omega, List.set_cons_succ]
    simp only [flatC, List.set_cons_succ, flatC_set c r k]
/-- a cell of a list of the call's own is written anew -/
theorem own_store {w : World} {B g n cap : Nat} {M : List Cl} (h : Owns w B (.slice (some ⟨g, 0, none⟩) n cap) M) {k : Nat} {c0 : Cl} (hk : M[k]? = some c0) (c : Cl) :
    w.cell? ⟨g, k * 2, none⟩ = some (.string c0.nm) ∧ w.frozen? ⟨g, k * 2, none⟩ = false ∧ (w.setCell ⟨g, k * 2, none⟩ (.string c.nm)).cell? ⟨g, k * 2 + 1, none⟩ = some (.int .i64 c0.ar) ∧ (w.setCell ⟨g, k * 2, none⟩ (.string c.nm)).frozen? ⟨g, k * 2 + 1, none⟩ = false ∧
      Owns ((w.setCell ⟨g, k * 2, none⟩ (.string c.nm)).setCell ⟨g, k * 2 + 1, none⟩ (.int .i64 c.ar)) B (.slice (some ⟨g, 0, none⟩) n cap) (M.set k c) := by
  have hn : n = M.length := by
    obtain ⟨a, cap', hv, _⟩ := own_cells h
    cases hv; rfl
  subst hn
  have fz : ∀ {w : World} {xs : List Value} (h : w.ownsRow B 30 2 (.slice (some ⟨g, 0, none⟩) M.length cap) M.length xs) (i : Nat), w.frozen? ⟨g, i, none⟩ = false := by
    intro w xs h i
    rcases h.2 with ⟨e, _⟩ | ⟨g', cap', cur, e, _, hg, _⟩
    · cases e
    · cases e; exact Lib.frozen_of_heap hg _
  have at_ : ∀ {w : World} {xs : List Value} (h : w.ownsRow B 30 2 (.slice (some ⟨g, 0, none⟩) M.length cap) M.length xs) (i : Nat) (x : Value), xs[i]? = some x → w.cell? ⟨g, i, none⟩ = some x := by
    intro w xs h i x hx
    obtain ⟨a, cap', hv, _, _, hc⟩ := own_cells h
    cases hv
    obtain ⟨g', e, _, _, hh⟩ := hc i x hx
    cases e; exact hh
  have h1 := own_set h (k * 2) (.string c.nm)
  have h2 := own_set h1 (k * 2 + 1) (.int .i64 c.ar)
  refine ⟨at_ h _ _ (by rw [flatC_even, hk]; rfl), fz h _, at_ h1 _ _ ?_, fz h1 _, ?_⟩
  · rw [List.getElem?_set_ne (by omega), flatC_odd, hk]; rfl
  · show World.ownsRow _ _ _ _ _ _ _
    rw [flatC_set, List.length_set]
    exact h2
theorem take_set {L : List Cl} {k : Nat} {c : Cl} (h : L[k]? = some c) : (L.take k ++ List.replicate (L.length - k) noCl).set k c = L.take (k + 1) ++ List.replicate (L.length - (k + 1)) noCl := by
  have hk := (List.getElem?_eq_some_iff.1 h).1
  have hl : (L.take k).length = k := by rw [List.length_take]; omega
  rw [show L.length - k = (L.length - (k + 1)) + 1 by omega, List.replicate_succ, List.set_append_right _ _ (by omega), hl, Nat.sub_self, List.set_cons_zero, List.take_add_one, h]
  simp
theorem take_at {L : List Cl} {k : Nat} (h : k < L.length) : (L.take k ++ List.replicate (L.length - k) noCl)[k]? = some noCl := by
  have hl : (L.take k).length = k := by rw [List.length_take]; omega
  rw [List.getElem?_append_right (by omega), hl, Nat.sub_self, List.getElem?_replicate, if_pos (by omega)]

set_option maxHeartbeats 4000000 in
/-- a cell, its name copied -/
theorem cell_any (w : World) (nm : ByteArray) (ar : Int) (hn : nm.size ≤ 281474976710656) :
    Calls Tryd.prog 61 #[.agg #[.string nm, .int .i64 ar]] w fun e w' => e = .returned (.agg #[.string nm, .int .i64 ar]) ∧ Below w.heap.size w w' := by
  have hcl := fun w => clone_any nm w hn
  have hx : Blk ((w.alloc (.cells #[.string nm, .int .i64 ar] 30)).alloc (.cells #[.string ⟨#[]⟩, .int .i64 0] 30)) w.heap.size #[.string nm, .int .i64 ar] 30 := (Blk.made w _ 30).alloc _
  have hy : Blk ((w.alloc (.cells #[.string nm, .int .i64 ar] 30)).alloc (.cells #[.string ⟨#[]⟩, .int .i64 0] 30)) (w.heap.size + 1) #[.string ⟨#[]⟩, .int .i64 0] 30 := Blk.madeAt _ _ _ (by simp)
  have hb : Below w.heap.size w ((w.alloc (.cells #[.string nm, .int .i64 ar] 30)).alloc (.cells #[.string ⟨#[]⟩, .int .i64 0] 30)) := ((Below.refl _ w).alloc (Nat.le_refl _) _).alloc (by simp) _
  go_enter Tryd.func61, Tryd.ntmps61
  go_wp2_with fail
  generalize (w.alloc (.cells #[.string nm, .int .i64 ar] 30)).alloc (.cells #[.string ⟨#[]⟩, .int .i64 0] 30) = wr at hx hy hb ⊢
  have hbd : Below w.heap.size w wr.drew := hb.drew
  have hX : Blk wr.drew w.heap.size #[.string nm, .int .i64 ar] 30 := hx
  have hY : Blk wr.drew (w.heap.size + 1) #[.string ⟨#[]⟩, .int .i64 0] 30 := hy
  have HS0 : wr.drew.cell? ⟨w.heap.size, 0, none⟩ = some (.string nm) ∧ wr.drew.cell? ⟨w.heap.size, 1, none⟩ = some (.int .i64 ar) := ⟨hX.cell rfl, hX.cell rfl⟩
  have hXl := hX.lt
  have hYl := hY.lt
  have HXX : Hid (Blk wr.drew w.heap.size #[.string nm, .int .i64 ar] 30) := hX
  have HYY : Hid (Blk wr.drew (w.heap.size + 1) #[.string ⟨#[]⟩, .int .i64 0] 30) := hY
  clear hx hy hb hX hY
  go_region_held3 (fun w' => w'.cell? ⟨w.heap.size, 0, none⟩ = some (.string nm) ∧ w'.cell? ⟨w.heap.size, 1, none⟩ = some (.int .i64 ar)) (first | exact HS0 | exact HS8 | exact HS9 _ _)
    (first
      | (go_at_call 31; refine (hcl _).mono ?_; rintro e w8 ⟨rfl, b8⟩; have hX8 := HXX.out.on b8 hXl; have hY8 := HYY.out.on b8 hYl; have HS8 : w8.cell? ⟨w.heap.size, 0, none⟩ = some (.string nm) ∧ w8.cell? ⟨w.heap.size, 1, none⟩ = some (.int .i64 ar) := ⟨hX8.cell rfl, hX8.cell rfl⟩; have f0 := hY8.free 0; have f1 := hY8.free 1; have c0 := hY8.cell (i := 0) rfl; have c1 := hY8.cell (i := 1) rfl; have hb8 := hbd.trans (b8.mono hbd.size); have HS9 : ∀ x y, ((w8.setCell ⟨w.heap.size + 1, 0, none⟩ x).setCell ⟨w.heap.size + 1, 1, none⟩ y).cell? ⟨w.heap.size, 0, none⟩ = some (.string nm) ∧ ((w8.setCell ⟨w.heap.size + 1, 0, none⟩ x).setCell ⟨w.heap.size + 1, 1, none⟩ y).cell? ⟨w.heap.size, 1, none⟩ = some (.int .i64 ar) := (fun x y => by { have h := (hX8.other (p := w.heap.size + 1) (i := 0) (by omega) x).other (p := w.heap.size + 1) (i := 1) (by omega) y; exact ⟨h.cell rfl, h.cell rfl⟩ })))
  have hD : Blk ((w8.setCell ⟨w.heap.size + 1, 0, none⟩ (.string nm)).setCell ⟨w.heap.size + 1, 1, none⟩ (.int .i64 ar)) (w.heap.size + 1) #[.string nm, .int .i64 ar] 30 := (hY8.set 0 _).set 1 _
  have hb9 : Below w.heap.size w ((w8.setCell ⟨w.heap.size + 1, 0, none⟩ (.string nm)).setCell ⟨w.heap.size + 1, 1, none⟩ (.int .i64 ar)) := (hb8.setCell (by simp) _).setCell (by simp) _
  clear HS0 HS8 HS9 f0 f1 c0 c1
  generalize (w8.setCell ⟨w.heap.size + 1, 0, none⟩ (.string nm)).setCell ⟨w.heap.size + 1, 1, none⟩ (.int .i64 ar) = w4 at hD hb9 ⊢
  go_wp2_with fail
  have e0 := hD.cell (i := 0) rfl
  have e1 := hD.cell (i := 1) rfl
  exact bodyPost_ret (v := .agg #[.string nm, .int .i64 ar]) (by simp [results, Tryd.results61, go_sem, e0, e1]) rfl ⟨rfl, hb9⟩

set_option maxHeartbeats 2000000 in
theorem fresh_any (w : World) (v : Value) (L : List Cl) (hv : Lies w v L) (hz : L.length * 24 ≤ 140737488355328) (hn : ∀ c ∈ L, c.nm.size ≤ 281474976710656) :
    Calls Tryd.prog 45 #[v] w fun e w' => ∃ v', e = .returned v' ∧ Owns w' w.heap.size v' L ∧ Below w.heap.size w w' := by
  obtain ⟨a, cap, rfl, hc1, hc2, hF, HC0⟩ := hv
  have HC : Hid (CellsAt w a L) := HC0
  clear HC0
  obtain ⟨i0, hi, hz0, hz1, hz2⟩ := info_parts info59
  by_cases hL : L.length = 0
  · obtain rfl : L = [] := List.eq_nil_of_length_eq_zero hL
    go_enter Tryd.func45, Tryd.ntmps45
    go_wp2_with fail
    go_ret
    exact ⟨_, rfl, World.ownsRow_nil _ _ _ _, Below.refl _ _⟩
  have hL1 : ((L.length : Int) == 0) = false := by simp only [beq_eq_false_iff_ne]; omega
  have hL2 : ¬ (L.length : Int) = 0 := by omega
  go_enter Tryd.func45, Tryd.ntmps45
  go_wp2_with (at_make; refine wpList_make_full w rfl _ _ 23 rfl w.heap.size 30 i0 (.agg #[.string ⟨#[]⟩, .int .i64 0]) 2 Tryd.underlying23 hi hz0 hz1 .i64 .i64 L.length L.length L.length rfl rfl rfl rfl ?b2 ?b3 (Nat.le_refl _) ?_)
  case b2 => rw [hz2]; omega
  case b3 => omega
  intro w1 hown hgrow
  rw [made_cells] at hown
  have hb : Below w.heap.size w w1 := (Below.refl _ w).grown hgrow (Nat.le_refl _) (fun k hk => by cases hk)
  have HO : Hid (Owns w1 w.heap.size (.slice (some ⟨w.heap.size, 0, none⟩) L.length L.length) (List.replicate L.length noCl)) := by
    show World.ownsRow _ _ _ _ _ _ _
    rw [List.length_replicate]; exact hown
  have hg : w.heap.size < w1.heap.size := (World.ownsRow.lt hown _ rfl).2
  clear hown hgrow
  go_wp2_with fail
  go_loopw [14] (fun i wr => ∃ k : Nat, k ≤ L.length ∧ i = .int .i64 k ∧ Owns wr w.heap.size (.slice (some ⟨w.heap.size, 0, none⟩) L.length L.length) (L.take k ++ List.replicate (L.length - k) noCl) ∧ Below w.heap.size w wr) (fun i _ => L.length - (intOf i).toNat)
  case atStart => exact ⟨0, Nat.zero_le _, rfl, HO.out, hb⟩
  case round =>
    obtain ⟨k, hk, rfl, hO, hbr⟩ := hrel
    by_cases hlt : k < L.length
    · obtain ⟨c, hc⟩ : ∃ c, L[k]? = some c := ⟨L[k], List.getElem?_eq_getElem hlt⟩
      obtain ⟨b, off, rfl, hbl, d1, d2⟩ := HC.out k c hc
      have e1 : wr.cell? ⟨b, off + k * 2, none⟩ = some (.string c.nm) := (hbr.cell (p := ⟨b, off + k * 2, none⟩) hbl).trans d1
      have e2 : wr.cell? ⟨b, off + k * 2 + 1, none⟩ = some (.int .i64 c.ar) := (hbr.cell (p := ⟨b, off + k * 2 + 1, none⟩) hbl).trans d2
      have hki : (k : Int) < (L.length : Int) := by omega
      clear d1 d2
      have hgl : w.heap.size < wr.heap.size := (World.ownsRow.lt hO _ rfl).2
      have hcell := fun w => cell_any w c.nm c.ar (hn c (List.mem_of_getElem? hc))
      have HO2 : Hid (Owns (wr.alloc (Obj.cells #[Value.string c.nm, Value.int IntKind.i64 c.ar] 30)) w.heap.size (.slice (some ⟨w.heap.size, 0, none⟩) L.length L.length) (L.take k ++ List.replicate (L.length - k) noCl)) := World.ownsRow.alloc hO _
      have HB2 : Hid (Below w.heap.size w (wr.alloc (Obj.cells #[Value.string c.nm, Value.int IntKind.i64 c.ar] 30))) := hbr.alloc (by omega) _
      have HTK : Hid ((L.take k ++ List.replicate (L.length - k) noCl)[k]? = some noCl ∧ (L.take k ++ List.replicate (L.length - k) noCl).set k c = L.take (k + 1) ++ List.replicate (L.length - (k + 1)) noCl) := ⟨take_at hlt, take_set hc⟩
      clear hc hO hbr
      go_wp2_with (go_at_call 61; refine (hcell _).mono ?_; rintro e w3 ⟨rfl, hb3⟩; have HO3 := own_below HO2.out hb3; have HB3 := HB2.out.trans (hb3.mono (by have := HB2.out.size; simpa using this)); obtain ⟨s1, s2, s3, s4, HO4⟩ := own_store HO3 HTK.out.1 c)
      have HB4 : Below w.heap.size w ((w3.setCell ⟨w.heap.size, k * 2, none⟩ (.string c.nm)).setCell ⟨w.heap.size, k * 2 + 1, none⟩ (.int .i64 c.ar)) := (HB3.setCell (Nat.le_refl _) _).setCell (Nat.le_refl _) _
      rw [HTK.out.2] at HO4
      generalize (w3.setCell ⟨w.heap.size, k * 2, none⟩ (.string c.nm)).setCell ⟨w.heap.size, k * 2 + 1, none⟩ (.int .i64 c.ar) = W4 at HO4 HB4 ⊢
      clear s1 s2 s3 s4 HO3 HB3 hb3 e1 e2
      go_wp2_with fail
      go_roundw
      case rel => exact ⟨k + 1, by omega, by go_num, HO4, HB4⟩
      case measure => simp [intOf]; omega
    · obtain rfl : k = L.length := by omega
      go_wp2_with fail
      go_ret
      refine ⟨_, rfl, ?_, hbr⟩
      rw [List.take_length, Nat.sub_self] at hO
      simpa using hO

end Go.Proofs.YtjpmlnigjbdnnabDoor
