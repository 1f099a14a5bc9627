/-
  Lists of binds in memory; what the program's tell answers.
-/
import Derived.Test.YtjpmlnigjbdnnabDoorFit1
namespace Go.Proofs.YtjpmlnigjbdnnabDoor
open Go.RowKit
set_option linter.unusedVariables false
set_option maxRecDepth 100000
set_option linter.unusedSimpArgs false

theorem info44 : (Tryd.prog.info? 67).map (fun i => (i.zero, i.size, i.bytes)) = some (some (.agg #[.string ⟨#[]⟩, .slice none 0 0]), 2, 40) := by kernel_rfl

theorem field44 (a b : Value) (w : World) : (Instr.field 67 (.agg #[a, b]) 1).run Tryd.prog w = .ok b w := by kernel_rfl

/-- binds, as they stand in memory -/
def flatP : List (ByteArray × Value) → List Value
  | [] => []
  | p :: r => .string p.1 :: p.2 :: flatP r
theorem flatP_length : ∀ L, (flatP L).length = L.length * 2
  | [] => rfl
  | c :: r => by simp only [flatP, List.length_cons, flatP_length r]; omega
theorem flatP_append : ∀ L M, flatP (L ++ M) = flatP L ++ flatP M
  | [], M => rfl
  | c :: r, M => by simp only [List.cons_append, flatP, flatP_append r M]
theorem flatP_even : ∀ (L : List (ByteArray × Value)) (k : Nat), (flatP L)[k * 2]? = (L[k]?).map fun c => .string c.1
  | [], k => by simp [flatP]
  | c :: r, 0 => rfl
  | c :: r, k + 1 => by
    rw [show (k + 1) * 2 = k * 2 + 1 + 1 by omega]
    simp only [flatP, List.getElem?_cons_succ]
    exact flatP_even r k
theorem flatP_odd : ∀ (L : List (ByteArray × Value)) (k : Nat), (flatP L)[k * 2 + 1]? = (L[k]?).map fun c => c.2
  | [], k => by simp [flatP]
  | c :: r, 0 => rfl
  | c :: r, k + 1 => by
    rw [show (k + 1) * 2 + 1 = k * 2 + 1 + 1 + 1 by omega]
    simp only [flatP, List.getElem?_cons_succ]
    exact flatP_odd r k
theorem flatP_set (c : ByteArray × Value) : ∀ (M : List (ByteArray × Value)) (k : Nat), flatP (M.set k c) = ((flatP M).set (k * 2) (.string c.1)).set (k * 2 + 1) c.2
  | [], k => by simp [flatP]
  | d :: r, 0 => rfl
  | d :: r, k + 1 => by
    rw [show (k + 1) * 2 = k * 2 + 1 + 1 by omega, List.set_cons_succ]
    simp only [flatP, List.set_cons_succ, flatP_set c r k]
def noBd : ByteArray × Value := (⟨#[]⟩, .slice none 0 0)
theorem made_binds (n : Nat) : (madeCells #[.string ⟨#[]⟩, .slice none 0 0] (n * 2)).toList = flatP (List.replicate n noBd) := by
  apply List.ext_getElem?
  intro j
  have e : (madeCells #[Value.string ⟨#[]⟩, Value.slice none 0 0] (n * 2)).toList[j]? = if j < n * 2 then some (if j % 2 = 0 then Value.string ⟨#[]⟩ else Value.slice none 0 0) else none := by
    unfold madeCells
    rw [Array.toList_map, List.getElem?_map, Array.toList_range]
    by_cases hj : j < n * 2
    · rw [List.getElem?_range hj, if_pos hj]
      rcases Nat.mod_two_eq_zero_or_one j with h | h
      · simp [h]
      · simp [h]
    · rw [List.getElem?_eq_none (by simp; omega), if_neg hj]; rfl
  rw [e]
  obtain ⟨k, hk | hk⟩ : ∃ k, j = k * 2 ∨ j = k * 2 + 1 := ⟨j / 2, by omega⟩
  · subst hk
    rw [flatP_even, List.getElem?_replicate]
    by_cases h : k < n
    · rw [if_pos h, if_pos (by omega), if_pos (by omega)]; rfl
    · rw [if_neg h, if_neg (by omega)]; rfl
  · subst hk
    rw [flatP_odd, List.getElem?_replicate]
    by_cases h : k < n
    · rw [if_pos h, if_pos (by omega), if_neg (by omega)]; rfl
    · rw [if_neg h, if_neg (by omega)]; rfl

/-- a list of binds of the call's own -/
def OwnsB (w : World) (B : Nat) (v : Value) (l : List Bd) : Prop :=
  ∃ ps : List (ByteArray × Value), ps.length = l.length ∧ w.ownsRow B 67 2 v l.length (flatP ps) ∧ ∀ (i : Nat) b, l[i]? = some b → ∃ x, ps[i]? = some (b.nm, x) ∧ Owns w B x b.val
/-- a list of binds, as it lies in memory -/
def LiesB (w : World) (v : Value) (l : List Bd) : Prop :=
  ∃ a cap, v = .slice a l.length cap ∧ l.length ≤ cap ∧ cap ≤ maxLen ∧ ∀ (i : Nat) b, l[i]? = some b → ∃ g off x, a = some ⟨g, off, none⟩ ∧ g < w.heap.size ∧ w.cell? ⟨g, off + i * 2, none⟩ = some (.string b.nm) ∧ w.cell? ⟨g, off + i * 2 + 1, none⟩ = some x ∧ Lies w x b.val ∧ b.nm.size ≤ 9223372036854775807
theorem OwnsB.nil (w : World) (B : Nat) : OwnsB w B (.slice none 0 0) [] := ⟨[], rfl, World.ownsRow_nil _ _ _ _, fun j l h => by simp at h⟩
theorem OwnsB.on {w w' : World} {B : Nat} {v : Value} {l : List Bd} (h : OwnsB w B v l) (hb : Below w.heap.size w w') : OwnsB w' B v l := by
  obtain ⟨ps, h0, h1, h2⟩ := h
  refine ⟨ps, h0, own_below h1 hb, fun j l hj => ?_⟩
  obtain ⟨x, hx, ho⟩ := h2 j l hj
  exact ⟨x, hx, own_below ho hb⟩
theorem OwnsB.base {w : World} {B B' : Nat} {v : Value} {l : List Bd} (h : OwnsB w B v l) (hB : B' ≤ B) : OwnsB w B' v l := by
  obtain ⟨ps, h0, h1, h2⟩ := h
  refine ⟨ps, h0, own_base h1 hB, fun j l hj => ?_⟩
  obtain ⟨x, hx, ho⟩ := h2 j l hj
  exact ⟨x, hx, own_base ho hB⟩
theorem OwnsB.form {w : World} {B : Nat} {v : Value} {l : List Bd} (h : OwnsB w B v l) : ∃ a c, v = .slice a l.length c ∧ l.length ≤ c ∧ c ≤ maxLen := by
  obtain ⟨ps, _, h1, _⟩ := h
  obtain ⟨a, c, hv, h2, h3, _⟩ := own_cells h1
  exact ⟨a, c, hv, h2, h3⟩
theorem OwnsB.lies {w : World} {B : Nat} {v : Value} {l : List Bd} (h : OwnsB w B v l) (hf : ∀ b ∈ l, Fine b.val ∧ b.nm.size ≤ 9223372036854775807) : LiesB w v l := by
  obtain ⟨ps, h0, h1, h2⟩ := h
  obtain ⟨a, cap, hv, c1, c2, c3⟩ := own_cells h1
  refine ⟨a, cap, hv, c1, c2, fun j b hj => ?_⟩
  obtain ⟨x, hx, ho⟩ := h2 j b hj
  obtain ⟨g, ha, _, hlt, hc⟩ := c3 (j * 2) (.string b.nm) (by rw [flatP_even, hx]; rfl)
  obtain ⟨g', ha', _, _, hc'⟩ := c3 (j * 2 + 1) x (by rw [flatP_odd, hx]; rfl)
  have e : g' = g := by rw [ha] at ha'; cases ha'; rfl
  subst e
  have hfb := hf b (List.mem_of_getElem? hj)
  exact ⟨g', 0, x, ha, hlt, by rw [Nat.zero_add]; exact hc, by rw [Nat.zero_add]; exact hc', Owns.lies ho hfb.1, hfb.2⟩
theorem LiesB.on {w w' : World} {v : Value} {l : List Bd} (h : LiesB w v l) (hb : Below w.heap.size w w') : LiesB w' v l := by
  obtain ⟨a, cap, hv, c1, c2, c3⟩ := h
  refine ⟨a, cap, hv, c1, c2, fun j b hj => ?_⟩
  obtain ⟨g, off, x, ha, hlt, hc, hc', hl, hs⟩ := c3 j b hj
  exact ⟨g, off, x, ha, Nat.lt_of_lt_of_le hlt hb.size, (hb.cell (p := ⟨g, off + j * 2, none⟩) hlt).trans hc, (hb.cell (p := ⟨g, off + j * 2 + 1, none⟩) hlt).trans hc', hl.on hb, hs⟩
theorem unlikeB {w : World} {B B' : Nat} {x v : Value} {l : List Cl} {n : Nat} {xs : List Value} (h : Owns w B x l) (hv : w.ownsRow B' 67 2 v n xs) : x.ownBlock = none ∨ x.ownBlock ≠ v.ownBlock := by
  rcases h.2 with ⟨rfl, _⟩ | ⟨g, cap, cur, rfl, _, hg, _⟩
  · exact .inl rfl
  · right
    rcases hv.2 with ⟨rfl, _⟩ | ⟨g', cap', cur', rfl, _, hg', _⟩
    · simp [Value.ownBlock]
    · intro e
      simp only [Value.ownBlock, Option.some.injEq] at e
      subst e
      rw [hg] at hg'
      cases hg'
/-- a bind of a list of the call's own is written anew -/
theorem bind_store {w : World} {B g n cap : Nat} {M : List (ByteArray × Value)} (h : w.ownsRow B 67 2 (.slice (some ⟨g, 0, none⟩) n cap) n (flatP M)) {k : Nat} {c0 : ByteArray × Value} (hk : M[k]? = some c0) (c : ByteArray × Value) :
    w.cell? ⟨g, k * 2, none⟩ = some (.string c0.1) ∧ w.frozen? ⟨g, k * 2, none⟩ = false ∧ (w.setCell ⟨g, k * 2, none⟩ (.string c.1)).cell? ⟨g, k * 2 + 1, none⟩ = some c0.2 ∧ (w.setCell ⟨g, k * 2, none⟩ (.string c.1)).frozen? ⟨g, k * 2 + 1, none⟩ = false ∧
      ((w.setCell ⟨g, k * 2, none⟩ (.string c.1)).setCell ⟨g, k * 2 + 1, none⟩ c.2).ownsRow B 67 2 (.slice (some ⟨g, 0, none⟩) n cap) n (flatP (M.set k c)) := by
  have fz : ∀ {w : World} {xs : List Value} (h : w.ownsRow B 67 2 (.slice (some ⟨g, 0, none⟩) n cap) n xs) (i : Nat), w.frozen? ⟨g, i, none⟩ = false := by
    intro w xs h i
    rcases h.2 with ⟨e, _⟩ | ⟨g', cap', cur, e, _, hg, _⟩
    · cases e
    · cases e; exact Lib.frozen_of_heap hg _
  have at0 : ∀ {w : World} {xs : List Value} (h : w.ownsRow B 67 2 (.slice (some ⟨g, 0, none⟩) n cap) n xs) (i : Nat) (x : Value), xs[i]? = some x → w.cell? ⟨g, i, none⟩ = some x := by
    intro w xs h i x hx
    obtain ⟨a, cap', hv, _, _, hc⟩ := own_cells h
    cases hv
    obtain ⟨g', e, _, _, hh⟩ := hc i x hx
    cases e; exact hh
  have h1 := own_set h (k * 2) (.string c.1)
  have h2 := own_set h1 (k * 2 + 1) c.2
  refine ⟨at0 h _ _ (by rw [flatP_even, hk]; rfl), fz h _, at0 h1 _ _ ?_, fz h1 _, ?_⟩
  · rw [List.getElem?_set_ne (by omega), flatP_odd, hk]; rfl
  · rw [flatP_set]; exact h2

theorem vars_nodup : ∀ (L : List Cl) (acc : List ByteArray), acc.Nodup → (L.foldl varStep acc).Nodup
  | [], acc, h => h
  | c :: r, acc, h => by
    rw [List.foldl_cons]
    apply vars_nodup r
    unfold varStep
    split
    · rename_i hc
      rw [List.nodup_append]
      refine ⟨h, by simp, ?_⟩
      intro a ha b hb e
      simp at hb
      subst hb
      subst e
      have := inS_iff.2 ha
      rw [hc.2] at this
      cases this
    · exact h
theorem look_at : ∀ {l : List Bd} {i : Nat} {b : Bd}, (l.map (·.nm)).Nodup → l[i]? = some b → look l b.nm = some b.val
  | [], i, b, _, h => by simp at h
  | a :: r, 0, b, _, h => by simp at h; subst h; simp [look]
  | a :: r, i + 1, b, hn, h => by
    rw [List.map_cons, List.nodup_cons] at hn
    rw [List.getElem?_cons_succ] at h
    have hm : b.nm ∈ r.map (·.nm) := List.mem_map.2 ⟨b, List.mem_of_getElem? h, rfl⟩
    simp only [look]
    rw [if_neg (fun e => hn.1 (by rw [e]; exact hm))]
    exact look_at hn.2 h
theorem nm_size {nm : ByteArray} (h : kind nm.data.toList = 2) : nm.size ≤ 8 := by
  have : cellErr ⟨nm, 0⟩ = 0 := by rw [cellErr_parts]; rw [if_neg (by show ¬ kind nm.data.toList = 0; omega), if_neg (by simp)]
  exact (name_len this).2
theorem fine_check {M : List Cl} (h : check M = 0) : Fine M := by
  intro c hc
  have h1 := cellsErr_zero.1 (check_zero h).2.1 c hc
  have h2 := (name_len h1).2
  have h3 := cellErr_ar h1
  exact ⟨by omega, by omega, by omega⟩

set_option maxHeartbeats 4000000 in
theorem tell_any (w : World) (u : Value) (P : List Cl) (hu : Lies w u P) (hP : check P = 0) (b n : Nat) (f : ByteArray → Option Value) (acc : List Bd) (hm : MapIs w b n f) (hH : Holds w f acc) (hN : acc.map (·.nm) = varsOf P) (hval : ∀ x ∈ acc, check x.val = 0 ∧ kind x.nm.data.toList = 2) :
    Calls Tryd.prog 47 #[u, .map (some b)] w fun e w' => ∃ v', e = .returned v' ∧ OwnsB w' w.heap.size v' acc ∧ Below w.heap.size w w' := by
  obtain ⟨i0, hi, hz0, hz1, hz2⟩ := info_parts info44
  have hfd := field44
  have hvars := vars_ok w u P hu hP
  have hp64 := (check_zero hP).1
  have hvl := varsOf_len P P.length
  rw [List.take_length] at hvl
  have hnd : (acc.map (·.nm)).Nodup := by rw [hN]; exact vars_nodup P [] (by simp)
  rw [← hN] at hvars hvl
  rw [List.length_map] at hvl
  have HND : Hid ((acc.map (·.nm)).Nodup) := hnd
  have HVAL : Hid (∀ x ∈ acc, check x.val = 0 ∧ kind x.nm.data.toList = 2) := hval
  have HMAP : Hid (MapIs w b n f) := hm
  have HH : Hid (Holds w f acc) := hH
  have hal : acc.length ≤ 64 := by omega
  obtain ⟨pa, pc, rfl, _⟩ := hu
  clear hm hH hN hval hnd hP
  go_enter Tryd.func47, Tryd.ntmps47
  go_wp2_with (first | (go_at_call 42; refine hvars.mono ?_; rintro e w1 ⟨v1, rfl, ho1, hb1⟩; have hS1 := ho1.lies; obtain ⟨sa, sc, hsv, hs1, hs2, hsc⟩ := ho1.lies; subst hsv; have hs3 := hb1.size; have hnl : (acc.map (·.nm)).length = acc.length := List.length_map ..) | (at_make; refine wpList_make_full w1 rfl _ _ 43 rfl w.heap.size 67 i0 (.agg #[.string ⟨#[]⟩, .slice none 0 0]) 2 Tryd.underlying43 hi hz0 hz1 .i64 .i64 acc.length acc.length acc.length (by simp [Act.eval, Act.put]) (by simp [Act.eval, Act.put]) rfl rfl ?b2 ?b3 hs3 ?_))
  case b2 => rw [hz2]; omega
  case b3 => unfold maxLen; omega
  intro w2 hown hgrow
  rw [made_binds] at hown
  have hb2 : Below w1.heap.size w1 w2 := (Below.refl _ w1).grown hgrow (Nat.le_refl _) (fun k hk => by cases hk)
  have HB1 : Hid (Below w.heap.size w w1) := hb1
  have HS1 : Hid (LiesS w1 (.slice sa (acc.map (·.nm)).length sc) (acc.map (·.nm))) := hS1
  have hwl := hb1.size
  have HO2 : Hid (w2.ownsRow w.heap.size 67 2 (.slice (some ⟨w1.heap.size, 0, none⟩) acc.length acc.length) acc.length (flatP (List.replicate acc.length noBd))) := hown
  clear hown hgrow ho1 hS1 hsc hb1 hvars
  go_wp2_with fail
  go_loopw [20] (fun i wr => ∃ k : Nat, k ≤ acc.length ∧ i = .int .i64 (k : Nat) ∧ (∃ ps : List (ByteArray × Value), ps.length = acc.length ∧ wr.ownsRow w.heap.size 67 2 (.slice (some ⟨w1.heap.size, 0, none⟩) acc.length acc.length) acc.length (flatP ps) ∧ Hid (∀ (i : Nat) x, i < k → acc[i]? = some x → ∃ y, ps[i]? = some (x.nm, y) ∧ Owns wr w.heap.size y x.val)) ∧ Below w1.heap.size w1 wr) (fun i _ => acc.length - (intOf i).toNat)
  case atStart => exact ⟨0, Nat.zero_le _, rfl, ⟨_, List.length_replicate, HO2.out, (fun i x hi => by omega)⟩, hb2⟩
  case round =>
    obtain ⟨k, hk, rfl, ⟨ps, hpl, hrow, HEL⟩, hbr⟩ := hrel
    clear HO2 hb2
    have hbs := hbr.size
    have hbw : Below w.heap.size w wr := HB1.out.trans (hbr.mono hwl)
    by_cases hlt : k < acc.length
    · obtain ⟨x, hx⟩ : ∃ x, acc[k]? = some x := ⟨acc[k], List.getElem?_eq_getElem hlt⟩
      obtain ⟨nm, val⟩ := x
      have hmem := List.mem_of_getElem? hx
      obtain ⟨hvc, hvk⟩ := HVAL.out _ hmem
      simp only at hvc hvk
      have hn8 := nm_size hvk
      have hmx : nm.size ≤ maxLen := by unfold maxLen; omega
      obtain ⟨sb, so, hsa, hsl, hscell⟩ : ∃ sb so, sa = some ⟨sb, so, none⟩ ∧ sb < wr.heap.size ∧ wr.cell? ⟨sb, so + k, none⟩ = some (.string nm) := by
        obtain ⟨a', c', hv', _, _, HC'⟩ := HS1.out.on hbr
        cases hv'
        exact HC' k nm (by rw [List.getElem?_map, hx]; rfl)
      subst hsa
      have hmap := HMAP.out.on hbw
      have hlk := look_at HND.out hx
      obtain ⟨y, hfy, hly0⟩ : ∃ y, f nm = some (.agg #[.string nm, y]) ∧ Lies w y val := by
        have := HH.out nm
        simp only at hlk
        rw [hlk] at this
        exact this
      have hly := hly0.on hbw
      obtain ⟨h64, hcE, _⟩ := check_zero hvc
      have hfr := fresh_any wr y val hly (by omega) (fun c hc => by have := (name_len (cellsErr_zero.1 hcE c hc)).2; omega)
      obtain ⟨ya, yc, rfl, _⟩ := hly
      obtain ⟨p0, hp0⟩ : ∃ p0, ps[k]? = some p0 := ⟨ps[k], List.getElem?_eq_getElem (by omega)⟩
      have HP0 : Hid (ps[k]? = some p0) := hp0
      have HX : Hid (acc[k]? = some ⟨nm, val⟩) := hx
      have hki : (k : Int) < (acc.length : Int) := by omega
      clear hx hp0 hlk hmem hly0 hvc hvk hcE
      go_wp2_with (first | (at_lookup; refine wpList_get5_some _ rfl _ _ rfl b n f rfl hmap nm rfl hmx _ hfy ?_) | (go_at_call 45; refine hfr.mono ?_; rintro e w3 ⟨x3, rfl, ho3, hb3⟩; obtain ⟨xa, xc, hxv, _⟩ := own_cells ho3; subst hxv; have hrow3 := own_below hrow hb3; have ho4 : Owns w3 w.heap.size (.slice xa val.length xc) val := own_base ho3 hbw.size; have hb4 := hbr.trans (hb3.mono hbs); obtain ⟨s1, s2, s3, s4, hrow4⟩ := bind_store hrow3 HP0.out (nm, .slice xa val.length xc); have HEL3 : Hid (∀ (i : Nat) x, i < k → acc[i]? = some x → ∃ y, ps[i]? = some (x.nm, y) ∧ Owns w3 w.heap.size y x.val) := (fun i x hi hx => by { obtain ⟨y, h1, h2⟩ := HEL.out i x hi hx; exact ⟨y, h1, own_below h2 hb3⟩ })))
      have hg2 : w3.grownBy ((w3.setCell ⟨w1.heap.size, k * 2, none⟩ (.string nm)).setCell ⟨w1.heap.size, k * 2 + 1, none⟩ (.slice xa val.length xc)) (some w1.heap.size) := (set_grown w3 _ _ _).trans (set_grown _ _ _ _)
      have HEL4 : Hid (∀ (i : Nat) x, i < k + 1 → acc[i]? = some x → ∃ y, (ps.set k (nm, .slice xa val.length xc))[i]? = some (x.nm, y) ∧ Owns ((w3.setCell ⟨w1.heap.size, k * 2, none⟩ (.string nm)).setCell ⟨w1.heap.size, k * 2 + 1, none⟩ (.slice xa val.length xc)) w.heap.size y x.val) := fun i x hi hx => by
        by_cases e : i = k
        · subst e
          rw [HX.out] at hx
          cases hx
          exact ⟨_, List.getElem?_set_self (by omega), World.ownsRow.kept ho4 hg2 (unlikeB ho4 hrow3)⟩
        · obtain ⟨y, h1, h2⟩ := HEL3.out i x (by omega) hx
          exact ⟨y, by rw [List.getElem?_set_ne (fun e2 => e e2.symm)]; exact h1, World.ownsRow.kept h2 hg2 (unlikeB h2 hrow3)⟩
      have hb5 : Below w1.heap.size w1 ((w3.setCell ⟨w1.heap.size, k * 2, none⟩ (.string nm)).setCell ⟨w1.heap.size, k * 2 + 1, none⟩ (.slice xa val.length xc)) := (hb4.setCell (Nat.le_refl _) _).setCell (Nat.le_refl _) _
      clear hg2 HEL3 hrow3 hb3 hb4 ho3 ho4 HEL
      go_roundw
      case rel => exact ⟨k + 1, by omega, by go_num, ⟨_, by rw [List.length_set]; exact hpl, hrow4, HEL4⟩, hb5⟩
      case measure => simp [intOf]; omega
    · have hki : ¬ (k : Int) < (acc.length : Int) := by omega
      have HK : Hid (k = acc.length) := by show _ = _; omega
      go_wp2_with fail
      go_ret
      exact ⟨_, rfl, ⟨ps, hpl, hrow, fun i x hx => HEL.out i x (by have := (List.getElem?_eq_some_iff.1 hx).1; have := HK.out; omega) hx⟩, hbw⟩

end Go.Proofs.YtjpmlnigjbdnnabDoor
