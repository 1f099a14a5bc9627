/-
  The document's space: a new one.
-/
import Derived.Test.YtglallhblcjffaaGreatDoorRa4
namespace Go.Proofs.YtglallhblcjffaaGreatDoor
open Go.RowKit
set_option linter.unusedVariables false
set_option linter.unusedSimpArgs false
set_option maxRecDepth 100000

theorem wp_strs {o : Oper} {a : Act} {K : Act → World → Prop} {Q : Exit → Act → World → Prop} (W : World) (B : Nat) (hB : B ≤ W.heap.size) (s x : Operand)
    (ho : o.op = .call { callee := .builtin .append, args := #[s, x], argTypes := #[70, 70] }) (v : Value) (M : List ByteArray) (m : Nat) (hm : M.length = m) (hs : a.eval s = v) (hown : RowS W B v M)
    (ad : Addr) (N : List ByteArray) (k c : Nat) (hk : N.length = k) (hk0 : 0 < k) (hx : a.eval x = .slice (some ad) k c) (hc : ∀ j u, (flatS N)[j]? = some u → W.cell? (ad.add j) = some u) (hlen : m + k ≤ 100000)
    (h : ∀ va vc w', RowS w' B (.slice va (m + k) vc) (M ++ N) → W.grownBy w' v.ownBlock → K (a.put o.dst (.slice va (m + k) vc)) w') : o.wp Tryz.prog a W K Q := by
  obtain ⟨i0, hi, hz0, hz1, hz2⟩ := info_parts info9
  subst hm
  subst hk
  refine wp_append_blk W s x 70 ho B 9 i0 (.string ⟨#[]⟩) 1 16 Tryz.underlying70 hi hz0 hz1 hz2 rfl (by decide) v M.length (flatS M) hs hown ad N.length c (flatS N) hx (flatS_length N) hc (flatS_one N) hk0 (by unfold maxLen; omega) (by omega) hB ?_
  intro v' w' hown' hgrow _
  obtain ⟨va, vc, hv'⟩ := own_form hown'
  subst hv'
  refine h va vc w' ?_ hgrow
  unfold RowS
  rw [List.length_append, flatS_append]
  exact hown'
theorem bools_one (L : List Bool) : ∀ u ∈ L.map Value.bool, u.oneCell' = true := by
  intro u hu
  obtain ⟨x, _, rfl⟩ := List.mem_map.1 hu
  rfl
theorem wp_bools {o : Oper} {a : Act} {K : Act → World → Prop} {Q : Exit → Act → World → Prop} (W : World) (B : Nat) (hB : B ≤ W.heap.size) (s x : Operand)
    (ho : o.op = .call { callee := .builtin .append, args := #[s, x], argTypes := #[53, 53] }) (v : Value) (M : List Bool) (m : Nat) (hm : M.length = m) (hs : a.eval s = v) (hown : RowB W B v M)
    (ad : Addr) (N : List Bool) (k c : Nat) (hk : N.length = k) (hk0 : 0 < k) (hx : a.eval x = .slice (some ad) k c) (hc : ∀ j u, (N.map Value.bool)[j]? = some u → W.cell? (ad.add j) = some u) (hlen : m + k ≤ 100000)
    (h : ∀ va vc w', RowB w' B (.slice va (m + k) vc) (M ++ N) → W.grownBy w' v.ownBlock → K (a.put o.dst (.slice va (m + k) vc)) w') : o.wp Tryz.prog a W K Q := by
  obtain ⟨i0, hi, hz0, hz1, hz2⟩ := info_parts info4
  subst hm
  subst hk
  refine wp_append_blk W s x 53 ho B 4 i0 (.bool false) 1 1 Tryz.underlying53 hi hz0 hz1 hz2 rfl (by decide) v M.length (M.map Value.bool) hs hown ad N.length c (N.map Value.bool) hx (by simp) hc (bools_one N) hk0 (by unfold maxLen; omega) (by omega) hB ?_
  intro v' w' hown' hgrow _
  obtain ⟨va, vc, hv'⟩ := own_form hown'
  subst hv'
  refine h va vc w' ?_ hgrow
  unfold RowB
  rw [List.length_append, List.map_append]
  exact hown'

/-- a space of the document's, made since w0 -/
def Nr (w0 w : World) (b : Nat) (r : Rsp) : Prop :=
  ∃ pv tv, Blk w b #[.int .i64 (r.n : Nat), .string r.top, pv, tv] 72 ∧ w0.heap.size ≤ b ∧ RowS w w0.heap.size pv r.pages ∧ RowB w w0.heap.size tv r.taken ∧ Below w0.heap.size w0 w
section
variable {w w0 w5 W V : World} {S R R' : Nat → Prop} {b : Nat} {r r1 r2 : Rsp} {x : Value}
theorem Nr.below (h : Nr w0 w b r) : Below w0.heap.size w0 w := by obtain ⟨_, _, _, _, _, _, h⟩ := h; exact h
theorem Nr.on (h : Nr w0 w b r) (hb : Below w.heap.size w W) : Nr w0 W b r := by
  obtain ⟨pv, tv, h1, h2, h3, h4, h5⟩ := h
  exact ⟨pv, tv, (Keep.of_below (S := fun _ => False) hb).blk h1 (fun h => h), h2, h3.on hb, h4.on hb, h5.trans (hb.mono h5.size)⟩
theorem Nr.rr (h : Nr w0 w b r) : Rr w (fun j => w0.heap.size ≤ j ∧ j < w.heap.size) b r := by
  obtain ⟨pv, tv, h1, h2, h3, h4, h5⟩ := h
  exact ⟨fun j hj => hj.2, ⟨h2, h1.lt⟩, pv, tv, h1, own_base h3 (Nat.zero_le _), own_base h4 (Nat.zero_le _), fun g hg => World.ownsRow.lt h3 g hg, fun g hg => World.ownsRow.lt h4 g hg⟩
theorem Nr.read (h : Nr w0 w b r) : ∃ pa pc ta tc, w.cell? ⟨b, 2, none⟩ = some (.slice pa r.pages.length pc) ∧ w.cell? ⟨b, 3, none⟩ = some (.slice ta r.taken.length tc) ∧ RowS w w0.heap.size (.slice pa r.pages.length pc) r.pages ∧ RowB w w0.heap.size (.slice ta r.taken.length tc) r.taken ∧ w.frozen? ⟨b, 2, none⟩ = false ∧ w.frozen? ⟨b, 3, none⟩ = false ∧ b < w.heap.size := by
  obtain ⟨pv, tv, h1, h2, h3, h4, h5⟩ := h
  obtain ⟨pa, pc, e1⟩ := h3.form
  obtain ⟨ta, tc, e2⟩ := h4.form
  subst e1
  subst e2
  exact ⟨pa, pc, ta, tc, h1.cell (i := 2) rfl, h1.cell (i := 3) rfl, h3, h4, h1.free 2, h1.free 3, h1.lt⟩
theorem Nr.pg (h : Nr w0 w b r) {pv v' : Value} (hc : w.cell? ⟨b, 2, none⟩ = some pv) (hg : w.grownBy w5 pv.ownBlock) {L : List ByteArray} (hr : RowS w5 w0.heap.size v' L) : w5.cell? ⟨b, 2, none⟩ = some pv ∧ w5.frozen? ⟨b, 2, none⟩ = false ∧ Below w0.heap.size w0 w5 ∧ Nr w0 (w5.setCell ⟨b, 2, none⟩ v') b { r with pages := L } := by
  obtain ⟨pv', tv, h1, h2, h3, h4, h5⟩ := h
  have e : some pv' = some pv := (h1.cell (i := 2) rfl).symm.trans hc
  cases e
  have k1 : Keep (fun j => pv.ownBlock = some j) w w5 := Keep.grown hg (fun k hk => hk)
  have k2 : Keep (fun j => j = b) w5 (w5.setCell ⟨b, 2, none⟩ v') := Keep.set (S := fun j => j = b) w5 rfl 2 _
  have b1 : Blk w5 b _ 72 := k1.blk h1 (fun e => h1.ne h3 (by decide) e rfl)
  have hb5 : Below w0.heap.size w0 w5 := h5.grown hg h5.size (fun k hk => (World.ownsRow.lt h3 k hk).1)
  have t5 : RowB w5 w0.heap.size tv r.taken := k1.row h4 (fun g e e2 => rows_ne h4 h3 (by decide) e e2)
  refine ⟨b1.cell (i := 2) rfl, b1.free 2, hb5, v', tv, b1.set 2 v', h2, k2.row hr (fun g e => b1.ne hr (by decide) e), k2.row t5 (fun g e => b1.ne t5 (by decide) e), ?_⟩
  exact hb5.trans (k2.below (fun j e => by subst e; exact h2) (hb5.size))
theorem Nr.tk (h : Nr w0 w b r) {pv v' : Value} (hc : w.cell? ⟨b, 3, none⟩ = some pv) (hg : w.grownBy w5 pv.ownBlock) {L : List Bool} (hr : RowB w5 w0.heap.size v' L) : w5.cell? ⟨b, 3, none⟩ = some pv ∧ w5.frozen? ⟨b, 3, none⟩ = false ∧ Below w0.heap.size w0 w5 ∧ Nr w0 (w5.setCell ⟨b, 3, none⟩ v') b { r with taken := L } := by
  obtain ⟨tv, pv', h1, h2, h4, h3, h5⟩ := h
  have e : some pv' = some pv := (h1.cell (i := 3) rfl).symm.trans hc
  cases e
  have k1 : Keep (fun j => pv.ownBlock = some j) w w5 := Keep.grown hg (fun k hk => hk)
  have k2 : Keep (fun j => j = b) w5 (w5.setCell ⟨b, 3, none⟩ v') := Keep.set (S := fun j => j = b) w5 rfl 3 _
  have b1 : Blk w5 b _ 72 := k1.blk h1 (fun e => h1.ne h3 (by decide) e rfl)
  have hb5 : Below w0.heap.size w0 w5 := h5.grown hg h5.size (fun k hk => (World.ownsRow.lt h3 k hk).1)
  have t5 : RowS w5 w0.heap.size tv r.pages := k1.row h4 (fun g e e2 => rows_ne h4 h3 (by decide) e e2)
  refine ⟨b1.cell (i := 3) rfl, b1.free 3, hb5, tv, v', b1.set 3 v', h2, k2.row t5 (fun g e => b1.ne t5 (by decide) e), k2.row hr (fun g e => b1.ne hr (by decide) e), ?_⟩
  exact hb5.trans (k2.below (fun j e => by subst e; exact h2) (hb5.size))
theorem Nr.made (w0 w : World) (hb : Below w0.heap.size w0 w) (n : Nat) (t : ByteArray) : Nr w0 (w.alloc (.cells #[.int .i64 (n : Nat), .string t, .slice none 0 0, .slice none 0 0] 72)) w.heap.size ⟨n, t, [], []⟩ :=
  ⟨_, _, Blk.made _ _ _, hb.size, World.ownsRow_nil _ _ _ _, World.ownsRow_nil _ _ _ _, hb.alloc hb.size _⟩
set_option maxHeartbeats 1000000 in
theorem rCopy_any (hok : r.Ok) (h : Rr w R b r) : Calls Tryz.prog 17 #[.pointer (some ⟨b, 0, none⟩)] w fun e w' => ∃ b', e = .returned (.pointer (some ⟨b', 0, none⟩)) ∧ Nr w w' b' r := by
  obtain ⟨pa, pc, ta, tc, c0, c1, c2, c3, r2, r3, hf, hlt⟩ := h.read
  obtain ⟨b1, b2, b3, b4, b5⟩ := frs_small hok.lo hok.hi
  have htl := hok.tl
  have hpl := hok.pl
  obtain ⟨gp, x2, _, hgp⟩ := row_some r2 (by omega)
  subst x2
  obtain ⟨y, hy⟩ : ∃ y, r.taken[0]? = some y := ⟨_, List.getElem?_eq_getElem (by omega)⟩
  obtain ⟨gt, x3, _, hgt, _, _⟩ := r3.at hy
  subst x3
  obtain ⟨m, hm⟩ : ∃ m, r.pages.length = m := ⟨_, rfl⟩
  have hm3 : r.taken.length = m := by omega
  have hm2 : m ≤ 1017 := by omega
  have hm1 : 0 < m := by omega
  have HM := hid hm
  have HM3 := hid hm3
  have HC2 : Hid (∀ w5, Below w.heap.size w w5 → w5.cell? ⟨b, 2, none⟩ = some (.slice (some ⟨gp, 0, none⟩) m pc)) := fun w5 hb => (hb.cell (p := ⟨b, 2, none⟩) hlt).trans (by rw [← hm]; exact c2)
  have HC3 : Hid (∀ w5, Below w.heap.size w w5 → w5.cell? ⟨b, 3, none⟩ = some (.slice (some ⟨gt, 0, none⟩) m tc)) := fun w5 hb => (hb.cell (p := ⟨b, 3, none⟩) hlt).trans (by rw [← hm3]; exact c3)
  have HP : Hid (∀ w5, Below w.heap.size w w5 → ∀ j u, (flatS r.pages)[j]? = some u → w5.cell? ((⟨gp, 0, none⟩ : Addr).add j) = some u) := fun w5 hb j u hj => by
    rw [add_plain, Nat.zero_add]
    obtain ⟨_, _, e, _, _, hcc⟩ := own_cells r2
    cases e
    obtain ⟨g', e', _, _, hc, _⟩ := hcc j u hj
    cases e'
    exact (hb.cell (p := ⟨gp, j, none⟩) hgp).trans hc
  have HT : Hid (∀ w5, Below w.heap.size w w5 → ∀ j u, (r.taken.map Value.bool)[j]? = some u → w5.cell? ((⟨gt, 0, none⟩ : Addr).add j) = some u) := fun w5 hb j u hj => by
    rw [add_plain, Nat.zero_add]
    obtain ⟨_, _, e, _, _, hcc⟩ := own_cells r3
    cases e
    obtain ⟨g', e', _, _, hc, _⟩ := hcc j u hj
    cases e'
    exact (hb.cell (p := ⟨gt, j, none⟩) hgt).trans hc
  have HN1 := hid ((Nr.made w w (Below.refl _ w) r.n r.top).on ((Below.refl _ _).drew))
  have HE : Hid (r = ⟨r.n, r.top, r.pages, r.taken⟩) := rfl
  have d0 : w.drew.cell? ⟨b, 0, none⟩ = some (.int .i64 (r.n : Nat)) := c0
  have d1 : w.drew.cell? ⟨b, 1, none⟩ = some (.string r.top) := c1
  clear h hok c0 c1 c2 c3 r2 r3 hf hlt b1 b2 b3 b4 b5 htl hpl hgp hgt hy hm hm3
  generalize r.pages = P at *
  generalize r.taken = T at *
  generalize r.n = n at *
  generalize r.top = tp at *
  go_enter Tryz.func17, Tryz.ntmps17
  go_wp2_with fail
  go_region
  go_wp2_with fail
  generalize (w.alloc (.cells #[.int .i64 (n : Nat), .string tp, .slice none 0 0, .slice none 0 0] 72)).drew = w1 at HN1 ⊢
  clear d0 d1
  obtain ⟨pa1, pc1, ta1, tc1, i2, i3, j2, j3, f2, f3, hl1⟩ := HN1.out.read
  have HB1 := hid HN1.out.below
  have HSW : w1.drew.cell? ⟨w.heap.size, 2, none⟩ = some (.slice pa1 0 pc1) ∧ w1.drew.cell? ⟨b, 2, none⟩ = some (.slice (some ⟨gp, 0, none⟩) m pc) := ⟨i2, HC2.out _ HB1.out.drew⟩
  have HN1d := hid (HN1.out.on ((Below.refl _ w1).drew))
  refine wp_region_m (fun w' => w'.cell? ⟨w.heap.size, 2, none⟩ = some (.slice pa1 0 pc1) ∧ w'.cell? ⟨b, 2, none⟩ = some (.slice (some ⟨gp, 0, none⟩) m pc)) 10 (by kernel_rfl) ?_
  refine wpAnyM_pick (i := 0) (some 14) (v := ?vz1) rfl rfl (by kernel_rfl) (by kernel_rfl) (by kernel_rfl) (by kernel_rfl) (fun _ _ _ h => h) (Or.inl ⟨by rfl, ?hz1⟩) HSW ?rz1
  case hz1 => intro w hSw; go_simp; try with_reducible rfl
  try simp only [Act.put, List.setIfInBounds_toArray, List.set_cons_zero, List.set_cons_succ]
  refine wpAnyM_pick (i := 1) (some 15) (v := ?vz2) rfl rfl (by kernel_rfl) (by kernel_rfl) (by kernel_rfl) (by kernel_rfl) (fun _ _ _ h => h) (Or.inl ⟨by rfl, ?hz2⟩) HSW ?rz2
  case hz2 => intro w hSw; go_simp; try with_reducible rfl
  try simp only [Act.put, List.setIfInBounds_toArray, List.set_cons_zero, List.set_cons_succ]
  refine wpAnyM_pick (i := 5) (some 19) (v := ?vz3) rfl rfl (by kernel_rfl) (by kernel_rfl) (by kernel_rfl) (by kernel_rfl) (fun _ _ _ h => h) (Or.inl ⟨by rfl, ?hz3⟩) HSW ?rz3
  case hz3 => intro w hSw; go_simp; try with_reducible rfl
  try simp only [Act.put, List.setIfInBounds_toArray, List.set_cons_zero, List.set_cons_succ]
  refine wpAnyM_pick (i := 2) (some 16) (v := ?vz4) rfl rfl (by kernel_rfl) (by kernel_rfl) (by kernel_rfl) (by kernel_rfl) (fun _ _ _ h => h) (Or.inl ⟨by rfl, ?hz4⟩) HSW ?rz4
  case hz4 => intro w hSw; go_simp; try with_reducible rfl
  try simp only [Act.put, List.setIfInBounds_toArray, List.set_cons_zero, List.set_cons_succ]
  refine wpAnyM_pick (i := 6) (some 20) (v := ?vz5) rfl rfl (by kernel_rfl) (by kernel_rfl) (by kernel_rfl) (by kernel_rfl) (fun _ _ _ h => h) (Or.inl ⟨by rfl, ?hz5⟩) HSW ?rz5
  case hz5 => intro w hSw; go_simp; try with_reducible rfl
  try simp only [Act.put, List.setIfInBounds_toArray, List.set_cons_zero, List.set_cons_succ]
  refine wpAnyM_pick (i := 3) (some 17) (v := ?vz6) rfl rfl (by kernel_rfl) (by kernel_rfl) (by kernel_rfl) (by kernel_rfl) (fun _ _ _ h => h) (Or.inl ⟨by rfl, ?hz6⟩) HSW ?rz6
  case hz6 => intro w hSw; go_simp; try with_reducible rfl
  try simp only [Act.put, List.setIfInBounds_toArray, List.set_cons_zero, List.set_cons_succ]
  refine wpAnyM_pick (i := 7) (some 21) (v := ?vz7) rfl rfl (by kernel_rfl) (by kernel_rfl) (by kernel_rfl) (by kernel_rfl) (fun _ _ _ h => h) (Or.inl ⟨by rfl, ?hz7⟩) HSW ?rz7
  case hz7 => intro w hSw; go_simp; try with_reducible rfl
  try simp only [Act.put, List.setIfInBounds_toArray, List.set_cons_zero, List.set_cons_succ]
  refine wpAnyM_pick (i := 4) (some 18) (v := ?vz8) rfl rfl (by kernel_rfl) (by kernel_rfl) (by kernel_rfl) (by kernel_rfl) (fun _ _ _ h => h) (Or.inl ⟨by rfl, ?hz8⟩) HSW ?rz8
  case hz8 => intro w hSw; obtain ⟨hSa, hSb⟩ := hSw; go_simp; try with_reducible rfl
  try simp only [Act.put, List.setIfInBounds_toArray, List.set_cons_zero, List.set_cons_succ]
  refine wpAnyM_pick (i := 8) (some 22) (v := ?vz9) rfl rfl (by kernel_rfl) (by kernel_rfl) (by kernel_rfl) (by kernel_rfl) (fun _ _ _ h => h) (Or.inl ⟨by rfl, ?hz9⟩) HSW ?rz9
  case hz9 => intro w hSw; obtain ⟨hSa, hSb⟩ := hSw; go_simp; try with_reducible rfl
  try simp only [Act.put, List.setIfInBounds_toArray, List.set_cons_zero, List.set_cons_succ]
  refine wpAnyM_one (i := 9) (by kernel_rfl) rfl (fun K hK => ?_)
  simp only [List.getElem_toArray, List.getElem_cons_succ, List.getElem_cons_zero]
  rw [if_pos (by rfl)]
  refine wp_strs _ w.heap.size HB1.out.size (.tmp 18) (.tmp 22) rfl _ [] 0 rfl rfl (own_below j2 ((Below.refl _ _).drew)) ⟨gp, 0, none⟩ P m pc HM.out hm1 rfl (HP.out _ HB1.out.drew) (by omega) ?_
  intro va vc w5 hr5 hg5
  rw [Nat.zero_add] at hr5
  obtain ⟨o1, o2, o3, o4⟩ := HN1d.out.pg HSW.1 hg5 hr5
  have HN2 := hid o4
  clear hr5 hg5 o4
  refine hK.out _ _ (fun _ => ⟨o1, HC2.out _ o3⟩) ?_
  clear hK K
  try simp only [Act.put, List.setIfInBounds_toArray, List.set_cons_zero, List.set_cons_succ]
  refine wpAnyM_one (i := 10) (by kernel_rfl) rfl (fun K hK => ?_)
  go_simp
  refine hK.out _ _ (fun h => absurd h (by decide)) ?_
  clear hK K
  refine wpAnyM_one (i := 11) (by kernel_rfl) rfl (fun K hK => ?_)
  go_simp
  refine hK.out _ _ (fun h => absurd h (by decide)) ?_
  clear hK K
  refine wpAnyM_one (i := 12) (by kernel_rfl) rfl (fun K hK => ?_)
  go_simp
  refine hK.out _ _ (fun h => absurd h (by decide)) ?_
  clear hK K
  refine wpAnyM_done (by kernel_rfl) ?_ _
  try simp only [Act.put, List.setIfInBounds_toArray, List.set_cons_zero, List.set_cons_succ]
  generalize w5.setCell ⟨w.heap.size, 2, none⟩ (.slice va m vc) = w6 at HN2 ⊢
  go_wp2_with fail
  obtain ⟨pa1, pc1, ta1, tc1, i2, i3, j2, j3, f2, f3, hl1⟩ := HN2.out.read
  have HB1 := hid HN2.out.below
  have HSW : w6.drew.cell? ⟨w.heap.size, 3, none⟩ = some (.slice ta1 0 tc1) ∧ w6.drew.cell? ⟨b, 3, none⟩ = some (.slice (some ⟨gt, 0, none⟩) m tc) := ⟨i3, HC3.out _ HB1.out.drew⟩
  have HN1d := hid (HN2.out.on ((Below.refl _ w6).drew))
  refine wp_region_m (fun w' => w'.cell? ⟨w.heap.size, 3, none⟩ = some (.slice ta1 0 tc1) ∧ w'.cell? ⟨b, 3, none⟩ = some (.slice (some ⟨gt, 0, none⟩) m tc)) 10 (by kernel_rfl) ?_
  refine wpAnyM_pick (i := 0) (some 26) (v := ?vz10) rfl rfl (by kernel_rfl) (by kernel_rfl) (by kernel_rfl) (by kernel_rfl) (fun _ _ _ h => h) (Or.inl ⟨by rfl, ?hz10⟩) HSW ?rz10
  case hz10 => intro w hSw; go_simp; try with_reducible rfl
  try simp only [Act.put, List.setIfInBounds_toArray, List.set_cons_zero, List.set_cons_succ]
  refine wpAnyM_pick (i := 1) (some 27) (v := ?vz11) rfl rfl (by kernel_rfl) (by kernel_rfl) (by kernel_rfl) (by kernel_rfl) (fun _ _ _ h => h) (Or.inl ⟨by rfl, ?hz11⟩) HSW ?rz11
  case hz11 => intro w hSw; go_simp; try with_reducible rfl
  try simp only [Act.put, List.setIfInBounds_toArray, List.set_cons_zero, List.set_cons_succ]
  refine wpAnyM_pick (i := 5) (some 31) (v := ?vz12) rfl rfl (by kernel_rfl) (by kernel_rfl) (by kernel_rfl) (by kernel_rfl) (fun _ _ _ h => h) (Or.inl ⟨by rfl, ?hz12⟩) HSW ?rz12
  case hz12 => intro w hSw; go_simp; try with_reducible rfl
  try simp only [Act.put, List.setIfInBounds_toArray, List.set_cons_zero, List.set_cons_succ]
  refine wpAnyM_pick (i := 2) (some 28) (v := ?vz13) rfl rfl (by kernel_rfl) (by kernel_rfl) (by kernel_rfl) (by kernel_rfl) (fun _ _ _ h => h) (Or.inl ⟨by rfl, ?hz13⟩) HSW ?rz13
  case hz13 => intro w hSw; go_simp; try with_reducible rfl
  try simp only [Act.put, List.setIfInBounds_toArray, List.set_cons_zero, List.set_cons_succ]
  refine wpAnyM_pick (i := 6) (some 32) (v := ?vz14) rfl rfl (by kernel_rfl) (by kernel_rfl) (by kernel_rfl) (by kernel_rfl) (fun _ _ _ h => h) (Or.inl ⟨by rfl, ?hz14⟩) HSW ?rz14
  case hz14 => intro w hSw; go_simp; try with_reducible rfl
  try simp only [Act.put, List.setIfInBounds_toArray, List.set_cons_zero, List.set_cons_succ]
  refine wpAnyM_pick (i := 3) (some 29) (v := ?vz15) rfl rfl (by kernel_rfl) (by kernel_rfl) (by kernel_rfl) (by kernel_rfl) (fun _ _ _ h => h) (Or.inl ⟨by rfl, ?hz15⟩) HSW ?rz15
  case hz15 => intro w hSw; go_simp; try with_reducible rfl
  try simp only [Act.put, List.setIfInBounds_toArray, List.set_cons_zero, List.set_cons_succ]
  refine wpAnyM_pick (i := 7) (some 33) (v := ?vz16) rfl rfl (by kernel_rfl) (by kernel_rfl) (by kernel_rfl) (by kernel_rfl) (fun _ _ _ h => h) (Or.inl ⟨by rfl, ?hz16⟩) HSW ?rz16
  case hz16 => intro w hSw; go_simp; try with_reducible rfl
  try simp only [Act.put, List.setIfInBounds_toArray, List.set_cons_zero, List.set_cons_succ]
  refine wpAnyM_pick (i := 4) (some 30) (v := ?vz17) rfl rfl (by kernel_rfl) (by kernel_rfl) (by kernel_rfl) (by kernel_rfl) (fun _ _ _ h => h) (Or.inl ⟨by rfl, ?hz17⟩) HSW ?rz17
  case hz17 => intro w hSw; obtain ⟨hSa, hSb⟩ := hSw; go_simp; try with_reducible rfl
  try simp only [Act.put, List.setIfInBounds_toArray, List.set_cons_zero, List.set_cons_succ]
  refine wpAnyM_pick (i := 8) (some 34) (v := ?vz18) rfl rfl (by kernel_rfl) (by kernel_rfl) (by kernel_rfl) (by kernel_rfl) (fun _ _ _ h => h) (Or.inl ⟨by rfl, ?hz18⟩) HSW ?rz18
  case hz18 => intro w hSw; obtain ⟨hSa, hSb⟩ := hSw; go_simp; try with_reducible rfl
  try simp only [Act.put, List.setIfInBounds_toArray, List.set_cons_zero, List.set_cons_succ]
  refine wpAnyM_one (i := 9) (by kernel_rfl) rfl (fun K hK => ?_)
  simp only [List.getElem_toArray, List.getElem_cons_succ, List.getElem_cons_zero]
  rw [if_pos (by rfl)]
  refine wp_bools _ w.heap.size HB1.out.size (.tmp 30) (.tmp 34) rfl _ [] 0 rfl rfl (own_below j3 ((Below.refl _ _).drew)) ⟨gt, 0, none⟩ T m tc HM3.out hm1 rfl (HT.out _ HB1.out.drew) (by omega) ?_
  intro va vc w5 hr5 hg5
  rw [Nat.zero_add] at hr5
  obtain ⟨o1, o2, o3, o4⟩ := HN1d.out.tk HSW.1 hg5 hr5
  have HN3 := hid o4
  clear hr5 hg5 o4
  refine hK.out _ _ (fun _ => ⟨o1, HC3.out _ o3⟩) ?_
  clear hK K
  try simp only [Act.put, List.setIfInBounds_toArray, List.set_cons_zero, List.set_cons_succ]
  refine wpAnyM_one (i := 10) (by kernel_rfl) rfl (fun K hK => ?_)
  go_simp
  refine hK.out _ _ (fun h => absurd h (by decide)) ?_
  clear hK K
  refine wpAnyM_one (i := 11) (by kernel_rfl) rfl (fun K hK => ?_)
  go_simp
  refine hK.out _ _ (fun h => absurd h (by decide)) ?_
  clear hK K
  refine wpAnyM_one (i := 12) (by kernel_rfl) rfl (fun K hK => ?_)
  go_simp
  refine hK.out _ _ (fun h => absurd h (by decide)) ?_
  clear hK K
  refine wpAnyM_done (by kernel_rfl) ?_ _
  try simp only [Act.put, List.setIfInBounds_toArray, List.set_cons_zero, List.set_cons_succ]
  go_wp2_with fail
  go_ret
  rw [HE.out]
  exact ⟨w.heap.size, rfl, HN3.out⟩
end

/-- a new space -/
def rNewP (n : Nat) : Rsp := ⟨n, ⟨(zs 248).toArray⟩, List.replicate (pgs n - 2) ⟨(zs 256).toArray⟩, List.replicate (pgs n - 2) false⟩
theorem rNewP_ok {n : Nat} (h1 : 64 ≤ n) (h2 : n ≤ 2048) : (rNewP n).Ok := ⟨h1, h2, by unfold rNewP; simp, by unfold rNewP; simp⟩
theorem rep_snoc {α : Type} (j : Nat) (x : α) : List.replicate j x ++ [x] = List.replicate (j + 1) x := by
  rw [List.replicate_succ']
set_option maxHeartbeats 2000000 in
theorem rNew_any (n : Nat) (h1 : 64 ≤ n) (h2 : n ≤ 2048) (w : World) : Calls Tryz.prog 20 #[.int .i64 (n : Nat)] w fun e w' => ∃ b', e = .returned (.pointer (some ⟨b', 0, none⟩)) ∧ Nr w w' b' (rNewP n) := by
  obtain ⟨b1, b2, b3, b4, b5⟩ := frs_small h1 h2
  have HPG : Hid (∀ w1 : World, Calls Tryz.prog 22 #[.int .i64 (n : Nat)] w1 fun e w' => e = .returned (.int .i64 (pgs n : Nat)) ∧ w1 = w') := fun w1 => rPages_any n h1 h2 w1
  have hz8 : Calls Tryz.prog 48 #[.int .i64 248] w fun e w' => e = .returned (.string ⟨(zs 248).toArray⟩) ∧ Below w.heap.size w w' := zeros_any 248 w (by decide)
  have HZ6 : Hid (∀ w1 : World, Calls Tryz.prog 48 #[.int .i64 256] w1 fun e w' => e = .returned (.string ⟨(zs 256).toArray⟩) ∧ Below w1.heap.size w1 w') := fun w1 => zeros_any 256 w1 (by decide)
  unfold rNewP
  generalize (⟨(zs 248).toArray⟩ : ByteArray) = tp at *
  generalize (⟨(zs 256).toArray⟩ : ByteArray) = zz at *
  generalize pgs n = M at *
  obtain ⟨c, hc⟩ : ∃ c, M - 2 = c := ⟨_, rfl⟩
  have hMc : M = c + 2 := by omega
  have hwM : IntKind.i64.wrap ((M : Int) - 2) = (c : Int) := by rw [IntKind.wrap_i64]; omega
  have hc2 : c ≤ 1017 := by omega
  rw [hc]
  clear b1 b2 b3 b4 b5 hc hMc
  go_enter Tryz.func20, Tryz.ntmps20
  go_wp2_with (go_at_call 48; refine hz8.mono ?_; clear hz8; rintro e w1 ⟨rfl, hb1⟩; have HN1 := hid (Nr.made w w1 hb1 n tp); clear hb1)
  generalize w1.alloc (.cells #[.int .i64 (n : Nat), .string tp, .slice none 0 0, .slice none 0 0] 72) = w2 at HN1 ⊢
  generalize w1.heap.size = b at *
  go_loopw [4] (fun i wr => ∃ j : Nat, j ≤ c ∧ i = .int .i64 (j : Nat) ∧ Hid (Nr w wr b ⟨n, tp, List.replicate j zz, List.replicate j false⟩)) (fun i _ => c - (intOf i).toNat)
  case atStart => exact ⟨0, Nat.zero_le _, rfl, HN1⟩
  case round =>
    obtain ⟨j, hj, rfl, HN⟩ := hrel
    clear HN1
    by_cases hjc : j < c
    · have hji : (j : Int) < (c : Int) := by omega
      go_wp2_with (go_at_call 22; refine (HPG.out _).mono ?_; rintro e w9 ⟨rfl, rfl⟩)
      obtain ⟨pa, pc, ta, tc, i2, i3, j2, j3, f2, f3, hl1⟩ := HN.out.read
      have HSW : wr.drew.cell? ⟨b, 2, none⟩ = some (.slice pa j pc) := by rw [show wr.drew.cell? ⟨b, 2, none⟩ = _ from i2]; simp
      have HNd := hid (HN.out.on ((Below.refl _ wr).drew))
      refine wp_region_m (fun w' => w'.cell? ⟨b, 2, none⟩ = some (.slice pa j pc)) 8 (by kernel_rfl) ?_
      refine wpAnyM_pick (i := 0) (some 16) (v := ?vz1) rfl rfl (by kernel_rfl) (by kernel_rfl) (by kernel_rfl) (by kernel_rfl) (fun _ _ _ h => h) (Or.inl ⟨by rfl, ?hz1⟩) HSW ?rz1
      case hz1 => intro w hSw; go_simp; try with_reducible rfl
      try simp only [Act.put, List.setIfInBounds_toArray, List.set_cons_zero, List.set_cons_succ]
      refine wpAnyM_pick (i := 1) (some 17) (v := ?vz2) rfl rfl (by kernel_rfl) (by kernel_rfl) (by kernel_rfl) (by kernel_rfl) (fun _ _ _ h => h) (Or.inl ⟨by rfl, ?hz2⟩) HSW ?rz2
      case hz2 => intro w hSw; go_simp; try with_reducible rfl
      try simp only [Act.put, List.setIfInBounds_toArray, List.set_cons_zero, List.set_cons_succ]
      refine wpAnyM_pick (i := 2) (some 18) (v := ?vz3) rfl rfl (by kernel_rfl) (by kernel_rfl) (by kernel_rfl) (by kernel_rfl) (fun _ _ _ h => h) (Or.inl ⟨by rfl, ?hz3⟩) HSW ?rz3
      case hz3 => intro w hSw; go_simp; try with_reducible rfl
      try simp only [Act.put, List.setIfInBounds_toArray, List.set_cons_zero, List.set_cons_succ]
      refine wpAnyM_pick (i := 3) (some 19) (v := ?vz4) rfl rfl (by kernel_rfl) (by kernel_rfl) (by kernel_rfl) (by kernel_rfl) (fun _ _ _ h => h) (Or.inl ⟨by rfl, ?hz4⟩) HSW ?rz4
      case hz4 => intro w hSw; go_simp; try with_reducible rfl
      try simp only [Act.put, List.setIfInBounds_toArray, List.set_cons_zero, List.set_cons_succ]
      refine wpAnyM_pick (i := 4) (some 20) (v := ?vz5) rfl rfl (by kernel_rfl) (by kernel_rfl) (by kernel_rfl) (by kernel_rfl) (fun _ _ _ h => h) (Or.inl ⟨by rfl, ?hz5⟩) HSW ?rz5
      case hz5 => intro w hSw; go_simp; try with_reducible rfl
      try simp only [Act.put, List.setIfInBounds_toArray, List.set_cons_zero, List.set_cons_succ]
      refine wpAnyM_one (i := 5) (by kernel_rfl) rfl (fun K hK => ?_)
      go_simp
      go_at_call 48
      refine (HZ6.out _).mono ?_
      rintro e w5 ⟨rfl, hb5⟩
      have HN5 := hid (HNd.out.on hb5)
      have HA5 := hid (HN5.out.on ((Below.refl _ w5).alloc (Nat.le_refl _) (.cells #[.string zz] 9)))
      have HC : Hid (∀ w6, Below wr.drew.heap.size wr.drew w6 → w6.cell? ⟨b, 2, none⟩ = some (.slice pa j pc)) := fun w6 hb => (hb.cell (p := ⟨b, 2, none⟩) hl1).trans HSW
      have HR5 : Hid (RowS (w5.alloc (.cells #[.string zz] 9)) w.heap.size (.slice pa j pc) (List.replicate j zz)) := by
        have h := ((j2.on ((Below.refl _ wr).drew)).on hb5).on ((Below.refl _ w5).alloc (Nat.le_refl _) (.cells #[.string zz] 9))
        show RowS _ _ _ _
        simpa using h
      have hk5 := HC.out w5 hb5
      have hk6 := HC.out (w5.alloc (.cells #[.string zz] 9)) (hb5.alloc hb5.size _)
      clear hb5 HC
      try go_simp
      refine hK.out _ _ (fun _ => hk5) ?_
      clear hK K
      try simp only [Act.put, List.setIfInBounds_toArray, List.set_cons_zero, List.set_cons_succ]
      refine wpAnyM_one (i := 6) (by kernel_rfl) rfl (fun K hK => ?_)
      go_simp
      refine hK.out _ _ (fun _ => hk6) ?_
      clear hK K
      try simp only [Act.put, List.setIfInBounds_toArray, List.set_cons_zero, List.set_cons_succ]
      refine wpAnyM_one (i := 7) (by kernel_rfl) rfl (fun K hK => ?_)
      simp only [List.getElem_toArray, List.getElem_cons_succ, List.getElem_cons_zero]
      rw [if_pos (by rfl)]
      refine wp_strs _ w.heap.size HA5.out.below.size (.tmp 20) (.tmp 22) rfl _ (List.replicate j zz) j (by simp) rfl HR5.out ⟨w5.heap.size, 0, none⟩ [zz] 1 1 rfl (by decide) rfl (cells_one w5 _ 9) (by omega) ?_
      intro va vc w6 hr6 hg6
      rw [rep_snoc] at hr6
      obtain ⟨o1, o2, o3, o4⟩ := HA5.out.pg hk6 hg6 hr6
      have HN6 := hid o4
      clear hr6 hg6 o4
      refine hK.out _ _ (fun _ => o1) ?_
      clear hK K
      try simp only [Act.put, List.setIfInBounds_toArray, List.set_cons_zero, List.set_cons_succ]
      refine wpAnyM_one (i := 8) (by kernel_rfl) rfl (fun K hK => ?_)
      go_simp
      refine hK.out _ _ (fun h => absurd h (by decide)) ?_
      clear hK K
      refine wpAnyM_one (i := 9) (by kernel_rfl) rfl (fun K hK => ?_)
      go_simp
      refine hK.out _ _ (fun h => absurd h (by decide)) ?_
      clear hK K
      refine wpAnyM_one (i := 10) (by kernel_rfl) rfl (fun K hK => ?_)
      go_simp
      refine hK.out _ _ (fun h => absurd h (by decide)) ?_
      clear hK K
      refine wpAnyM_done (by kernel_rfl) ?_ _
      try simp only [Act.put, List.setIfInBounds_toArray, List.set_cons_zero, List.set_cons_succ]
      generalize w6.setCell ⟨b, 2, none⟩ (.slice va (j + 1) vc) = w7 at HN6 ⊢
      clear o1 o2 o3 hk5 hk6 HR5 HA5 HN5 HNd HSW i2 i3 j2 j3 f2 f3 hl1 HN
      obtain ⟨pa2, pc2, ta2, tc2, _, i3, _, j3, _, f3, hl7⟩ := HN6.out.read
      have e3 : w7.cell? ⟨b, 3, none⟩ = some (.slice ta2 j tc2) := by rw [i3]; simp
      have HR7 : Hid (RowB (w7.alloc (.cells #[.bool false] 4)) w.heap.size (.slice ta2 j tc2) (List.replicate j false)) := by
        have h := j3.on ((Below.refl _ w7).alloc (Nat.le_refl _) (.cells #[.bool false] 4))
        show RowB _ _ _ _
        simpa using h
      have HA7 := hid (HN6.out.on ((Below.refl _ w7).alloc (Nat.le_refl _) (.cells #[.bool false] 4)))
      have hk7 : (w7.alloc (.cells #[.bool false] 4)).cell? ⟨b, 3, none⟩ = some (.slice ta2 j tc2) := (((Below.refl w7.heap.size w7).alloc (Nat.le_refl _) _).cell (p := ⟨b, 3, none⟩) hl7).trans e3
      clear i3 j3 f3 hl7
      go_wp2_with (at_builtin; refine wpList_plain rfl fun K hK => wp_bools _ w.heap.size HA7.out.below.size (.tmp 30) (.tmp 31) rfl _ (List.replicate j false) j (by simp) rfl HR7.out ⟨w7.heap.size, 0, none⟩ [false] 1 1 rfl (by decide) rfl (cells_one w7 _ 4) (by omega) ?_; intro ua uc w8 hr8 hg8; refine hK _ _ ?_; clear hK K; rw [rep_snoc] at hr8; obtain ⟨o1, o2, o3, o4⟩ := HA7.out.tk hk7 hg8 hr8; have HN8 := hid o4; clear hr8 hg8 o4)
      go_roundw
      case rel => exact ⟨j + 1, by omega, by go_num, HN8⟩
      case measure => simp [intOf]; omega
    · obtain rfl : j = c := by omega
      have hji : ¬ (j : Int) < (j : Int) := by omega
      go_wp2_with (go_at_call 22; refine (HPG.out _).mono ?_; rintro e w9 ⟨rfl, rfl⟩)
      go_ret
      exact ⟨b, rfl, HN.out⟩

end Go.Proofs.YtglallhblcjffaaGreatDoor
