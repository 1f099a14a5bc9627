/-
  What the program's begin does: a run's own block, with lists of its own.
-/
import Derived.Test.YtbdlokijednoiaaM9
import Derived.Test.YtbdlokijednoiaaI7
namespace Go.Proofs.Ytbdlokijednoiaa
open Go.RowKit
set_option linter.unusedVariables false
set_option linter.unusedSimpArgs false
set_option maxRecDepth 100000

theorem makeNode_any (w0 w : World) (hb : Below w0.heap.size w0 w) (p : Nat) (ov vv hv rv tv : Value) (stk : List Opr) (vals : List (List Cl)) (st : Int) (heads : List ByteArray) (fu : Int) (c : Cl) (h : Rn w0.heap.size w p ov vv hv rv tv (stk.reverse ++ [⟨1, c, []⟩]) vals st heads fu) (hrt : Rt ⟨⟨1, c, []⟩ :: stk, vals, st, heads, fu⟩) (rs : List Rl) (hr : LiesR w0 rv rs) (hok : RsOk rs) (tb : Tb) (htb : TbOk tb) (hask : AskAt w0 tv tb) (hst : -9223372036854775808 ≤ st ∧ st ≤ 9223372036854775807) (hfu : -9223372036854775808 ≤ fu ∧ fu ≤ 9223372036854775807) :
    Calls Try.prog 51 #[.pointer (some ⟨p, 0, none⟩), .agg #[.string c.nm, .int .i64 c.ar]] w fun e w' => Made w0.heap.size w p rv tv (stk.reverse ++ [⟨1, c, []⟩]) vals st heads fu (one rs tb ⟨1, c, []⟩ ⟨stk, vals, st, heads, fu⟩) e w' := by
  unfold one
  rw [if_neg (show ¬ (1 : Int) = 2 by decide)]
  by_cases h64 : 64 < (node c vals).length
  · rw [if_pos h64]
    exact make_big w0 w hb p ov vv hv rv tv stk vals st heads fu c h hrt rs hr hok tb htb hask hst hfu h64
  · rw [if_neg h64]
    cases htn : tb (node c vals) with
    | some q =>
      obtain ⟨nm, hs⟩ := q
      simp only [htn]
      exact make_hit w0 w hb p ov vv hv rv tv stk vals st heads fu c h hrt rs hr hok tb htb hask hst hfu h64 nm hs htn
    | none =>
      simp only [htn]
      cases hfr : firstR rs (node c vals) with
      | none =>
        simp only [hfr]
        exact make_none w0 w hb p ov vv hv rv tv stk vals st heads fu c h hrt rs hr hok tb htb hask hst hfu h64 htn hfr
      | some q =>
        obtain ⟨R, bs⟩ := q
        simp only [hfr]
        by_cases hf : fu ≤ 0
        · rw [if_pos hf]
          exact make_dry w0 w hb p ov vv hv rv tv stk vals st heads fu c h hrt rs hr hok tb htb hask hst hfu h64 htn R bs hfr hf
        · rw [if_neg hf]
          exact make_step w0 w hb p ov vv hv rv tv stk vals st heads fu c h hrt rs hr hok tb htb hask hst hfu h64 htn R bs hfr hf

/-- how much is left to do, as the run's block tells it -/
def muW (p : Nat) (w : World) : Nat :=
  9 * (match w.cell? ⟨p, 5, none⟩ with | some (.int _ f) => f.toNat | _ => 0) + (match w.cell? ⟨p, 0, none⟩ with | some (.slice _ n _) => n | _ => 0)
theorem Rn.mu {B : Nat} {w : World} {p : Nat} {ov vv hv rv tv : Value} {ops : List Opr} {vals : List (List Cl)} {st : Int} {heads : List ByteArray} {fu : Int} (h : Rn B w p ov vv hv rv tv ops vals st heads fu) : muW p w = 9 * fu.toNat + ops.length := by
  obtain ⟨a, c, e⟩ := h.ops.form
  have h0 : w.cell? ⟨p, 0, none⟩ = some ov := h.blk.cell rfl
  have h5 : w.cell? ⟨p, 5, none⟩ = some (.int .i64 fu) := h.blk.cell rfl
  unfold muW
  rw [h0, h5, e]
theorem inc_lim (x : Int) : -9223372036854775808 ≤ inc x ∧ inc x ≤ 9223372036854775807 := by
  unfold inc wrap64
  omega
theorem one_lim {rs : List Rl} {tb : Tb} {o : Opr} {c c' : Cf} (h : one rs tb o c = .go c') (hs : -9223372036854775808 ≤ c.steps ∧ c.steps ≤ 9223372036854775807) (hf : -9223372036854775808 ≤ c.fuel ∧ c.fuel ≤ 9223372036854775807) : (-9223372036854775808 ≤ c'.steps ∧ c'.steps ≤ 9223372036854775807) ∧ (-9223372036854775808 ≤ c'.fuel ∧ c'.fuel ≤ 9223372036854775807) := by
  have := inc_lim c.steps
  unfold one at h
  split at h
  · cases h; exact ⟨hs, hf⟩
  · split at h
    · cases h
    · split at h
      · cases h; exact ⟨hs, hf⟩
      · split at h
        · cases h; exact ⟨hs, hf⟩
        · split at h
          · cases h
          · cases h
            exact ⟨this, by simp only; omega⟩

theorem one_stop {rs : List Rl} {tb : Tb} {o : Opr} {c : Cf} {n : Nat} (h : one rs tb o c = .stop n) : n = 6 ∨ n = 14 := by
  unfold one at h
  split at h
  · cases h
  · split at h
    · cases h; exact .inl rfl
    · split at h
      · cases h
      · split at h
        · cases h
        · split at h
          · cases h; exact .inr rfl
          · cases h

set_option maxHeartbeats 4000000 in
theorem goOn_any (w0 w : World) (hb : Below w0.heap.size w0 w) (p : Nat) (ov vv hv rv tv : Value) (c0 : Cf) (h : Rn w0.heap.size w p ov vv hv rv tv c0.stk.reverse c0.vals c0.steps c0.heads c0.fuel) (hrt : Rt c0) (rs : List Rl) (hr : LiesR w0 rv rs) (hok : RsOk rs) (tb : Tb) (htb : TbOk tb) (hask : AskAt w0 tv tb) (hst : -9223372036854775808 ≤ c0.steps ∧ c0.steps ≤ 9223372036854775807) (hfu : -9223372036854775808 ≤ c0.fuel ∧ c0.fuel ≤ 9223372036854775807) :
    Calls Try.prog 24 #[.pointer (some ⟨p, 0, none⟩)] w fun e w' => e = .returned (.int .i64 ((fin rs tb c0).2 : Nat)) ∧ (∃ ov' vv' hv', Rn w0.heap.size w' p ov' vv' hv' rv tv (fin rs tb c0).1.stk.reverse (fin rs tb c0).1.vals (fin rs tb c0).1.steps (fin rs tb c0).1.heads (fin rs tb c0).1.fuel) ∧ K7 w0.heap.size w w' := by
  have HR0 : Hid (Rn w0.heap.size w p ov vv hv rv tv c0.stk.reverse c0.vals c0.steps c0.heads c0.fuel) := h
  have HRT0 : Hid (Rt c0) := hrt
  have HLR : Hid (LiesR w0 rv rs) := hr
  have HOK : Hid (RsOk rs) := hok
  have HTB : Hid (TbOk tb) := htb
  have HASK : Hid (AskAt w0 tv tb) := hask
  have HB : Hid (Below w0.heap.size w0 w) := hb
  have hBs := hb.size
  clear h hrt hr hok htb hask hb
  go_enter Try.func24, Try.ntmps24
  go_wp2_with fail
  go_step3
  go_wp2_with fail
  go_step3
  go_wp2_with fail
  go_loopw [3] (fun ev wr => ∃ (stk : List Opr) (vals : List (List Cl)) (st : Int) (heads : List ByteArray) (fu : Int) (ov' vv' hv' : Value), ev = .int .i64 0 ∧ Rn w0.heap.size wr p ov' vv' hv' rv tv stk.reverse vals st heads fu ∧ Hid (Rt ⟨stk, vals, st, heads, fu⟩) ∧ Hid (K7 w0.heap.size w wr) ∧ Hid (fin rs tb c0 = fin rs tb ⟨stk, vals, st, heads, fu⟩) ∧ (-9223372036854775808 ≤ st ∧ st ≤ 9223372036854775807) ∧ (-9223372036854775808 ≤ fu ∧ fu ≤ 9223372036854775807)) (fun _ wr => muW p wr)
  case atStart => exact ⟨_, _, _, _, _, _, _, _, rfl, HR0.out, HRT0.out, K7.refl _ _, rfl, hst, hfu⟩
  case round =>
    obtain ⟨stk, vals, st, heads, fu, ov', vv', hv', rfl, hR, HRT, HK, HF, hs', hf'⟩ := hrel
    clear HR0 HRT0
    have hBr : w0.heap.size ≤ wr.heap.size := Nat.le_trans hR.low (Nat.le_of_lt hR.blk.lt)
    have HBR : Hid (Below w0.heap.size w0 wr) := HB.out.trans HK.out.low
    cases stk with
    | nil =>
      obtain ⟨oa, oc, hov⟩ := hR.ops.form
      simp only [List.reverse_nil, List.length_nil] at hov
      subst hov
      have d0 := hR.blk.cell (i := 0) rfl
      have HRR := HF.out
      rw [fin_nil] at HRR
      have HF2 : Hid (fin rs tb c0 = (⟨[], vals, st, heads, fu⟩, 0)) := HRR
      have HR2 : Hid (Rn w0.heap.size wr p (.slice oa 0 oc) vv' hv' rv tv [] vals st heads fu) := hR
      clear HRR hR HF
      go_wp2_with fail
      try rw [Exit.noGoto_ret]
      go_ret
      rw [HF2.out]
      exact ⟨rfl, ⟨_, _, _, HR2.out⟩, HK.out⟩
    | cons o r =>
      rw [List.reverse_cons] at hR
      obtain ⟨oa, oc, hov⟩ := hR.ops.form
      subst hov
      have HRC : Hid (Rn w0.heap.size wr p (.slice oa (r.reverse ++ [o]).length oc) vv' hv' rv tv (r.reverse ++ [o]) vals st heads fu) := hR
      obtain ⟨os, hol, hrow, hel⟩ := hR.ops
      obtain ⟨x, hx, hx1, hxv⟩ := hel r.length o (by rw [List.getElem?_append_right (by simp)]; simp)
      obtain ⟨xa, xc, hxs, _⟩ := hxv.1
      subst hxs
      obtain ⟨f0, f1, f2, f3⟩ := flatO_at os r.length _ hx
      obtain ⟨oa', oc', hv0, q1, q2, q3⟩ := own_cells hrow
      cases hv0
      obtain ⟨g, ha, _, hlt, k0⟩ := q3 _ _ f0
      subst ha
      obtain ⟨g1, e1, _, _, k1⟩ := q3 _ _ f1
      obtain ⟨g2, e2, _, _, k2⟩ := q3 _ _ f2
      obtain ⟨g3, e3, _, _, k3⟩ := q3 _ _ f3
      cases e1; cases e2; cases e3
      simp only at k0 k1 k2 k3
      have hlen : (r.reverse ++ [o]).length = r.length + 1 := by simp
      rw [hlen] at hrow q1
      obtain ⟨OL, hOL⟩ : ∃ OL, (r.reverse ++ [o]).length = OL := ⟨_, rfl⟩
      have d0 : wr.cell? ⟨p, 0, none⟩ = some (.slice (some ⟨g, 0, none⟩) OL oc) := by rw [← hOL]; exact hR.blk.cell rfl
      rw [hlen] at hOL
      unfold maxLen at q2
      have hOL0 : (0 : Int) < (OL : Int) := by omega
      have e1 : ((OL : Int) - 1) = (r.length : Int) := by omega
      have W1 := wrap_nat r.length (by omega)
      have b1 : (r.length : Int) < (OL : Int) := by omega
      have hpl := hR.blk.lt
      have hrt := HRT.out
      have hmu := hR.mu
      rw [hlen] at hmu
      clear hR hel hrow q3 f0 f1 f2 f3 hx hol
      go_wp2_with fail
      have d0' : wr.drew.cell? ⟨p, 0, none⟩ = some (.slice (some ⟨g, 0, none⟩) OL oc) := d0
      have hgl : g < wr.drew.heap.size := hlt
      have hpl' : p < wr.drew.heap.size := hpl
      have k0' : wr.drew.cell? ⟨g, r.length * 4, none⟩ = some (.int .i64 o.k) := k0
      have k1' : wr.drew.cell? ⟨g, r.length * 4 + 1, none⟩ = some (.string o.c.nm) := k1
      have k2' : wr.drew.cell? ⟨g, r.length * 4 + 2, none⟩ = some (.int .i64 o.c.ar) := k2
      have k3' : wr.drew.cell? ⟨g, r.length * 4 + 3, none⟩ = some (.slice xa o.v.length xc) := k3
      refine wp_region_m (fun w' => w'.cell? ⟨p, 0, none⟩ = some (.slice (some ⟨g, 0, none⟩) OL oc) ∧ w'.cell? ⟨g, r.length * 4, none⟩ = some (.int .i64 o.k) ∧ w'.cell? ⟨g, r.length * 4 + 1, none⟩ = some (.string o.c.nm) ∧ w'.cell? ⟨g, r.length * 4 + 2, none⟩ = some (.int .i64 o.c.ar) ∧ w'.cell? ⟨g, r.length * 4 + 3, none⟩ = some (.slice xa o.v.length xc)) 15 (by kernel_rfl) ?_
      have HBD : Hid (Below wr.heap.size wr wr.drew) := (Below.refl _ _).drew
      generalize hwd : wr.drew = wd at d0' hgl hpl' k0' k1' k2' k3' HBD ⊢
      clear hwd d0 k0 k1 k2 k3
      have HSW : (fun w' : World => w'.cell? ⟨p, 0, none⟩ = some (.slice (some ⟨g, 0, none⟩) OL oc) ∧ w'.cell? ⟨g, r.length * 4, none⟩ = some (.int .i64 o.k) ∧ w'.cell? ⟨g, r.length * 4 + 1, none⟩ = some (.string o.c.nm) ∧ w'.cell? ⟨g, r.length * 4 + 2, none⟩ = some (.int .i64 o.c.ar) ∧ w'.cell? ⟨g, r.length * 4 + 3, none⟩ = some (.slice xa o.v.length xc)) wd := ⟨d0', k0', k1', k2', k3'⟩
      refine wpAnyM_pick (i := 0) (some 12) (v := ?vz1) rfl rfl (by kernel_rfl) (by kernel_rfl) (by kernel_rfl) (by kernel_rfl) (fun _ _ _ h => h) (Or.inl ⟨by rfl, ?hz1⟩) HSW ?rz1
      case hz1 => intro w hSw; go_simp; try with_reducible rfl
      try simp only [Act.put, List.setIfInBounds_toArray, List.set_cons_zero, List.set_cons_succ]
      refine wpAnyM_pick (i := 1) (some 13) (v := ?vz2) rfl rfl (by kernel_rfl) (by kernel_rfl) (by kernel_rfl) (by kernel_rfl) (fun _ _ _ h => h) (Or.inl ⟨by rfl, ?hz2⟩) HSW ?rz2
      case hz2 => intro w hSw; go_simp; try with_reducible rfl
      try simp only [Act.put, List.setIfInBounds_toArray, List.set_cons_zero, List.set_cons_succ]
      refine wpAnyM_pick (i := 2) (some 14) (v := ?vz3) rfl rfl (by kernel_rfl) (by kernel_rfl) (by kernel_rfl) (by kernel_rfl) (fun _ _ _ h => h) (Or.inl ⟨by rfl, ?hz3⟩) HSW ?rz3
      case hz3 => intro w hSw; go_simp; try with_reducible rfl
      try simp only [Act.put, List.setIfInBounds_toArray, List.set_cons_zero, List.set_cons_succ]
      refine wpAnyM_pick (i := 3) (some 15) (v := ?vz4) rfl rfl (by kernel_rfl) (by kernel_rfl) (by kernel_rfl) (by kernel_rfl) (fun _ _ _ h => h) (Or.inl ⟨by rfl, ?hz4⟩) HSW ?rz4
      case hz4 => intro w hSw; go_simp; try with_reducible rfl
      try simp only [Act.put, List.setIfInBounds_toArray, List.set_cons_zero, List.set_cons_succ]
      refine wpAnyM_pick (i := 4) (some 16) (v := ?vz5) rfl rfl (by kernel_rfl) (by kernel_rfl) (by kernel_rfl) (by kernel_rfl) (fun _ _ _ h => h) (Or.inl ⟨by rfl, ?hz5⟩) HSW ?rz5
      case hz5 => intro w hSw; go_simp; try with_reducible rfl
      try simp only [Act.put, List.setIfInBounds_toArray, List.set_cons_zero, List.set_cons_succ]
      refine wpAnyM_pick (i := 5) (some 17) (v := ?vz6) rfl rfl (by kernel_rfl) (by kernel_rfl) (by kernel_rfl) (by kernel_rfl) (fun _ _ _ h => h) (Or.inl ⟨by rfl, ?hz6⟩) HSW ?rz6
      case hz6 => intro w hSw; go_simp; try with_reducible rfl
      try simp only [Act.put, List.setIfInBounds_toArray, List.set_cons_zero, List.set_cons_succ]
      refine wpAnyM_pick (i := 6) (some 18) (v := ?vz7) rfl rfl (by kernel_rfl) (by kernel_rfl) (by kernel_rfl) (by kernel_rfl) (fun _ _ _ h => h) (Or.inl ⟨by rfl, ?hz7⟩) HSW ?rz7
      case hz7 => intro w hSw; go_simp; try with_reducible rfl
      try simp only [Act.put, List.setIfInBounds_toArray, List.set_cons_zero, List.set_cons_succ]
      refine wpAnyM_pick (i := 7) (some 19) (v := ?vz8) rfl rfl (by kernel_rfl) (by kernel_rfl) (by kernel_rfl) (by kernel_rfl) (fun _ _ _ h => h) (Or.inl ⟨by rfl, ?hz8⟩) HSW ?rz8
      case hz8 => intro w hSw; go_simp; try with_reducible rfl
      try simp only [Act.put, List.setIfInBounds_toArray, List.set_cons_zero, List.set_cons_succ]
      refine wpAnyM_pick (i := 8) (some 20) (v := ?vz9) rfl rfl (by kernel_rfl) (by kernel_rfl) (by kernel_rfl) (by kernel_rfl) (fun _ _ _ h => h) (Or.inl ⟨by rfl, ?hz9⟩) HSW ?rz9
      case hz9 => intro w hSw; go_simp; try with_reducible rfl
      try simp only [Act.put, List.setIfInBounds_toArray, List.set_cons_zero, List.set_cons_succ]
      refine wpAnyM_pick (i := 9) (some 21) (v := ?vz10) rfl rfl (by kernel_rfl) (by kernel_rfl) (by kernel_rfl) (by kernel_rfl) (fun _ _ _ h => h) (Or.inl ⟨by rfl, ?hz10⟩) HSW ?rz10
      case hz10 => intro w hSw; go_simp; try with_reducible rfl
      try simp only [Act.put, List.setIfInBounds_toArray, List.set_cons_zero, List.set_cons_succ]
      refine wpAnyM_pick (i := 10) (some 22) (v := ?vz11) rfl rfl (by kernel_rfl) (by kernel_rfl) (by kernel_rfl) (by kernel_rfl) (fun _ _ _ h => h) (Or.inl ⟨by rfl, ?hz11⟩) HSW ?rz11
      case hz11 => intro w hSw; go_simp; try with_reducible rfl
      try simp only [Act.put, List.setIfInBounds_toArray, List.set_cons_zero, List.set_cons_succ]
      refine wpAnyM_pick (i := 11) (some 23) (v := ?vz12) rfl rfl (by kernel_rfl) (by kernel_rfl) (by kernel_rfl) (by kernel_rfl) (fun _ _ _ h => h) (Or.inl ⟨by rfl, ?hz12⟩) HSW ?rz12
      case hz12 => intro w hSw; go_simp; try with_reducible rfl
      try simp only [Act.put, List.setIfInBounds_toArray, List.set_cons_zero, List.set_cons_succ]
      refine wpAnyM_pick (i := 12) (some 24) (v := ?vz13) rfl rfl (by kernel_rfl) (by kernel_rfl) (by kernel_rfl) (by kernel_rfl) (fun _ _ _ h => h) (Or.inl ⟨by rfl, ?hz13⟩) HSW ?rz13
      case hz13 => intro w hSw; go_simp; try with_reducible rfl
      try simp only [Act.put, List.setIfInBounds_toArray, List.set_cons_zero, List.set_cons_succ]
      refine wpAnyM_pick (i := 13) (some 25) (v := ?vz14) rfl rfl (by kernel_rfl) (by kernel_rfl) (by kernel_rfl) (by kernel_rfl) (fun _ _ _ h => h) (Or.inl ⟨by rfl, ?hz14⟩) HSW ?rz14
      case hz14 => intro w hSw; go_simp; try with_reducible rfl
      try simp only [Act.put, List.setIfInBounds_toArray, List.set_cons_zero, List.set_cons_succ]
      refine wpAnyM_one (i := 14) (by kernel_rfl) rfl (fun K hK => ?_)
      go_simp
      have hbA : Below wd.heap.size wd (wd.alloc (.cells #[.int .i64 0, .string ⟨#[]⟩, .int .i64 0, .slice none 0 0] 51)) := (Below.refl _ _).alloc (Nat.le_refl _) _
      have hmA : Blk (wd.alloc (.cells #[.int .i64 0, .string ⟨#[]⟩, .int .i64 0, .slice none 0 0] 51)) wd.heap.size #[.int .i64 0, .string ⟨#[]⟩, .int .i64 0, .slice none 0 0] 51 := Blk.made _ _ _
      refine hK.out _ _ (fun _ => ⟨(hbA.cell (p := ⟨p, 0, none⟩) hpl').trans d0', (hbA.cell (p := ⟨g, r.length * 4, none⟩) hgl).trans k0', (hbA.cell (p := ⟨g, r.length * 4 + 1, none⟩) hgl).trans k1', (hbA.cell (p := ⟨g, r.length * 4 + 2, none⟩) hgl).trans k2', (hbA.cell (p := ⟨g, r.length * 4 + 3, none⟩) hgl).trans k3'⟩) ?_
      clear hK K
      obtain ⟨wa, hwa⟩ : ∃ wa, wd.alloc (.cells #[.int .i64 0, .string ⟨#[]⟩, .int .i64 0, .slice none 0 0] 51) = wa := ⟨_, rfl⟩
      rw [hwa] at hbA hmA ⊢
      clear hwa
      have a0 : wa.cell? ⟨wd.heap.size, 0, none⟩ = some (.int .i64 0) := hmA.cell rfl
      have z0 := hmA.free 0
      have hmB := hmA.set 0 (.int .i64 o.k)
      have a1 : (wa.setCell ⟨wd.heap.size, 0, none⟩ (.int .i64 o.k)).cell? ⟨wd.heap.size, 1, none⟩ = some (.string ⟨#[]⟩) := hmB.cell rfl
      have z1 := hmB.free 1
      have hmC := hmB.set 1 (.string o.c.nm)
      have a2 : ((wa.setCell ⟨wd.heap.size, 0, none⟩ (.int .i64 o.k)).setCell ⟨wd.heap.size, 1, none⟩ (.string o.c.nm)).cell? ⟨wd.heap.size, 2, none⟩ = some (.int .i64 0) := hmC.cell rfl
      have z2 := hmC.free 2
      have hmD := hmC.set 2 (.int .i64 o.c.ar)
      have a3 : (((wa.setCell ⟨wd.heap.size, 0, none⟩ (.int .i64 o.k)).setCell ⟨wd.heap.size, 1, none⟩ (.string o.c.nm)).setCell ⟨wd.heap.size, 2, none⟩ (.int .i64 o.c.ar)).cell? ⟨wd.heap.size, 3, none⟩ = some (.slice none 0 0) := hmD.cell rfl
      have z3 := hmD.free 3
      obtain ⟨hmE, hgE⟩ := set4 hmA (.int .i64 o.k) (.string o.c.nm) (.int .i64 o.c.ar) (.slice xa o.v.length xc)
      refine wpAnyM_one (i := 15) (by kernel_rfl) rfl (fun K hK => ?_)
      go_simp
      have hbE := hbA.grown hgE hbA.size (fun k hk => by cases hk; exact Nat.le_refl _)
      obtain ⟨wb, hwb⟩ : ∃ wb, ((((wa.setCell ⟨wd.heap.size, 0, none⟩ (.int .i64 o.k)).setCell ⟨wd.heap.size, 1, none⟩ (.string o.c.nm)).setCell ⟨wd.heap.size, 2, none⟩ (.int .i64 o.c.ar)).setCell ⟨wd.heap.size, 3, none⟩ (.slice xa o.v.length xc)) = wb := ⟨_, rfl⟩
      rw [hwb] at hbE hmE ⊢
      have hbB : Below wr.heap.size wr wb := HBD.out.trans (hbE.mono HBD.out.size)
      have hRb := HRC.out.on hbB
      have hXb := hxv.on (K7.of hbB hBr)
      have HBB : Hid (Below w0.heap.size w0 wb) := HBR.out.trans (hbB.mono hBr)
      have HKB : Hid (K7 w0.heap.size w wb) := HK.out.trans (K7.of hbB hBr)
      have b0 : wb.cell? ⟨wd.heap.size, 0, none⟩ = some (.int .i64 o.k) := hmE.cell rfl
      have b1' : wb.cell? ⟨wd.heap.size, 1, none⟩ = some (.string o.c.nm) := hmE.cell rfl
      have b2 : wb.cell? ⟨wd.heap.size, 2, none⟩ = some (.int .i64 o.c.ar) := hmE.cell rfl
      have b3 : wb.cell? ⟨wd.heap.size, 3, none⟩ = some (.slice xa o.v.length xc) := hmE.cell rfl
      have hqp : wd.heap.size ≠ p := by omega
      refine hK.out _ _ (fun h => absurd h (by decide)) ?_
      clear hK K
      refine wpAnyM_done (by kernel_rfl) ?_ _
      try simp only [Act.put, List.setIfInBounds_toArray, List.set_cons_zero, List.set_cons_succ]
      clear hwb hgE hmA hmB hmC hmD a0 a1 a2 a3 z0 z1 z2 z3 hbA d0' k0' k1' k2' k3' HSW HK HBR hbE hbB
      obtain ⟨ok, oc1, ov1⟩ := o
      simp only at b0 b1' b2 b3 hXb hRb hxv ⊢
      rcases hrt.ops ⟨ok, oc1, ov1⟩ (by simp) with ⟨hk1, hok1, hok2, hok3, hok4⟩ | ⟨hk2, hok1, hok2⟩
      · simp only at hk1 hok1 hok2 hok3 hok4
        subst hk1
        subst hok4
        have hmk := makeNode_any w0 wb HBB.out p _ _ _ rv tv r vals st heads fu oc1 hRb hrt rs HLR.out HOK.out tb HTB.out HASK.out hs' hf'
        cases h1 : one rs tb ⟨1, oc1, []⟩ ⟨r, vals, st, heads, fu⟩ with
        | go c' =>
          rw [h1] at hmk
          obtain ⟨g1, g2, g3⟩ := fin_go HOK.out HTB.out hrt h1
          obtain ⟨g4, g5⟩ := one_lim h1 hs' hf'
          have HF3 : Hid (fin rs tb c0 = fin rs tb c') := HF.out.trans g1
          have HRT3 : Hid (Rt c') := g2
          clear g1 g2 HF HRT hrt hRb HRC h1 hXb hxv
          go_wp2_with (go_at_call 51; refine hmk.mono ?_; rintro e w2 ⟨hk2, rfl, ov2, vv2, hv2, hR2⟩)
          go_roundw
          case rel => exact ⟨_, _, _, _, _, _, _, _, rfl, hR2, HRT3.out, HKB.out.trans hk2, HF3.out, g4, g5⟩
          case measure =>
            rw [hmu, hR2.mu, List.length_reverse]
            simp only [mu, List.length_cons] at g3
            omega
        | stop n =>
          rw [h1] at hmk
          have hn := one_stop h1
          have hn0 : ¬ (n : Int) = 0 := by omega
          have HF3 : Hid (fin rs tb c0 = (⟨⟨1, oc1, []⟩ :: r, vals, st, heads, fu⟩, n)) := HF.out.trans (fin_stop h1)
          clear HF HRT hrt hRb HRC h1 hXb hxv
          go_wp2_with (go_at_call 51; refine hmk.mono ?_; rintro e w2 ⟨hk2, rfl, ov2, vv2, hv2, hR2⟩)
          try rw [Exit.noGoto_ret]
          go_ret
          rw [HF3.out]
          exact ⟨rfl, ⟨_, _, _, by simpa using hR2⟩, HKB.out.trans hk2⟩
      · simp only at hk2 hok1 hok2
        subst hk2
        have h1 : one rs tb ⟨2, oc1, ov1⟩ ⟨r, vals, st, heads, fu⟩ = .go ⟨r, vals ++ [ov1], st, heads, fu⟩ := rfl
        obtain ⟨g1, g2, g3⟩ := fin_go HOK.out HTB.out hrt h1
        have HF3 : Hid (fin rs tb c0 = fin rs tb ⟨r, vals ++ [ov1], st, heads, fu⟩) := HF.out.trans g1
        have HRT3 : Hid (Rt ⟨r, vals ++ [ov1], st, heads, fu⟩) := g2
        have hdn : Calls Try.prog 49 #[.pointer (some ⟨p, 0, none⟩), .int .i64 0] wb _ := done_any _ wb p _ _ _ _ _ _ _ _ _ _ hRb 0 (by simp) (Nat.zero_le _)
        have hvl : vals.length ≤ 7539508500001 := by
          have := cnt_le _ _ hrt.ops hrt.one
          have h2 := hrt.lim
          simp only [List.length_cons] at this h2
          omega
        clear g1 g2 HF HRT hrt HRC h1 hxv
        go_wp2_with (first | (go_at_call 49; refine hdn.mono ?_; rintro e w2 ⟨rfl, ⟨oa2, oc2, va2, vc2, _, _, hR2⟩, hk2, hu2, hz2⟩; rw [take_last, Nat.sub_zero, List.take_length] at hR2; have b4 : w2.cell? ⟨wd.heap.size, 3, none⟩ = some (.slice xa ov1.length xc) := (World.cell?_of_block (a := ⟨wd.heap.size, 3, none⟩) (hu2 _ hqp)).trans b3; have hX2 := hXb.on hk2) | (go_at_call 50; refine (put_run _ w2 p _ _ _ _ _ _ _ _ _ _ hR2 _ ov1 hX2 (val_lim (by omega))).mono ?_; rintro e w3 ⟨rfl, ⟨vv3, hR3⟩, hk3, _, _⟩))
        go_roundw
        case rel => exact ⟨_, _, _, _, _, _, _, _, rfl, hR3, HRT3.out, (HKB.out.trans hk2).trans hk3, HF3.out, hs', hf'⟩
        case measure =>
          rw [hmu, hR3.mu, List.length_reverse]
          omega

/-- a state's lists, each a row of somebody's own or nil, the terms wherever -/
def StIn (w : World) (ov vv hv : Value) (ops : List Opr) (vals : List (List Cl)) (heads : List ByteArray) : Prop :=
  (∃ B, OpsV (Lies w) w B ov ops) ∧ (∃ B, ValsV (Lies w) w B vv vals) ∧ ∃ B, OwnsS w B hv heads
theorem StIn.on {w w' : World} {ov vv hv : Value} {ops : List Opr} {vals : List (List Cl)} {heads : List ByteArray} (h : StIn w ov vv hv ops vals heads) (hb : Below w.heap.size w w') : StIn w' ov vv hv ops vals heads := by
  obtain ⟨⟨B1, h1⟩, ⟨B2, h2⟩, B3, h3⟩ := h
  exact ⟨⟨B1, OpsV.on h1 hb (fun x l hx => hx.on hb)⟩, ⟨B2, ValsV.on h2 hb (fun x l hx => hx.on hb)⟩, B3, own_below h3 hb⟩
theorem hid {p : Prop} (h : p) : Hid p := h
theorem begin_end {w wk : World} (hb : Below w.heap.size w wk) {q : Nat} {z0 z1 z2 z3 : Value} (hA : Blk wk q #[z0, z1, z2, z3] 39) (hq : w.heap.size ≤ q) {o1 v1 h1 rv tv : Value} {ops : List Opr} {vals : List (List Cl)} {heads : List ByteArray} {os : List Ow} {vs : List Value} (st fu : Int)
    (r1 : wk.ownsRow w.heap.size 51 4 o1 ops.length (flatO os)) (r2 : wk.ownsRow w.heap.size 24 1 v1 vals.length vs) (r3 : wk.ownsRow w.heap.size 9 1 h1 heads.length (heads.map Value.string)) (hol : os.length = ops.length)
    (hel : ∀ (i : Nat) o, ops[i]? = some o → ∃ x, os[i]? = some ⟨o.k, o.c, x⟩ ∧ x.oneCell' = true ∧ Lies w x o.v) (vel : ∀ (i : Nat) l, vals[i]? = some l → ∃ x, vs[i]? = some x ∧ x.oneCell' = true ∧ Lies w x l) :
    Rn w.heap.size (((((wk.setCell ⟨q, 0, none⟩ o1).setCell ⟨q, 1, none⟩ v1).setCell ⟨q, 2, none⟩ (.int .i64 st)).setCell ⟨q, 3, none⟩ h1).alloc (.cells #[o1, v1, .int .i64 st, h1, rv, .int .i64 fu, tv] 68)) wk.heap.size o1 v1 h1 rv tv ops vals st heads fu ∧
    Below w.heap.size w (((((wk.setCell ⟨q, 0, none⟩ o1).setCell ⟨q, 1, none⟩ v1).setCell ⟨q, 2, none⟩ (.int .i64 st)).setCell ⟨q, 3, none⟩ h1).alloc (.cells #[o1, v1, .int .i64 st, h1, rv, .int .i64 fu, tv] 68)) ∧
    Blk ((((wk.setCell ⟨q, 0, none⟩ o1).setCell ⟨q, 1, none⟩ v1).setCell ⟨q, 2, none⟩ (.int .i64 st)).setCell ⟨q, 3, none⟩ h1) q #[o1, v1, .int .i64 st, h1] 39 := by
  obtain ⟨hE, hg⟩ := set4 hA o1 v1 (.int .i64 st) h1
  have hsz : ((((wk.setCell ⟨q, 0, none⟩ o1).setCell ⟨q, 1, none⟩ v1).setCell ⟨q, 2, none⟩ (.int .i64 st)).setCell ⟨q, 3, none⟩ h1).heap.size = wk.heap.size := by simp [World.setCell]
  rw [← hsz]
  clear hsz
  generalize ((((wk.setCell ⟨q, 0, none⟩ o1).setCell ⟨q, 1, none⟩ v1).setCell ⟨q, 2, none⟩ (.int .i64 st)).setCell ⟨q, 3, none⟩ h1) = wn at hE hg ⊢
  have s1 := row_blk r1 hA (by decide) hg
  have s2 := row_blk r2 hA (by decide) hg
  have s3 := row_blk r3 hA (by decide) hg
  have hbn : Below w.heap.size w wn := hb.grown hg hb.size (fun k hk => by cases hk; exact hq)
  have hb2 : Below wn.heap.size wn (wn.alloc (.cells #[o1, v1, .int .i64 st, h1, rv, .int .i64 fu, tv] 68)) := (Below.refl _ _).alloc (Nat.le_refl _) _
  have hbe := hbn.trans (hb2.mono hbn.size)
  have hk : K7 w.heap.size w (wn.alloc (.cells #[o1, v1, .int .i64 st, h1, rv, .int .i64 fu, tv] 68)) := K7.of hbe (Nat.le_refl _)
  refine ⟨⟨Blk.made _ _ _, ⟨os, hol, own_below s1 hb2, fun i o hi => ?_⟩, ⟨vs, own_below s2 hb2, fun i l hi => ?_⟩, own_below s3 hb2, hbn.size⟩, hbe, hE⟩
  · obtain ⟨x, q1, q2, q3⟩ := hel i o hi
    exact ⟨x, q1, q2, (VL.old q3 (Nat.le_refl _)).on hk⟩
  · obtain ⟨x, q1, q2, q3⟩ := vel i l hi
    exact ⟨x, q1, q2, (VL.old q3 (Nat.le_refl _)).on hk⟩

set_option maxHeartbeats 4000000 in
theorem begin_any (w : World) (ov vv hv : Value) (ops : List Opr) (vals : List (List Cl)) (heads : List ByteArray) (st fu : Int) (hin : StIn w ov vv hv ops vals heads) (rv tv : Value) (hrv : ∃ a n c, rv = .slice a n c) (htv : tv = .nilIface ∨ ∃ t v, tv = .iface t v) (lo : ops.length ≤ 2513169500020) (lv : vals.length ≤ 7539508500002) (lh : heads.length ≤ 7539508500002) :
    Calls Try.prog 23 #[rv, .agg #[ov, vv, .int .i64 st, hv], .int .i64 fu, tv] w fun e w' => ∃ p ov' vv' hv', e = .returned (.pointer (some ⟨p, 0, none⟩)) ∧ Rn w.heap.size w' p ov' vv' hv' rv tv ops vals st heads fu ∧ Below w.heap.size w w' := by
  obtain ⟨⟨B1, os, hol, hO, hel⟩, ⟨B2, vs, hV, vel⟩, B3, hH⟩ := hin
  have HO : Hid (w.ownsRow B1 51 4 ov ops.length (flatO os)) := hO
  have HV : Hid (w.ownsRow B2 24 1 vv vals.length vs) := hV
  have HH : Hid (w.ownsRow B3 9 1 hv heads.length (heads.map Value.string)) := hH
  have HOL : Hid (os.length = ops.length) := hol
  have HEL : Hid (∀ (i : Nat) o, ops[i]? = some o → ∃ x, os[i]? = some ⟨o.k, o.c, x⟩ ∧ x.oneCell' = true ∧ Lies w x o.v) := hel
  have VEL : Hid (∀ (i : Nat) l, vals[i]? = some l → ∃ x, vs[i]? = some x ∧ x.oneCell' = true ∧ Lies w x l) := vel
  have O1 : Hid (∀ u ∈ flatO os, u.oneCell' = true) := flatO_one os (fun o ho => by
    obtain ⟨i, hi⟩ := List.getElem?_of_mem ho
    have hil := (List.getElem?_eq_some_iff.1 hi).1
    obtain ⟨x, hx, h1x, _⟩ := hel i ops[i] (List.getElem?_eq_getElem (by omega))
    rw [hi] at hx
    cases hx
    exact h1x)
  have V1 : Hid (∀ u ∈ vs, u.oneCell' = true) := fun u hu => by
    obtain ⟨i, hi⟩ := List.getElem?_of_mem hu
    have hil := (List.getElem?_eq_some_iff.1 hi).1
    have := row_len hV
    obtain ⟨x, hx, h1x, _⟩ := vel i vals[i] (List.getElem?_eq_getElem (by omega))
    rw [hi] at hx
    cases hx
    exact h1x
  have H1 : Hid (∀ u ∈ heads.map Value.string, u.oneCell' = true) := fun u hu => by
    obtain ⟨x, _, rfl⟩ := List.mem_map.1 hu
    rfl
  have LO : Hid ((ops.length + ops.length / 4 + 192) * 56 ≤ 281474976710656) := op_lim lo
  have LV : Hid ((vals.length + vals.length / 4 + 192) * 24 ≤ 281474976710656) := val_lim lv
  have LH : Hid ((heads.length + heads.length / 4 + 192) * 16 ≤ 281474976710656) := Nat.le_trans (Nat.mul_le_mul_left _ (by decide)) (val_lim lh)
  have HTV : Hid (tv = .nilIface ∨ ∃ t v, tv = .iface t v) := htv
  obtain ⟨oa, oc, hov, _⟩ := own_cells hO
  obtain ⟨va, vc, hvv, _⟩ := own_cells hV
  obtain ⟨ha, hc, hhv, _⟩ := own_cells hH
  obtain ⟨ra, rn, rc, hrv⟩ := hrv
  subst hov
  subst hvv
  subst hhv
  subst hrv
  clear hO hV hH hol hel vel lo lv lh htv
  go_enter Try.func23, Try.ntmps23
  go_wp2_with fail
  have hX1 : Blk (w.alloc (.cells #[.slice oa ops.length oc, .slice va vals.length vc, .int .i64 st, .slice ha heads.length hc] 39)).drew w.heap.size #[.slice oa ops.length oc, .slice va vals.length vc, .int .i64 st, .slice ha heads.length hc] 39 := Blk.made w _ _
  have hb1 : Below w.heap.size w (w.alloc (.cells #[.slice oa ops.length oc, .slice va vals.length vc, .int .i64 st, .slice ha heads.length hc] 39)).drew := ((Below.refl _ w).alloc (Nat.le_refl _) _).drew
  refine wp_region_m (fun w' => w'.cell? ⟨w.heap.size, 0, none⟩ = some (.slice oa ops.length oc) ∧ w'.cell? ⟨w.heap.size, 1, none⟩ = some (.slice va vals.length vc) ∧ w'.cell? ⟨w.heap.size, 2, none⟩ = some (.int .i64 st) ∧ w'.cell? ⟨w.heap.size, 3, none⟩ = some (.slice ha heads.length hc)) 13 (by kernel_rfl) ?_
  generalize (w.alloc (.cells #[.slice oa ops.length oc, .slice va vals.length vc, .int .i64 st, .slice ha heads.length hc] 39)).drew = w1 at hX1 hb1 ⊢
  have HSW : (fun w' : World => w'.cell? ⟨w.heap.size, 0, none⟩ = some (.slice oa ops.length oc) ∧ w'.cell? ⟨w.heap.size, 1, none⟩ = some (.slice va vals.length vc) ∧ w'.cell? ⟨w.heap.size, 2, none⟩ = some (.int .i64 st) ∧ w'.cell? ⟨w.heap.size, 3, none⟩ = some (.slice ha heads.length hc)) w1 := ⟨hX1.cell rfl, hX1.cell rfl, hX1.cell rfl, hX1.cell rfl⟩
  refine wpAnyM_pick (i := 0) (some 10) (v := ?vz1) rfl rfl (by kernel_rfl) (by kernel_rfl) (by kernel_rfl) (by kernel_rfl) (fun _ _ _ h => h) (Or.inl ⟨by rfl, ?hz1⟩) HSW ?rz1
  case hz1 => intro w hSw; go_simp; try with_reducible rfl
  try simp only [Act.put, List.setIfInBounds_toArray, List.set_cons_zero, List.set_cons_succ]
  refine wpAnyM_pick (i := 1) (some 11) (v := ?vz2) rfl rfl (by kernel_rfl) (by kernel_rfl) (by kernel_rfl) (by kernel_rfl) (fun _ _ _ h => h) (Or.inl ⟨by rfl, ?hz2⟩) HSW ?rz2
  case hz2 => intro w hSw; go_simp; try with_reducible rfl
  try simp only [Act.put, List.setIfInBounds_toArray, List.set_cons_zero, List.set_cons_succ]
  refine wpAnyM_pick (i := 3) (some 13) (v := ?vz3) rfl rfl (by kernel_rfl) (by kernel_rfl) (by kernel_rfl) (by kernel_rfl) (fun _ _ _ h => h) (Or.inl ⟨by rfl, ?hz3⟩) HSW ?rz3
  case hz3 => intro w hSw; go_simp; try with_reducible rfl
  try simp only [Act.put, List.setIfInBounds_toArray, List.set_cons_zero, List.set_cons_succ]
  refine wpAnyM_pick (i := 4) (some 14) (v := ?vz4) rfl rfl (by kernel_rfl) (by kernel_rfl) (by kernel_rfl) (by kernel_rfl) (fun _ _ _ h => h) (Or.inl ⟨by rfl, ?hz4⟩) HSW ?rz4
  case hz4 => intro w hSw; go_simp; try with_reducible rfl
  try simp only [Act.put, List.setIfInBounds_toArray, List.set_cons_zero, List.set_cons_succ]
  refine wpAnyM_pick (i := 6) (some 16) (v := ?vz5) rfl rfl (by kernel_rfl) (by kernel_rfl) (by kernel_rfl) (by kernel_rfl) (fun _ _ _ h => h) (Or.inl ⟨by rfl, ?hz5⟩) HSW ?rz5
  case hz5 => intro w hSw; go_simp; try with_reducible rfl
  try simp only [Act.put, List.setIfInBounds_toArray, List.set_cons_zero, List.set_cons_succ]
  refine wpAnyM_pick (i := 7) (some 17) (v := ?vz6) rfl rfl (by kernel_rfl) (by kernel_rfl) (by kernel_rfl) (by kernel_rfl) (fun _ _ _ h => h) (Or.inl ⟨by rfl, ?hz6⟩) HSW ?rz6
  case hz6 => intro w hSw; go_simp; try with_reducible rfl
  try simp only [Act.put, List.setIfInBounds_toArray, List.set_cons_zero, List.set_cons_succ]
  refine wpAnyM_pick (i := 8) (some 18) (v := ?vz7) rfl rfl (by kernel_rfl) (by kernel_rfl) (by kernel_rfl) (by kernel_rfl) (fun _ _ _ h => h) (Or.inl ⟨by rfl, ?hz7⟩) HSW ?rz7
  case hz7 => intro w hSw; go_simp; try with_reducible rfl
  try simp only [Act.put, List.setIfInBounds_toArray, List.set_cons_zero, List.set_cons_succ]
  refine wpAnyM_pick (i := 9) (some 19) (v := ?vz8) rfl rfl (by kernel_rfl) (by kernel_rfl) (by kernel_rfl) (by kernel_rfl) (fun _ _ _ h => h) (Or.inl ⟨by rfl, ?hz8⟩) HSW ?rz8
  case hz8 => intro w hSw; go_simp; try with_reducible rfl
  try simp only [Act.put, List.setIfInBounds_toArray, List.set_cons_zero, List.set_cons_succ]
  refine wpAnyM_two (i := 2) (j := 12) (by kernel_rfl) rfl rfl (fun K hK => ?_) (fun K hK => ?_)
  · go_simp
    go_at_call 46
    refine (clone_ops w1 _ _ _ _ (own_below HO.out hb1) O1.out LO.out).mono ?_
    rintro e w2 ⟨v1, rfl, r1, hb'⟩
    have r1_2 := own_base r1 hb1.size
    obtain ⟨a1, c1, hv1, _⟩ := own_cells r1
    subst hv1
    have hb2 := hb1.trans (hb'.mono hb1.size)
    have hX2 := hX1.on hb' hX1.lt
    go_wp2_with fail
    refine hK.out _ _ (fun _ => ⟨hX2.cell rfl, hX2.cell rfl, hX2.cell rfl, hX2.cell rfl⟩) ?_
    clear hK K
    try simp only [Act.put, List.setIfInBounds_toArray, List.set_cons_zero, List.set_cons_succ]
    refine wpAnyM_two (i := 5) (j := 12) (by kernel_rfl) rfl rfl (fun K hK => ?_) (fun K hK => ?_)
    · go_simp
      go_at_call 47
      refine (clone_terms w2 _ _ _ _ (own_below HV.out hb2) V1.out LV.out).mono ?_
      rintro e w3 ⟨v2, rfl, r2, hb'⟩
      have r2_3 := own_base r2 hb2.size
      obtain ⟨a2, c2, hv2, _⟩ := own_cells r2
      subst hv2
      have hb3 := hb2.trans (hb'.mono hb2.size)
      have hX3 := hX2.on hb' hX2.lt
      have r1_3 := own_below r1_2 hb'
      go_wp2_with fail
      refine hK.out _ _ (fun _ => ⟨hX3.cell rfl, hX3.cell rfl, hX3.cell rfl, hX3.cell rfl⟩) ?_
      clear hK K
      try simp only [Act.put, List.setIfInBounds_toArray, List.set_cons_zero, List.set_cons_succ]
      refine wpAnyM_two (i := 10) (j := 12) (by kernel_rfl) rfl rfl (fun K hK => ?_) (fun K hK => ?_)
      · go_simp
        go_at_call 48
        refine (clone_texts w3 _ _ _ _ (own_below HH.out hb3) H1.out LH.out).mono ?_
        rintro e w4 ⟨v3, rfl, r3, hb'⟩
        have r3_4 := own_base r3 hb3.size
        obtain ⟨a3, c3, hv3, _⟩ := own_cells r3
        subst hv3
        have hb4 := hb3.trans (hb'.mono hb3.size)
        have hX4 := hX3.on hb' hX3.lt
        have r1_4 := own_below r1_3 hb'
        have r2_4 := own_below r2_3 hb'
        go_wp2_with fail
        refine hK.out _ _ (fun _ => ⟨hX4.cell rfl, hX4.cell rfl, hX4.cell rfl, hX4.cell rfl⟩) ?_
        clear hK K
        try simp only [Act.put, List.setIfInBounds_toArray, List.set_cons_zero, List.set_cons_succ]
        refine wpAnyM_pick (i := 11) (some 21) (v := ?va101) rfl rfl (by kernel_rfl) (by kernel_rfl) (by kernel_rfl) (by kernel_rfl) (fun _ _ _ h => h) (Or.inl ⟨by rfl, ?ha101⟩) ⟨hX4.cell rfl, hX4.cell rfl, hX4.cell rfl, hX4.cell rfl⟩ ?ra101
        case ha101 => intro w hSw; go_simp; try with_reducible rfl
        try simp only [Act.put, List.setIfInBounds_toArray, List.set_cons_zero, List.set_cons_succ]
        refine wpAnyM_one (i := 12) (by kernel_rfl) rfl (fun K hK => ?_)
        go_simp
        have hb' : Below w4.heap.size w4 (w4.alloc (.cells #[.slice none 0 0, .slice none 0 0, .int .i64 0, .slice none 0 0] 39)) := (Below.refl _ _).alloc (Nat.le_refl _) _
        have hA5 : Blk (w4.alloc (.cells #[.slice none 0 0, .slice none 0 0, .int .i64 0, .slice none 0 0] 39)) w4.heap.size #[.slice none 0 0, .slice none 0 0, .int .i64 0, .slice none 0 0] 39 := Blk.made _ _ _
        have hAq : w.heap.size ≤ w4.heap.size := hb4.size
        generalize w4.alloc (.cells #[.slice none 0 0, .slice none 0 0, .int .i64 0, .slice none 0 0] 39) = w5 at hb' hA5 ⊢
        have hb5 := hb4.trans (hb'.mono hb4.size)
        have hX5 := hX4.on hb' hX4.lt
        have r1_5 := own_below r1_4 hb'
        have r2_5 := own_below r2_4 hb'
        have r3_5 := own_below r3_4 hb'
        refine hK.out _ _ (fun _ => ⟨hX5.cell rfl, hX5.cell rfl, hX5.cell rfl, hX5.cell rfl⟩) ?_
        clear hK K
        try simp only [Act.put, List.setIfInBounds_toArray, List.set_cons_zero, List.set_cons_succ]
        obtain ⟨hR9, hb9, hE9⟩ := begin_end (rv := .slice ra rn rc) (tv := tv) hb5 hA5 hAq st fu r1_5 r2_5 r3_5 HOL.out HEL.out VEL.out
        have a0 := hA5.cell (i := 0) rfl
        have z0 := hA5.free 0
        have hm1 := hA5.set 0 (.slice a1 ops.length c1)
        have a1' := hm1.cell (i := 1) rfl
        have z1 := hm1.free 1
        have hm2 := hm1.set 1 (.slice a2 vals.length c2)
        have a2' := hm2.cell (i := 2) rfl
        have z2 := hm2.free 2
        have hm3 := hm2.set 2 (.int .i64 st)
        have a3' := hm3.cell (i := 3) rfl
        have z3 := hm3.free 3
        simp only [List.getElem_toArray, List.getElem_cons_succ, List.getElem_cons_zero, List.setIfInBounds_toArray, List.set_cons_zero, List.set_cons_succ] at a0 a1' a2' a3'
        refine wpAnyM_one (i := 13) (by kernel_rfl) rfl (fun K hK => ?_)
        go_simp
        refine hK.out _ _ (fun h => absurd h (by decide)) ?_
        clear hK K
        refine wpAnyM_done (by kernel_rfl) ?_ _
        try simp only [Act.put, List.setIfInBounds_toArray, List.set_cons_zero, List.set_cons_succ]
        have HZ := hid (And.intro hR9 hb9)
        clear hR9 hb9 a0 a1' a2' a3' z0 z1 z2 z3 hm1 hm2 hm3 r1 r2 r3 HEL VEL HO HV HH O1 V1 H1 LO LV LH
        clear hX1 hX2 hX3 hX4 hX5
        clear hb1 hb2 hb3 hb4 hb5
        have e0 := hE9.cell (i := 0) rfl
        have e1 := hE9.cell (i := 1) rfl
        have e2 := hE9.cell (i := 2) rfl
        have e3 := hE9.cell (i := 3) rfl
        rcases HTV.out with hnil | ⟨tt, tx, hif⟩
        · subst hnil
          go_wp2_with fail
          go_ret
          first | exact ⟨_, rfl, ⟨_, _, _, HZ.out.1⟩, HZ.out.2⟩ | exact ⟨_, _, _, _, rfl, HZ.out.1, HZ.out.2⟩
        · subst hif
          go_wp2_with fail
          go_ret
          first | exact ⟨_, rfl, ⟨_, _, _, HZ.out.1⟩, HZ.out.2⟩ | exact ⟨_, _, _, _, rfl, HZ.out.1, HZ.out.2⟩
      · go_simp
        have hb' : Below w3.heap.size w3 (w3.alloc (.cells #[.slice none 0 0, .slice none 0 0, .int .i64 0, .slice none 0 0] 39)) := (Below.refl _ _).alloc (Nat.le_refl _) _
        have hA4 : Blk (w3.alloc (.cells #[.slice none 0 0, .slice none 0 0, .int .i64 0, .slice none 0 0] 39)) w3.heap.size #[.slice none 0 0, .slice none 0 0, .int .i64 0, .slice none 0 0] 39 := Blk.made _ _ _
        have hAq : w.heap.size ≤ w3.heap.size := hb3.size
        generalize w3.alloc (.cells #[.slice none 0 0, .slice none 0 0, .int .i64 0, .slice none 0 0] 39) = w4 at hb' hA4 ⊢
        have hb4 := hb3.trans (hb'.mono hb3.size)
        have hX4 := hX3.on hb' hX3.lt
        have r1_4 := own_below r1_3 hb'
        have r2_4 := own_below r2_3 hb'
        refine hK.out _ _ (fun _ => ⟨hX4.cell rfl, hX4.cell rfl, hX4.cell rfl, hX4.cell rfl⟩) ?_
        clear hK K
        try simp only [Act.put, List.setIfInBounds_toArray, List.set_cons_zero, List.set_cons_succ]
        refine wpAnyM_one (i := 10) (by kernel_rfl) rfl (fun K hK => ?_)
        go_simp
        go_at_call 48
        refine (clone_texts w4 _ _ _ _ (own_below HH.out hb4) H1.out LH.out).mono ?_
        rintro e w5 ⟨v3, rfl, r3, hb'⟩
        have r3_5 := own_base r3 hb4.size
        obtain ⟨a3, c3, hv3, _⟩ := own_cells r3
        subst hv3
        have hb5 := hb4.trans (hb'.mono hb4.size)
        have hX5 := hX4.on hb' hX4.lt
        have hA5 := hA4.on hb' hA4.lt
        have r1_5 := own_below r1_4 hb'
        have r2_5 := own_below r2_4 hb'
        go_wp2_with fail
        refine hK.out _ _ (fun _ => ⟨hX5.cell rfl, hX5.cell rfl, hX5.cell rfl, hX5.cell rfl⟩) ?_
        clear hK K
        try simp only [Act.put, List.setIfInBounds_toArray, List.set_cons_zero, List.set_cons_succ]
        refine wpAnyM_pick (i := 11) (some 21) (v := ?va102) rfl rfl (by kernel_rfl) (by kernel_rfl) (by kernel_rfl) (by kernel_rfl) (fun _ _ _ h => h) (Or.inl ⟨by rfl, ?ha102⟩) ⟨hX5.cell rfl, hX5.cell rfl, hX5.cell rfl, hX5.cell rfl⟩ ?ra102
        case ha102 => intro w hSw; go_simp; try with_reducible rfl
        try simp only [Act.put, List.setIfInBounds_toArray, List.set_cons_zero, List.set_cons_succ]
        obtain ⟨hR9, hb9, hE9⟩ := begin_end (rv := .slice ra rn rc) (tv := tv) hb5 hA5 hAq st fu r1_5 r2_5 r3_5 HOL.out HEL.out VEL.out
        have a0 := hA5.cell (i := 0) rfl
        have z0 := hA5.free 0
        have hm1 := hA5.set 0 (.slice a1 ops.length c1)
        have a1' := hm1.cell (i := 1) rfl
        have z1 := hm1.free 1
        have hm2 := hm1.set 1 (.slice a2 vals.length c2)
        have a2' := hm2.cell (i := 2) rfl
        have z2 := hm2.free 2
        have hm3 := hm2.set 2 (.int .i64 st)
        have a3' := hm3.cell (i := 3) rfl
        have z3 := hm3.free 3
        simp only [List.getElem_toArray, List.getElem_cons_succ, List.getElem_cons_zero, List.setIfInBounds_toArray, List.set_cons_zero, List.set_cons_succ] at a0 a1' a2' a3'
        refine wpAnyM_one (i := 13) (by kernel_rfl) rfl (fun K hK => ?_)
        go_simp
        refine hK.out _ _ (fun h => absurd h (by decide)) ?_
        clear hK K
        refine wpAnyM_done (by kernel_rfl) ?_ _
        try simp only [Act.put, List.setIfInBounds_toArray, List.set_cons_zero, List.set_cons_succ]
        have HZ := hid (And.intro hR9 hb9)
        clear hR9 hb9 a0 a1' a2' a3' z0 z1 z2 z3 hm1 hm2 hm3 r1 r2 r3 HEL VEL HO HV HH O1 V1 H1 LO LV LH
        clear hX1 hX2 hX3 hX4 hX5
        clear hb1 hb2 hb3 hb4 hb5
        have e0 := hE9.cell (i := 0) rfl
        have e1 := hE9.cell (i := 1) rfl
        have e2 := hE9.cell (i := 2) rfl
        have e3 := hE9.cell (i := 3) rfl
        rcases HTV.out with hnil | ⟨tt, tx, hif⟩
        · subst hnil
          go_wp2_with fail
          go_ret
          first | exact ⟨_, rfl, ⟨_, _, _, HZ.out.1⟩, HZ.out.2⟩ | exact ⟨_, _, _, _, rfl, HZ.out.1, HZ.out.2⟩
        · subst hif
          go_wp2_with fail
          go_ret
          first | exact ⟨_, rfl, ⟨_, _, _, HZ.out.1⟩, HZ.out.2⟩ | exact ⟨_, _, _, _, rfl, HZ.out.1, HZ.out.2⟩
    · go_simp
      have hb' : Below w2.heap.size w2 (w2.alloc (.cells #[.slice none 0 0, .slice none 0 0, .int .i64 0, .slice none 0 0] 39)) := (Below.refl _ _).alloc (Nat.le_refl _) _
      have hA3 : Blk (w2.alloc (.cells #[.slice none 0 0, .slice none 0 0, .int .i64 0, .slice none 0 0] 39)) w2.heap.size #[.slice none 0 0, .slice none 0 0, .int .i64 0, .slice none 0 0] 39 := Blk.made _ _ _
      have hAq : w.heap.size ≤ w2.heap.size := hb2.size
      generalize w2.alloc (.cells #[.slice none 0 0, .slice none 0 0, .int .i64 0, .slice none 0 0] 39) = w3 at hb' hA3 ⊢
      have hb3 := hb2.trans (hb'.mono hb2.size)
      have hX3 := hX2.on hb' hX2.lt
      have r1_3 := own_below r1_2 hb'
      refine hK.out _ _ (fun _ => ⟨hX3.cell rfl, hX3.cell rfl, hX3.cell rfl, hX3.cell rfl⟩) ?_
      clear hK K
      try simp only [Act.put, List.setIfInBounds_toArray, List.set_cons_zero, List.set_cons_succ]
      refine wpAnyM_one (i := 5) (by kernel_rfl) rfl (fun K hK => ?_)
      go_simp
      go_at_call 47
      refine (clone_terms w3 _ _ _ _ (own_below HV.out hb3) V1.out LV.out).mono ?_
      rintro e w4 ⟨v2, rfl, r2, hb'⟩
      have r2_4 := own_base r2 hb3.size
      obtain ⟨a2, c2, hv2, _⟩ := own_cells r2
      subst hv2
      have hb4 := hb3.trans (hb'.mono hb3.size)
      have hX4 := hX3.on hb' hX3.lt
      have hA4 := hA3.on hb' hA3.lt
      have r1_4 := own_below r1_3 hb'
      go_wp2_with fail
      refine hK.out _ _ (fun _ => ⟨hX4.cell rfl, hX4.cell rfl, hX4.cell rfl, hX4.cell rfl⟩) ?_
      clear hK K
      try simp only [Act.put, List.setIfInBounds_toArray, List.set_cons_zero, List.set_cons_succ]
      refine wpAnyM_one (i := 10) (by kernel_rfl) rfl (fun K hK => ?_)
      go_simp
      go_at_call 48
      refine (clone_texts w4 _ _ _ _ (own_below HH.out hb4) H1.out LH.out).mono ?_
      rintro e w5 ⟨v3, rfl, r3, hb'⟩
      have r3_5 := own_base r3 hb4.size
      obtain ⟨a3, c3, hv3, _⟩ := own_cells r3
      subst hv3
      have hb5 := hb4.trans (hb'.mono hb4.size)
      have hX5 := hX4.on hb' hX4.lt
      have hA5 := hA4.on hb' hA4.lt
      have r1_5 := own_below r1_4 hb'
      have r2_5 := own_below r2_4 hb'
      go_wp2_with fail
      refine hK.out _ _ (fun _ => ⟨hX5.cell rfl, hX5.cell rfl, hX5.cell rfl, hX5.cell rfl⟩) ?_
      clear hK K
      try simp only [Act.put, List.setIfInBounds_toArray, List.set_cons_zero, List.set_cons_succ]
      refine wpAnyM_pick (i := 11) (some 21) (v := ?va103) rfl rfl (by kernel_rfl) (by kernel_rfl) (by kernel_rfl) (by kernel_rfl) (fun _ _ _ h => h) (Or.inl ⟨by rfl, ?ha103⟩) ⟨hX5.cell rfl, hX5.cell rfl, hX5.cell rfl, hX5.cell rfl⟩ ?ra103
      case ha103 => intro w hSw; go_simp; try with_reducible rfl
      try simp only [Act.put, List.setIfInBounds_toArray, List.set_cons_zero, List.set_cons_succ]
      obtain ⟨hR9, hb9, hE9⟩ := begin_end (rv := .slice ra rn rc) (tv := tv) hb5 hA5 hAq st fu r1_5 r2_5 r3_5 HOL.out HEL.out VEL.out
      have a0 := hA5.cell (i := 0) rfl
      have z0 := hA5.free 0
      have hm1 := hA5.set 0 (.slice a1 ops.length c1)
      have a1' := hm1.cell (i := 1) rfl
      have z1 := hm1.free 1
      have hm2 := hm1.set 1 (.slice a2 vals.length c2)
      have a2' := hm2.cell (i := 2) rfl
      have z2 := hm2.free 2
      have hm3 := hm2.set 2 (.int .i64 st)
      have a3' := hm3.cell (i := 3) rfl
      have z3 := hm3.free 3
      simp only [List.getElem_toArray, List.getElem_cons_succ, List.getElem_cons_zero, List.setIfInBounds_toArray, List.set_cons_zero, List.set_cons_succ] at a0 a1' a2' a3'
      refine wpAnyM_one (i := 13) (by kernel_rfl) rfl (fun K hK => ?_)
      go_simp
      refine hK.out _ _ (fun h => absurd h (by decide)) ?_
      clear hK K
      refine wpAnyM_done (by kernel_rfl) ?_ _
      try simp only [Act.put, List.setIfInBounds_toArray, List.set_cons_zero, List.set_cons_succ]
      have HZ := hid (And.intro hR9 hb9)
      clear hR9 hb9 a0 a1' a2' a3' z0 z1 z2 z3 hm1 hm2 hm3 r1 r2 r3 HEL VEL HO HV HH O1 V1 H1 LO LV LH
      clear hX1 hX2 hX3 hX4 hX5
      clear hb1 hb2 hb3 hb4 hb5
      have e0 := hE9.cell (i := 0) rfl
      have e1 := hE9.cell (i := 1) rfl
      have e2 := hE9.cell (i := 2) rfl
      have e3 := hE9.cell (i := 3) rfl
      rcases HTV.out with hnil | ⟨tt, tx, hif⟩
      · subst hnil
        go_wp2_with fail
        go_ret
        first | exact ⟨_, rfl, ⟨_, _, _, HZ.out.1⟩, HZ.out.2⟩ | exact ⟨_, _, _, _, rfl, HZ.out.1, HZ.out.2⟩
      · subst hif
        go_wp2_with fail
        go_ret
        first | exact ⟨_, rfl, ⟨_, _, _, HZ.out.1⟩, HZ.out.2⟩ | exact ⟨_, _, _, _, rfl, HZ.out.1, HZ.out.2⟩
  · go_simp
    have hb' : Below w1.heap.size w1 (w1.alloc (.cells #[.slice none 0 0, .slice none 0 0, .int .i64 0, .slice none 0 0] 39)) := (Below.refl _ _).alloc (Nat.le_refl _) _
    have hA2 : Blk (w1.alloc (.cells #[.slice none 0 0, .slice none 0 0, .int .i64 0, .slice none 0 0] 39)) w1.heap.size #[.slice none 0 0, .slice none 0 0, .int .i64 0, .slice none 0 0] 39 := Blk.made _ _ _
    have hAq : w.heap.size ≤ w1.heap.size := hb1.size
    generalize w1.alloc (.cells #[.slice none 0 0, .slice none 0 0, .int .i64 0, .slice none 0 0] 39) = w2 at hb' hA2 ⊢
    have hb2 := hb1.trans (hb'.mono hb1.size)
    have hX2 := hX1.on hb' hX1.lt
    refine hK.out _ _ (fun _ => ⟨hX2.cell rfl, hX2.cell rfl, hX2.cell rfl, hX2.cell rfl⟩) ?_
    clear hK K
    try simp only [Act.put, List.setIfInBounds_toArray, List.set_cons_zero, List.set_cons_succ]
    refine wpAnyM_one (i := 2) (by kernel_rfl) rfl (fun K hK => ?_)
    go_simp
    go_at_call 46
    refine (clone_ops w2 _ _ _ _ (own_below HO.out hb2) O1.out LO.out).mono ?_
    rintro e w3 ⟨v1, rfl, r1, hb'⟩
    have r1_3 := own_base r1 hb2.size
    obtain ⟨a1, c1, hv1, _⟩ := own_cells r1
    subst hv1
    have hb3 := hb2.trans (hb'.mono hb2.size)
    have hX3 := hX2.on hb' hX2.lt
    have hA3 := hA2.on hb' hA2.lt
    go_wp2_with fail
    refine hK.out _ _ (fun _ => ⟨hX3.cell rfl, hX3.cell rfl, hX3.cell rfl, hX3.cell rfl⟩) ?_
    clear hK K
    try simp only [Act.put, List.setIfInBounds_toArray, List.set_cons_zero, List.set_cons_succ]
    refine wpAnyM_one (i := 5) (by kernel_rfl) rfl (fun K hK => ?_)
    go_simp
    go_at_call 47
    refine (clone_terms w3 _ _ _ _ (own_below HV.out hb3) V1.out LV.out).mono ?_
    rintro e w4 ⟨v2, rfl, r2, hb'⟩
    have r2_4 := own_base r2 hb3.size
    obtain ⟨a2, c2, hv2, _⟩ := own_cells r2
    subst hv2
    have hb4 := hb3.trans (hb'.mono hb3.size)
    have hX4 := hX3.on hb' hX3.lt
    have hA4 := hA3.on hb' hA3.lt
    have r1_4 := own_below r1_3 hb'
    go_wp2_with fail
    refine hK.out _ _ (fun _ => ⟨hX4.cell rfl, hX4.cell rfl, hX4.cell rfl, hX4.cell rfl⟩) ?_
    clear hK K
    try simp only [Act.put, List.setIfInBounds_toArray, List.set_cons_zero, List.set_cons_succ]
    refine wpAnyM_one (i := 10) (by kernel_rfl) rfl (fun K hK => ?_)
    go_simp
    go_at_call 48
    refine (clone_texts w4 _ _ _ _ (own_below HH.out hb4) H1.out LH.out).mono ?_
    rintro e w5 ⟨v3, rfl, r3, hb'⟩
    have r3_5 := own_base r3 hb4.size
    obtain ⟨a3, c3, hv3, _⟩ := own_cells r3
    subst hv3
    have hb5 := hb4.trans (hb'.mono hb4.size)
    have hX5 := hX4.on hb' hX4.lt
    have hA5 := hA4.on hb' hA4.lt
    have r1_5 := own_below r1_4 hb'
    have r2_5 := own_below r2_4 hb'
    go_wp2_with fail
    refine hK.out _ _ (fun _ => ⟨hX5.cell rfl, hX5.cell rfl, hX5.cell rfl, hX5.cell rfl⟩) ?_
    clear hK K
    try simp only [Act.put, List.setIfInBounds_toArray, List.set_cons_zero, List.set_cons_succ]
    refine wpAnyM_pick (i := 11) (some 21) (v := ?va104) rfl rfl (by kernel_rfl) (by kernel_rfl) (by kernel_rfl) (by kernel_rfl) (fun _ _ _ h => h) (Or.inl ⟨by rfl, ?ha104⟩) ⟨hX5.cell rfl, hX5.cell rfl, hX5.cell rfl, hX5.cell rfl⟩ ?ra104
    case ha104 => intro w hSw; go_simp; try with_reducible rfl
    try simp only [Act.put, List.setIfInBounds_toArray, List.set_cons_zero, List.set_cons_succ]
    obtain ⟨hR9, hb9, hE9⟩ := begin_end (rv := .slice ra rn rc) (tv := tv) hb5 hA5 hAq st fu r1_5 r2_5 r3_5 HOL.out HEL.out VEL.out
    have a0 := hA5.cell (i := 0) rfl
    have z0 := hA5.free 0
    have hm1 := hA5.set 0 (.slice a1 ops.length c1)
    have a1' := hm1.cell (i := 1) rfl
    have z1 := hm1.free 1
    have hm2 := hm1.set 1 (.slice a2 vals.length c2)
    have a2' := hm2.cell (i := 2) rfl
    have z2 := hm2.free 2
    have hm3 := hm2.set 2 (.int .i64 st)
    have a3' := hm3.cell (i := 3) rfl
    have z3 := hm3.free 3
    simp only [List.getElem_toArray, List.getElem_cons_succ, List.getElem_cons_zero, List.setIfInBounds_toArray, List.set_cons_zero, List.set_cons_succ] at a0 a1' a2' a3'
    refine wpAnyM_one (i := 13) (by kernel_rfl) rfl (fun K hK => ?_)
    go_simp
    refine hK.out _ _ (fun h => absurd h (by decide)) ?_
    clear hK K
    refine wpAnyM_done (by kernel_rfl) ?_ _
    try simp only [Act.put, List.setIfInBounds_toArray, List.set_cons_zero, List.set_cons_succ]
    have HZ := hid (And.intro hR9 hb9)
    clear hR9 hb9 a0 a1' a2' a3' z0 z1 z2 z3 hm1 hm2 hm3 r1 r2 r3 HEL VEL HO HV HH O1 V1 H1 LO LV LH
    clear hX1 hX2 hX3 hX4 hX5
    clear hb1 hb2 hb3 hb4 hb5
    have e0 := hE9.cell (i := 0) rfl
    have e1 := hE9.cell (i := 1) rfl
    have e2 := hE9.cell (i := 2) rfl
    have e3 := hE9.cell (i := 3) rfl
    rcases HTV.out with hnil | ⟨tt, tx, hif⟩
    · subst hnil
      go_wp2_with fail
      go_ret
      first | exact ⟨_, rfl, ⟨_, _, _, HZ.out.1⟩, HZ.out.2⟩ | exact ⟨_, _, _, _, rfl, HZ.out.1, HZ.out.2⟩
    · subst hif
      go_wp2_with fail
      go_ret
      first | exact ⟨_, rfl, ⟨_, _, _, HZ.out.1⟩, HZ.out.2⟩ | exact ⟨_, _, _, _, rfl, HZ.out.1, HZ.out.2⟩

end Go.Proofs.Ytbdlokijednoiaa
