/-
  What fresh.State answers: a state in memory of the call's own.
-/
import Derived.Test.YtbdlokijednoiaaI7
import Derived.Test.YtbdlokijednoiaaReg7
namespace Go.Proofs.Ytbdlokijednoiaa
open Go.RowKit
set_option linter.unusedVariables false
set_option linter.unusedSimpArgs false
set_option maxRecDepth 100000

/-- the three blocks of the call: what came in, the answer's, the state under way -/
structure S3 (w : World) (ov vv hv : Value) (st : Int) (a b c : Value) (wr : World) : Prop where
  b0 : Blk wr w.heap.size #[ov, vv, .int .i64 st, hv] 39
  b1 : Blk wr (w.heap.size + 1) #[.slice none 0 0, .slice none 0 0, .int .i64 0, .slice none 0 0] 39
  b2 : Blk wr (w.heap.size + 1 + 1) #[a, b, .int .i64 st, c] 39
  low : Below w.heap.size w wr
theorem S3.on {w : World} {ov vv hv : Value} {st : Int} {a b c : Value} {wr wr' : World} (h : S3 w ov vv hv st a b c wr) (hb : Below wr.heap.size wr wr') : S3 w ov vv hv st a b c wr' :=
  ⟨h.b0.on hb h.b0.lt, h.b1.on hb h.b1.lt, h.b2.on hb h.b2.lt, h.low.trans (hb.mono h.low.size)⟩
theorem S3.row {w : World} {ov vv hv : Value} {st : Int} {a b c : Value} {wr wr' : World} (h : S3 w ov vv hv st a b c wr) {e : TypeId} {size : Nat} {v : Value} {n : Nat} {xs : List Value} (hr : wr.ownsRow w.heap.size e size v n xs) (he : e ≠ 39) (hg : wr.grownBy wr' v.ownBlock) : S3 w ov vv hv st a b c wr' :=
  ⟨blk_row h.b0 hr he hg, blk_row h.b1 hr he hg, blk_row h.b2 hr he hg, h.low.grown hg h.low.size (fun k hk => (hr.lt k hk).1)⟩
theorem S3.start (w : World) (ov vv hv : Value) (st : Int) : S3 w ov vv hv st (.slice none 0 0) (.slice none 0 0) (.slice none 0 0) (((w.alloc (.cells #[ov, vv, .int .i64 st, hv] 39)).alloc (.cells #[.slice none 0 0, .slice none 0 0, .int .i64 0, .slice none 0 0] 39)).alloc (.cells #[.slice none 0 0, .slice none 0 0, .int .i64 st, .slice none 0 0] 39)) :=
  ⟨((Blk.made w _ 39).alloc _).alloc _, (Blk.madeAt _ _ _ (by simp)).alloc _, Blk.madeAt _ _ _ (by simp), (((Below.refl _ w).alloc (Nat.le_refl _) _).alloc (by simp) _).alloc (by simp; omega) _⟩
theorem S3.put {w : World} {ov vv hv : Value} {st : Int} {a b c : Value} {wr : World} (h : S3 w ov vv hv st a b c wr) (i : Nat) (u : Value) (a' b' c' : Value) (he : (#[a, b, .int .i64 st, c] : Array Value).setIfInBounds i u = #[a', b', .int .i64 st, c']) : S3 w ov vv hv st a' b' c' (wr.setCell ⟨w.heap.size + 1 + 1, i, none⟩ u) ∧ wr.grownBy (wr.setCell ⟨w.heap.size + 1 + 1, i, none⟩ u) (some (w.heap.size + 1 + 1)) := by
  refine ⟨⟨h.b0.other (by omega) _, h.b1.other (by omega) _, ?_, h.low.setCell (by show w.heap.size ≤ w.heap.size + 1 + 1; omega) _⟩, set_grown _ _ _ _⟩
  have := h.b2.set i u
  rw [he] at this
  exact this
theorem LiesO.at {w : World} {a : Option Addr} {n c : Nat} {ops : List Opr} (h : LiesO w (.slice a n c) ops) {i : Nat} {o : Opr} (hi : ops[i]? = some o) :
    ∃ g off x, a = some ⟨g, off, none⟩ ∧ g < w.heap.size ∧ w.cell? ⟨g, off + i * 4, none⟩ = some (.int .i64 o.k) ∧ w.cell? ⟨g, off + i * 4 + 1, none⟩ = some (.string o.c.nm) ∧ w.cell? ⟨g, off + i * 4 + 2, none⟩ = some (.int .i64 o.c.ar) ∧ w.cell? ⟨g, off + i * 4 + 3, none⟩ = some x ∧ Lies w x o.v := by
  obtain ⟨a', c', hv', _, _, HC'⟩ := h
  injection hv' with e1 _ _
  subst e1
  obtain ⟨g, off, x, h1, h2, h3, h4, h5, h6, h7, _⟩ := HC' i _ hi
  exact ⟨g, off, x, h1, h2, h3, h4, h5, h6, h7⟩

set_option maxHeartbeats 8000000 in
theorem state_any (w : World) (ov vv hv : Value) (ops : List Opr) (vals : List (List Cl)) (st : Int) (heads : List ByteArray) (ho : LiesO w ov ops) (hvl : LiesT w vv vals) (hh : LiesS w hv heads)
    (zo : ∀ o ∈ ops, o.v.length * 24 ≤ 140737488355328 ∧ (∀ c ∈ o.v, c.nm.size ≤ 281474976710656) ∧ o.c.nm.size ≤ 281474976710656) (zv : ∀ l ∈ vals, l.length * 24 ≤ 140737488355328 ∧ ∀ c ∈ l, c.nm.size ≤ 281474976710656) (zh : ∀ x ∈ heads, x.size ≤ 281474976710656)
    (lo : (ops.length + ops.length / 4 + 192) * 56 ≤ 281474976710656) (lv : (vals.length + vals.length / 4 + 192) * 24 ≤ 281474976710656) (lh : heads.length * 16 ≤ 140737488355328) :
    Calls Try.prog 20 #[.agg #[ov, vv, .int .i64 st, hv]] w fun e w' => ∃ ov' vv' hv', e = .returned (.agg #[ov', vv', .int .i64 st, hv']) ∧ OpsV (Owns w' w.heap.size) w' w.heap.size ov' ops ∧ ValsV (Owns w' w.heap.size) w' w.heap.size vv' vals ∧ OwnsS w' w.heap.size hv' heads ∧ Below w.heap.size w w' := by
  have lh2 : (heads.length + heads.length / 4 + 192) * 16 ≤ 281474976710656 := wide_of lh (by decide)
  obtain ⟨i0, hi, hz0, hz1, hz2⟩ := info_parts info71
  obtain ⟨i1, hi1, hy0, hy1, hy2⟩ := info_parts info23
  obtain ⟨i2, hi2, hx0, hx1, hx2⟩ := info_parts info9
  have LO : Hid ((ops.length + ops.length / 4 + 192) * 56 ≤ 281474976710656) := lo
  have LV : Hid ((vals.length + vals.length / 4 + 192) * 24 ≤ 281474976710656) := lv
  have LH : Hid ((heads.length + heads.length / 4 + 192) * 16 ≤ 281474976710656) := lh2
  have HO : Hid (LiesO w ov ops) := ho
  clear lo lv lh lh2
  have HV : Hid (LiesT w vv vals) := hvl
  have HH : Hid (LiesS w hv heads) := hh
  have ZO : Hid (∀ o ∈ ops, o.v.length * 24 ≤ 140737488355328 ∧ (∀ c ∈ o.v, c.nm.size ≤ 281474976710656) ∧ o.c.nm.size ≤ 281474976710656) := zo
  have ZV : Hid (∀ l ∈ vals, l.length * 24 ≤ 140737488355328 ∧ ∀ c ∈ l, c.nm.size ≤ 281474976710656) := zv
  have ZH : Hid (∀ x ∈ heads, x.size ≤ 281474976710656) := zh
  obtain ⟨oa, oc, rfl, ol1, ol2, _⟩ := ho
  obtain ⟨va, vc, rfl, vl1, vl2, _⟩ := hvl
  obtain ⟨ha, hc, rfl, hl1, hl2, _⟩ := hh
  unfold maxLen at ol2 vl2 hl2
  clear zo zv zh
  go_enter Try.func20, Try.ntmps20
  go_wp2_with fail
  have HS : Hid (S3 w (.slice oa ops.length oc) (.slice va vals.length vc) (.slice ha heads.length hc) st (.slice none 0 0) (.slice none 0 0) (.slice none 0 0) (((w.alloc (.cells #[.slice oa ops.length oc, .slice va vals.length vc, .int .i64 st, .slice ha heads.length hc] 39)).alloc (.cells #[.slice none 0 0, .slice none 0 0, .int .i64 0, .slice none 0 0] 39)).alloc (.cells #[.slice none 0 0, .slice none 0 0, .int .i64 st, .slice none 0 0] 39))) := S3.start _ _ _ _ _
  generalize ((w.alloc (.cells #[.slice oa ops.length oc, .slice va vals.length vc, .int .i64 st, .slice ha heads.length hc] 39)).alloc (.cells #[.slice none 0 0, .slice none 0 0, .int .i64 0, .slice none 0 0] 39)).alloc (.cells #[.slice none 0 0, .slice none 0 0, .int .i64 st, .slice none 0 0] 39) = w1 at HS ⊢
  go_loopw [16] (fun i wr => ∃ (k : Nat) (a : Value), k ≤ ops.length ∧ i = .int .i64 (k : Nat) ∧ S3 w (.slice oa ops.length oc) (.slice va vals.length vc) (.slice ha heads.length hc) st a (.slice none 0 0) (.slice none 0 0) wr ∧ OpsV (Owns wr w.heap.size) wr w.heap.size a (ops.take k)) (fun i _ => ops.length - (intOf i).toNat)
  case atStart => exact ⟨0, _, Nat.zero_le _, rfl, HS.out, ⟨[], rfl, World.ownsRow_nil _ _ _ _, fun i o h => by simp at h⟩⟩
  case round =>
    obtain ⟨k, a, hk, rfl, hS, hO⟩ := hrel
    clear HS
    by_cases hlt : k < ops.length
    · obtain ⟨o, ho⟩ : ∃ o, ops[k]? = some o := ⟨ops[k], List.getElem?_eq_getElem hlt⟩
      obtain ⟨g, off, x, rfl, hgl, c0, c1, c2, c3, hlx⟩ := HO.out.at ho
      obtain ⟨z1, z2, z3⟩ := ZO.out o (List.mem_of_getElem? ho)
      have d0 := (hS.low.cell (p := ⟨g, off + k * 4, none⟩) hgl).trans c0
      have d1 := (hS.low.cell (p := ⟨g, off + k * 4 + 1, none⟩) hgl).trans c1
      have d2 := (hS.low.cell (p := ⟨g, off + k * 4 + 2, none⟩) hgl).trans c2
      have d3 := (hS.low.cell (p := ⟨g, off + k * 4 + 3, none⟩) hgl).trans c3
      have HT2 : Hid (ops.take (k + 1) = ops.take k ++ [o]) := by show _ = _; rw [List.take_add_one, ho]; rfl
      have htl : (ops.take k).length = k := by rw [List.length_take]; omega
      have hki : (k : Int) < (ops.length : Int) := by omega
      obtain ⟨ok, ⟨onm, oar⟩, ovv⟩ := o
      simp only at d0 d1 d2 d3 z1 z2 z3 hlx
      have hfr : ∀ w2, Below w.heap.size w w2 → _ := fun w2 hb => fresh_any w2 x ovv (hlx.on hb) z1 z2
      have hce := fun w => cell_any w onm oar z3
      obtain ⟨xa, xc, rfl, _⟩ := hlx
      obtain ⟨D, hD⟩ : ∃ D, ops.take k = D := ⟨_, rfl⟩
      rw [hD] at hO HT2 htl
      have hdl : D.length + 1 ≤ ops.length := by omega
      clear htl
      obtain ⟨os, hol, hrow, hel⟩ := hO
      have HEL : Hid (∀ (i : Nat) o, D[i]? = some o → ∃ x, os[i]? = some ⟨o.k, o.c, x⟩ ∧ x.oneCell' = true ∧ Owns wr w.heap.size x o.v) := hel
      obtain ⟨ma, mc, hmv, _⟩ := own_cells hrow
      subst hmv
      have HOL : Hid (os.length = D.length) := hol
      have hq : Blk (wr.alloc (.cells #[.int .i64 ok, .string onm, .int .i64 oar, .slice xa ovv.length xc] 51)) wr.heap.size #[.int .i64 ok, .string onm, .int .i64 oar, .slice xa ovv.length xc] 51 := Blk.made _ _ _
      have hb1 : Below wr.heap.size wr (wr.alloc (.cells #[.int .i64 ok, .string onm, .int .i64 oar, .slice xa ovv.length xc] 51)) := (Below.refl _ _).alloc (Nat.le_refl _) _
      have hS1 := hS.on hb1
      have hrow1 := own_below hrow hb1
      have HEL1 : Hid (∀ (i : Nat) o, D[i]? = some o → ∃ x, os[i]? = some ⟨o.k, o.c, x⟩ ∧ x.oneCell' = true ∧ Owns (wr.alloc (.cells #[.int .i64 ok, .string onm, .int .i64 oar, .slice xa ovv.length xc] 51)) w.heap.size x o.v) := fun i o hi => by
        obtain ⟨x, h1, h2, h3⟩ := HEL.out i o hi
        exact ⟨x, h1, h2, own_below h3 hb1⟩
      have HRQ : Hid (∀ j, (Value.slice ma D.length mc).ownBlock = some j → j < wr.heap.size) := fun j hj => (hrow.lt j hj).2
      clear c0 c1 c2 c3 ho hol hel hrow hS HEL hb1 hD
      go_wp2_with fail
      generalize wr.alloc (.cells #[.int .i64 ok, .string onm, .int .i64 oar, .slice xa ovv.length xc] 51) = W1 at hq hS1 hrow1 HEL1 ⊢
      generalize wr.heap.size = q at hq HRQ ⊢
      have hS2 : S3 w (.slice (some ⟨g, off, none⟩) ops.length oc) (.slice va vals.length vc) (.slice ha heads.length hc) st (.slice ma D.length mc) (.slice none 0 0) (.slice none 0 0) W1.drew := ⟨hS1.b0, hS1.b1, hS1.b2, hS1.low.drew⟩
      have hq2 : Blk W1.drew q #[.int .i64 ok, .string onm, .int .i64 oar, .slice xa ovv.length xc] 51 := hq
      have hrow2 : W1.drew.ownsRow w.heap.size 51 4 (.slice ma D.length mc) D.length (flatO os) := hrow1
      have HEL2 : Hid (∀ (i : Nat) o, D[i]? = some o → ∃ x, os[i]? = some ⟨o.k, o.c, x⟩ ∧ x.oneCell' = true ∧ Owns W1.drew w.heap.size x o.v) := HEL1.out
      clear hS1 hq hrow1 HEL1
      have HSA : Hid (S3 w (.slice (some ⟨g, off, none⟩) ops.length oc) (.slice va vals.length vc) (.slice ha heads.length hc) st (.slice ma D.length mc) (.slice none 0 0) (.slice none 0 0) W1.drew) := hS2
      have HQA : Hid (Blk W1.drew q #[.int .i64 ok, .string onm, .int .i64 oar, .slice xa ovv.length xc] 51) := hq2
      have HRA : Hid (W1.drew.ownsRow w.heap.size 51 4 (.slice ma D.length mc) D.length (flatO os)) := hrow2
      have HC0 : W1.drew.cell? ⟨w.heap.size + 1 + 1, 0, none⟩ = some (.slice ma D.length mc) ∧ W1.drew.cell? ⟨q, 0, none⟩ = some (.int .i64 ok) ∧ W1.drew.cell? ⟨q, 1, none⟩ = some (.string onm) ∧ W1.drew.cell? ⟨q, 2, none⟩ = some (.int .i64 oar) ∧ W1.drew.cell? ⟨q, 3, none⟩ = some (.slice xa ovv.length xc) := ⟨hS2.b2.cell rfl, hq2.cell rfl, hq2.cell rfl, hq2.cell rfl, hq2.cell rfl⟩
      clear hS2 hq2 hrow2
      refine wp_region_m (fun w' => w'.cell? ⟨w.heap.size + 1 + 1, 0, none⟩ = some (.slice ma D.length mc) ∧ w'.cell? ⟨q, 0, none⟩ = some (.int .i64 ok) ∧ w'.cell? ⟨q, 1, none⟩ = some (.string onm) ∧ w'.cell? ⟨q, 2, none⟩ = some (.int .i64 oar) ∧ w'.cell? ⟨q, 3, none⟩ = some (.slice xa ovv.length xc)) 14 (by kernel_rfl) ?_
      refine wpAnyM_pick (i := 0) (some 20) (v := ?vz1) rfl rfl (by kernel_rfl) (by kernel_rfl) (by kernel_rfl) (by kernel_rfl) (fun _ _ _ h => h) (Or.inl ⟨by rfl, ?hz1⟩) HC0 ?rz1
      case hz1 => intro w hSw; go_simp; try with_reducible rfl
      try simp only [Act.put, List.setIfInBounds_toArray, List.set_cons_zero, List.set_cons_succ]
      refine wpAnyM_pick (i := 1) (some 21) (v := ?vz2) rfl rfl (by kernel_rfl) (by kernel_rfl) (by kernel_rfl) (by kernel_rfl) (fun _ _ _ h => h) (Or.inl ⟨by rfl, ?hz2⟩) HC0 ?rz2
      case hz2 => intro w hSw; go_simp; try with_reducible rfl
      try simp only [Act.put, List.setIfInBounds_toArray, List.set_cons_zero, List.set_cons_succ]
      refine wpAnyM_pick (i := 2) (some 22) (v := ?vz3) rfl rfl (by kernel_rfl) (by kernel_rfl) (by kernel_rfl) (by kernel_rfl) (fun _ _ _ h => h) (Or.inl ⟨by rfl, ?hz3⟩) HC0 ?rz3
      case hz3 => intro w hSw; go_simp; try with_reducible rfl
      try simp only [Act.put, List.setIfInBounds_toArray, List.set_cons_zero, List.set_cons_succ]
      refine wpAnyM_pick (i := 3) (some 23) (v := ?vz4) rfl rfl (by kernel_rfl) (by kernel_rfl) (by kernel_rfl) (by kernel_rfl) (fun _ _ _ h => h) (Or.inl ⟨by rfl, ?hz4⟩) HC0 ?rz4
      case hz4 => intro w hSw; go_simp; try with_reducible rfl
      try simp only [Act.put, List.setIfInBounds_toArray, List.set_cons_zero, List.set_cons_succ]
      refine wpAnyM_pick (i := 4) (some 24) (v := ?vz5) rfl rfl (by kernel_rfl) (by kernel_rfl) (by kernel_rfl) (by kernel_rfl) (fun _ _ _ h => h) (Or.inl ⟨by rfl, ?hz5⟩) HC0 ?rz5
      case hz5 => intro w hSw; go_simp; try with_reducible rfl
      try simp only [Act.put, List.setIfInBounds_toArray, List.set_cons_zero, List.set_cons_succ]
      refine wpAnyM_pick (i := 5) (some 25) (v := ?vz6) rfl rfl (by kernel_rfl) (by kernel_rfl) (by kernel_rfl) (by kernel_rfl) (fun _ _ _ h => h) (Or.inl ⟨by rfl, ?hz6⟩) HC0 ?rz6
      case hz6 => intro w hSw; go_simp; try with_reducible rfl
      try simp only [Act.put, List.setIfInBounds_toArray, List.set_cons_zero, List.set_cons_succ]
      refine wpAnyM_pick (i := 7) (some 27) (v := ?vz7) rfl rfl (by kernel_rfl) (by kernel_rfl) (by kernel_rfl) (by kernel_rfl) (fun _ _ _ h => h) (Or.inl ⟨by rfl, ?hz7⟩) HC0 ?rz7
      case hz7 => intro w hSw; go_simp; try with_reducible rfl
      try simp only [Act.put, List.setIfInBounds_toArray, List.set_cons_zero, List.set_cons_succ]
      refine wpAnyM_pick (i := 8) (some 28) (v := ?vz8) rfl rfl (by kernel_rfl) (by kernel_rfl) (by kernel_rfl) (by kernel_rfl) (fun _ _ _ h => h) (Or.inl ⟨by rfl, ?hz8⟩) HC0 ?rz8
      case hz8 => intro w hSw; go_simp; try with_reducible rfl
      try simp only [Act.put, List.setIfInBounds_toArray, List.set_cons_zero, List.set_cons_succ]
      refine wpAnyM_one (i := 6) (by kernel_rfl) rfl (fun K hK => ?_)
      go_simp
      go_at_call 34
      refine (hce _).mono ?_
      rintro e w3 ⟨rfl, hb3⟩
      have hS3 := HSA.out.on hb3
      have hq3 := HQA.out.on hb3 HQA.out.lt
      have hrow3 := own_below HRA.out hb3
      have HEL3 : Hid (∀ (i : Nat) o, D[i]? = some o → ∃ x, os[i]? = some ⟨o.k, o.c, x⟩ ∧ x.oneCell' = true ∧ Owns w3 w.heap.size x o.v) := fun i o hi => by
        obtain ⟨x, h1, h2, h3⟩ := HEL2.out i o hi
        exact ⟨x, h1, h2, own_below h3 hb3⟩
      go_wp2_with fail
      refine hK.out _ _ (fun _ => ⟨hS3.b2.cell rfl, hq3.cell rfl, hq3.cell rfl, hq3.cell rfl, hq3.cell rfl⟩) ?_
      clear hK K
      try simp only [Act.put, List.setIfInBounds_toArray, List.set_cons_zero, List.set_cons_succ]
      refine wpAnyM_one (i := 9) (by kernel_rfl) rfl (fun K hK => ?_)
      go_simp
      go_at_call 35
      refine (hfr _ hS3.low).mono ?_
      rintro e w4 ⟨x4, rfl, hx4, hb4⟩
      have hx5 : Owns w4 w.heap.size x4 ovv := own_base hx4 hS3.low.size
      obtain ⟨ya, yc, hyv, _⟩ := own_cells hx4
      subst hyv
      have hS4 := hS3.on hb4
      have hq4 := hq3.on hb4 hq3.lt
      have hrow4 := own_below hrow3 hb4
      have HEL4 : Hid (∀ (i : Nat) o, D[i]? = some o → ∃ x, os[i]? = some ⟨o.k, o.c, x⟩ ∧ x.oneCell' = true ∧ Owns w4 w.heap.size x o.v) := fun i o hi => by
        obtain ⟨x, h1, h2, h3⟩ := HEL3.out i o hi
        exact ⟨x, h1, h2, own_below h3 hb4⟩
      have hb5 : Below w4.heap.size w4 (w4.alloc (.cells #[.int .i64 ok, .string onm, .int .i64 oar, .slice ya ovv.length yc] 51)) := (Below.refl _ _).alloc (Nat.le_refl _) _
      have hS5 := hS4.on hb5
      have hq5 := hq4.on hb5 hq4.lt
      go_wp2_with fail
      refine hK.out _ _ (fun _ => ⟨hS4.b2.cell rfl, hq4.cell rfl, hq4.cell rfl, hq4.cell rfl, hq4.cell rfl⟩) ?_
      clear hK K
      try simp only [Act.put, List.setIfInBounds_toArray, List.set_cons_zero, List.set_cons_succ]
      refine wpAnyM_pick (i := 10) (some 30) (v := ?vz9) rfl rfl (by kernel_rfl) (by kernel_rfl) (by kernel_rfl) (by kernel_rfl) (fun _ _ _ h => h) (Or.inl ⟨by rfl, ?hz9⟩) ⟨hS4.b2.cell rfl, hq4.cell rfl, hq4.cell rfl, hq4.cell rfl, hq4.cell rfl⟩ ?rz9
      case hz9 => intro w hSw; go_simp; try with_reducible rfl
      try simp only [Act.put, List.setIfInBounds_toArray, List.set_cons_zero, List.set_cons_succ]
      refine wpAnyM_one (i := 11) (by kernel_rfl) rfl (fun K hK => ?_)
      go_simp
      refine hK.out _ _ (fun _ => ⟨hS5.b2.cell rfl, hq5.cell rfl, hq5.cell rfl, hq5.cell rfl, hq5.cell rfl⟩) ?_
      clear hK K
      try simp only [Act.put, List.setIfInBounds_toArray, List.set_cons_zero, List.set_cons_succ]
      refine wpAnyM_one (i := 12) (by kernel_rfl) rfl (fun K hK => ?_)
      simp only [List.getElem_toArray, List.getElem_cons_succ, List.getElem_cons_zero]
      rw [if_pos (by rfl)]
      refine wp_append_own_wide _ (.tmp 21) (.tmp 31) 37 rfl w.heap.size 51 i0 (.agg #[.int .i64 0, .string ⟨#[]⟩, .int .i64 0, .slice none 0 0]) 4 56 Try.underlying37 hi hz0 hz1 hz2 rfl (by decide) (.slice ma D.length mc) D.length (flatO os) rfl (hrow4.alloc _) ⟨w4.heap.size, 0, none⟩ 1 1 [.int .i64 ok, .string onm, .int .i64 oar, .slice ya ovv.length yc] rfl rfl (four_cells w4 _ _ _ _ _) ?c1 ?c2 ?c3 ?c4 ?_
      case c1 => intro u hu; simp at hu; rcases hu with rfl | rfl | rfl | rfl <;> rfl
      case c2 => unfold maxLen; omega
      case c3 => exact fits_wide LO.out hdl
      case c4 => have := hS4.low.size; simp; omega
      intro v' w6 hown' hgrow _
      have hS6 := hS5.row (hrow4.alloc _) (by decide) hgrow
      have hOP : OpsV (Owns w6 w.heap.size) w6 w.heap.size v' (D ++ [⟨ok, ⟨onm, oar⟩, ovv⟩]) := by
        have keep : ∀ x l, Owns w4 w.heap.size x l → Owns w6 w.heap.size x l := fun x l h => own_apart7 (World.ownsRow.alloc h _) (hrow4.alloc _) (by decide) hgrow
        exact OpsV.more (ns := [⟨ok, ⟨onm, oar⟩, .slice ya ovv.length yc⟩]) (nops := [⟨ok, ⟨onm, oar⟩, ovv⟩]) HOL.out HEL4.out rfl (fun i o hi => by
          obtain ⟨rfl, rfl⟩ := one_get hi
          exact ⟨_, rfl, rfl, keep _ _ hx5⟩) hown' keep
      obtain ⟨na, nc, hnv, _⟩ := own_cells hown'
      subst hnv
      have f0 := hS6.b2.free 0
      have f1 := hS6.b2.cell (i := 0) rfl
      obtain ⟨hS7, hg7⟩ := hS6.put 0 (.slice na (D.length + 1) nc) (.slice na (D.length + 1) nc) (.slice none 0 0) (.slice none 0 0) rfl
      have hOQ : OpsV (Owns (w6.setCell ⟨w.heap.size + 1 + 1, 0, none⟩ (.slice na (D.length + 1) nc)) w.heap.size) (w6.setCell ⟨w.heap.size + 1 + 1, 0, none⟩ (.slice na (D.length + 1) nc)) w.heap.size (.slice na (D.length + 1) nc) (D ++ [⟨ok, ⟨onm, oar⟩, ovv⟩]) := by
        obtain ⟨os', o1, o2, o3⟩ := hOP
        refine ⟨os', o1, row_blk o2 hS6.b2 (by decide) hg7, fun i o hi => ?_⟩
        obtain ⟨x, h1, h2, h3⟩ := o3 i o hi
        exact ⟨x, h1, h2, row_blk h3 hS6.b2 (by decide) hg7⟩
      have HS7 : Hid (S3 w (.slice (some ⟨g, off, none⟩) ops.length oc) (.slice va vals.length vc) (.slice ha heads.length hc) st (.slice na (D.length + 1) nc) (.slice none 0 0) (.slice none 0 0) (w6.setCell ⟨w.heap.size + 1 + 1, 0, none⟩ (.slice na (D.length + 1) nc))) := hS7
      have HOQ : Hid (OpsV (Owns (w6.setCell ⟨w.heap.size + 1 + 1, 0, none⟩ (.slice na (D.length + 1) nc)) w.heap.size) (w6.setCell ⟨w.heap.size + 1 + 1, 0, none⟩ (.slice na (D.length + 1) nc)) w.heap.size (.slice na (D.length + 1) nc) (D ++ [⟨ok, ⟨onm, oar⟩, ovv⟩])) := hOQ
      have hq6 : Blk w6 q #[.int .i64 ok, .string onm, .int .i64 oar, .slice xa ovv.length xc] 51 := (hgrow.block q hq5.lt (fun e => by have := HRQ.out q e.symm; omega)).trans hq5
      clear hOP hOQ hS7 hg7 hown' hgrow
      refine hK.out _ _ (fun _ => ⟨f1, hq6.cell rfl, hq6.cell rfl, hq6.cell rfl, hq6.cell rfl⟩) ?_
      clear hK K
      try simp only [Act.put, List.setIfInBounds_toArray, List.set_cons_zero, List.set_cons_succ]
      refine wpAnyM_pick (i := 13) (some 33) (v := ?vz10) rfl rfl (by kernel_rfl) (by kernel_rfl) (by kernel_rfl) (by kernel_rfl) (fun _ _ _ h => h) (Or.inl ⟨by rfl, ?hz10⟩) ⟨f1, hq6.cell rfl, hq6.cell rfl, hq6.cell rfl, hq6.cell rfl⟩ ?rz10
      case hz10 => intro w hSw; go_simp; try with_reducible rfl
      try simp only [Act.put, List.setIfInBounds_toArray, List.set_cons_zero, List.set_cons_succ]
      refine wpAnyM_one (i := 14) (by kernel_rfl) rfl (fun K hK => ?_)
      go_simp
      refine hK.out _ _ (fun h => absurd h (by decide)) ?_
      clear hK K
      refine wpAnyM_done (by kernel_rfl) ?_ _
      try simp only [Act.put, List.setIfInBounds_toArray, List.set_cons_zero, List.set_cons_succ]
      generalize w6.setCell ⟨w.heap.size + 1 + 1, 0, none⟩ (.slice na (D.length + 1) nc) = w7 at HS7 HOQ ⊢
      clear hS6 hS5 hS4 hS3 hq6 hq5 hq4 hq3 hrow4 hrow3 hx5 hx4 hb5 hb4 hb3 f0 f1 HSA HQA HRA HEL2 HEL3 HEL4 HC0
      go_wp2_with fail
      go_roundw
      case rel => exact ⟨k + 1, _, by omega, by go_num, HS7.out, by rw [HT2.out]; exact HOQ.out⟩
      case measure => simp [intOf]; omega
    · have hki : ¬ (k : Int) < (ops.length : Int) := by omega
      rw [List.take_of_length_le (by omega)] at hO
      have HS1 : Hid (S3 w (.slice oa ops.length oc) (.slice va vals.length vc) (.slice ha heads.length hc) st a (.slice none 0 0) (.slice none 0 0) wr) := hS
      have HO1 : Hid (OpsV (Owns wr w.heap.size) wr w.heap.size a ops) := hO
      have c0 := hS.b0.cell (i := 1) rfl
      obtain ⟨aa, ac, hav⟩ := hO.form
      subst hav
      clear hS hO
      go_wp2_with fail
      go_loopw [38] (fun i wr => ∃ (k : Nat) (b : Value), k ≤ vals.length ∧ i = .int .i64 (k : Nat) ∧ S3 w (.slice oa ops.length oc) (.slice va vals.length vc) (.slice ha heads.length hc) st (.slice aa ops.length ac) b (.slice none 0 0) wr ∧ OpsV (Owns wr w.heap.size) wr w.heap.size (.slice aa ops.length ac) ops ∧ ValsV (Owns wr w.heap.size) wr w.heap.size b (vals.take k)) (fun i _ => vals.length - (intOf i).toNat)
      case atStart => exact ⟨0, _, Nat.zero_le _, rfl, HS1.out, HO1.out, ⟨[], World.ownsRow_nil _ _ _ _, fun i o h => by simp at h⟩⟩
      case round =>
        clear c0 HS1 HO1
        revert wr
        intro wo hrel
        obtain ⟨k, b, hk, rfl, hS, hO, hV⟩ := hrel
        by_cases hlt : k < vals.length
        · obtain ⟨l, hl⟩ : ∃ l, vals[k]? = some l := ⟨vals[k], List.getElem?_eq_getElem hlt⟩
          obtain ⟨g, off, x, rfl, hgl, c0, hlx⟩ := HV.out.at hl
          obtain ⟨z1, z2⟩ := ZV.out l (List.mem_of_getElem? hl)
          have d0 := (hS.low.cell (p := ⟨g, off + k, none⟩) hgl).trans c0
          have HT2 : Hid (vals.take (k + 1) = vals.take k ++ [l]) := by show _ = _; rw [List.take_add_one, hl]; rfl
          have htl : (vals.take k).length = k := by rw [List.length_take]; omega
          have hki : (k : Int) < (vals.length : Int) := by omega
          have hfr : ∀ w2, Below w.heap.size w w2 → _ := fun w2 hb => fresh_any w2 x l (hlx.on hb) z1 z2
          obtain ⟨xa, xc, rfl, _⟩ := hlx
          obtain ⟨D, hD⟩ : ∃ D, vals.take k = D := ⟨_, rfl⟩
          rw [hD] at hV HT2 htl
          have hdl : D.length + 1 ≤ vals.length := by omega
          clear htl
          obtain ⟨vs, hrow, hel⟩ := hV
          obtain ⟨ma, mc, hmv, _⟩ := own_cells hrow
          subst hmv
          clear c0 hl hD
          go_wp2_with fail
          have hS2 : S3 w (.slice oa ops.length oc) (.slice (some ⟨g, off, none⟩) vals.length vc) (.slice ha heads.length hc) st (.slice aa ops.length ac) (.slice ma D.length mc) (.slice none 0 0) wo.drew := ⟨hS.b0, hS.b1, hS.b2, hS.low.drew⟩
          have HSA : Hid (S3 w (.slice oa ops.length oc) (.slice (some ⟨g, off, none⟩) vals.length vc) (.slice ha heads.length hc) st (.slice aa ops.length ac) (.slice ma D.length mc) (.slice none 0 0) wo.drew) := hS2
          have HRA : Hid (wo.drew.ownsRow w.heap.size 24 1 (.slice ma D.length mc) D.length vs) := hrow
          have HEL2 : Hid (∀ (i : Nat) l, D[i]? = some l → ∃ x, vs[i]? = some x ∧ x.oneCell' = true ∧ Owns wo.drew w.heap.size x l) := hel
          have HOA : Hid (OpsV (Owns wo.drew w.heap.size) wo.drew w.heap.size (.slice aa ops.length ac) ops) := hO
          have HC0 : wo.drew.cell? ⟨w.heap.size + 1 + 1, 1, none⟩ = some (.slice ma D.length mc) := hS2.b2.cell rfl
          clear hS hS2 hrow hel hO d0
          refine wp_region_m (fun w' => w'.cell? ⟨w.heap.size + 1 + 1, 1, none⟩ = some (.slice ma D.length mc)) 7 (by kernel_rfl) ?_
          refine wpAnyM_pick (i := 0) (some 42) (v := ?vz11) rfl rfl (by kernel_rfl) (by kernel_rfl) (by kernel_rfl) (by kernel_rfl) (fun _ _ _ h => h) (Or.inl ⟨by rfl, ?hz11⟩) HC0 ?rz11
          case hz11 => intro w hSw; go_simp; try with_reducible rfl
          try simp only [Act.put, List.setIfInBounds_toArray, List.set_cons_zero, List.set_cons_succ]
          refine wpAnyM_pick (i := 1) (some 43) (v := ?vz12) rfl rfl (by kernel_rfl) (by kernel_rfl) (by kernel_rfl) (by kernel_rfl) (fun _ _ _ h => h) (Or.inl ⟨by rfl, ?hz12⟩) HC0 ?rz12
          case hz12 => intro w hSw; go_simp; try with_reducible rfl
          try simp only [Act.put, List.setIfInBounds_toArray, List.set_cons_zero, List.set_cons_succ]
          refine wpAnyM_pick (i := 2) (some 44) (v := ?vz13) rfl rfl (by kernel_rfl) (by kernel_rfl) (by kernel_rfl) (by kernel_rfl) (fun _ _ _ h => h) (Or.inl ⟨by rfl, ?hz13⟩) HC0 ?rz13
          case hz13 => intro w hSw; go_simp; try with_reducible rfl
          try simp only [Act.put, List.setIfInBounds_toArray, List.set_cons_zero, List.set_cons_succ]
          refine wpAnyM_one (i := 3) (by kernel_rfl) rfl (fun K hK => ?_)
          go_simp
          go_at_call 35
          refine (hfr _ HSA.out.low).mono ?_
          rintro e w4 ⟨x4, rfl, hx4, hb4⟩
          have hx5 : Owns w4 w.heap.size x4 l := own_base hx4 HSA.out.low.size
          obtain ⟨ya, yc, hyv, _⟩ := own_cells hx4
          subst hyv
          have hS4 := HSA.out.on hb4
          have hrow4 := own_below HRA.out hb4
          have hO4 := HOA.out.below hb4
          have HEL4 : Hid (∀ (i : Nat) l, D[i]? = some l → ∃ x, vs[i]? = some x ∧ x.oneCell' = true ∧ Owns w4 w.heap.size x l) := fun i o hi => by
            obtain ⟨x, h1, h2, h3⟩ := HEL2.out i o hi
            exact ⟨x, h1, h2, own_below h3 hb4⟩
          have hb5 : Below w4.heap.size w4 (w4.alloc (.cells #[.slice ya l.length yc] 24)) := (Below.refl _ _).alloc (Nat.le_refl _) _
          have hS5 := hS4.on hb5
          have hO5 := hO4.below hb5
          have HO5 : Hid (OpsV (Owns (w4.alloc (.cells #[.slice ya l.length yc] 24)) w.heap.size) (w4.alloc (.cells #[.slice ya l.length yc] 24)) w.heap.size (.slice aa ops.length ac) ops) := hO5
          clear hO4 hO5
          go_wp2_with fail
          refine hK.out _ _ (fun _ => hS4.b2.cell rfl) ?_
          clear hK K
          try simp only [Act.put, List.setIfInBounds_toArray, List.set_cons_zero, List.set_cons_succ]
          refine wpAnyM_one (i := 4) (by kernel_rfl) rfl (fun K hK => ?_)
          go_simp
          refine hK.out _ _ (fun _ => hS5.b2.cell rfl) ?_
          clear hK K
          try simp only [Act.put, List.setIfInBounds_toArray, List.set_cons_zero, List.set_cons_succ]
          refine wpAnyM_one (i := 5) (by kernel_rfl) rfl (fun K hK => ?_)
          simp only [List.getElem_toArray, List.getElem_cons_succ, List.getElem_cons_zero]
          rw [if_pos (by rfl)]
          refine wp_append_own_wide _ (.tmp 43) (.tmp 46) 25 rfl w.heap.size 24 i1 (.slice none 0 0) 1 24 Try.underlying25 hi1 hy0 hy1 hy2 rfl (by decide) (.slice ma D.length mc) D.length vs rfl (hrow4.alloc _) ⟨w4.heap.size, 0, none⟩ 1 1 [.slice ya l.length yc] rfl rfl (one_cell w4 _ _) ?e1 ?e2 ?e3 ?e4 ?_
          case e1 => intro u hu; simp at hu; subst hu; rfl
          case e2 => unfold maxLen; omega
          case e3 => exact fits_wide LV.out hdl
          case e4 => have := hS4.low.size; simp; omega
          intro v' w6 hown' hgrow _
          have hS6 := hS5.row (hrow4.alloc _) (by decide) hgrow
          have hO6 := HO5.out.apart (hrow4.alloc _) (by decide) (by decide) hgrow
          have hVP : ValsV (Owns w6 w.heap.size) w6 w.heap.size v' (D ++ [l]) := by
            have keep : ∀ x l, Owns w4 w.heap.size x l → Owns w6 w.heap.size x l := fun x l h => own_apart7 (World.ownsRow.alloc h _) (hrow4.alloc _) (by decide) hgrow
            exact ValsV.more (ns := [.slice ya l.length yc]) (N := [l]) (row_len hrow4) HEL4.out (fun i o hi => by
              obtain ⟨rfl, rfl⟩ := one_get hi
              exact ⟨_, rfl, rfl, keep _ _ hx5⟩) hown' keep
          obtain ⟨na, nc, hnv, _⟩ := own_cells hown'
          subst hnv
          have f0 := hS6.b2.free 1
          have f1 := hS6.b2.cell (i := 1) rfl
          obtain ⟨hS7, hg7⟩ := hS6.put 1 (.slice na (D.length + 1) nc) (.slice aa ops.length ac) (.slice na (D.length + 1) nc) (.slice none 0 0) rfl
          have hV7 := hVP.blk hS6.b2 (by decide) (by decide) hg7
          have hO7 := hO6.blk hS6.b2 (by decide) (by decide) hg7
          clear hVP hg7 hown' hgrow hO6
          refine hK.out _ _ (fun _ => f1) ?_
          clear hK K
          try simp only [Act.put, List.setIfInBounds_toArray, List.set_cons_zero, List.set_cons_succ]
          refine wpAnyM_pick (i := 6) (some 48) (v := ?vz14) rfl rfl (by kernel_rfl) (by kernel_rfl) (by kernel_rfl) (by kernel_rfl) (fun _ _ _ h => h) (Or.inl ⟨by rfl, ?hz14⟩) f1 ?rz14
          case hz14 => intro w hSw; go_simp; try with_reducible rfl
          try simp only [Act.put, List.setIfInBounds_toArray, List.set_cons_zero, List.set_cons_succ]
          refine wpAnyM_one (i := 7) (by kernel_rfl) rfl (fun K hK => ?_)
          have HZ : Hid (S3 w (.slice oa ops.length oc) (.slice (some ⟨g, off, none⟩) vals.length vc) (.slice ha heads.length hc) st (.slice aa ops.length ac) (.slice na (D.length + 1) nc) (.slice none 0 0) (w6.setCell ⟨w.heap.size + 1 + 1, 1, none⟩ (.slice na (D.length + 1) nc)) ∧ OpsV (Owns (w6.setCell ⟨w.heap.size + 1 + 1, 1, none⟩ (.slice na (D.length + 1) nc)) w.heap.size) (w6.setCell ⟨w.heap.size + 1 + 1, 1, none⟩ (.slice na (D.length + 1) nc)) w.heap.size (.slice aa ops.length ac) ops ∧ ValsV (Owns (w6.setCell ⟨w.heap.size + 1 + 1, 1, none⟩ (.slice na (D.length + 1) nc)) w.heap.size) (w6.setCell ⟨w.heap.size + 1 + 1, 1, none⟩ (.slice na (D.length + 1) nc)) w.heap.size (.slice na (D.length + 1) nc) (D ++ [l])) := ⟨hS7, hO7, hV7⟩
          clear hS7 hO7 hV7
          go_simp
          refine hK.out _ _ (fun h => absurd h (by decide)) ?_
          clear hK K
          refine wpAnyM_done (by kernel_rfl) ?_ _
          try simp only [Act.put, List.setIfInBounds_toArray, List.set_cons_zero, List.set_cons_succ]
          generalize w6.setCell ⟨w.heap.size + 1 + 1, 1, none⟩ (.slice na (D.length + 1) nc) = w7 at HZ ⊢
          clear hS6 hS5 hS4 hrow4 hx5 hx4 hb5 hb4 f0 f1 HSA HRA HEL2 HEL4 HC0 HO5
          go_wp2_with fail
          go_roundw
          case rel => exact ⟨k + 1, _, by omega, by go_num, HZ.out.1, HZ.out.2.1, by rw [HT2.out]; exact HZ.out.2.2⟩
          case measure => simp [intOf]; omega
        · have hki : ¬ (k : Int) < (vals.length : Int) := by omega
          rw [List.take_of_length_le (by omega)] at hV
          have HS1 : Hid (S3 w (.slice oa ops.length oc) (.slice va vals.length vc) (.slice ha heads.length hc) st (.slice aa ops.length ac) b (.slice none 0 0) wo) := hS
          have HO1 : Hid (OpsV (Owns wo w.heap.size) wo w.heap.size (.slice aa ops.length ac) ops) := hO
          have HV1 : Hid (ValsV (Owns wo w.heap.size) wo w.heap.size b vals) := hV
          have c0 := hS.b0.cell (i := 3) rfl
          obtain ⟨ba, bc, hav⟩ := hV.form
          subst hav
          clear hS hO hV
          go_wp2_with fail
          go_loopw [53] (fun i wr => ∃ (k : Nat) (c : Value), k ≤ heads.length ∧ i = .int .i64 (k : Nat) ∧ S3 w (.slice oa ops.length oc) (.slice va vals.length vc) (.slice ha heads.length hc) st (.slice aa ops.length ac) (.slice ba vals.length bc) c wr ∧ OpsV (Owns wr w.heap.size) wr w.heap.size (.slice aa ops.length ac) ops ∧ ValsV (Owns wr w.heap.size) wr w.heap.size (.slice ba vals.length bc) vals ∧ OwnsS wr w.heap.size c (heads.take k)) (fun i _ => heads.length - (intOf i).toNat)
          case atStart => exact ⟨0, _, Nat.zero_le _, rfl, HS1.out, HO1.out, HV1.out, World.ownsRow_nil _ _ _ _⟩
          case round =>
            clear c0 HS1 HO1 HV1
            revert wr
            intro wp hrel
            obtain ⟨k, c, hk, rfl, hS, hO, hV, hH⟩ := hrel
            by_cases hlt : k < heads.length
            · obtain ⟨x, hx⟩ : ∃ x, heads[k]? = some x := ⟨heads[k], List.getElem?_eq_getElem hlt⟩
              obtain ⟨g, off, hha, hgl, c0⟩ : ∃ g off, ha = some ⟨g, off, none⟩ ∧ g < w.heap.size ∧ w.cell? ⟨g, off + k, none⟩ = some (.string x) := by
                obtain ⟨a', c', hv', _, _, HC'⟩ := HH.out
                cases hv'
                exact HC' k x hx
              subst hha
              have d0 := (hS.low.cell (p := ⟨g, off + k, none⟩) hgl).trans c0
              have HT2 : Hid (heads.take (k + 1) = heads.take k ++ [x]) := by show _ = _; rw [List.take_add_one, hx]; rfl
              have htl : (heads.take k).length = k := by rw [List.length_take]; omega
              have hki : (k : Int) < (heads.length : Int) := by omega
              have hcl := fun w => clone_any x w (ZH.out x (List.mem_of_getElem? hx))
              obtain ⟨D, hD⟩ : ∃ D, heads.take k = D := ⟨_, rfl⟩
              rw [hD] at hH HT2 htl
              have hdl : D.length + 1 ≤ heads.length := by omega
              clear htl
              obtain ⟨ma, mc, hmv, _⟩ := own_cells hH
              subst hmv
              clear c0 hx hD
              go_wp2_with fail
              have hS2 : S3 w (.slice oa ops.length oc) (.slice va vals.length vc) (.slice (some ⟨g, off, none⟩) heads.length hc) st (.slice aa ops.length ac) (.slice ba vals.length bc) (.slice ma D.length mc) wp.drew := ⟨hS.b0, hS.b1, hS.b2, hS.low.drew⟩
              have HSA : Hid (S3 w (.slice oa ops.length oc) (.slice va vals.length vc) (.slice (some ⟨g, off, none⟩) heads.length hc) st (.slice aa ops.length ac) (.slice ba vals.length bc) (.slice ma D.length mc) wp.drew) := hS2
              have HRA : Hid (OwnsS wp.drew w.heap.size (.slice ma D.length mc) D) := hH
              have HOA : Hid (OpsV (Owns wp.drew w.heap.size) wp.drew w.heap.size (.slice aa ops.length ac) ops) := hO
              have HVA : Hid (ValsV (Owns wp.drew w.heap.size) wp.drew w.heap.size (.slice ba vals.length bc) vals) := hV
              have HC0 : wp.drew.cell? ⟨w.heap.size + 1 + 1, 3, none⟩ = some (.slice ma D.length mc) := hS2.b2.cell rfl
              clear hS hS2 hH hO hV d0
              refine wp_region_m (fun w' => w'.cell? ⟨w.heap.size + 1 + 1, 3, none⟩ = some (.slice ma D.length mc)) 7 (by kernel_rfl) ?_
              refine wpAnyM_pick (i := 0) (some 57) (v := ?vz15) rfl rfl (by kernel_rfl) (by kernel_rfl) (by kernel_rfl) (by kernel_rfl) (fun _ _ _ h => h) (Or.inl ⟨by rfl, ?hz15⟩) HC0 ?rz15
              case hz15 => intro w hSw; go_simp; try with_reducible rfl
              try simp only [Act.put, List.setIfInBounds_toArray, List.set_cons_zero, List.set_cons_succ]
              refine wpAnyM_pick (i := 1) (some 58) (v := ?vz16) rfl rfl (by kernel_rfl) (by kernel_rfl) (by kernel_rfl) (by kernel_rfl) (fun _ _ _ h => h) (Or.inl ⟨by rfl, ?hz16⟩) HC0 ?rz16
              case hz16 => intro w hSw; go_simp; try with_reducible rfl
              try simp only [Act.put, List.setIfInBounds_toArray, List.set_cons_zero, List.set_cons_succ]
              refine wpAnyM_pick (i := 2) (some 59) (v := ?vz17) rfl rfl (by kernel_rfl) (by kernel_rfl) (by kernel_rfl) (by kernel_rfl) (fun _ _ _ h => h) (Or.inl ⟨by rfl, ?hz17⟩) HC0 ?rz17
              case hz17 => intro w hSw; go_simp; try with_reducible rfl
              try simp only [Act.put, List.setIfInBounds_toArray, List.set_cons_zero, List.set_cons_succ]
              refine wpAnyM_one (i := 3) (by kernel_rfl) rfl (fun K hK => ?_)
              go_simp
              go_at_call 36
              refine (hcl _).mono ?_
              rintro e w4 ⟨rfl, hb4⟩
              have hS4 := HSA.out.on hb4
              have hrow4 := own_below HRA.out hb4
              have hO4 := HOA.out.below hb4
              have hV4 := HVA.out.below hb4
              have hb5 : Below w4.heap.size w4 (w4.alloc (.cells #[.string x] 9)) := (Below.refl _ _).alloc (Nat.le_refl _) _
              have hS5 := hS4.on hb5
              have HO5 : Hid (OpsV (Owns (w4.alloc (.cells #[.string x] 9)) w.heap.size) (w4.alloc (.cells #[.string x] 9)) w.heap.size (.slice aa ops.length ac) ops) := hO4.below hb5
              have HV5 : Hid (ValsV (Owns (w4.alloc (.cells #[.string x] 9)) w.heap.size) (w4.alloc (.cells #[.string x] 9)) w.heap.size (.slice ba vals.length bc) vals) := hV4.below hb5
              clear hO4 hV4
              go_wp2_with fail
              refine hK.out _ _ (fun _ => hS4.b2.cell rfl) ?_
              clear hK K
              try simp only [Act.put, List.setIfInBounds_toArray, List.set_cons_zero, List.set_cons_succ]
              refine wpAnyM_one (i := 4) (by kernel_rfl) rfl (fun K hK => ?_)
              go_simp
              refine hK.out _ _ (fun _ => hS5.b2.cell rfl) ?_
              clear hK K
              try simp only [Act.put, List.setIfInBounds_toArray, List.set_cons_zero, List.set_cons_succ]
              refine wpAnyM_one (i := 5) (by kernel_rfl) rfl (fun K hK => ?_)
              simp only [List.getElem_toArray, List.getElem_cons_succ, List.getElem_cons_zero]
              rw [if_pos (by rfl)]
              refine wp_append_own_wide _ (.tmp 58) (.tmp 61) 34 rfl w.heap.size 9 i2 (.string ⟨#[]⟩) 1 16 Try.underlying34 hi2 hx0 hx1 hx2 rfl (by decide) (.slice ma D.length mc) D.length (D.map Value.string) rfl (World.ownsRow.alloc hrow4 _) ⟨w4.heap.size, 0, none⟩ 1 1 [.string x] rfl rfl (one_cell w4 _ _) ?g1 ?g2 ?g3 ?g4 ?_
              case g1 => intro u hu; simp at hu; subst hu; rfl
              case g2 => unfold maxLen; omega
              case g3 => exact fits_wide LH.out hdl
              case g4 => have := hS4.low.size; simp; omega
              intro v' w6 hown' hgrow _
              have hS6 := hS5.row (World.ownsRow.alloc hrow4 _) (by decide) hgrow
              have hO6 := HO5.out.apart (World.ownsRow.alloc hrow4 _) (by decide) (by decide) hgrow
              have hV6 := HV5.out.apart (World.ownsRow.alloc hrow4 _) (by decide) (by decide) hgrow
              have hHP : OwnsS w6 w.heap.size v' (D ++ [x]) := ownS_more (w := w6) hown'
              obtain ⟨na, nc, hnv, _⟩ := own_cells hown'
              subst hnv
              have f0 := hS6.b2.free 3
              have f1 := hS6.b2.cell (i := 3) rfl
              obtain ⟨hS7, hg7⟩ := hS6.put 3 (.slice na (D.length + 1) nc) (.slice aa ops.length ac) (.slice ba vals.length bc) (.slice na (D.length + 1) nc) rfl
              have HZ : Hid (S3 w (.slice oa ops.length oc) (.slice va vals.length vc) (.slice (some ⟨g, off, none⟩) heads.length hc) st (.slice aa ops.length ac) (.slice ba vals.length bc) (.slice na (D.length + 1) nc) (w6.setCell ⟨w.heap.size + 1 + 1, 3, none⟩ (.slice na (D.length + 1) nc)) ∧ OpsV (Owns (w6.setCell ⟨w.heap.size + 1 + 1, 3, none⟩ (.slice na (D.length + 1) nc)) w.heap.size) (w6.setCell ⟨w.heap.size + 1 + 1, 3, none⟩ (.slice na (D.length + 1) nc)) w.heap.size (.slice aa ops.length ac) ops ∧ ValsV (Owns (w6.setCell ⟨w.heap.size + 1 + 1, 3, none⟩ (.slice na (D.length + 1) nc)) w.heap.size) (w6.setCell ⟨w.heap.size + 1 + 1, 3, none⟩ (.slice na (D.length + 1) nc)) w.heap.size (.slice ba vals.length bc) vals ∧ OwnsS (w6.setCell ⟨w.heap.size + 1 + 1, 3, none⟩ (.slice na (D.length + 1) nc)) w.heap.size (.slice na (D.length + 1) nc) (D ++ [x])) := ⟨hS7, hO6.blk hS6.b2 (by decide) (by decide) hg7, hV6.blk hS6.b2 (by decide) (by decide) hg7, row_blk hHP hS6.b2 (by decide) hg7⟩
              clear hHP hg7 hown' hgrow hO6 hV6 hS7
              refine hK.out _ _ (fun _ => f1) ?_
              clear hK K
              try simp only [Act.put, List.setIfInBounds_toArray, List.set_cons_zero, List.set_cons_succ]
              refine wpAnyM_pick (i := 6) (some 63) (v := ?vz18) rfl rfl (by kernel_rfl) (by kernel_rfl) (by kernel_rfl) (by kernel_rfl) (fun _ _ _ h => h) (Or.inl ⟨by rfl, ?hz18⟩) f1 ?rz18
              case hz18 => intro w hSw; go_simp; try with_reducible rfl
              try simp only [Act.put, List.setIfInBounds_toArray, List.set_cons_zero, List.set_cons_succ]
              refine wpAnyM_one (i := 7) (by kernel_rfl) rfl (fun K hK => ?_)
              go_simp
              refine hK.out _ _ (fun h => absurd h (by decide)) ?_
              clear hK K
              refine wpAnyM_done (by kernel_rfl) ?_ _
              try simp only [Act.put, List.setIfInBounds_toArray, List.set_cons_zero, List.set_cons_succ]
              generalize w6.setCell ⟨w.heap.size + 1 + 1, 3, none⟩ (.slice na (D.length + 1) nc) = w7 at HZ ⊢
              clear hS6 hS5 hS4 hrow4 hb5 hb4 f0 f1 HSA HRA HC0 HO5 HV5
              go_wp2_with fail
              go_roundw
              case rel => exact ⟨k + 1, _, by omega, by go_num, HZ.out.1, HZ.out.2.1, HZ.out.2.2.1, by rw [HT2.out]; exact HZ.out.2.2.2⟩
              case measure => simp [intOf]; omega
            · have hki : ¬ (k : Int) < (heads.length : Int) := by omega
              rw [List.take_of_length_le (by omega)] at hH
              obtain ⟨ca, cc, hcv⟩ := hH.form
              subst hcv
              have p0 := hS.b2.cell (i := 0) rfl
              have p1 := hS.b2.cell (i := 1) rfl
              have p2 := hS.b2.cell (i := 2) rfl
              have p3 := hS.b2.cell (i := 3) rfl
              have q0 := hS.b1.cell (i := 0) rfl
              have q1 := hS.b1.cell (i := 1) rfl
              have q2 := hS.b1.cell (i := 2) rfl
              have q3 := hS.b1.cell (i := 3) rfl
              have f0 := hS.b1.free 0
              have f1 := hS.b1.free 1
              have f2 := hS.b1.free 2
              have f3 := hS.b1.free 3
              have HS8 : Hid (S3 w (.slice oa ops.length oc) (.slice va vals.length vc) (.slice ha heads.length hc) st (.slice aa ops.length ac) (.slice ba vals.length bc) (.slice ca heads.length cc) wp) := hS
              have HO8 : Hid (OpsV (Owns wp w.heap.size) wp w.heap.size (.slice aa ops.length ac) ops) := hO
              have HV8 : Hid (ValsV (Owns wp w.heap.size) wp w.heap.size (.slice ba vals.length bc) vals) := hV
              have HH8 : Hid (OwnsS wp w.heap.size (.slice ca heads.length cc) heads) := hH
              clear hS hO hV hH
              go_wp2_with fail
              obtain ⟨hD, hg⟩ := set4 HS8.out.b1 (.slice aa ops.length ac) (.slice ba vals.length bc) (.int .i64 st) (.slice ca heads.length cc)
              have e0 := hD.cell (i := 0) rfl
              have e1 := hD.cell (i := 1) rfl
              have e2 := hD.cell (i := 2) rfl
              have e3 := hD.cell (i := 3) rfl
              try simp only [Exit.inBlock, Exit.then]
              refine bodyPost_ret (v := .agg #[(.slice aa ops.length ac), (.slice ba vals.length bc), .int .i64 st, .slice ca heads.length cc]) (by simp [results, Try.results20, go_sem, e0, e1, e2, e3]) rfl ⟨_, _, _, rfl, HO8.out.blk HS8.out.b1 (by decide) (by decide) hg, HV8.out.blk HS8.out.b1 (by decide) (by decide) hg, row_blk HH8.out HS8.out.b1 (by decide) hg, HS8.out.low.grown hg HS8.out.low.size (fun k hk => by cases hk; omega)⟩

end Go.Proofs.Ytbdlokijednoiaa
