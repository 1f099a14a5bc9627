/-
  What the document's Right answers of a state.
-/
import Derived.Test.YtbdlokijednoiaaBD
import Derived.Deep.CutRange
namespace Go.Proofs.Ytbdlokijednoiaa
open Go.RowKit
set_option linter.unusedVariables false
set_option linter.unusedSimpArgs false
set_option maxRecDepth 100000
set_option maxHeartbeats 8000000 in

theorem rsame_any (w : World) (ov vv hv ov' vv' hv' : Value) (ops : List Opr) (vals : List (List Cl)) (st : Int) (heads : List ByteArray) (ho : LiesO w ov ops) (hvl : LiesT w vv vals) (hh : LiesS w hv heads) (ho' : LiesO w ov' ops) (hvl' : LiesT w vv' vals) (hh' : LiesS w hv' heads) :
    Calls Try.prog 14 #[.agg #[ov, vv, .int .i64 st, hv], .agg #[ov', vv', .int .i64 st, hv']] w fun e w' => e = .returned (.bool true) ∧ Below w.heap.size w w' := by
  have HO : Hid (LiesO w ov ops) := ho
  have HO' : Hid (LiesO w ov' ops) := ho'
  have hs1 : ∀ w1, Below w.heap.size w w1 → _ := fun w1 hb => same3_any w1 hv hv' heads heads (hh.on hb) (hh'.on hb)
  rw [decide_eq_true (rfl : heads = heads)] at hs1
  have hvm : vals.length ≤ 9223372036854775807 := by obtain ⟨_, _, _, q1, q2, _⟩ := hvl; unfold maxLen at q2; omega
  have hs2 : ∀ w1, Below w.heap.size w w1 → _ := fun w1 hb => sameAll_any w1 vv vv' vals vals (hvl.on hb) (hvl'.on hb) hvm
  rw [decide_eq_true (rfl : vals = vals)] at hs2
  obtain ⟨oa, oc, rfl, ol1, ol2, _⟩ := ho
  obtain ⟨va, vc, rfl, _⟩ := hvl
  obtain ⟨ha, hc, rfl, _⟩ := hh
  obtain ⟨xoa, xoc, rfl, _⟩ := ho'
  obtain ⟨xva, xvc, rfl, _⟩ := hvl'
  obtain ⟨xha, xhc, rfl, _⟩ := hh'
  unfold maxLen at ol2
  have HB0 : Hid (Below w.heap.size w ((w.alloc (.cells #[.slice oa ops.length oc, .slice va vals.length vc, .int .i64 st, .slice ha heads.length hc] 39)).alloc (.cells #[.slice xoa ops.length xoc, .slice xva vals.length xvc, .int .i64 st, .slice xha heads.length xhc] 39))) := ((Below.refl _ w).alloc (Nat.le_refl _) _).alloc (by simp) _
  have HX : Hid (Blk ((w.alloc (.cells #[.slice oa ops.length oc, .slice va vals.length vc, .int .i64 st, .slice ha heads.length hc] 39)).alloc (.cells #[.slice xoa ops.length xoc, .slice xva vals.length xvc, .int .i64 st, .slice xha heads.length xhc] 39)) w.heap.size #[.slice oa ops.length oc, .slice va vals.length vc, .int .i64 st, .slice ha heads.length hc] 39) := (Blk.made w _ 39).alloc _
  have HY : Hid (Blk ((w.alloc (.cells #[.slice oa ops.length oc, .slice va vals.length vc, .int .i64 st, .slice ha heads.length hc] 39)).alloc (.cells #[.slice xoa ops.length xoc, .slice xva vals.length xvc, .int .i64 st, .slice xha heads.length xhc] 39)) (w.heap.size + 1) #[.slice xoa ops.length xoc, .slice xva vals.length xvc, .int .i64 st, .slice xha heads.length xhc] 39) := Blk.madeAt _ _ _ (by simp)
  go_enter Try.func14, Try.ntmps14
  go_wp2_with (first | (go_at_call 26; refine (hs1 _ HB0.out).mono ?_; rintro e w1 ⟨rfl, hb1⟩; have hB1 := HB0.out.trans (hb1.mono HB0.out.size); have hX1 := HX.out.on hb1 HX.out.lt; have hY1 := HY.out.on hb1 HY.out.lt; have x1 := hX1.cell (i := 1) rfl; have y1 := hY1.cell (i := 1) rfl; clear hs1) | (go_at_call 27; refine (hs2 _ hB1).mono ?_; rintro e w2 ⟨rfl, hb2⟩; have hB2 := hB1.trans (hb2.mono hB1.size); have hX2 := hX1.on hb2 hX1.lt; have hY2 := hY1.on hb2 hY1.lt; have x0 := hX2.cell (i := 0) rfl; clear hs2))
  have HB2 := hid hB2
  have HX2 := hid hX2
  have HY2 := hid hY2
  clear HB0 HX HY hB1 hX1 hY1 x1 y1 x0 hb1 hb2 hB2 hX2 hY2
  go_loopw [39] (fun i wr => ∃ k : Nat, k ≤ ops.length ∧ i = .int .i64 (k : Nat) ∧ Hid (Blk wr w.heap.size #[.slice oa ops.length oc, .slice va vals.length vc, .int .i64 st, .slice ha heads.length hc] 39) ∧ Hid (Blk wr (w.heap.size + 1) #[.slice xoa ops.length xoc, .slice xva vals.length xvc, .int .i64 st, .slice xha heads.length xhc] 39) ∧ Hid (Below w.heap.size w wr)) (fun i _ => ops.length - (intOf i).toNat)
  case atStart => exact ⟨0, Nat.zero_le _, rfl, HX2, HY2, HB2⟩
  case round =>
    obtain ⟨k, hk, rfl, HXr, HYr, HBr⟩ := hrel
    clear HX2 HY2 HB2
    by_cases hlt : k < ops.length
    · obtain ⟨o, ho⟩ : ∃ o, ops[k]? = some o := ⟨ops[k], List.getElem?_eq_getElem hlt⟩
      obtain ⟨g, off, x, hoa, hgl, c0, c1, c2, c3, hlx⟩ := HO.out.at ho
      obtain ⟨g', off', x', hoa', hgl', c0', c1', c2', c3', hlx'⟩ := HO'.out.at ho
      subst hoa hoa'
      have hlow : Below w.heap.size w wr.drew := HBr.out.drew
      have d0 := (hlow.cell (p := ⟨g, off + k * 4, none⟩) hgl).trans c0
      have d1 := (hlow.cell (p := ⟨g, off + k * 4 + 1, none⟩) hgl).trans c1
      have d2 := (hlow.cell (p := ⟨g, off + k * 4 + 2, none⟩) hgl).trans c2
      have d3 := (hlow.cell (p := ⟨g, off + k * 4 + 3, none⟩) hgl).trans c3
      have d0' := (hlow.cell (p := ⟨g', off' + k * 4, none⟩) hgl').trans c0'
      have d1' := (hlow.cell (p := ⟨g', off' + k * 4 + 1, none⟩) hgl').trans c1'
      have d2' := (hlow.cell (p := ⟨g', off' + k * 4 + 2, none⟩) hgl').trans c2'
      have d3' := (hlow.cell (p := ⟨g', off' + k * 4 + 3, none⟩) hgl').trans c3'
      have hX : Blk wr.drew w.heap.size #[.slice (some ⟨g, off, none⟩) ops.length oc, .slice va vals.length vc, .int .i64 st, .slice ha heads.length hc] 39 := HXr.out
      have hY : Blk wr.drew (w.heap.size + 1) #[.slice (some ⟨g', off', none⟩) ops.length xoc, .slice xva vals.length xvc, .int .i64 st, .slice xha heads.length xhc] 39 := HYr.out
      have hki : (k : Int) < (ops.length : Int) := by omega
      obtain ⟨ok, ⟨onm, oar⟩, ovv⟩ := o
      simp only at d0 d1 d2 d3 d0' d1' d2' d3' hlx hlx'
      have hsm : ∀ w2, Below w.heap.size w w2 → _ := fun w2 hb => same_any w2 x x' ovv ovv (hlx.on hb) (hlx'.on hb)
      rw [decide_eq_true (rfl : ovv = ovv)] at hsm
      obtain ⟨xa, xc, rfl, _⟩ := hlx
      obtain ⟨ya, yc, rfl, _⟩ := hlx'
      have HC0 : (wr.drew.cell? ⟨w.heap.size, 0, none⟩ = some (.slice (some ⟨g, off, none⟩) ops.length oc) ∧ wr.drew.cell? ⟨w.heap.size + 1, 0, none⟩ = some (.slice (some ⟨g', off', none⟩) ops.length xoc) ∧ wr.drew.cell? ⟨g, off + k * 4, none⟩ = some (.int .i64 ok) ∧ wr.drew.cell? ⟨g, off + k * 4 + 1, none⟩ = some (.string onm) ∧ wr.drew.cell? ⟨g, off + k * 4 + 2, none⟩ = some (.int .i64 oar) ∧ wr.drew.cell? ⟨g, off + k * 4 + 3, none⟩ = some (.slice xa ovv.length xc) ∧ wr.drew.cell? ⟨g', off' + k * 4, none⟩ = some (.int .i64 ok) ∧ wr.drew.cell? ⟨g', off' + k * 4 + 1, none⟩ = some (.string onm) ∧ wr.drew.cell? ⟨g', off' + k * 4 + 2, none⟩ = some (.int .i64 oar) ∧ wr.drew.cell? ⟨g', off' + k * 4 + 3, none⟩ = some (.slice ya ovv.length yc)) := ⟨hX.cell rfl, hY.cell rfl, d0, d1, d2, d3, d0', d1', d2', d3'⟩
      have HLOW := hid hlow
      have HX1 := hid hX
      have HY1 := hid hY
      clear c0 c1 c2 c3 c0' c1' c2' c3' ho hX hY d0 d1 d2 d3 d0' d1' d2' d3' hlow HO HO'
      go_wp2_with fail
      refine wp_region_m (fun w' => (w'.cell? ⟨w.heap.size, 0, none⟩ = some (.slice (some ⟨g, off, none⟩) ops.length oc) ∧ w'.cell? ⟨w.heap.size + 1, 0, none⟩ = some (.slice (some ⟨g', off', none⟩) ops.length xoc) ∧ w'.cell? ⟨g, off + k * 4, none⟩ = some (.int .i64 ok) ∧ w'.cell? ⟨g, off + k * 4 + 1, none⟩ = some (.string onm) ∧ w'.cell? ⟨g, off + k * 4 + 2, none⟩ = some (.int .i64 oar) ∧ w'.cell? ⟨g, off + k * 4 + 3, none⟩ = some (.slice xa ovv.length xc) ∧ w'.cell? ⟨g', off' + k * 4, none⟩ = some (.int .i64 ok) ∧ w'.cell? ⟨g', off' + k * 4 + 1, none⟩ = some (.string onm) ∧ w'.cell? ⟨g', off' + k * 4 + 2, none⟩ = some (.int .i64 oar) ∧ w'.cell? ⟨g', off' + k * 4 + 3, none⟩ = some (.slice ya ovv.length yc))) 100 (by kernel_rfl) ?_
      refine wpAnyM_pick (i := 0) (some 42) (v := ?vz1) rfl rfl (by kernel_rfl) (by kernel_rfl) (by kernel_rfl) (by kernel_rfl) (fun _ _ _ h => h) (Or.inl ⟨by rfl, ?hz1⟩) HC0 ?rz1
      case hz1 => intro w hSw; go_simp; try with_reducible rfl
      try simp only [Act.put, List.setIfInBounds_toArray, List.set_cons_zero, List.set_cons_succ]
      refine wpAnyM_pick (i := 1) (some 43) (v := ?vz2) rfl rfl (by kernel_rfl) (by kernel_rfl) (by kernel_rfl) (by kernel_rfl) (fun _ _ _ h => h) (Or.inl ⟨by rfl, ?hz2⟩) HC0 ?rz2
      case hz2 => intro w hSw; go_simp; try with_reducible rfl
      try simp only [Act.put, List.setIfInBounds_toArray, List.set_cons_zero, List.set_cons_succ]
      refine wpAnyM_pick (i := 2) (some 44) (v := ?vz3) rfl rfl (by kernel_rfl) (by kernel_rfl) (by kernel_rfl) (by kernel_rfl) (fun _ _ _ h => h) (Or.inl ⟨by rfl, ?hz3⟩) HC0 ?rz3
      case hz3 => intro w hSw; go_simp; try with_reducible rfl
      try simp only [Act.put, List.setIfInBounds_toArray, List.set_cons_zero, List.set_cons_succ]
      refine wpAnyM_pick (i := 3) (some 45) (v := ?vz4) rfl rfl (by kernel_rfl) (by kernel_rfl) (by kernel_rfl) (by kernel_rfl) (fun _ _ _ h => h) (Or.inl ⟨by rfl, ?hz4⟩) HC0 ?rz4
      case hz4 => intro w hSw; go_simp; try with_reducible rfl
      try simp only [Act.put, List.setIfInBounds_toArray, List.set_cons_zero, List.set_cons_succ]
      refine wpAnyM_pick (i := 4) (some 46) (v := ?vz5) rfl rfl (by kernel_rfl) (by kernel_rfl) (by kernel_rfl) (by kernel_rfl) (fun _ _ _ h => h) (Or.inl ⟨by rfl, ?hz5⟩) HC0 ?rz5
      case hz5 => intro w hSw; go_simp; try with_reducible rfl
      try simp only [Act.put, List.setIfInBounds_toArray, List.set_cons_zero, List.set_cons_succ]
      refine wpAnyM_pick (i := 5) (some 47) (v := ?vz6) rfl rfl (by kernel_rfl) (by kernel_rfl) (by kernel_rfl) (by kernel_rfl) (fun _ _ _ h => h) (Or.inl ⟨by rfl, ?hz6⟩) HC0 ?rz6
      case hz6 => intro w hSw; go_simp; try with_reducible rfl
      try simp only [Act.put, List.setIfInBounds_toArray, List.set_cons_zero, List.set_cons_succ]
      refine wpAnyM_pick (i := 6) (some 48) (v := ?vz7) rfl rfl (by kernel_rfl) (by kernel_rfl) (by kernel_rfl) (by kernel_rfl) (fun _ _ _ h => h) (Or.inl ⟨by rfl, ?hz7⟩) HC0 ?rz7
      case hz7 => intro w hSw; go_simp; try with_reducible rfl
      try simp only [Act.put, List.setIfInBounds_toArray, List.set_cons_zero, List.set_cons_succ]
      refine wpAnyM_pick (i := 7) (some 49) (v := ?vz8) rfl rfl (by kernel_rfl) (by kernel_rfl) (by kernel_rfl) (by kernel_rfl) (fun _ _ _ h => h) (Or.inl ⟨by rfl, ?hz8⟩) HC0 ?rz8
      case hz8 => intro w hSw; go_simp; try with_reducible rfl
      try simp only [Act.put, List.setIfInBounds_toArray, List.set_cons_zero, List.set_cons_succ]
      refine wpAnyM_pick (i := 8) (some 50) (v := ?vz9) rfl rfl (by kernel_rfl) (by kernel_rfl) (by kernel_rfl) (by kernel_rfl) (fun _ _ _ h => h) (Or.inl ⟨by rfl, ?hz9⟩) HC0 ?rz9
      case hz9 => intro w hSw; go_simp; try with_reducible rfl
      try simp only [Act.put, List.setIfInBounds_toArray, List.set_cons_zero, List.set_cons_succ]
      refine wpAnyM_pick (i := 9) (some 51) (v := ?vz10) rfl rfl (by kernel_rfl) (by kernel_rfl) (by kernel_rfl) (by kernel_rfl) (fun _ _ _ h => h) (Or.inl ⟨by rfl, ?hz10⟩) HC0 ?rz10
      case hz10 => intro w hSw; go_simp; try with_reducible rfl
      try simp only [Act.put, List.setIfInBounds_toArray, List.set_cons_zero, List.set_cons_succ]
      refine wpAnyM_pick (i := 10) (some 52) (v := ?vz11) rfl rfl (by kernel_rfl) (by kernel_rfl) (by kernel_rfl) (by kernel_rfl) (fun _ _ _ h => h) (Or.inl ⟨by rfl, ?hz11⟩) HC0 ?rz11
      case hz11 => intro w hSw; go_simp; try with_reducible rfl
      try simp only [Act.put, List.setIfInBounds_toArray, List.set_cons_zero, List.set_cons_succ]
      refine wpAnyM_pick (i := 11) (some 53) (v := ?vz12) rfl rfl (by kernel_rfl) (by kernel_rfl) (by kernel_rfl) (by kernel_rfl) (fun _ _ _ h => h) (Or.inl ⟨by rfl, ?hz12⟩) HC0 ?rz12
      case hz12 => intro w hSw; go_simp; try with_reducible rfl
      try simp only [Act.put, List.setIfInBounds_toArray, List.set_cons_zero, List.set_cons_succ]
      refine wpAnyM_pick (i := 12) (some 54) (v := ?vz13) rfl rfl (by kernel_rfl) (by kernel_rfl) (by kernel_rfl) (by kernel_rfl) (fun _ _ _ h => h) (Or.inl ⟨by rfl, ?hz13⟩) HC0 ?rz13
      case hz13 => intro w hSw; go_simp; try with_reducible rfl
      try simp only [Act.put, List.setIfInBounds_toArray, List.set_cons_zero, List.set_cons_succ]
      refine wpAnyM_pick (i := 13) (some 55) (v := ?vz14) rfl rfl (by kernel_rfl) (by kernel_rfl) (by kernel_rfl) (by kernel_rfl) (fun _ _ _ h => h) (Or.inl ⟨by rfl, ?hz14⟩) HC0 ?rz14
      case hz14 => intro w hSw; go_simp; try with_reducible rfl
      try simp only [Act.put, List.setIfInBounds_toArray, List.set_cons_zero, List.set_cons_succ]
      refine wpAnyM_pick (i := 14) (some 56) (v := ?vz15) rfl rfl (by kernel_rfl) (by kernel_rfl) (by kernel_rfl) (by kernel_rfl) (fun _ _ _ h => h) (Or.inl ⟨by rfl, ?hz15⟩) HC0 ?rz15
      case hz15 => intro w hSw; go_simp; try with_reducible rfl
      try simp only [Act.put, List.setIfInBounds_toArray, List.set_cons_zero, List.set_cons_succ]
      refine wpAnyM_pick (i := 15) (some 57) (v := ?vz16) rfl rfl (by kernel_rfl) (by kernel_rfl) (by kernel_rfl) (by kernel_rfl) (fun _ _ _ h => h) (Or.inl ⟨by rfl, ?hz16⟩) HC0 ?rz16
      case hz16 => intro w hSw; go_simp; try with_reducible rfl
      try simp only [Act.put, List.setIfInBounds_toArray, List.set_cons_zero, List.set_cons_succ]
      refine wpAnyM_pick (i := 16) (some 58) (v := ?vz17) rfl rfl (by kernel_rfl) (by kernel_rfl) (by kernel_rfl) (by kernel_rfl) (fun _ _ _ h => h) (Or.inl ⟨by rfl, ?hz17⟩) HC0 ?rz17
      case hz17 => intro w hSw; go_simp; try with_reducible rfl
      try simp only [Act.put, List.setIfInBounds_toArray, List.set_cons_zero, List.set_cons_succ]
      refine wpAnyM_pick (i := 17) (some 59) (v := ?vz18) rfl rfl (by kernel_rfl) (by kernel_rfl) (by kernel_rfl) (by kernel_rfl) (fun _ _ _ h => h) (Or.inl ⟨by rfl, ?hz18⟩) HC0 ?rz18
      case hz18 => intro w hSw; go_simp; try with_reducible rfl
      try simp only [Act.put, List.setIfInBounds_toArray, List.set_cons_zero, List.set_cons_succ]
      refine wpAnyM_pick (i := 18) (some 60) (v := ?vz19) rfl rfl (by kernel_rfl) (by kernel_rfl) (by kernel_rfl) (by kernel_rfl) (fun _ _ _ h => h) (Or.inl ⟨by rfl, ?hz19⟩) HC0 ?rz19
      case hz19 => intro w hSw; go_simp; try with_reducible rfl
      try simp only [Act.put, List.setIfInBounds_toArray, List.set_cons_zero, List.set_cons_succ]
      refine wpAnyM_pick (i := 19) (some 61) (v := ?vz20) rfl rfl (by kernel_rfl) (by kernel_rfl) (by kernel_rfl) (by kernel_rfl) (fun _ _ _ h => h) (Or.inl ⟨by rfl, ?hz20⟩) HC0 ?rz20
      case hz20 => intro w hSw; go_simp; try with_reducible rfl
      try simp only [Act.put, List.setIfInBounds_toArray, List.set_cons_zero, List.set_cons_succ]
      refine wpAnyM_pick (i := 20) (some 62) (v := ?vz21) rfl rfl (by kernel_rfl) (by kernel_rfl) (by kernel_rfl) (by kernel_rfl) (fun _ _ _ h => h) (Or.inl ⟨by rfl, ?hz21⟩) HC0 ?rz21
      case hz21 => intro w hSw; go_simp; try with_reducible rfl
      try simp only [Act.put, List.setIfInBounds_toArray, List.set_cons_zero, List.set_cons_succ]
      refine wpAnyM_pick (i := 21) (some 63) (v := ?vz22) rfl rfl (by kernel_rfl) (by kernel_rfl) (by kernel_rfl) (by kernel_rfl) (fun _ _ _ h => h) (Or.inl ⟨by rfl, ?hz22⟩) HC0 ?rz22
      case hz22 => intro w hSw; go_simp; try with_reducible rfl
      try simp only [Act.put, List.setIfInBounds_toArray, List.set_cons_zero, List.set_cons_succ]
      refine wpAnyM_pick (i := 22) (some 64) (v := ?vz23) rfl rfl (by kernel_rfl) (by kernel_rfl) (by kernel_rfl) (by kernel_rfl) (fun _ _ _ h => h) (Or.inl ⟨by rfl, ?hz23⟩) HC0 ?rz23
      case hz23 => intro w hSw; go_simp; try with_reducible rfl
      try simp only [Act.put, List.setIfInBounds_toArray, List.set_cons_zero, List.set_cons_succ]
      refine wpAnyM_pick (i := 23) (some 65) (v := ?vz24) rfl rfl (by kernel_rfl) (by kernel_rfl) (by kernel_rfl) (by kernel_rfl) (fun _ _ _ h => h) (Or.inl ⟨by rfl, ?hz24⟩) HC0 ?rz24
      case hz24 => intro w hSw; go_simp; try with_reducible rfl
      try simp only [Act.put, List.setIfInBounds_toArray, List.set_cons_zero, List.set_cons_succ]
      refine wpAnyM_pick (i := 24) (some 66) (v := ?vz25) rfl rfl (by kernel_rfl) (by kernel_rfl) (by kernel_rfl) (by kernel_rfl) (fun _ _ _ h => h) (Or.inl ⟨by rfl, ?hz25⟩) HC0 ?rz25
      case hz25 => intro w hSw; go_simp; try with_reducible rfl
      try simp only [Act.put, List.setIfInBounds_toArray, List.set_cons_zero, List.set_cons_succ]
      refine wpAnyM_pick (i := 25) (some 67) (v := ?vz26) rfl rfl (by kernel_rfl) (by kernel_rfl) (by kernel_rfl) (by kernel_rfl) (fun _ _ _ h => h) (Or.inl ⟨by rfl, ?hz26⟩) HC0 ?rz26
      case hz26 => intro w hSw; go_simp; try with_reducible rfl
      try simp only [Act.put, List.setIfInBounds_toArray, List.set_cons_zero, List.set_cons_succ]
      refine wpAnyM_pick (i := 26) (some 68) (v := ?vz27) rfl rfl (by kernel_rfl) (by kernel_rfl) (by kernel_rfl) (by kernel_rfl) (fun _ _ _ h => h) (Or.inl ⟨by rfl, ?hz27⟩) HC0 ?rz27
      case hz27 => intro w hSw; go_simp; try with_reducible rfl
      try simp only [Act.put, List.setIfInBounds_toArray, List.set_cons_zero, List.set_cons_succ]
      refine wpAnyM_pick (i := 27) (some 69) (v := ?vz28) rfl rfl (by kernel_rfl) (by kernel_rfl) (by kernel_rfl) (by kernel_rfl) (fun _ _ _ h => h) (Or.inl ⟨by rfl, ?hz28⟩) HC0 ?rz28
      case hz28 => intro w hSw; go_simp; try with_reducible rfl
      try simp only [Act.put, List.setIfInBounds_toArray, List.set_cons_zero, List.set_cons_succ]
      refine wpAnyM_pick (i := 28) (some 70) (v := ?vz29) rfl rfl (by kernel_rfl) (by kernel_rfl) (by kernel_rfl) (by kernel_rfl) (fun _ _ _ h => h) (Or.inl ⟨by rfl, ?hz29⟩) HC0 ?rz29
      case hz29 => intro w hSw; go_simp; try with_reducible rfl
      try simp only [Act.put, List.setIfInBounds_toArray, List.set_cons_zero, List.set_cons_succ]
      refine wpAnyM_pick (i := 29) (some 71) (v := ?vz30) rfl rfl (by kernel_rfl) (by kernel_rfl) (by kernel_rfl) (by kernel_rfl) (fun _ _ _ h => h) (Or.inl ⟨by rfl, ?hz30⟩) HC0 ?rz30
      case hz30 => intro w hSw; go_simp; try with_reducible rfl
      try simp only [Act.put, List.setIfInBounds_toArray, List.set_cons_zero, List.set_cons_succ]
      refine wpAnyM_pick (i := 30) (some 72) (v := ?vz31) rfl rfl (by kernel_rfl) (by kernel_rfl) (by kernel_rfl) (by kernel_rfl) (fun _ _ _ h => h) (Or.inl ⟨by rfl, ?hz31⟩) HC0 ?rz31
      case hz31 => intro w hSw; go_simp; try with_reducible rfl
      try simp only [Act.put, List.setIfInBounds_toArray, List.set_cons_zero, List.set_cons_succ]
      refine wpAnyM_pick (i := 31) (some 73) (v := ?vz32) rfl rfl (by kernel_rfl) (by kernel_rfl) (by kernel_rfl) (by kernel_rfl) (fun _ _ _ h => h) (Or.inl ⟨by rfl, ?hz32⟩) HC0 ?rz32
      case hz32 => intro w hSw; go_simp; try with_reducible rfl
      try simp only [Act.put, List.setIfInBounds_toArray, List.set_cons_zero, List.set_cons_succ]
      refine wpAnyM_pick (i := 32) (some 74) (v := ?vz33) rfl rfl (by kernel_rfl) (by kernel_rfl) (by kernel_rfl) (by kernel_rfl) (fun _ _ _ h => h) (Or.inl ⟨by rfl, ?hz33⟩) HC0 ?rz33
      case hz33 => intro w hSw; go_simp; try with_reducible rfl
      try simp only [Act.put, List.setIfInBounds_toArray, List.set_cons_zero, List.set_cons_succ]
      refine wpAnyM_pick (i := 33) (some 75) (v := ?vz34) rfl rfl (by kernel_rfl) (by kernel_rfl) (by kernel_rfl) (by kernel_rfl) (fun _ _ _ h => h) (Or.inl ⟨by rfl, ?hz34⟩) HC0 ?rz34
      case hz34 => intro w hSw; go_simp; try with_reducible rfl
      try simp only [Act.put, List.setIfInBounds_toArray, List.set_cons_zero, List.set_cons_succ]
      refine wpAnyM_pick (i := 34) (some 76) (v := ?vz35) rfl rfl (by kernel_rfl) (by kernel_rfl) (by kernel_rfl) (by kernel_rfl) (fun _ _ _ h => h) (Or.inl ⟨by rfl, ?hz35⟩) HC0 ?rz35
      case hz35 => intro w hSw; go_simp; try with_reducible rfl
      try simp only [Act.put, List.setIfInBounds_toArray, List.set_cons_zero, List.set_cons_succ]
      refine wpAnyM_pick (i := 35) (some 77) (v := ?vz36) rfl rfl (by kernel_rfl) (by kernel_rfl) (by kernel_rfl) (by kernel_rfl) (fun _ _ _ h => h) (Or.inl ⟨by rfl, ?hz36⟩) HC0 ?rz36
      case hz36 => intro w hSw; go_simp; try with_reducible rfl
      try simp only [Act.put, List.setIfInBounds_toArray, List.set_cons_zero, List.set_cons_succ]
      refine wpAnyM_pick (i := 36) (some 78) (v := ?vz37) rfl rfl (by kernel_rfl) (by kernel_rfl) (by kernel_rfl) (by kernel_rfl) (fun _ _ _ h => h) (Or.inl ⟨by rfl, ?hz37⟩) HC0 ?rz37
      case hz37 => intro w hSw; go_simp; try with_reducible rfl
      try simp only [Act.put, List.setIfInBounds_toArray, List.set_cons_zero, List.set_cons_succ]
      refine wpAnyM_pick (i := 37) (some 79) (v := ?vz38) rfl rfl (by kernel_rfl) (by kernel_rfl) (by kernel_rfl) (by kernel_rfl) (fun _ _ _ h => h) (Or.inl ⟨by rfl, ?hz38⟩) HC0 ?rz38
      case hz38 => intro w hSw; go_simp; try with_reducible rfl
      try simp only [Act.put, List.setIfInBounds_toArray, List.set_cons_zero, List.set_cons_succ]
      refine wpAnyM_pick (i := 38) (some 80) (v := ?vz39) rfl rfl (by kernel_rfl) (by kernel_rfl) (by kernel_rfl) (by kernel_rfl) (fun _ _ _ h => h) (Or.inl ⟨by rfl, ?hz39⟩) HC0 ?rz39
      case hz39 => intro w hSw; go_simp; try with_reducible rfl
      try simp only [Act.put, List.setIfInBounds_toArray, List.set_cons_zero, List.set_cons_succ]
      refine wpAnyM_pick (i := 39) (some 81) (v := ?vz40) rfl rfl (by kernel_rfl) (by kernel_rfl) (by kernel_rfl) (by kernel_rfl) (fun _ _ _ h => h) (Or.inl ⟨by rfl, ?hz40⟩) HC0 ?rz40
      case hz40 => intro w hSw; go_simp; try with_reducible rfl
      try simp only [Act.put, List.setIfInBounds_toArray, List.set_cons_zero, List.set_cons_succ]
      refine wpAnyM_pick (i := 40) (some 82) (v := ?vz41) rfl rfl (by kernel_rfl) (by kernel_rfl) (by kernel_rfl) (by kernel_rfl) (fun _ _ _ h => h) (Or.inl ⟨by rfl, ?hz41⟩) HC0 ?rz41
      case hz41 => intro w hSw; go_simp; try with_reducible rfl
      try simp only [Act.put, List.setIfInBounds_toArray, List.set_cons_zero, List.set_cons_succ]
      refine wpAnyM_one (i := 41) (by kernel_rfl) rfl (fun K hK => ?_)
      go_simp
      go_at_call 12
      refine (hsm _ HLOW.out).mono ?_
      rintro e w3 ⟨rfl, hb3⟩
      have hX3 := HX1.out.on hb3 HX1.out.lt
      have hY3 := HY1.out.on hb3 HY1.out.lt
      have hB3 := HLOW.out.trans (hb3.mono HLOW.out.size)
      have HX3 := hid hX3
      have HY3 := hid hY3
      have HB3 := hid hB3
      have HC3 : (w3.cell? ⟨w.heap.size, 0, none⟩ = some (.slice (some ⟨g, off, none⟩) ops.length oc) ∧ w3.cell? ⟨w.heap.size + 1, 0, none⟩ = some (.slice (some ⟨g', off', none⟩) ops.length xoc) ∧ w3.cell? ⟨g, off + k * 4, none⟩ = some (.int .i64 ok) ∧ w3.cell? ⟨g, off + k * 4 + 1, none⟩ = some (.string onm) ∧ w3.cell? ⟨g, off + k * 4 + 2, none⟩ = some (.int .i64 oar) ∧ w3.cell? ⟨g, off + k * 4 + 3, none⟩ = some (.slice xa ovv.length xc) ∧ w3.cell? ⟨g', off' + k * 4, none⟩ = some (.int .i64 ok) ∧ w3.cell? ⟨g', off' + k * 4 + 1, none⟩ = some (.string onm) ∧ w3.cell? ⟨g', off' + k * 4 + 2, none⟩ = some (.int .i64 oar) ∧ w3.cell? ⟨g', off' + k * 4 + 3, none⟩ = some (.slice ya ovv.length yc)) := ⟨hX3.cell rfl, hY3.cell rfl, (hb3.cell (p := ⟨g, off + k * 4, none⟩) (Nat.lt_of_lt_of_le hgl HLOW.out.size)).trans HC0.2.2.1, (hb3.cell (p := ⟨g, off + k * 4 + 1, none⟩) (Nat.lt_of_lt_of_le hgl HLOW.out.size)).trans HC0.2.2.2.1, (hb3.cell (p := ⟨g, off + k * 4 + 2, none⟩) (Nat.lt_of_lt_of_le hgl HLOW.out.size)).trans HC0.2.2.2.2.1, (hb3.cell (p := ⟨g, off + k * 4 + 3, none⟩) (Nat.lt_of_lt_of_le hgl HLOW.out.size)).trans HC0.2.2.2.2.2.1, (hb3.cell (p := ⟨g', off' + k * 4, none⟩) (Nat.lt_of_lt_of_le hgl' HLOW.out.size)).trans HC0.2.2.2.2.2.2.1, (hb3.cell (p := ⟨g', off' + k * 4 + 1, none⟩) (Nat.lt_of_lt_of_le hgl' HLOW.out.size)).trans HC0.2.2.2.2.2.2.2.1, (hb3.cell (p := ⟨g', off' + k * 4 + 2, none⟩) (Nat.lt_of_lt_of_le hgl' HLOW.out.size)).trans HC0.2.2.2.2.2.2.2.2.1, (hb3.cell (p := ⟨g', off' + k * 4 + 3, none⟩) (Nat.lt_of_lt_of_le hgl' HLOW.out.size)).trans HC0.2.2.2.2.2.2.2.2.2⟩
      clear hX3 hY3 hB3
      go_wp2_with fail
      refine hK.out _ _ (fun _ => HC3) ?_
      clear hK K
      try simp only [Act.put, List.setIfInBounds_toArray, List.set_cons_zero, List.set_cons_succ]
      refine wpAnyM_pick (i := 42) (some 84) (v := ?vz42) rfl rfl (by kernel_rfl) (by kernel_rfl) (by kernel_rfl) (by kernel_rfl) (fun _ _ _ h => h) (Or.inl ⟨by rfl, ?hz42⟩) HC3 ?rz42
      case hz42 => intro w hSw; go_simp; try with_reducible rfl
      try simp only [Act.put, List.setIfInBounds_toArray, List.set_cons_zero, List.set_cons_succ]
      refine wpAnyM_pick (i := 43) (some 85) (v := ?vz43) rfl rfl (by kernel_rfl) (by kernel_rfl) (by kernel_rfl) (by kernel_rfl) (fun _ _ _ h => h) (Or.inl ⟨by rfl, ?hz43⟩) HC3 ?rz43
      case hz43 => intro w hSw; go_simp; try with_reducible rfl
      try simp only [Act.put, List.setIfInBounds_toArray, List.set_cons_zero, List.set_cons_succ]
      refine wpAnyM_done (by kernel_rfl) ?_ _
      try simp only [Act.put, List.setIfInBounds_toArray, List.set_cons_zero, List.set_cons_succ]
      clear HC0 HC3 HLOW HX1 HY1 hsm
      go_wp2_with fail
      go_roundw
      case rel => exact ⟨k + 1, by omega, by go_num, HX3, HY3, HB3⟩
      case measure => simp [intOf]; omega
    · have hki : ¬ (k : Int) < (ops.length : Int) := by omega
      go_wp2_with fail
      go_ret
      exact ⟨rfl, HBr.out⟩

theorem quiet_sum {P : Program} {f : FuncId} {args : Array Value} {w : World} {a n : Nat} {v : Value} (h : Calls P f args (w.drewN (a + n)) fun e w' => e = .returned v ∧ w' = w.drewN (a + n)) : Calls P f args (w.drewN (a + n)) fun e w'' => e = .returned v ∧ ∃ m, w'' = w.drewN (a + m) :=
  h.mono fun _ _ ⟨he, hm⟩ => ⟨he, n, hm⟩
def rg1 (o : Opr) (h : Nat) : Option Nat := if opR o = true ∧ o.c.ar.toNat ≤ h then some (h - o.c.ar.toNat + 1) else none
/-- how many values the ops leave, if they are right and lack none -/
def rg : List Opr → Nat → Option Nat
  | [], n => some n
  | o :: r, n => (rg1 o n).bind (rg r)
theorem rg_iff : ∀ (l : List Opr) (n m : Nat), rg l n = some m ↔ (∀ o ∈ l, opR o = true) ∧ cnt l n = some m
  | [], n, m => by simp [rg, cnt]
  | o :: r, n, m => by
    unfold rg cnt rg1
    by_cases h1 : opR o = true
    · by_cases h2 : o.c.ar.toNat ≤ n
      · rw [if_pos ⟨h1, h2⟩, if_pos h2]
        simp only [Option.bind_some, List.mem_cons, forall_eq_or_imp]
        rw [rg_iff r]
        simp [h1]
      · rw [if_neg (fun h => h2 h.2), if_neg h2]
        simp
    · rw [if_neg (fun h => h1 h.1)]
      simp only [Option.bind_none, List.mem_cons, forall_eq_or_imp]
      simp [h1]
theorem rg_take {ops : List Opr} {m h : Nat} {o : Opr} (ho : ops[m]? = some o) : rg (ops.take (m + 1)).reverse h = (rg1 o h).bind (rg (ops.take m).reverse) := by
  rw [List.take_add_one, ho]
  simp only [Option.toList, List.reverse_append, List.reverse_cons, List.reverse_nil, List.nil_append, List.singleton_append, rg]
theorem stR_not {st : Int} {ops : List Opr} {vals : List (List Cl)} {heads : List ByteArray} (h : rg ops.reverse vals.length = none) : stR st ops vals heads = false := by
  cases hs : stR st ops vals heads with
  | false => rfl
  | true =>
    unfold stR at hs
    simp only [Bool.and_eq_true, decide_eq_true_eq, List.all_eq_true] at hs
    have := (rg_iff ops.reverse vals.length 1).2 ⟨fun o ho => hs.1.1.1.1.2 o (List.mem_reverse.1 ho), hs.2⟩
    rw [h] at this
    cases this
theorem stR_val {st : Int} {ops : List Opr} {vals : List (List Cl)} {heads : List ByteArray} {v : List Cl} (hv : v ∈ vals) (h : grd v = false) : stR st ops vals heads = false := by
  cases hs : stR st ops vals heads with
  | false => rfl
  | true =>
    unfold stR at hs
    simp only [Bool.and_eq_true, decide_eq_true_eq, List.all_eq_true] at hs
    have := hs.1.1.1.2 v hv
    rw [h] at this
    cases this
theorem stR_sym {st : Int} {ops : List Opr} {vals : List (List Cl)} {heads : List ByteArray} {x : ByteArray} (hx : x ∈ heads) (h : kind x.data.toList ≠ 1) : stR st ops vals heads = false := by
  cases hs : stR st ops vals heads with
  | false => rfl
  | true =>
    unfold stR at hs
    simp only [Bool.and_eq_true, decide_eq_true_eq, List.all_eq_true] at hs
    have := hs.1.1.2 x hx
    unfold symB at this
    simp only [decide_eq_true_eq] at this
    exact absurd this h
theorem stR_ris {st : Int} {ops : List Opr} {vals : List (List Cl)} {heads : List ByteArray} {i : Nat} {x y : ByteArray} (hx : heads[i]? = some x) (hy : heads[i + 1]? = some y) (h : ¬ lt x y = true) : stR st ops vals heads = false := by
  cases hs : stR st ops vals heads with
  | false => rfl
  | true =>
    unfold stR at hs
    simp only [Bool.and_eq_true, decide_eq_true_eq, List.all_eq_true] at hs
    exact absurd ((ris_iff heads).1 hs.1.2 i x y hx hy) h
theorem stR_all {st : Int} {ops : List Opr} {vals : List (List Cl)} {heads : List ByteArray} {h : Nat} (h1 : rg ops.reverse vals.length = some h) (h2 : ∀ v ∈ vals, grd v = true) (h3 : ∀ x ∈ heads, kind x.data.toList = 1) (h4 : ∀ i x y, heads[i]? = some x → heads[i + 1]? = some y → lt x y = true) : stR st ops vals heads = (decide (h = 1) && decide (0 ≤ st)) := by
  obtain ⟨a, b⟩ := (rg_iff _ _ _).1 h1
  have e1 : ops.all opR = true := List.all_eq_true.2 fun o ho => a o (List.mem_reverse.2 ho)
  have e2 : vals.all grd = true := List.all_eq_true.2 h2
  have e3 : heads.all symB = true := List.all_eq_true.2 fun x hx => by unfold symB; exact decide_eq_true (h3 x hx)
  have e4 : ris heads = true := (ris_iff heads).2 h4
  unfold stR
  rw [e1, e2, e3, e4, b]
  have e5 : decide (some h = some 1) = decide (h = 1) := by simp
  rw [e5]
  cases decide (0 ≤ st) <;> cases decide (h = 1) <;> rfl

end Go.Proofs.Ytbdlokijednoiaa
