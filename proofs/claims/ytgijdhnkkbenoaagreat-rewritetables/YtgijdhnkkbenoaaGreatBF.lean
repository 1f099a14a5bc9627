/-
  What the document's Right answers of a state.
-/
import Derived.Test.YtgijdhnkkbenoaaGreatBD
import Derived.Deep.CutRange
namespace Go.Proofs.YtgijdhnkkbenoaaGreat
open Go.RowKit
set_option linter.unusedVariables false
set_option linter.unusedSimpArgs false
set_option maxRecDepth 100000
set_option maxHeartbeats 8000000 in

theorem rsame_any (w : World) (ov vv hv ov' vv' hv' : Value) (ops : List Opr) (vals : List (List Cl)) (st : Int) (heads : List ByteArray) (ho : LiesO w ov ops) (hvl : LiesT w vv vals) (hh : LiesS w hv heads) (ho' : LiesO w ov' ops) (hvl' : LiesT w vv' vals) (hh' : LiesS w hv' heads) :
    Calls Tryz.prog 13 #[.agg #[ov, vv, .int .i64 st, hv], .agg #[ov', vv', .int .i64 st, hv']] w fun e w' => e = .returned (.bool true) ∧ Below w.heap.size w w' := by
  have HO : Hid (LiesO w ov ops) := ho
  have HO' : Hid (LiesO w ov' ops) := ho'
  have hs1 : ∀ w1, Below w.heap.size w w1 → _ := fun w1 hb => same3_any w1 hv hv' heads heads (hh.on hb) (hh'.on hb)
  rw [decide_eq_true (rfl : heads = heads)] at hs1
  have hvm : vals.length ≤ 9223372036854775807 := by obtain ⟨_, _, _, q1, q2, _⟩ := hvl; unfold maxLen at q2; omega
  have hs2 : ∀ w1, Below w.heap.size w w1 → _ := fun w1 hb => sameAll_any w1 vv vv' vals vals (hvl.on hb) (hvl'.on hb) hvm
  rw [decide_eq_true (rfl : vals = vals)] at hs2
  obtain ⟨oa, oc, rfl, ol1, ol2, _⟩ := ho
  obtain ⟨va, vc, rfl, _⟩ := hvl
  obtain ⟨ha, hc, rfl, _⟩ := hh
  obtain ⟨xoa, xoc, rfl, _⟩ := ho'
  obtain ⟨xva, xvc, rfl, _⟩ := hvl'
  obtain ⟨xha, xhc, rfl, _⟩ := hh'
  unfold maxLen at ol2
  have HB0 : Hid (Below w.heap.size w ((w.alloc (.cells #[.slice oa ops.length oc, .slice va vals.length vc, .int .i64 st, .slice ha heads.length hc] 28)).alloc (.cells #[.slice xoa ops.length xoc, .slice xva vals.length xvc, .int .i64 st, .slice xha heads.length xhc] 28))) := ((Below.refl _ w).alloc (Nat.le_refl _) _).alloc (by simp) _
  have HX : Hid (Blk ((w.alloc (.cells #[.slice oa ops.length oc, .slice va vals.length vc, .int .i64 st, .slice ha heads.length hc] 28)).alloc (.cells #[.slice xoa ops.length xoc, .slice xva vals.length xvc, .int .i64 st, .slice xha heads.length xhc] 28)) w.heap.size #[.slice oa ops.length oc, .slice va vals.length vc, .int .i64 st, .slice ha heads.length hc] 28) := (Blk.made w _ 28).alloc _
  have HY : Hid (Blk ((w.alloc (.cells #[.slice oa ops.length oc, .slice va vals.length vc, .int .i64 st, .slice ha heads.length hc] 28)).alloc (.cells #[.slice xoa ops.length xoc, .slice xva vals.length xvc, .int .i64 st, .slice xha heads.length xhc] 28)) (w.heap.size + 1) #[.slice xoa ops.length xoc, .slice xva vals.length xvc, .int .i64 st, .slice xha heads.length xhc] 28) := Blk.madeAt _ _ _ (by simp)
  go_enter Tryz.func13, Tryz.ntmps13
  go_wp2_with (first | (go_at_call 34; refine (hs1 _ HB0.out).mono ?_; rintro e w1 ⟨rfl, hb1⟩; have hB1 := HB0.out.trans (hb1.mono HB0.out.size); have hX1 := HX.out.on hb1 HX.out.lt; have hY1 := HY.out.on hb1 HY.out.lt; have x1 := hX1.cell (i := 1) rfl; have y1 := hY1.cell (i := 1) rfl; clear hs1) | (go_at_call 35; refine (hs2 _ hB1).mono ?_; rintro e w2 ⟨rfl, hb2⟩; have hB2 := hB1.trans (hb2.mono hB1.size); have hX2 := hX1.on hb2 hX1.lt; have hY2 := hY1.on hb2 hY1.lt; have x0 := hX2.cell (i := 0) rfl; clear hs2))
  have HB2 := hid hB2
  have HX2 := hid hX2
  have HY2 := hid hY2
  clear HB0 HX HY hB1 hX1 hY1 x1 y1 x0 hb1 hb2 hB2 hX2 hY2
  go_loopw [39] (fun i wr => ∃ k : Nat, k ≤ ops.length ∧ i = .int .i64 (k : Nat) ∧ Hid (Blk wr w.heap.size #[.slice oa ops.length oc, .slice va vals.length vc, .int .i64 st, .slice ha heads.length hc] 28) ∧ Hid (Blk wr (w.heap.size + 1) #[.slice xoa ops.length xoc, .slice xva vals.length xvc, .int .i64 st, .slice xha heads.length xhc] 28) ∧ Hid (Below w.heap.size w wr)) (fun i _ => ops.length - (intOf i).toNat)
  case atStart => exact ⟨0, Nat.zero_le _, rfl, HX2, HY2, HB2⟩
  case round =>
    obtain ⟨k, hk, rfl, HXr, HYr, HBr⟩ := hrel
    clear HX2 HY2 HB2
    by_cases hlt : k < ops.length
    · obtain ⟨o, ho⟩ : ∃ o, ops[k]? = some o := ⟨ops[k], List.getElem?_eq_getElem hlt⟩
      obtain ⟨g, off, x, hoa, hgl, c0, c1, c2, c3, hlx⟩ := HO.out.at ho
      obtain ⟨g', off', x', hoa', hgl', c0', c1', c2', c3', hlx'⟩ := HO'.out.at ho
      subst hoa hoa'
      have hlow : Below w.heap.size w wr.drew := HBr.out.drew
      have d0 := (hlow.cell (p := ⟨g, off + k * 4, none⟩) hgl).trans c0
      have d1 := (hlow.cell (p := ⟨g, off + k * 4 + 1, none⟩) hgl).trans c1
      have d2 := (hlow.cell (p := ⟨g, off + k * 4 + 2, none⟩) hgl).trans c2
      have d3 := (hlow.cell (p := ⟨g, off + k * 4 + 3, none⟩) hgl).trans c3
      have d0' := (hlow.cell (p := ⟨g', off' + k * 4, none⟩) hgl').trans c0'
      have d1' := (hlow.cell (p := ⟨g', off' + k * 4 + 1, none⟩) hgl').trans c1'
      have d2' := (hlow.cell (p := ⟨g', off' + k * 4 + 2, none⟩) hgl').trans c2'
      have d3' := (hlow.cell (p := ⟨g', off' + k * 4 + 3, none⟩) hgl').trans c3'
      have hX : Blk wr.drew w.heap.size #[.slice (some ⟨g, off, none⟩) ops.length oc, .slice va vals.length vc, .int .i64 st, .slice ha heads.length hc] 28 := HXr.out
      have hY : Blk wr.drew (w.heap.size + 1) #[.slice (some ⟨g', off', none⟩) ops.length xoc, .slice xva vals.length xvc, .int .i64 st, .slice xha heads.length xhc] 28 := HYr.out
      have hki : (k : Int) < (ops.length : Int) := by omega
      obtain ⟨ok, ⟨onm, oar⟩, ovv⟩ := o
      simp only at d0 d1 d2 d3 d0' d1' d2' d3' hlx hlx'
      have hsm : ∀ w2, Below w.heap.size w w2 → _ := fun w2 hb => same_any w2 x x' ovv ovv (hlx.on hb) (hlx'.on hb)
      rw [decide_eq_true (rfl : ovv = ovv)] at hsm
      obtain ⟨xa, xc, rfl, _⟩ := hlx
      obtain ⟨ya, yc, rfl, _⟩ := hlx'
      have HC0 : (wr.drew.cell? ⟨w.heap.size, 0, none⟩ = some (.slice (some ⟨g, off, none⟩) ops.length oc) ∧ wr.drew.cell? ⟨w.heap.size + 1, 0, none⟩ = some (.slice (some ⟨g', off', none⟩) ops.length xoc) ∧ wr.drew.cell? ⟨g, off + k * 4, none⟩ = some (.int .i64 ok) ∧ wr.drew.cell? ⟨g, off + k * 4 + 1, none⟩ = some (.string onm) ∧ wr.drew.cell? ⟨g, off + k * 4 + 2, none⟩ = some (.int .i64 oar) ∧ wr.drew.cell? ⟨g, off + k * 4 + 3, none⟩ = some (.slice xa ovv.length xc) ∧ wr.drew.cell? ⟨g', off' + k * 4, none⟩ = some (.int .i64 ok) ∧ wr.drew.cell? ⟨g', off' + k * 4 + 1, none⟩ = some (.string onm) ∧ wr.drew.cell? ⟨g', off' + k * 4 + 2, none⟩ = some (.int .i64 oar) ∧ wr.drew.cell? ⟨g', off' + k * 4 + 3, none⟩ = some (.slice ya ovv.length yc)) := ⟨hX.cell rfl, hY.cell rfl, d0, d1, d2, d3, d0', d1', d2', d3'⟩
      have HLOW := hid hlow
      have HX1 := hid hX
      have HY1 := hid hY
      clear c0 c1 c2 c3 c0' c1' c2' c3' ho hX hY d0 d1 d2 d3 d0' d1' d2' d3' hlow HO HO'
      go_wp2_with fail
      refine wp_region_m (fun w' => (w'.cell? ⟨w.heap.size, 0, none⟩ = some (.slice (some ⟨g, off, none⟩) ops.length oc) ∧ w'.cell? ⟨w.heap.size + 1, 0, none⟩ = some (.slice (some ⟨g', off', none⟩) ops.length xoc) ∧ w'.cell? ⟨g, off + k * 4, none⟩ = some (.int .i64 ok) ∧ w'.cell? ⟨g, off + k * 4 + 1, none⟩ = some (.string onm) ∧ w'.cell? ⟨g, off + k * 4 + 2, none⟩ = some (.int .i64 oar) ∧ w'.cell? ⟨g, off + k * 4 + 3, none⟩ = some (.slice xa ovv.length xc) ∧ w'.cell? ⟨g', off' + k * 4, none⟩ = some (.int .i64 ok) ∧ w'.cell? ⟨g', off' + k * 4 + 1, none⟩ = some (.string onm) ∧ w'.cell? ⟨g', off' + k * 4 + 2, none⟩ = some (.int .i64 oar) ∧ w'.cell? ⟨g', off' + k * 4 + 3, none⟩ = some (.slice ya ovv.length yc))) 100 (by kernel_rfl) ?_
      refine wpAnyM_pick (i := 0) (some 42) (v := ?vz1) rfl rfl (by kernel_rfl) (by kernel_rfl) (by kernel_rfl) (by kernel_rfl) (fun _ _ _ h => h) (Or.inl ⟨by rfl, ?hz1⟩) HC0 ?rz1
      case hz1 => intro w hSw; go_simp; try with_reducible rfl
      try simp only [Act.put, List.setIfInBounds_toArray, List.set_cons_zero, List.set_cons_succ]
      refine wpAnyM_pick (i := 1) (some 43) (v := ?vz2) rfl rfl (by kernel_rfl) (by kernel_rfl) (by kernel_rfl) (by kernel_rfl) (fun _ _ _ h => h) (Or.inl ⟨by rfl, ?hz2⟩) HC0 ?rz2
      case hz2 => intro w hSw; go_simp; try with_reducible rfl
      try simp only [Act.put, List.setIfInBounds_toArray, List.set_cons_zero, List.set_cons_succ]
      refine wpAnyM_pick (i := 2) (some 44) (v := ?vz3) rfl rfl (by kernel_rfl) (by kernel_rfl) (by kernel_rfl) (by kernel_rfl) (fun _ _ _ h => h) (Or.inl ⟨by rfl, ?hz3⟩) HC0 ?rz3
      case hz3 => intro w hSw; go_simp; try with_reducible rfl
      try simp only [Act.put, List.setIfInBounds_toArray, List.set_cons_zero, List.set_cons_succ]
      refine wpAnyM_pick (i := 3) (some 45) (v := ?vz4) rfl rfl (by kernel_rfl) (by kernel_rfl) (by kernel_rfl) (by kernel_rfl) (fun _ _ _ h => h) (Or.inl ⟨by rfl, ?hz4⟩) HC0 ?rz4
      case hz4 => intro w hSw; go_simp; try with_reducible rfl
      try simp only [Act.put, List.setIfInBounds_toArray, List.set_cons_zero, List.set_cons_succ]
      refine wpAnyM_pick (i := 4) (some 46) (v := ?vz5) rfl rfl (by kernel_rfl) (by kernel_rfl) (by kernel_rfl) (by kernel_rfl) (fun _ _ _ h => h) (Or.inl ⟨by rfl, ?hz5⟩) HC0 ?rz5
      case hz5 => intro w hSw; go_simp; try with_reducible rfl
      try simp only [Act.put, List.setIfInBounds_toArray, List.set_cons_zero, List.set_cons_succ]
      refine wpAnyM_pick (i := 5) (some 47) (v := ?vz6) rfl rfl (by kernel_rfl) (by kernel_rfl) (by kernel_rfl) (by kernel_rfl) (fun _ _ _ h => h) (Or.inl ⟨by rfl, ?hz6⟩) HC0 ?rz6
      case hz6 => intro w hSw; go_simp; try with_reducible rfl
      try simp only [Act.put, List.setIfInBounds_toArray, List.set_cons_zero, List.set_cons_succ]
      refine wpAnyM_pick (i := 6) (some 48) (v := ?vz7) rfl rfl (by kernel_rfl) (by kernel_rfl) (by kernel_rfl) (by kernel_rfl) (fun _ _ _ h => h) (Or.inl ⟨by rfl, ?hz7⟩) HC0 ?rz7
      case hz7 => intro w hSw; go_simp; try with_reducible rfl
      try simp only [Act.put, List.setIfInBounds_toArray, List.set_cons_zero, List.set_cons_succ]
      refine wpAnyM_pick (i := 7) (some 49) (v := ?vz8) rfl rfl (by kernel_rfl) (by kernel_rfl) (by kernel_rfl) (by kernel_rfl) (fun _ _ _ h => h) (Or.inl ⟨by rfl, ?hz8⟩) HC0 ?rz8
      case hz8 => intro w hSw; go_simp; try with_reducible rfl
      try simp only [Act.put, List.setIfInBounds_toArray, List.set_cons_zero, List.set_cons_succ]
      refine wpAnyM_pick (i := 8) (some 50) (v := ?vz9) rfl rfl (by kernel_rfl) (by kernel_rfl) (by kernel_rfl) (by kernel_rfl) (fun _ _ _ h => h) (Or.inl ⟨by rfl, ?hz9⟩) HC0 ?rz9
      case hz9 => intro w hSw; go_simp; try with_reducible rfl
      try simp only [Act.put, List.setIfInBounds_toArray, List.set_cons_zero, List.set_cons_succ]
      refine wpAnyM_pick (i := 9) (some 51) (v := ?vz10) rfl rfl (by kernel_rfl) (by kernel_rfl) (by kernel_rfl) (by kernel_rfl) (fun _ _ _ h => h) (Or.inl ⟨by rfl, ?hz10⟩) HC0 ?rz10
      case hz10 => intro w hSw; go_simp; try with_reducible rfl
      try simp only [Act.put, List.setIfInBounds_toArray, List.set_cons_zero, List.set_cons_succ]
      refine wpAnyM_pick (i := 10) (some 52) (v := ?vz11) rfl rfl (by kernel_rfl) (by kernel_rfl) (by kernel_rfl) (by kernel_rfl) (fun _ _ _ h => h) (Or.inl ⟨by rfl, ?hz11⟩) HC0 ?rz11
      case hz11 => intro w hSw; go_simp; try with_reducible rfl
      try simp only [Act.put, List.setIfInBounds_toArray, List.set_cons_zero, List.set_cons_succ]
      refine wpAnyM_pick (i := 11) (some 53) (v := ?vz12) rfl rfl (by kernel_rfl) (by kernel_rfl) (by kernel_rfl) (by kernel_rfl) (fun _ _ _ h => h) (Or.inl ⟨by rfl, ?hz12⟩) HC0 ?rz12
      case hz12 => intro w hSw; go_simp; try with_reducible rfl
      try simp only [Act.put, List.setIfInBounds_toArray, List.set_cons_zero, List.set_cons_succ]
      refine wpAnyM_pick (i := 12) (some 54) (v := ?vz13) rfl rfl (by kernel_rfl) (by kernel_rfl) (by kernel_rfl) (by kernel_rfl) (fun _ _ _ h => h) (Or.inl ⟨by rfl, ?hz13⟩) HC0 ?rz13
      case hz13 => intro w hSw; go_simp; try with_reducible rfl
      try simp only [Act.put, List.setIfInBounds_toArray, List.set_cons_zero, List.set_cons_succ]
      refine wpAnyM_pick (i := 13) (some 55) (v := ?vz14) rfl rfl (by kernel_rfl) (by kernel_rfl) (by kernel_rfl) (by kernel_rfl) (fun _ _ _ h => h) (Or.inl ⟨by rfl, ?hz14⟩) HC0 ?rz14
      case hz14 => intro w hSw; go_simp; try with_reducible rfl
      try simp only [Act.put, List.setIfInBounds_toArray, List.set_cons_zero, List.set_cons_succ]
      refine wpAnyM_pick (i := 14) (some 56) (v := ?vz15) rfl rfl (by kernel_rfl) (by kernel_rfl) (by kernel_rfl) (by kernel_rfl) (fun _ _ _ h => h) (Or.inl ⟨by rfl, ?hz15⟩) HC0 ?rz15
      case hz15 => intro w hSw; go_simp; try with_reducible rfl
      try simp only [Act.put, List.setIfInBounds_toArray, List.set_cons_zero, List.set_cons_succ]
      refine wpAnyM_pick (i := 15) (some 57) (v := ?vz16) rfl rfl (by kernel_rfl) (by kernel_rfl) (by kernel_rfl) (by kernel_rfl) (fun _ _ _ h => h) (Or.inl ⟨by rfl, ?hz16⟩) HC0 ?rz16
      case hz16 => intro w hSw; go_simp; try with_reducible rfl
      try simp only [Act.put, List.setIfInBounds_toArray, List.set_cons_zero, List.set_cons_succ]
      refine wpAnyM_pick (i := 16) (some 58) (v := ?vz17) rfl rfl (by kernel_rfl) (by kernel_rfl) (by kernel_rfl) (by kernel_rfl) (fun _ _ _ h => h) (Or.inl ⟨by rfl, ?hz17⟩) HC0 ?rz17
      case hz17 => intro w hSw; go_simp; try with_reducible rfl
      try simp only [Act.put, List.setIfInBounds_toArray, List.set_cons_zero, List.set_cons_succ]
      refine wpAnyM_pick (i := 17) (some 59) (v := ?vz18) rfl rfl (by kernel_rfl) (by kernel_rfl) (by kernel_rfl) (by kernel_rfl) (fun _ _ _ h => h) (Or.inl ⟨by rfl, ?hz18⟩) HC0 ?rz18
      case hz18 => intro w hSw; go_simp; try with_reducible rfl
      try simp only [Act.put, List.setIfInBounds_toArray, List.set_cons_zero, List.set_cons_succ]
      refine wpAnyM_pick (i := 18) (some 60) (v := ?vz19) rfl rfl (by kernel_rfl) (by kernel_rfl) (by kernel_rfl) (by kernel_rfl) (fun _ _ _ h => h) (Or.inl ⟨by rfl, ?hz19⟩) HC0 ?rz19
      case hz19 => intro w hSw; go_simp; try with_reducible rfl
      try simp only [Act.put, List.setIfInBounds_toArray, List.set_cons_zero, List.set_cons_succ]
      refine wpAnyM_pick (i := 19) (some 61) (v := ?vz20) rfl rfl (by kernel_rfl) (by kernel_rfl) (by kernel_rfl) (by kernel_rfl) (fun _ _ _ h => h) (Or.inl ⟨by rfl, ?hz20⟩) HC0 ?rz20
      case hz20 => intro w hSw; go_simp; try with_reducible rfl
      try simp only [Act.put, List.setIfInBounds_toArray, List.set_cons_zero, List.set_cons_succ]
      refine wpAnyM_pick (i := 20) (some 62) (v := ?vz21) rfl rfl (by kernel_rfl) (by kernel_rfl) (by kernel_rfl) (by kernel_rfl) (fun _ _ _ h => h) (Or.inl ⟨by rfl, ?hz21⟩) HC0 ?rz21
      case hz21 => intro w hSw; go_simp; try with_reducible rfl
      try simp only [Act.put, List.setIfInBounds_toArray, List.set_cons_zero, List.set_cons_succ]
      refine wpAnyM_pick (i := 21) (some 63) (v := ?vz22) rfl rfl (by kernel_rfl) (by kernel_rfl) (by kernel_rfl) (by kernel_rfl) (fun _ _ _ h => h) (Or.inl ⟨by rfl, ?hz22⟩) HC0 ?rz22
      case hz22 => intro w hSw; go_simp; try with_reducible rfl
      try simp only [Act.put, List.setIfInBounds_toArray, List.set_cons_zero, List.set_cons_succ]
      refine wpAnyM_pick (i := 22) (some 64) (v := ?vz23) rfl rfl (by kernel_rfl) (by kernel_rfl) (by kernel_rfl) (by kernel_rfl) (fun _ _ _ h => h) (Or.inl ⟨by rfl, ?hz23⟩) HC0 ?rz23
      case hz23 => intro w hSw; go_simp; try with_reducible rfl
      try simp only [Act.put, List.setIfInBounds_toArray, List.set_cons_zero, List.set_cons_succ]
      refine wpAnyM_pick (i := 23) (some 65) (v := ?vz24) rfl rfl (by kernel_rfl) (by kernel_rfl) (by kernel_rfl) (by kernel_rfl) (fun _ _ _ h => h) (Or.inl ⟨by rfl, ?hz24⟩) HC0 ?rz24
      case hz24 => intro w hSw; go_simp; try with_reducible rfl
      try simp only [Act.put, List.setIfInBounds_toArray, List.set_cons_zero, List.set_cons_succ]
      refine wpAnyM_pick (i := 24) (some 66) (v := ?vz25) rfl rfl (by kernel_rfl) (by kernel_rfl) (by kernel_rfl) (by kernel_rfl) (fun _ _ _ h => h) (Or.inl ⟨by rfl, ?hz25⟩) HC0 ?rz25
      case hz25 => intro w hSw; go_simp; try with_reducible rfl
      try simp only [Act.put, List.setIfInBounds_toArray, List.set_cons_zero, List.set_cons_succ]
      refine wpAnyM_pick (i := 25) (some 67) (v := ?vz26) rfl rfl (by kernel_rfl) (by kernel_rfl) (by kernel_rfl) (by kernel_rfl) (fun _ _ _ h => h) (Or.inl ⟨by rfl, ?hz26⟩) HC0 ?rz26
      case hz26 => intro w hSw; go_simp; try with_reducible rfl
      try simp only [Act.put, List.setIfInBounds_toArray, List.set_cons_zero, List.set_cons_succ]
      refine wpAnyM_pick (i := 26) (some 68) (v := ?vz27) rfl rfl (by kernel_rfl) (by kernel_rfl) (by kernel_rfl) (by kernel_rfl) (fun _ _ _ h => h) (Or.inl ⟨by rfl, ?hz27⟩) HC0 ?rz27
      case hz27 => intro w hSw; go_simp; try with_reducible rfl
      try simp only [Act.put, List.setIfInBounds_toArray, List.set_cons_zero, List.set_cons_succ]
      refine wpAnyM_pick (i := 27) (some 69) (v := ?vz28) rfl rfl (by kernel_rfl) (by kernel_rfl) (by kernel_rfl) (by kernel_rfl) (fun _ _ _ h => h) (Or.inl ⟨by rfl, ?hz28⟩) HC0 ?rz28
      case hz28 => intro w hSw; go_simp; try with_reducible rfl
      try simp only [Act.put, List.setIfInBounds_toArray, List.set_cons_zero, List.set_cons_succ]
      refine wpAnyM_pick (i := 28) (some 70) (v := ?vz29) rfl rfl (by kernel_rfl) (by kernel_rfl) (by kernel_rfl) (by kernel_rfl) (fun _ _ _ h => h) (Or.inl ⟨by rfl, ?hz29⟩) HC0 ?rz29
      case hz29 => intro w hSw; go_simp; try with_reducible rfl
      try simp only [Act.put, List.setIfInBounds_toArray, List.set_cons_zero, List.set_cons_succ]
      refine wpAnyM_pick (i := 29) (some 71) (v := ?vz30) rfl rfl (by kernel_rfl) (by kernel_rfl) (by kernel_rfl) (by kernel_rfl) (fun _ _ _ h => h) (Or.inl ⟨by rfl, ?hz30⟩) HC0 ?rz30
      case hz30 => intro w hSw; go_simp; try with_reducible rfl
      try simp only [Act.put, List.setIfInBounds_toArray, List.set_cons_zero, List.set_cons_succ]
      refine wpAnyM_pick (i := 30) (some 72) (v := ?vz31) rfl rfl (by kernel_rfl) (by kernel_rfl) (by kernel_rfl) (by kernel_rfl) (fun _ _ _ h => h) (Or.inl ⟨by rfl, ?hz31⟩) HC0 ?rz31
      case hz31 => intro w hSw; go_simp; try with_reducible rfl
      try simp only [Act.put, List.setIfInBounds_toArray, List.set_cons_zero, List.set_cons_succ]
      refine wpAnyM_pick (i := 31) (some 73) (v := ?vz32) rfl rfl (by kernel_rfl) (by kernel_rfl) (by kernel_rfl) (by kernel_rfl) (fun _ _ _ h => h) (Or.inl ⟨by rfl, ?hz32⟩) HC0 ?rz32
      case hz32 => intro w hSw; go_simp; try with_reducible rfl
      try simp only [Act.put, List.setIfInBounds_toArray, List.set_cons_zero, List.set_cons_succ]
      refine wpAnyM_pick (i := 32) (some 74) (v := ?vz33) rfl rfl (by kernel_rfl) (by kernel_rfl) (by kernel_rfl) (by kernel_rfl) (fun _ _ _ h => h) (Or.inl ⟨by rfl, ?hz33⟩) HC0 ?rz33
      case hz33 => intro w hSw; go_simp; try with_reducible rfl
      try simp only [Act.put, List.setIfInBounds_toArray, List.set_cons_zero, List.set_cons_succ]
      refine wpAnyM_pick (i := 33) (some 75) (v := ?vz34) rfl rfl (by kernel_rfl) (by kernel_rfl) (by kernel_rfl) (by kernel_rfl) (fun _ _ _ h => h) (Or.inl ⟨by rfl, ?hz34⟩) HC0 ?rz34
      case hz34 => intro w hSw; go_simp; try with_reducible rfl
      try simp only [Act.put, List.setIfInBounds_toArray, List.set_cons_zero, List.set_cons_succ]
      refine wpAnyM_pick (i := 34) (some 76) (v := ?vz35) rfl rfl (by kernel_rfl) (by kernel_rfl) (by kernel_rfl) (by kernel_rfl) (fun _ _ _ h => h) (Or.inl ⟨by rfl, ?hz35⟩) HC0 ?rz35
      case hz35 => intro w hSw; go_simp; try with_reducible rfl
      try simp only [Act.put, List.setIfInBounds_toArray, List.set_cons_zero, List.set_cons_succ]
      refine wpAnyM_pick (i := 35) (some 77) (v := ?vz36) rfl rfl (by kernel_rfl) (by kernel_rfl) (by kernel_rfl) (by kernel_rfl) (fun _ _ _ h => h) (Or.inl ⟨by rfl, ?hz36⟩) HC0 ?rz36
      case hz36 => intro w hSw; go_simp; try with_reducible rfl
      try simp only [Act.put, List.setIfInBounds_toArray, List.set_cons_zero, List.set_cons_succ]
      refine wpAnyM_pick (i := 36) (some 78) (v := ?vz37) rfl rfl (by kernel_rfl) (by kernel_rfl) (by kernel_rfl) (by kernel_rfl) (fun _ _ _ h => h) (Or.inl ⟨by rfl, ?hz37⟩) HC0 ?rz37
      case hz37 => intro w hSw; go_simp; try with_reducible rfl
      try simp only [Act.put, List.setIfInBounds_toArray, List.set_cons_zero, List.set_cons_succ]
      refine wpAnyM_pick (i := 37) (some 79) (v := ?vz38) rfl rfl (by kernel_rfl) (by kernel_rfl) (by kernel_rfl) (by kernel_rfl) (fun _ _ _ h => h) (Or.inl ⟨by rfl, ?hz38⟩) HC0 ?rz38
      case hz38 => intro w hSw; go_simp; try with_reducible rfl
      try simp only [Act.put, List.setIfInBounds_toArray, List.set_cons_zero, List.set_cons_succ]
      refine wpAnyM_pick (i := 38) (some 80) (v := ?vz39) rfl rfl (by kernel_rfl) (by kernel_rfl) (by kernel_rfl) (by kernel_rfl) (fun _ _ _ h => h) (Or.inl ⟨by rfl, ?hz39⟩) HC0 ?rz39
      case hz39 => intro w hSw; go_simp; try with_reducible rfl
      try simp only [Act.put, List.setIfInBounds_toArray, List.set_cons_zero, List.set_cons_succ]
      refine wpAnyM_pick (i := 39) (some 81) (v := ?vz40) rfl rfl (by kernel_rfl) (by kernel_rfl) (by kernel_rfl) (by kernel_rfl) (fun _ _ _ h => h) (Or.inl ⟨by rfl, ?hz40⟩) HC0 ?rz40
      case hz40 => intro w hSw; go_simp; try with_reducible rfl
      try simp only [Act.put, List.setIfInBounds_toArray, List.set_cons_zero, List.set_cons_succ]
      refine wpAnyM_pick (i := 40) (some 82) (v := ?vz41) rfl rfl (by kernel_rfl) (by kernel_rfl) (by kernel_rfl) (by kernel_rfl) (fun _ _ _ h => h) (Or.inl ⟨by rfl, ?hz41⟩) HC0 ?rz41
      case hz41 => intro w hSw; go_simp; try with_reducible rfl
      try simp only [Act.put, List.setIfInBounds_toArray, List.set_cons_zero, List.set_cons_succ]
      refine wpAnyM_one (i := 41) (by kernel_rfl) rfl (fun K hK => ?_)
      go_simp
      go_at_call 25
      refine (hsm _ HLOW.out).mono ?_
      rintro e w3 ⟨rfl, hb3⟩
      have hX3 := HX1.out.on hb3 HX1.out.lt
      have hY3 := HY1.out.on hb3 HY1.out.lt
      have hB3 := HLOW.out.trans (hb3.mono HLOW.out.size)
      have HX3 := hid hX3
      have HY3 := hid hY3
      have HB3 := hid hB3
      have HC3 : (w3.cell? ⟨w.heap.size, 0, none⟩ = some (.slice (some ⟨g, off, none⟩) ops.length oc) ∧ w3.cell? ⟨w.heap.size + 1, 0, none⟩ = some (.slice (some ⟨g', off', none⟩) ops.length xoc) ∧ w3.cell? ⟨g, off + k * 4, none⟩ = some (.int .i64 ok) ∧ w3.cell? ⟨g, off + k * 4 + 1, none⟩ = some (.string onm) ∧ w3.cell? ⟨g, off + k * 4 + 2, none⟩ = some (.int .i64 oar) ∧ w3.cell? ⟨g, off + k * 4 + 3, none⟩ = some (.slice xa ovv.length xc) ∧ w3.cell? ⟨g', off' + k * 4, none⟩ = some (.int .i64 ok) ∧ w3.cell? ⟨g', off' + k * 4 + 1, none⟩ = some (.string onm) ∧ w3.cell? ⟨g', off' + k * 4 + 2, none⟩ = some (.int .i64 oar) ∧ w3.cell? ⟨g', off' + k * 4 + 3, none⟩ = some (.slice ya ovv.length yc)) := ⟨hX3.cell rfl, hY3.cell rfl, (hb3.cell (p := ⟨g, off + k * 4, none⟩) (Nat.lt_of_lt_of_le hgl HLOW.out.size)).trans HC0.2.2.1, (hb3.cell (p := ⟨g, off + k * 4 + 1, none⟩) (Nat.lt_of_lt_of_le hgl HLOW.out.size)).trans HC0.2.2.2.1, (hb3.cell (p := ⟨g, off + k * 4 + 2, none⟩) (Nat.lt_of_lt_of_le hgl HLOW.out.size)).trans HC0.2.2.2.2.1, (hb3.cell (p := ⟨g, off + k * 4 + 3, none⟩) (Nat.lt_of_lt_of_le hgl HLOW.out.size)).trans HC0.2.2.2.2.2.1, (hb3.cell (p := ⟨g', off' + k * 4, none⟩) (Nat.lt_of_lt_of_le hgl' HLOW.out.size)).trans HC0.2.2.2.2.2.2.1, (hb3.cell (p := ⟨g', off' + k * 4 + 1, none⟩) (Nat.lt_of_lt_of_le hgl' HLOW.out.size)).trans HC0.2.2.2.2.2.2.2.1, (hb3.cell (p := ⟨g', off' + k * 4 + 2, none⟩) (Nat.lt_of_lt_of_le hgl' HLOW.out.size)).trans HC0.2.2.2.2.2.2.2.2.1, (hb3.cell (p := ⟨g', off' + k * 4 + 3, none⟩) (Nat.lt_of_lt_of_le hgl' HLOW.out.size)).trans HC0.2.2.2.2.2.2.2.2.2⟩
      clear hX3 hY3 hB3
      go_wp2_with fail
      refine hK.out _ _ (fun _ => HC3) ?_
      clear hK K
      try simp only [Act.put, List.setIfInBounds_toArray, List.set_cons_zero, List.set_cons_succ]
      refine wpAnyM_pick (i := 42) (some 84) (v := ?vz42) rfl rfl (by kernel_rfl) (by kernel_rfl) (by kernel_rfl) (by kernel_rfl) (fun _ _ _ h => h) (Or.inl ⟨by rfl, ?hz42⟩) HC3 ?rz42
      case hz42 => intro w hSw; go_simp; try with_reducible rfl
      try simp only [Act.put, List.setIfInBounds_toArray, List.set_cons_zero, List.set_cons_succ]
      refine wpAnyM_pick (i := 43) (some 85) (v := ?vz43) rfl rfl (by kernel_rfl) (by kernel_rfl) (by kernel_rfl) (by kernel_rfl) (fun _ _ _ h => h) (Or.inl ⟨by rfl, ?hz43⟩) HC3 ?rz43
      case hz43 => intro w hSw; go_simp; try with_reducible rfl
      try simp only [Act.put, List.setIfInBounds_toArray, List.set_cons_zero, List.set_cons_succ]
      refine wpAnyM_done (by kernel_rfl) ?_ _
      try simp only [Act.put, List.setIfInBounds_toArray, List.set_cons_zero, List.set_cons_succ]
      clear HC0 HC3 HLOW HX1 HY1 hsm
      go_wp2_with fail
      go_roundw
      case rel => exact ⟨k + 1, by omega, by go_num, HX3, HY3, HB3⟩
      case measure => simp [intOf]; omega
    · have hki : ¬ (k : Int) < (ops.length : Int) := by omega
      go_wp2_with fail
      go_ret
      exact ⟨rfl, HBr.out⟩

theorem quiet_sum {P : Program} {f : FuncId} {args : Array Value} {w : World} {a n : Nat} {v : Value} (h : Calls P f args (w.drewN (a + n)) fun e w' => e = .returned v ∧ w' = w.drewN (a + n)) : Calls P f args (w.drewN (a + n)) fun e w'' => e = .returned v ∧ ∃ m, w'' = w.drewN (a + m) :=
  h.mono fun _ _ ⟨he, hm⟩ => ⟨he, n, hm⟩
def rg1 (o : Opr) (h : Nat) : Option Nat := if opR o = true ∧ o.c.ar.toNat ≤ h then some (h - o.c.ar.toNat + 1) else none
/-- how many values the ops leave, if they are right and lack none -/
def rg : List Opr → Nat → Option Nat
  | [], n => some n
  | o :: r, n => (rg1 o n).bind (rg r)
theorem rg_iff : ∀ (l : List Opr) (n m : Nat), rg l n = some m ↔ (∀ o ∈ l, opR o = true) ∧ cnt l n = some m
  | [], n, m => by simp [rg, cnt]
  | o :: r, n, m => by
    unfold rg cnt rg1
    by_cases h1 : opR o = true
    · by_cases h2 : o.c.ar.toNat ≤ n
      · rw [if_pos ⟨h1, h2⟩, if_pos h2]
        simp only [Option.bind_some, List.mem_cons, forall_eq_or_imp]
        rw [rg_iff r]
        simp [h1]
      · rw [if_neg (fun h => h2 h.2), if_neg h2]
        simp
    · rw [if_neg (fun h => h1 h.1)]
      simp only [Option.bind_none, List.mem_cons, forall_eq_or_imp]
      simp [h1]
theorem rg_take {ops : List Opr} {m h : Nat} {o : Opr} (ho : ops[m]? = some o) : rg (ops.take (m + 1)).reverse h = (rg1 o h).bind (rg (ops.take m).reverse) := by
  rw [List.take_add_one, ho]
  simp only [Option.toList, List.reverse_append, List.reverse_cons, List.reverse_nil, List.nil_append, List.singleton_append, rg]
theorem stR_not {st : Int} {ops : List Opr} {vals : List (List Cl)} {heads : List ByteArray} (h : rg ops.reverse vals.length = none) : stR st ops vals heads = false := by
  cases hs : stR st ops vals heads with
  | false => rfl
  | true =>
    unfold stR at hs
    simp only [Bool.and_eq_true, decide_eq_true_eq, List.all_eq_true] at hs
    have := (rg_iff ops.reverse vals.length 1).2 ⟨fun o ho => hs.1.1.1.1.2 o (List.mem_reverse.1 ho), hs.2⟩
    rw [h] at this
    cases this
theorem stR_val {st : Int} {ops : List Opr} {vals : List (List Cl)} {heads : List ByteArray} {v : List Cl} (hv : v ∈ vals) (h : grd v = false) : stR st ops vals heads = false := by
  cases hs : stR st ops vals heads with
  | false => rfl
  | true =>
    unfold stR at hs
    simp only [Bool.and_eq_true, decide_eq_true_eq, List.all_eq_true] at hs
    have := hs.1.1.1.2 v hv
    rw [h] at this
    cases this
theorem stR_sym {st : Int} {ops : List Opr} {vals : List (List Cl)} {heads : List ByteArray} {x : ByteArray} (hx : x ∈ heads) (h : kind x.data.toList ≠ 1) : stR st ops vals heads = false := by
  cases hs : stR st ops vals heads with
  | false => rfl
  | true =>
    unfold stR at hs
    simp only [Bool.and_eq_true, decide_eq_true_eq, List.all_eq_true] at hs
    have := hs.1.1.2 x hx
    unfold symB at this
    simp only [decide_eq_true_eq] at this
    exact absurd this h
theorem stR_ris {st : Int} {ops : List Opr} {vals : List (List Cl)} {heads : List ByteArray} {i : Nat} {x y : ByteArray} (hx : heads[i]? = some x) (hy : heads[i + 1]? = some y) (h : ¬ lt x y = true) : stR st ops vals heads = false := by
  cases hs : stR st ops vals heads with
  | false => rfl
  | true =>
    unfold stR at hs
    simp only [Bool.and_eq_true, decide_eq_true_eq, List.all_eq_true] at hs
    exact absurd ((ris_iff heads).1 hs.1.2 i x y hx hy) h
theorem stR_all {st : Int} {ops : List Opr} {vals : List (List Cl)} {heads : List ByteArray} {h : Nat} (h1 : rg ops.reverse vals.length = some h) (h2 : ∀ v ∈ vals, grd v = true) (h3 : ∀ x ∈ heads, kind x.data.toList = 1) (h4 : ∀ i x y, heads[i]? = some x → heads[i + 1]? = some y → lt x y = true) : stR st ops vals heads = (decide (h = 1) && decide (0 ≤ st)) := by
  obtain ⟨a, b⟩ := (rg_iff _ _ _).1 h1
  have e1 : ops.all opR = true := List.all_eq_true.2 fun o ho => a o (List.mem_reverse.2 ho)
  have e2 : vals.all grd = true := List.all_eq_true.2 h2
  have e3 : heads.all symB = true := List.all_eq_true.2 fun x hx => by unfold symB; exact decide_eq_true (h3 x hx)
  have e4 : ris heads = true := (ris_iff heads).2 h4
  unfold stR
  rw [e1, e2, e3, e4, b]
  have e5 : decide (some h = some 1) = decide (h = 1) := by simp
  rw [e5]
  cases decide (0 ≤ st) <;> cases decide (h = 1) <;> rfl

set_option maxHeartbeats 8000000 in
theorem rright_any (w : World) (ov vv hv : Value) (st : Int) (ops : List Opr) (vals : List (List Cl)) (heads : List ByteArray) (h : LiesSt w ov vv hv st ops vals heads) :
    Calls Tryz.prog 16 #[.agg #[ov, vv, .int .i64 st, hv]] w fun e w' => e = .returned (.bool (stR st ops vals heads)) ∧ Below w.heap.size w w' := by
  obtain ⟨d, hd⟩ : ∃ d, stR st ops vals heads = d := ⟨_, rfl⟩
  have HD : Hid (stR st ops vals heads = d) := hd
  rw [hd]
  have HL := hid h
  have hfew := h.few
  obtain ⟨oa, oc, rfl, ol1, ol2, _⟩ := id h.lo
  obtain ⟨va, vc, rfl, vl1, vl2, _⟩ := id h.lv
  obtain ⟨ha, hc, rfl, hl1, hl2, _⟩ := id h.lh
  unfold maxLen at ol2 vl2 hl2
  have HB0 : Hid (Below w.heap.size w (w.alloc (.cells #[.slice oa ops.length oc, .slice va vals.length vc, .int .i64 st, .slice ha heads.length hc] 28))) := (Below.refl _ w).alloc (Nat.le_refl _) _
  have HX : Hid (Blk (w.alloc (.cells #[.slice oa ops.length oc, .slice va vals.length vc, .int .i64 st, .slice ha heads.length hc] 28)) w.heap.size #[.slice oa ops.length oc, .slice va vals.length vc, .int .i64 st, .slice ha heads.length hc] 28) := Blk.made _ _ _
  clear hd h
  go_enter Tryz.func16, Tryz.ntmps16
  go_wp2_with fail
  generalize w.alloc (.cells #[.slice oa ops.length oc, .slice va vals.length vc, .int .i64 st, .slice ha heads.length hc] 28) = W0 at HB0 HX ⊢
  go_loopw [3, 4] (fun hv i wr => ∃ m n : Nat, m ≤ ops.length ∧ n + m ≤ vals.length + ops.length ∧ hv = .int .i64 (n : Nat) ∧ i = .int .i64 ((m : Int) - 1) ∧ Hid (rg ops.reverse vals.length = rg (ops.take m).reverse n) ∧ Hid (Blk wr w.heap.size #[.slice oa ops.length oc, .slice va vals.length vc, .int .i64 st, .slice ha heads.length hc] 28) ∧ Hid (Below w.heap.size w wr)) (fun _ i _ => (intOf i + 1).toNat)
  case atStart => exact ⟨ops.length, vals.length, Nat.le_refl _, Nat.le_refl _, rfl, by go_num, by show _ = _; rw [List.take_length], HX, HB0⟩
  case round =>
    obtain ⟨m, n, hm, hn, rfl, rfl, HRG, HXr, HBr⟩ := hrel
    clear HX HB0
    cases m with
    | zero =>
      have HG : Hid (rg ops.reverse vals.length = some n) := by show _ = _; rw [HRG.out]; rfl
      clear HRG
      rw [show ((0 : Nat) : Int) - 1 = -1 from rfl]
      have v1 := HXr.out.cell (i := 1) rfl
      have HX2 := hid HXr.out
      have HB2 := hid HBr.out
      go_wp2_with fail
      clear v1 HXr HBr
      go_loopw [87] (fun i wr => ∃ k : Nat, k ≤ vals.length ∧ i = .int .i64 (k : Nat) ∧ Hid (∀ (j : Nat) v, j < k → vals[j]? = some v → grd v = true) ∧ Hid (Blk wr w.heap.size #[.slice oa ops.length oc, .slice va vals.length vc, .int .i64 st, .slice ha heads.length hc] 28) ∧ Hid (Below w.heap.size w wr)) (fun i _ => vals.length - (intOf i).toNat)
      case atStart => exact ⟨0, Nat.zero_le _, rfl, (fun j v h => by omega), HX2, HB2⟩
      case round =>
        clear HX2 HB2
        revert wr
        intro wo hrel
        obtain ⟨k, hk, rfl, HK, HXr, HBr⟩ := hrel
        by_cases hlt : k < vals.length
        · obtain ⟨v, hv⟩ : ∃ v, vals[k]? = some v := ⟨vals[k], List.getElem?_eq_getElem hlt⟩
          obtain ⟨g, off, x, hva, hgl, c0, hlx⟩ := HL.out.lv.at hv
          subst hva
          have d0 := (HBr.out.cell (p := ⟨g, off + k, none⟩) hgl).trans c0
          have e1 := HXr.out.cell (i := 1) rfl
          have hki : (k : Int) < (vals.length : Int) := by omega
          have hgr := rground_any wo x v (hlx.on HBr.out)
          obtain ⟨xa, xc, rfl, _⟩ := hlx
          have HV := hid hv
          clear hv c0
          cases hg : grd v with
          | true =>
            rw [hg] at hgr
            have HK2 : Hid (∀ (j : Nat) v, j < k + 1 → vals[j]? = some v → grd v = true) := fun j v' h1 h2 => by
              by_cases e : j = k
              · subst e; rw [HV.out] at h2; cases h2; exact hg
              · exact HK.out j v' (by omega) h2
            clear HK hg
            go_wp2_with (go_at_call 21; refine hgr.mono ?_; rintro e w1 ⟨rfl, hb1⟩; have HB2 := hid (HBr.out.trans (hb1.mono HBr.out.size)); have HX2 := hid (HXr.out.on hb1 HXr.out.lt); clear hb1)
            go_roundw
            case rel => exact ⟨k + 1, by omega, by go_num, HK2, HX2, HB2⟩
            case measure => (simp [intOf]; try omega)
          | false =>
            rw [hg] at hgr
            have HF : Hid (d = false) := by show _ = _; rw [← HD.out]; exact stR_val (List.mem_of_getElem? HV.out) hg
            clear HK hg
            go_wp2_with (go_at_call 21; refine hgr.mono ?_; rintro e w1 ⟨rfl, hb1⟩; have HB2 := hid (HBr.out.trans (hb1.mono HBr.out.size)); clear hb1)
            go_ret
            exact ⟨by rw [HF.out]; rfl, HB2.out⟩
        · have hki : ¬ (k : Int) < (vals.length : Int) := by omega
          have HVS : Hid (∀ v ∈ vals, grd v = true) := fun v hv => by
            obtain ⟨j, hj⟩ := List.getElem?_of_mem hv
            exact HK.out j v (by have := (List.getElem?_eq_some_iff.1 hj).1; omega) hj
          clear HK
          have v3 := HXr.out.cell (i := 3) rfl
          have HX2 := hid HXr.out
          have HB2 := hid HBr.out
          have HLH := hid (HL.out.lh.on HBr.out)
          have HNS := hid HL.out.names
          have hwl := HXr.out.lt
          go_wp2_with fail
          clear v3 HXr HBr HL
          go_loopw [101] (fun i wr => ∃ k : Nat, k ≤ heads.length ∧ i = .int .i64 (k : Nat) ∧ Hid (∀ (j : Nat) x, j < k → heads[j]? = some x → kind x.data.toList = 1) ∧ Hid (∀ (i : Nat) x y, i + 1 < k → heads[i]? = some x → heads[i + 1]? = some y → lt x y = true) ∧ ∃ nq, wr = wo.drewN nq) (fun i _ => heads.length - (intOf i).toNat)
          case atStart => exact ⟨0, Nat.zero_le _, rfl, (fun j v h => by omega), (fun j x y h => by omega), 0, rfl⟩
          case round =>
            revert wr
            intro wq hrel
            obtain ⟨k, hk, rfl, HS, HJ, nq, rfl⟩ := hrel
            have hX3 : Blk wo w.heap.size #[.slice oa ops.length oc, .slice va vals.length vc, .int .i64 st, .slice ha heads.length hc] 28 := HX2.out
            have e3 : wo.cell? ⟨w.heap.size, 3, none⟩ = some (.slice ha heads.length hc) := hX3.cell rfl
            have e2 : wo.cell? ⟨w.heap.size, 2, none⟩ = some (.int .i64 st) := hX3.cell rfl
            clear hX3
            by_cases hlt : k < heads.length
            · obtain ⟨y, hy⟩ : ∃ y, heads[k]? = some y := ⟨heads[k], List.getElem?_eq_getElem hlt⟩
              obtain ⟨b, off, hba, hbl, hc0⟩ : ∃ b off, ha = some ⟨b, off, none⟩ ∧ b < wo.heap.size ∧ wo.cell? ⟨b, off + k, none⟩ = some (.string y) := by
                obtain ⟨a', c', hv', _, _, h4⟩ := HLH.out
                cases hv'
                exact h4 k y hy
              subst hba
              have hki : (k : Int) < (heads.length : Int) := by omega
              have hkq : ∀ w, Calls Tryz.prog 44 #[.string y] w fun e w' => e = .returned (.int .i64 (kind y.data.toList : Nat)) ∧ w' = w := fun w => (rKind_any y w (HNS.out y (List.mem_of_getElem? hy))).mono (fun e w' h => ⟨h.1, h.2.symm⟩)
              have hBB : ∀ n, Below w.heap.size w (wo.drewN n) := fun n => HB2.out.trans ((below_drewN _ _).mono HB2.out.size)
              have hBB2 : ∀ n m, Below w.heap.size w ((wo.drewN n).drewN m) := fun n m => HB2.out.trans ((below_dd _ _ _).mono HB2.out.size)
              have HBB := hid hBB
              have HBB2 := hid hBB2
              clear hBB hBB2
              have HY := hid hy
              clear hy
              by_cases hq : kind y.data.toList = 1
              · rw [hq] at hkq
                have HS2 : Hid (∀ (j : Nat) x, j < k + 1 → heads[j]? = some x → kind x.data.toList = 1) := fun j x h1 h2 => by
                  by_cases e : j = k
                  · subst e; rw [HY.out] at h2; cases h2; exact hq
                  · exact HS.out j x (by omega) h2
                clear hq HS
                cases k with
                | zero =>
                  have HK2 : Hid (∀ (i : Nat) x y, i + 1 < 0 + 1 → heads[i]? = some x → heads[i + 1]? = some y → lt x y = true) := fun i x y h => by omega
                  have hc00 : wo.cell? ⟨b, off, none⟩ = some (.string y) := hc0
                  clear HJ hc0
                  go_wp2_with fail
                  go_quiet ((go_at_call 44; exact quiet_sum (hkq _)))
                  go_wp2_with fail
                  go_roundw
                  case rel => exact ⟨0 + 1, by omega, by go_num, HS2, HK2, _, rfl⟩
                  case measure => (simp [intOf]; try omega)
                | succ j =>
                  obtain ⟨x, hx⟩ : ∃ x, heads[j]? = some x := ⟨heads[j]'(by omega), List.getElem?_eq_getElem (by omega)⟩
                  obtain ⟨b', off', e, _, hc'⟩ : ∃ b' off', (some ⟨b, off, none⟩ : Option Addr) = some ⟨b', off', none⟩ ∧ b' < wo.heap.size ∧ wo.cell? ⟨b', off' + j, none⟩ = some (.string x) := by
                    obtain ⟨a', c', hv', _, _, h4⟩ := HLH.out
                    cases hv'
                    exact h4 j x hx
                  cases e
                  have hj1 : (((j + 1 : Nat) : Int) - 1) = (j : Int) := by omega
                  have hjl : (j : Int) < (heads.length : Int) := by omega
                  have hj2 : decide (((j + 1 : Nat) : Int) > 0) = true := decide_eq_true (by omega)
                  by_cases hxy : lt x y = true
                  · have HK2 : Hid (∀ (i : Nat) x y, i + 1 < j + 1 + 1 → heads[i]? = some x → heads[i + 1]? = some y → lt x y = true) := fun i x' y' h h1 h2 => by
                      by_cases e : i = j
                      · subst e; rw [hx] at h1; rw [HY.out] at h2; cases h1; cases h2; exact hxy
                      · exact HJ.out i x' y' (by omega) h1 h2
                    have q0 : Op.bytesLess x.toList y.toList = true := hxy
                    have q1 : Op.bytesLess y.toList x.toList = false := lt_asym hxy
                    have q2 : (x.toList == y.toList) = false := bytes_ne (fun e => by subst e; rw [lt_irr] at hxy; cases hxy)
                    have q3 : ¬ x.toList = y.toList := by simpa using q2
                    clear HJ hx hxy
                    go_wp2_with fail
                    go_quiet ((go_at_call 44; exact quiet_sum (hkq _)))
                    go_wp2_with fail
                    go_roundw
                    case rel => exact ⟨j + 1 + 1, by omega, by go_num, HS2, HK2, _, rfl⟩
                    case measure => (simp [intOf]; try omega)
                  · have HRF : Hid (d = false) := by
                      show _ = _
                      rw [← HD.out]
                      exact stR_ris hx HY.out hxy
                    have q0 : Op.bytesLess x.toList y.toList = false := by simpa [lt] using hxy
                    have q1 : Op.bytesLess y.toList x.toList = true ∨ y = x := by
                      cases h2 : Op.bytesLess y.toList x.toList with
                      | true => exact .inl rfl
                      | false => exact .inr (lt_tot h2 (by simpa using hxy))
                    clear HJ hx hxy HS2
                    rcases q1 with q1 | q1
                    · go_wp2_with fail
                      go_quiet ((go_at_call 44; exact quiet_sum (hkq _)))
                      go_wp2_with fail
                      go_ret
                      exact ⟨by rw [HRF.out]; rfl, (by first | exact HBB.out _ | exact HBB2.out _ _)⟩
                    · subst q1
                      have q2 : (y.toList == y.toList) = true := by simp
                      go_wp2_with fail
                      go_quiet ((go_at_call 44; exact quiet_sum (hkq _)))
                      go_wp2_with fail
                      go_ret
                      exact ⟨by rw [HRF.out]; rfl, (by first | exact HBB.out _ | exact HBB2.out _ _)⟩
              · have HRF : Hid (d = false) := by
                  show _ = _
                  rw [← HD.out]
                  exact stR_sym (List.mem_of_getElem? HY.out) hq
                generalize kind y.data.toList = q at hkq hq
                have q1 : ((q : Int) == 1) = false := by simp only [beq_eq_false_iff_ne]; omega
                have q2 : ¬ (q : Int) = 1 := by omega
                have q3 : ((q : Int) != 1) = true := by simp only [bne_iff_ne, ne_eq]; omega
                clear hq HS HJ
                go_wp2_with fail
                go_quiet ((go_at_call 44; exact quiet_sum (hkq _)))
                go_wp2_with fail
                go_ret
                exact ⟨by rw [HRF.out]; rfl, (by first | exact HBB.out _ | exact HBB2.out _ _)⟩
            · have hki : ¬ (k : Int) < (heads.length : Int) := by omega
              have HR : Hid (d = (decide (n = 1) && decide (0 ≤ st))) := by
                show _ = _
                rw [← HD.out]
                exact stR_all HG.out HVS.out (fun x hx => by
                  obtain ⟨j, hj⟩ := List.getElem?_of_mem hx
                  exact HS.out j x (by have := (List.getElem?_eq_some_iff.1 hj).1; omega) hj) (fun i x y h1 h2 => HJ.out i x y (by have := (List.getElem?_eq_some_iff.1 h2).1; omega) h1 h2)
              clear HS HJ HG HVS
              have hBB : Below w.heap.size w (wo.drewN nq) := HB2.out.trans ((below_drewN _ _).mono HB2.out.size)
              by_cases hn1 : n = 1
              · subst hn1
                rw [decide_eq_true rfl, Bool.true_and] at HR
                by_cases hs0 : 0 ≤ st
                · rw [decide_eq_true hs0] at HR
                  go_wp2_with fail
                  go_ret
                  exact ⟨by rw [HR.out]; rfl, hBB⟩
                · rw [decide_eq_false hs0] at HR
                  go_wp2_with fail
                  go_ret
                  exact ⟨by rw [HR.out]; rfl, hBB⟩
              · rw [decide_eq_false hn1, Bool.false_and] at HR
                have hn2 : ((n : Int) == 1) = false := by simp only [beq_eq_false_iff_ne]; omega
                have hn3 : ¬ (n : Int) = 1 := by omega
                go_wp2_with fail
                go_ret
                exact ⟨by rw [HR.out]; rfl, hBB⟩
    | succ m =>
      obtain ⟨o, ho⟩ : ∃ o, ops[m]? = some o := ⟨ops[m]'(by omega), List.getElem?_eq_getElem (by omega)⟩
      obtain ⟨g, off, x, hoa, hgl, c0, c1, c2, c3, hlx, b1, b2, b3⟩ : ∃ g off x, oa = some ⟨g, off, none⟩ ∧ _ := by
        obtain ⟨a', c', hv', _, _, HC'⟩ := HL.out.lo
        cases hv'
        exact HC' m o ho
      subst hoa
      have HST := hid (rg_take (h := n) ho)
      have hlow := HBr.out
      have d0 := (hlow.cell (p := ⟨g, off + m * 4, none⟩) hgl).trans c0
      have d1 := (hlow.cell (p := ⟨g, off + m * 4 + 1, none⟩) hgl).trans c1
      have d2 := (hlow.cell (p := ⟨g, off + m * 4 + 2, none⟩) hgl).trans c2
      have d3 := (hlow.cell (p := ⟨g, off + m * 4 + 3, none⟩) hgl).trans c3
      have e0 := HXr.out.cell (i := 0) rfl
      obtain ⟨ok, ⟨onm, oar⟩, ovv⟩ := o
      simp only at d0 d1 d2 d3 hlx b1 b2 b3
      have hkd := fun w => rKind_any onm w (by unfold maxLen; omega)
      have hgr : ∀ w2, Below w.heap.size w w2 → _ := fun w2 hb => rground_any w2 x ovv (hlx.on hb)
      obtain ⟨xa, xc, rfl, _⟩ := hlx
      have hm1 : ((m + 1 : Nat) : Int) - 1 = (m : Int) := by omega
      rw [hm1]
      have hmi : (m : Int) < (ops.length : Int) := by omega
      have hb1 : Below wr.heap.size wr (wr.alloc (.cells #[.int .i64 ok, .string onm, .int .i64 oar, .slice xa ovv.length xc] 71)) := (Below.refl _ _).alloc (Nat.le_refl _) _
      have HB1 : Hid (Below w.heap.size w (wr.alloc (.cells #[.int .i64 ok, .string onm, .int .i64 oar, .slice xa ovv.length xc] 71))) := hlow.trans (hb1.mono hlow.size)
      have HX1 := hid (HXr.out.on hb1 HXr.out.lt)
      have HDF : Hid (rg1 ⟨ok, ⟨onm, oar⟩, ovv⟩ n = none → d = false) := fun hz => by
        rw [← HD.out]
        refine stR_not ?_
        rw [HRG.out, HST.out, hz]
        rfl
      have HGO : Hid (∀ n', rg1 ⟨ok, ⟨onm, oar⟩, ovv⟩ n = some n' → rg ops.reverse vals.length = rg (ops.take m).reverse n') := fun n' hz => by
        rw [HRG.out, HST.out, hz]
        rfl
      clear c0 c1 c2 c3 ho hlow hb1 HRG HST hm1
      by_cases hk1 : ok = 1
      · subst hk1
        by_cases hl : 0 < ovv.length
        · have HF : Hid (d = false) := HDF.out (by
            unfold rg1
            rw [if_neg]
            rintro ⟨h, _⟩
            rcases opR_iff.1 h with ⟨_, _, _, _, e⟩ | ⟨e, _⟩
            · simp only at e; rw [e] at hl; simp at hl
            · simp at e)
          have hli : (0 : Int) < (ovv.length : Int) := by omega
          clear HDF HGO hkd hgr
          go_wp2_with fail
          go_ret
          exact ⟨by rw [HF.out]; rfl, HB1.out⟩
        · have hv0 : ovv = [] := List.eq_nil_of_length_eq_zero (by omega)
          subst hv0
          simp only [List.length_nil] at d3 HB1 HX1
          clear hl hgr
          by_cases hq : kind onm.data.toList = 1
          · rw [hq] at hkd
            have KK : Hid (kind onm.data.toList = 1) := hq
            clear hq
            by_cases ha0 : oar < 0
            · have HF : Hid (d = false) := HDF.out (by
                unfold rg1
                rw [if_neg]
                rintro ⟨h, _⟩
                rcases opR_iff.1 h with ⟨_, _, e, _, _⟩ | ⟨e, _⟩
                · simp only at e; omega
                · simp at e)
              clear HDF HGO KK
              go_wp2_with (go_at_call 44; refine (hkd _).mono ?_; rintro e w1 ⟨rfl, rfl⟩)
              go_ret
              exact ⟨by rw [HF.out]; rfl, HB1.out⟩
            · by_cases ha4 : 4 < oar
              · have HF : Hid (d = false) := HDF.out (by
                  unfold rg1
                  rw [if_neg]
                  rintro ⟨h, _⟩
                  rcases opR_iff.1 h with ⟨_, _, _, e, _⟩ | ⟨e, _⟩
                  · simp only at e; omega
                  · simp at e)
                clear HDF HGO KK
                go_wp2_with (go_at_call 44; refine (hkd _).mono ?_; rintro e w1 ⟨rfl, rfl⟩)
                go_ret
                exact ⟨by rw [HF.out]; rfl, HB1.out⟩
              · by_cases han : (n : Int) < oar
                · have HF : Hid (d = false) := HDF.out (by
                    unfold rg1
                    rw [if_neg]
                    rintro ⟨_, h⟩
                    simp only at h
                    omega)
                  clear HDF HGO KK
                  go_wp2_with (go_at_call 44; refine (hkd _).mono ?_; rintro e w1 ⟨rfl, rfl⟩)
                  go_ret
                  exact ⟨by rw [HF.out]; rfl, HB1.out⟩
                · have HG : Hid (rg ops.reverse vals.length = rg (ops.take m).reverse (n - oar.toNat + 1)) := HGO.out _ (by
                    unfold rg1
                    rw [if_pos]
                    refine ⟨opR_iff.2 (.inl ⟨rfl, KK.out, by simp only; omega, by simp only; omega, rfl⟩), by simp only; omega⟩)
                  have hq2 := (Blk.made wr #[.int .i64 1, .string onm, .int .i64 oar, .slice xa 0 xc] 71).cell (i := 2) rfl
                  clear HDF HGO KK
                  go_wp2_with (go_at_call 44; refine (hkd _).mono ?_; rintro e w1 ⟨rfl, rfl⟩)
                  go_roundw
                  case rel => exact ⟨m, n - oar.toNat + 1, by omega, by omega, by go_num, by go_num, HG, HX1, HB1⟩
                  case measure => (simp [intOf]; try omega)
          · have HF : Hid (d = false) := HDF.out (by
              unfold rg1
              rw [if_neg]
              rintro ⟨h, _⟩
              rcases opR_iff.1 h with ⟨_, e, _, _, _⟩ | ⟨e, _⟩
              · exact hq e
              · simp at e)
            generalize kind onm.data.toList = q at hkd hq
            have q1 : ((q : Int) == 1) = false := by simp only [beq_eq_false_iff_ne]; omega
            have q2 : ¬ (q : Int) = 1 := by omega
            clear HDF HGO hq
            go_wp2_with (go_at_call 44; refine (hkd _).mono ?_; rintro e w1 ⟨rfl, rfl⟩)
            go_ret
            exact ⟨by rw [HF.out]; rfl, HB1.out⟩
      · by_cases hk2 : ok = 2
        · subst hk2
          clear hk1 hkd
          by_cases hnm : onm = ⟨#[]⟩
          · subst hnm
            by_cases ha0 : oar = 0
            · subst ha0
              cases hg : grd ovv with
              | true =>
                rw [hg] at hgr
                have HG : Hid (rg ops.reverse vals.length = rg (ops.take m).reverse (n + 1)) := HGO.out _ (by
                  unfold rg1
                  rw [if_pos]
                  · simp
                  · exact ⟨opR_iff.2 (.inr ⟨rfl, hg, rfl⟩), by simp⟩)
                clear HDF HGO hg
                go_wp2_with (go_at_call 21; refine (hgr _ HB1.out).mono ?_; rintro e w1 ⟨rfl, hb1⟩; have HB2 := hid (HB1.out.trans (hb1.mono HB1.out.size)); have HX2 := hid (HX1.out.on hb1 HX1.out.lt); clear hb1)
                go_roundw
                case rel => exact ⟨m, n + 1, by omega, by omega, by go_num, by go_num, HG, HX2, HB2⟩
                case measure => (simp [intOf]; try omega)
              | false =>
                rw [hg] at hgr
                have HF : Hid (d = false) := HDF.out (by
                  unfold rg1
                  rw [if_neg]
                  rintro ⟨h, _⟩
                  rcases opR_iff.1 h with ⟨e, _⟩ | ⟨_, e, _⟩
                  · simp at e
                  · simp only at e; rw [hg] at e; cases e)
                clear HDF HGO hg
                go_wp2_with (go_at_call 21; refine (hgr _ HB1.out).mono ?_; rintro e w1 ⟨rfl, hb1⟩; have HB2 := hid (HB1.out.trans (hb1.mono HB1.out.size)); clear hb1)
                go_ret
                exact ⟨by rw [HF.out]; rfl, HB2.out⟩
            · have HF : Hid (d = false) := HDF.out (by
                unfold rg1
                rw [if_neg]
                rintro ⟨h, _⟩
                rcases opR_iff.1 h with ⟨e, _⟩ | ⟨_, _, e⟩
                · simp at e
                · simp only [noCl, Cl.mk.injEq] at e; exact ha0 e.2)
              have q1 : (oar == 0) = false := by simp only [beq_eq_false_iff_ne]; exact ha0
              clear HDF HGO hgr
              go_wp2_with fail
              go_ret
              exact ⟨by rw [HF.out]; rfl, HB1.out⟩
          · have HF : Hid (d = false) := HDF.out (by
              unfold rg1
              rw [if_neg]
              rintro ⟨h, _⟩
              rcases opR_iff.1 h with ⟨e, _⟩ | ⟨_, _, e⟩
              · simp at e
              · simp only [noCl, Cl.mk.injEq] at e; exact hnm e.1)
            have q2 : (onm.toList == (⟨#[]⟩ : ByteArray).toList) = false := bytes_ne hnm
            have q3 : ¬ onm.toList = (⟨#[]⟩ : ByteArray).toList := by simpa using q2
            have q4 : ¬ onm.toList = [] := fun e => q3 (by rw [e, ByteArray.toList_eq])
            have q5 : (onm.toList == []) = false := by simpa using q4
            clear HDF HGO hgr
            go_wp2_with fail
            go_ret
            exact ⟨by rw [HF.out]; rfl, HB1.out⟩
        · have HF : Hid (d = false) := HDF.out (by unfold rg1 opR; rw [if_neg]; simp [hk1, hk2])
          go_wp2_with fail
          go_ret
          exact ⟨by rw [HF.out]; rfl, HB1.out⟩

end Go.Proofs.YtgijdhnkkbenoaaGreat
