/-
  Two lists that are alike: the document's Same answers true.
-/
import Derived.Test.YthohopbolalpcaaSv
namespace Go.Proofs.Ythohopbolalpcaa
open Go.RowKit
set_option linter.unusedVariables false
set_option linter.unusedSimpArgs false
set_option maxRecDepth 100000

set_option maxHeartbeats 2000000 in
theorem sameKids_true (v u : Value) (K : List Nat) (w : World) (hv : LiesK w v K) (hu : LiesK w u K) :
    Calls Try.prog 78 #[v, u] w fun e w' => e = .returned (.bool true) ∧ Below w.heap.size w w' := by
  obtain ⟨a, c, rfl⟩ := hv.form
  obtain ⟨a', c', rfl⟩ := hu.form
  have hlen := hv.len
  unfold maxLen at hlen
  have HV := hid hv
  have HU := hid hu
  obtain ⟨n, hn⟩ : ∃ n, K.length = n := ⟨_, rfl⟩
  have HN := hid hn
  rw [hn] at HV HU hlen ⊢
  clear hv hu hn
  have HB0 := hid (Below.refl w.heap.size w)
  have hnn : ((n : Int) != (n : Int)) = false := by simp
  go_enter Try.func78, Try.ntmps78
  go_wp2_with fail
  clear hnn
  go_loopw [13] (fun i wr => ∃ j : Nat, j ≤ n ∧ i = .int .i64 (j : Nat) ∧ Hid (Below w.heap.size w wr)) (fun i _ => n - (intOf i).toNat)
  case atStart => exact ⟨0, Nat.zero_le _, rfl, HB0⟩
  case round =>
    obtain ⟨j, hj, rfl, HB⟩ := hrel
    clear HB0
    by_cases hjn : j < n
    · have hji : (j : Int) < (n : Int) := by omega
      obtain ⟨x, hx⟩ : ∃ x, K[j]? = some x := ⟨_, List.getElem?_eq_getElem (by rw [HN.out]; exact hjn)⟩
      have hd : Below wr.heap.size wr wr.drew := (Below.refl _ wr).drew
      obtain ⟨b, off, e1, hbl, d1, d2⟩ := ((HV.out.on HB.out).on hd).at hx
      obtain ⟨b', off', e1', hbl', d1', d2'⟩ := ((HU.out.on HB.out).on hd).at hx
      subst e1 e1'
      have hxx : ((x : Int) != (x : Int)) = false := by simp
      clear hx hd
      go_wp2_with fail
      refine wp_region_d (fun w' => w'.cell? ⟨b, off + j, none⟩ = some (.int .u64 (x : Nat)) ∧ w'.cell? ⟨b', off' + j, none⟩ = some (.int .u64 (x : Nat))) (fun _ => true) (by kernel_rfl) ?_
      have hS : wr.drew.cell? ⟨b, off + j, none⟩ = some (.int .u64 (x : Nat)) ∧ wr.drew.cell? ⟨b', off' + j, none⟩ = some (.int .u64 (x : Nat)) := ⟨d1, d1'⟩
      have HB2 := hid HB.out.drew
      clear d1 d1' HB
      generalize wr.drew = w2 at *
      refine wpAnyM_pick (i := 0) (some 16) (v := ?vz1) rfl rfl (by kernel_rfl) (by kernel_rfl) (by kernel_rfl) (by kernel_rfl) (fun _ _ _ h => h) (Or.inl ⟨by rfl, ?hz1⟩) hS ?rz1
      case hz1 => intro w hSw; (first | obtain ⟨hs1, hs2, hs3, hs4, hs5, hs6, hs7, hs8, hs9, hs10, hs11, hs12⟩ := hSw | obtain ⟨hs1, hs2, hs3, hs4, hs5, hs6, hs7, hs8⟩ := hSw | obtain ⟨hs1, hs2, hs3⟩ := hSw | obtain ⟨hs1, hs2⟩ := hSw | skip); go_simp; try with_reducible rfl
      try simp only [Act.put, List.setIfInBounds_toArray, List.set_cons_zero, List.set_cons_succ]
      refine wpAnyM_pick (i := 1) (some 17) (v := ?vz2) rfl rfl (by kernel_rfl) (by kernel_rfl) (by kernel_rfl) (by kernel_rfl) (fun _ _ _ h => h) (Or.inl ⟨by rfl, ?hz2⟩) hS ?rz2
      case hz2 => intro w hSw; (first | obtain ⟨hs1, hs2, hs3, hs4, hs5, hs6, hs7, hs8, hs9, hs10, hs11, hs12⟩ := hSw | obtain ⟨hs1, hs2, hs3, hs4, hs5, hs6, hs7, hs8⟩ := hSw | obtain ⟨hs1, hs2, hs3⟩ := hSw | obtain ⟨hs1, hs2⟩ := hSw | skip); go_simp; try with_reducible rfl
      try simp only [Act.put, List.setIfInBounds_toArray, List.set_cons_zero, List.set_cons_succ]
      refine wpAnyM_pick (i := 2) (some 18) (v := ?vz3) rfl rfl (by kernel_rfl) (by kernel_rfl) (by kernel_rfl) (by kernel_rfl) (fun _ _ _ h => h) (Or.inl ⟨by rfl, ?hz3⟩) hS ?rz3
      case hz3 => intro w hSw; (first | obtain ⟨hs1, hs2, hs3, hs4, hs5, hs6, hs7, hs8, hs9, hs10, hs11, hs12⟩ := hSw | obtain ⟨hs1, hs2, hs3, hs4, hs5, hs6, hs7, hs8⟩ := hSw | obtain ⟨hs1, hs2, hs3⟩ := hSw | obtain ⟨hs1, hs2⟩ := hSw | skip); go_simp; try with_reducible rfl
      try simp only [Act.put, List.setIfInBounds_toArray, List.set_cons_zero, List.set_cons_succ]
      refine wpAnyM_pick (i := 3) (some 19) (v := ?vz4) rfl rfl (by kernel_rfl) (by kernel_rfl) (by kernel_rfl) (by kernel_rfl) (fun _ _ _ h => h) (Or.inl ⟨by rfl, ?hz4⟩) hS ?rz4
      case hz4 => intro w hSw; (first | obtain ⟨hs1, hs2, hs3, hs4, hs5, hs6, hs7, hs8, hs9, hs10, hs11, hs12⟩ := hSw | obtain ⟨hs1, hs2, hs3, hs4, hs5, hs6, hs7, hs8⟩ := hSw | obtain ⟨hs1, hs2, hs3⟩ := hSw | obtain ⟨hs1, hs2⟩ := hSw | skip); go_simp; try with_reducible rfl
      try simp only [Act.put, List.setIfInBounds_toArray, List.set_cons_zero, List.set_cons_succ]
      refine wpAnyM_pick (i := 4) (some 20) (v := ?vz5) rfl rfl (by kernel_rfl) (by kernel_rfl) (by kernel_rfl) (by kernel_rfl) (fun _ _ _ h => h) (Or.inl ⟨by rfl, ?hz5⟩) hS ?rz5
      case hz5 => intro w hSw; (first | obtain ⟨hs1, hs2, hs3, hs4, hs5, hs6, hs7, hs8, hs9, hs10, hs11, hs12⟩ := hSw | obtain ⟨hs1, hs2, hs3, hs4, hs5, hs6, hs7, hs8⟩ := hSw | obtain ⟨hs1, hs2, hs3⟩ := hSw | obtain ⟨hs1, hs2⟩ := hSw | skip); go_simp; try with_reducible rfl
      try simp only [Act.put, List.setIfInBounds_toArray, List.set_cons_zero, List.set_cons_succ]
      refine wpAnyM_pick (i := 5) (some 21) (v := ?vz6) rfl rfl (by kernel_rfl) (by kernel_rfl) (by kernel_rfl) (by kernel_rfl) (fun _ _ _ h => h) (Or.inl ⟨by rfl, ?hz6⟩) hS ?rz6
      case hz6 => intro w hSw; (first | obtain ⟨hs1, hs2, hs3, hs4, hs5, hs6, hs7, hs8, hs9, hs10, hs11, hs12⟩ := hSw | obtain ⟨hs1, hs2, hs3, hs4, hs5, hs6, hs7, hs8⟩ := hSw | obtain ⟨hs1, hs2, hs3⟩ := hSw | obtain ⟨hs1, hs2⟩ := hSw | skip); go_simp; try with_reducible rfl
      try simp only [Act.put, List.setIfInBounds_toArray, List.set_cons_zero, List.set_cons_succ]
      refine wpAnyM_pick (i := 6) (some 22) (v := ?vz7) rfl rfl (by kernel_rfl) (by kernel_rfl) (by kernel_rfl) (by kernel_rfl) (fun _ _ _ h => h) (Or.inl ⟨by rfl, ?hz7⟩) hS ?rz7
      case hz7 => intro w hSw; (first | obtain ⟨hs1, hs2, hs3, hs4, hs5, hs6, hs7, hs8, hs9, hs10, hs11, hs12⟩ := hSw | obtain ⟨hs1, hs2, hs3, hs4, hs5, hs6, hs7, hs8⟩ := hSw | obtain ⟨hs1, hs2, hs3⟩ := hSw | obtain ⟨hs1, hs2⟩ := hSw | skip); go_simp; try with_reducible rfl
      try simp only [Act.put, List.setIfInBounds_toArray, List.set_cons_zero, List.set_cons_succ]
      refine wpAnyM_pick (i := 7) (some 23) (v := ?vz8) rfl rfl (by kernel_rfl) (by kernel_rfl) (by kernel_rfl) (by kernel_rfl) (fun _ _ _ h => h) (Or.inl ⟨by rfl, ?hz8⟩) hS ?rz8
      case hz8 => intro w hSw; (first | obtain ⟨hs1, hs2, hs3, hs4, hs5, hs6, hs7, hs8, hs9, hs10, hs11, hs12⟩ := hSw | obtain ⟨hs1, hs2, hs3, hs4, hs5, hs6, hs7, hs8⟩ := hSw | obtain ⟨hs1, hs2, hs3⟩ := hSw | obtain ⟨hs1, hs2⟩ := hSw | skip); go_simp; try with_reducible rfl
      try simp only [Act.put, List.setIfInBounds_toArray, List.set_cons_zero, List.set_cons_succ]
      refine wpAnyM_pick (i := 8) (some 24) (v := ?vz9) rfl rfl (by kernel_rfl) (by kernel_rfl) (by kernel_rfl) (by kernel_rfl) (fun _ _ _ h => h) (Or.inl ⟨by rfl, ?hz9⟩) hS ?rz9
      case hz9 => intro w hSw; (first | obtain ⟨hs1, hs2, hs3, hs4, hs5, hs6, hs7, hs8, hs9, hs10, hs11, hs12⟩ := hSw | obtain ⟨hs1, hs2, hs3, hs4, hs5, hs6, hs7, hs8⟩ := hSw | obtain ⟨hs1, hs2, hs3⟩ := hSw | obtain ⟨hs1, hs2⟩ := hSw | skip); go_simp; try with_reducible rfl
      try simp only [Act.put, List.setIfInBounds_toArray, List.set_cons_zero, List.set_cons_succ]
      refine wpAnyM_done (by kernel_rfl) ?_ _
      clear hS
      go_wp2_with fail
      go_roundw
      case rel => exact ⟨j + 1, by omega, by go_num, HB2⟩
      case measure => simp [intOf]; omega
    · have hji : ¬ (j : Int) < (n : Int) := by omega
      obtain rfl : j = n := by omega
      go_wp2_with fail
      go_ret
      exact ⟨rfl, HB.out⟩

theorem sameNode_true (x : Nd) (kv ku : Value) (w : World) (hv : LiesK w kv x.kids) (hu : LiesK w ku x.kids) :
    Calls Try.prog 54 #[.agg (cellsN x kv), .agg (cellsN x ku)] w fun e w' => e = .returned (.bool true) ∧ Below w.heap.size w w' := by
  have h1 := (Below.refl w.heap.size w).alloc (Nat.le_refl _) (.cells (cellsN x kv) 57)
  have k1 := Blk.made w (cellsN x kv) 57
  have HB2 := hid (h1.alloc h1.size (.cells (cellsN x ku) 57))
  have HX2 := hid (k1.alloc (.cells (cellsN x ku) 57))
  have HY2 := hid (Blk.made (w.alloc (.cells (cellsN x kv) 57)) (cellsN x ku) 57)
  have HK : Hid (∀ w1, Below w.heap.size w w1 → Calls Try.prog 78 #[kv, ku] w1 fun e w' => e = .returned (.bool true) ∧ Below w1.heap.size w1 w') := fun w1 hb => sameKids_true kv ku x.kids w1 (hv.on hb) (hu.on hb)
  clear h1 k1 hv hu
  obtain ⟨A, nm, K, ct, q, nx⟩ := x
  simp only [cellsN] at *
  have a0 := HX2.out.cell (i := 0) rfl
  have a1 := HX2.out.cell (i := 1) rfl
  have a2 := HX2.out.cell (i := 2) rfl
  have a3 := HX2.out.cell (i := 3) rfl
  have a4 := HX2.out.cell (i := 4) rfl
  have a5 := HX2.out.cell (i := 5) rfl
  have b0 := HY2.out.cell (i := 0) rfl
  have b1 := HY2.out.cell (i := 1) rfl
  have b2 := HY2.out.cell (i := 2) rfl
  have b3 := HY2.out.cell (i := 3) rfl
  have b4 := HY2.out.cell (i := 4) rfl
  have b5 := HY2.out.cell (i := 5) rfl
  have hss : (nm.toList == nm.toList) = true := by simp
  go_enter Try.func54, Try.ntmps54
  go_wp2_with (go_at_call 78; refine (HK.out _ HB2.out).mono ?_; clear HK; rintro e w3 ⟨rfl, hb3⟩; have HB3 := hid (HB2.out.trans (hb3.mono HB2.out.size)); clear hb3)
  go_ret
  exact ⟨rfl, HB3.out⟩

set_option maxHeartbeats 4000000 in
theorem sameNodes_true (v u : Value) (L : List Nd) (w : World) (hv : LiesN w v L) (hu : LiesN w u L) :
    Calls Try.prog 38 #[v, u] w fun e w' => e = .returned (.bool true) ∧ Below w.heap.size w w' := by
  obtain ⟨a, c, rfl, _⟩ := hv.form
  obtain ⟨a', c', rfl, _⟩ := hu.form
  have hlen := hv.len
  unfold maxLen at hlen
  have HV := hid hv
  have HU := hid hu
  obtain ⟨n, hn⟩ : ∃ n, L.length = n := ⟨_, rfl⟩
  have HN := hid hn
  rw [hn] at HV HU hlen ⊢
  clear hv hu hn
  have HB0 := hid (Below.refl w.heap.size w)
  have hnn : ((n : Int) != (n : Int)) = false := by simp
  go_enter Try.func38, Try.ntmps38
  go_wp2_with fail
  clear hnn
  go_loopw [13] (fun i wr => ∃ j : Nat, j ≤ n ∧ i = .int .i64 (j : Nat) ∧ Hid (Below w.heap.size w wr)) (fun i _ => n - (intOf i).toNat)
  case atStart => exact ⟨0, Nat.zero_le _, rfl, HB0⟩
  case round =>
    obtain ⟨j, hj, rfl, HB⟩ := hrel
    clear HB0
    by_cases hjn : j < n
    · have hji : (j : Int) < (n : Int) := by omega
      obtain ⟨x, hx⟩ : ∃ x, L[j]? = some x := ⟨_, List.getElem?_eq_getElem (by rw [HN.out]; exact hjn)⟩
      have hd : Below wr.heap.size wr wr.drew := (Below.refl _ wr).drew
      obtain ⟨b, off, kv, e1, hbl, c0, c1, c2, c3, c4, c5, hf⟩ := ((HV.out.on HB.out).on hd).at hx
      obtain ⟨b', off', ku, e1', hbl', d0, d1, d2, d3, d4, d5, hg⟩ := ((HU.out.on HB.out).on hd).at hx
      subst e1 e1'
      have HS : Hid (Calls Try.prog 54 #[.agg (cellsN x kv), .agg (cellsN x ku)] wr.drew fun e w' => e = .returned (.bool true) ∧ Below wr.drew.heap.size wr.drew w') := sameNode_true x kv ku _ hf.lies hg.lies
      have HSS : Hid (∀ w', Below wr.drew.heap.size wr.drew w' → w'.cell? ⟨b, off + j * 6, none⟩ = wr.drew.cell? ⟨b, off + j * 6, none⟩) := fun w' hb => hb.cell (p := ⟨b, off + j * 6, none⟩) hbl
      obtain ⟨ka, kc, rfl⟩ := hf.lies.form
      obtain ⟨ka', kc', rfl⟩ := hg.lies.form
      clear hx hd hf hg HSS
      have HB2 := hid HB.out.drew
      obtain ⟨A, nm, K, ct, q, nx⟩ := x
      simp only [cellsN] at *
      generalize K.length = m at *
      go_wp2_with fail
      refine wp_region_d (fun w' => w'.cell? ⟨b, off + j * 6, none⟩ = some (.int .u64 (A : Nat)) ∧ w'.cell? ⟨b, off + j * 6 + 1, none⟩ = some (.string nm) ∧ w'.cell? ⟨b, off + j * 6 + 2, none⟩ = some (.slice ka m kc) ∧ w'.cell? ⟨b, off + j * 6 + 3, none⟩ = some (.int .i64 ct) ∧ w'.cell? ⟨b, off + j * 6 + 4, none⟩ = some (.bool q) ∧ w'.cell? ⟨b, off + j * 6 + 5, none⟩ = some (.int .u64 (nx : Nat)) ∧ w'.cell? ⟨b', off' + j * 6, none⟩ = some (.int .u64 (A : Nat)) ∧ w'.cell? ⟨b', off' + j * 6 + 1, none⟩ = some (.string nm) ∧ w'.cell? ⟨b', off' + j * 6 + 2, none⟩ = some (.slice ka' m kc') ∧ w'.cell? ⟨b', off' + j * 6 + 3, none⟩ = some (.int .i64 ct) ∧ w'.cell? ⟨b', off' + j * 6 + 4, none⟩ = some (.bool q) ∧ w'.cell? ⟨b', off' + j * 6 + 5, none⟩ = some (.int .u64 (nx : Nat))) (fun _ => true) (by kernel_rfl) ?_
      generalize wr.drew = w2 at *
      have hS := And.intro c0 (And.intro c1 (And.intro c2 (And.intro c3 (And.intro c4 (And.intro c5 (And.intro d0 (And.intro d1 (And.intro d2 (And.intro d3 (And.intro d4 d5))))))))))
      have hSB : Hid (∀ w', Below w2.heap.size w2 w' → w'.cell? ⟨b, off + j * 6, none⟩ = some (.int .u64 (A : Nat)) ∧ w'.cell? ⟨b, off + j * 6 + 1, none⟩ = some (.string nm) ∧ w'.cell? ⟨b, off + j * 6 + 2, none⟩ = some (.slice ka m kc) ∧ w'.cell? ⟨b, off + j * 6 + 3, none⟩ = some (.int .i64 ct) ∧ w'.cell? ⟨b, off + j * 6 + 4, none⟩ = some (.bool q) ∧ w'.cell? ⟨b, off + j * 6 + 5, none⟩ = some (.int .u64 (nx : Nat)) ∧ w'.cell? ⟨b', off' + j * 6, none⟩ = some (.int .u64 (A : Nat)) ∧ w'.cell? ⟨b', off' + j * 6 + 1, none⟩ = some (.string nm) ∧ w'.cell? ⟨b', off' + j * 6 + 2, none⟩ = some (.slice ka' m kc') ∧ w'.cell? ⟨b', off' + j * 6 + 3, none⟩ = some (.int .i64 ct) ∧ w'.cell? ⟨b', off' + j * 6 + 4, none⟩ = some (.bool q) ∧ w'.cell? ⟨b', off' + j * 6 + 5, none⟩ = some (.int .u64 (nx : Nat))) := fun w' hb => ⟨(hb.cell (p := ⟨b, off + j * 6, none⟩) hbl).trans c0, (hb.cell (p := ⟨b, off + j * 6 + 1, none⟩) hbl).trans c1, (hb.cell (p := ⟨b, off + j * 6 + 2, none⟩) hbl).trans c2, (hb.cell (p := ⟨b, off + j * 6 + 3, none⟩) hbl).trans c3, (hb.cell (p := ⟨b, off + j * 6 + 4, none⟩) hbl).trans c4, (hb.cell (p := ⟨b, off + j * 6 + 5, none⟩) hbl).trans c5, (hb.cell (p := ⟨b', off' + j * 6, none⟩) hbl').trans d0, (hb.cell (p := ⟨b', off' + j * 6 + 1, none⟩) hbl').trans d1, (hb.cell (p := ⟨b', off' + j * 6 + 2, none⟩) hbl').trans d2, (hb.cell (p := ⟨b', off' + j * 6 + 3, none⟩) hbl').trans d3, (hb.cell (p := ⟨b', off' + j * 6 + 4, none⟩) hbl').trans d4, (hb.cell (p := ⟨b', off' + j * 6 + 5, none⟩) hbl').trans d5⟩
      clear HB
      refine wpAnyM_pick (i := 0) (some 16) (v := ?vz10) rfl rfl (by kernel_rfl) (by kernel_rfl) (by kernel_rfl) (by kernel_rfl) (fun _ _ _ h => h) (Or.inl ⟨by rfl, ?hz10⟩) hS ?rz10
      case hz10 => intro w hSw; (first | obtain ⟨hs1, hs2, hs3, hs4, hs5, hs6, hs7, hs8, hs9, hs10, hs11, hs12⟩ := hSw | obtain ⟨hs1, hs2, hs3, hs4, hs5, hs6, hs7, hs8⟩ := hSw | obtain ⟨hs1, hs2, hs3⟩ := hSw | obtain ⟨hs1, hs2⟩ := hSw | skip); go_simp; try with_reducible rfl
      try simp only [Act.put, List.setIfInBounds_toArray, List.set_cons_zero, List.set_cons_succ]
      refine wpAnyM_pick (i := 1) (some 17) (v := ?vz11) rfl rfl (by kernel_rfl) (by kernel_rfl) (by kernel_rfl) (by kernel_rfl) (fun _ _ _ h => h) (Or.inl ⟨by rfl, ?hz11⟩) hS ?rz11
      case hz11 => intro w hSw; (first | obtain ⟨hs1, hs2, hs3, hs4, hs5, hs6, hs7, hs8, hs9, hs10, hs11, hs12⟩ := hSw | obtain ⟨hs1, hs2, hs3, hs4, hs5, hs6, hs7, hs8⟩ := hSw | obtain ⟨hs1, hs2, hs3⟩ := hSw | obtain ⟨hs1, hs2⟩ := hSw | skip); go_simp; try with_reducible rfl
      try simp only [Act.put, List.setIfInBounds_toArray, List.set_cons_zero, List.set_cons_succ]
      refine wpAnyM_pick (i := 2) (some 18) (v := ?vz12) rfl rfl (by kernel_rfl) (by kernel_rfl) (by kernel_rfl) (by kernel_rfl) (fun _ _ _ h => h) (Or.inl ⟨by rfl, ?hz12⟩) hS ?rz12
      case hz12 => intro w hSw; (first | obtain ⟨hs1, hs2, hs3, hs4, hs5, hs6, hs7, hs8, hs9, hs10, hs11, hs12⟩ := hSw | obtain ⟨hs1, hs2, hs3, hs4, hs5, hs6, hs7, hs8⟩ := hSw | obtain ⟨hs1, hs2, hs3⟩ := hSw | obtain ⟨hs1, hs2⟩ := hSw | skip); go_simp; try with_reducible rfl
      try simp only [Act.put, List.setIfInBounds_toArray, List.set_cons_zero, List.set_cons_succ]
      refine wpAnyM_pick (i := 3) (some 19) (v := ?vz13) rfl rfl (by kernel_rfl) (by kernel_rfl) (by kernel_rfl) (by kernel_rfl) (fun _ _ _ h => h) (Or.inl ⟨by rfl, ?hz13⟩) hS ?rz13
      case hz13 => intro w hSw; (first | obtain ⟨hs1, hs2, hs3, hs4, hs5, hs6, hs7, hs8, hs9, hs10, hs11, hs12⟩ := hSw | obtain ⟨hs1, hs2, hs3, hs4, hs5, hs6, hs7, hs8⟩ := hSw | obtain ⟨hs1, hs2, hs3⟩ := hSw | obtain ⟨hs1, hs2⟩ := hSw | skip); go_simp; try with_reducible rfl
      try simp only [Act.put, List.setIfInBounds_toArray, List.set_cons_zero, List.set_cons_succ]
      refine wpAnyM_pick (i := 4) (some 20) (v := ?vz14) rfl rfl (by kernel_rfl) (by kernel_rfl) (by kernel_rfl) (by kernel_rfl) (fun _ _ _ h => h) (Or.inl ⟨by rfl, ?hz14⟩) hS ?rz14
      case hz14 => intro w hSw; (first | obtain ⟨hs1, hs2, hs3, hs4, hs5, hs6, hs7, hs8, hs9, hs10, hs11, hs12⟩ := hSw | obtain ⟨hs1, hs2, hs3, hs4, hs5, hs6, hs7, hs8⟩ := hSw | obtain ⟨hs1, hs2, hs3⟩ := hSw | obtain ⟨hs1, hs2⟩ := hSw | skip); go_simp; try with_reducible rfl
      try simp only [Act.put, List.setIfInBounds_toArray, List.set_cons_zero, List.set_cons_succ]
      refine wpAnyM_pick (i := 5) (some 21) (v := ?vz15) rfl rfl (by kernel_rfl) (by kernel_rfl) (by kernel_rfl) (by kernel_rfl) (fun _ _ _ h => h) (Or.inl ⟨by rfl, ?hz15⟩) hS ?rz15
      case hz15 => intro w hSw; (first | obtain ⟨hs1, hs2, hs3, hs4, hs5, hs6, hs7, hs8, hs9, hs10, hs11, hs12⟩ := hSw | obtain ⟨hs1, hs2, hs3, hs4, hs5, hs6, hs7, hs8⟩ := hSw | obtain ⟨hs1, hs2, hs3⟩ := hSw | obtain ⟨hs1, hs2⟩ := hSw | skip); go_simp; try with_reducible rfl
      try simp only [Act.put, List.setIfInBounds_toArray, List.set_cons_zero, List.set_cons_succ]
      refine wpAnyM_pick (i := 6) (some 22) (v := ?vz16) rfl rfl (by kernel_rfl) (by kernel_rfl) (by kernel_rfl) (by kernel_rfl) (fun _ _ _ h => h) (Or.inl ⟨by rfl, ?hz16⟩) hS ?rz16
      case hz16 => intro w hSw; (first | obtain ⟨hs1, hs2, hs3, hs4, hs5, hs6, hs7, hs8, hs9, hs10, hs11, hs12⟩ := hSw | obtain ⟨hs1, hs2, hs3, hs4, hs5, hs6, hs7, hs8⟩ := hSw | obtain ⟨hs1, hs2, hs3⟩ := hSw | obtain ⟨hs1, hs2⟩ := hSw | skip); go_simp; try with_reducible rfl
      try simp only [Act.put, List.setIfInBounds_toArray, List.set_cons_zero, List.set_cons_succ]
      refine wpAnyM_pick (i := 7) (some 23) (v := ?vz17) rfl rfl (by kernel_rfl) (by kernel_rfl) (by kernel_rfl) (by kernel_rfl) (fun _ _ _ h => h) (Or.inl ⟨by rfl, ?hz17⟩) hS ?rz17
      case hz17 => intro w hSw; (first | obtain ⟨hs1, hs2, hs3, hs4, hs5, hs6, hs7, hs8, hs9, hs10, hs11, hs12⟩ := hSw | obtain ⟨hs1, hs2, hs3, hs4, hs5, hs6, hs7, hs8⟩ := hSw | obtain ⟨hs1, hs2, hs3⟩ := hSw | obtain ⟨hs1, hs2⟩ := hSw | skip); go_simp; try with_reducible rfl
      try simp only [Act.put, List.setIfInBounds_toArray, List.set_cons_zero, List.set_cons_succ]
      clear hS c0 c1 c2 c3 c4 c5 d0 d1 d2 d3 d4 d5
      refine wpAnyM_one (i := 8) (by kernel_rfl) rfl (fun K hK => ?_)
      go_simp
      go_at_call 54
      refine HS.out.mono ?_
      clear HS
      rintro e w3 ⟨rfl, hb3⟩
      have hS := hSB.out w3 hb3
      have HB3 := hid (HB2.out.trans (hb3.mono HB2.out.size))
      clear hb3 HB2 hSB
      go_wp2_with fail
      refine hK.out _ _ (fun _ => hS) ?_
      clear hK K
      try simp only [Act.put, List.setIfInBounds_toArray, List.set_cons_zero, List.set_cons_succ]
      refine wpAnyM_pick (i := 9) (some 25) (v := ?vz18) rfl rfl (by kernel_rfl) (by kernel_rfl) (by kernel_rfl) (by kernel_rfl) (fun _ _ _ h => h) (Or.inl ⟨by rfl, ?hz18⟩) hS ?rz18
      case hz18 => intro w hSw; (first | obtain ⟨hs1, hs2, hs3, hs4, hs5, hs6, hs7, hs8, hs9, hs10, hs11, hs12⟩ := hSw | obtain ⟨hs1, hs2, hs3, hs4, hs5, hs6, hs7, hs8⟩ := hSw | obtain ⟨hs1, hs2, hs3⟩ := hSw | obtain ⟨hs1, hs2⟩ := hSw | skip); go_simp; try with_reducible rfl
      try simp only [Act.put, List.setIfInBounds_toArray, List.set_cons_zero, List.set_cons_succ]
      refine wpAnyM_done (by kernel_rfl) ?_ _
      clear hS
      go_wp2_with fail
      go_roundw
      case rel => exact ⟨j + 1, by omega, by go_num, HB3⟩
      case measure => simp [intOf]; omega
    · have hji : ¬ (j : Int) < (n : Int) := by omega
      obtain rfl : j = n := by omega
      go_wp2_with fail
      go_ret
      exact ⟨rfl, HB.out⟩
theorem same_true (b : Bk) (v u : Value) (w : World) (hv : LiesN w v b.nodes) (hu : LiesN w u b.nodes) :
    Calls Try.prog 21 #[.agg #[.int .i64 b.depth, .int .i64 b.next, v], .agg #[.int .i64 b.depth, .int .i64 b.next, u]] w fun e w' => e = .returned (.bool true) ∧ Below w.heap.size w w' := by
  have h1 := (Below.refl w.heap.size w).alloc (Nat.le_refl _) (.cells #[.int .i64 b.depth, .int .i64 b.next, v] 42)
  have k1 := Blk.made w #[.int .i64 b.depth, .int .i64 b.next, v] 42
  have HB2 := hid (h1.alloc h1.size (.cells #[.int .i64 b.depth, .int .i64 b.next, u] 42))
  have HX2 := hid (k1.alloc (.cells #[.int .i64 b.depth, .int .i64 b.next, u] 42))
  have HY2 := hid (Blk.made (w.alloc (.cells #[.int .i64 b.depth, .int .i64 b.next, v] 42)) #[.int .i64 b.depth, .int .i64 b.next, u] 42)
  have HK : Hid (∀ w1, Below w.heap.size w w1 → Calls Try.prog 38 #[v, u] w1 fun e w' => e = .returned (.bool true) ∧ Below w1.heap.size w1 w') := fun w1 hb => sameNodes_true v u b.nodes w1 (hv.on hb) (hu.on hb)
  obtain ⟨a, c, rfl, _⟩ := hv.form
  obtain ⟨a', c', rfl, _⟩ := hu.form
  clear h1 k1 hv hu
  obtain ⟨d, nx, L⟩ := b
  simp only at *
  have a0 := HX2.out.cell (i := 0) rfl
  have a1 := HX2.out.cell (i := 1) rfl
  have a2 := HX2.out.cell (i := 2) rfl
  have b0 := HY2.out.cell (i := 0) rfl
  have b1 := HY2.out.cell (i := 1) rfl
  have b2 := HY2.out.cell (i := 2) rfl
  go_enter Try.func21, Try.ntmps21
  go_wp2_with (go_at_call 38; refine (HK.out _ HB2.out).mono ?_; clear HK; rintro e w3 ⟨rfl, hb3⟩; have HB3 := hid (HB2.out.trans (hb3.mono HB2.out.size)); clear hb3)
  go_ret
  exact ⟨rfl, HB3.out⟩
end Go.Proofs.Ythohopbolalpcaa

