/-
  A node's slot, as the document makes it.
-/
import Derived.Test.YthohopbolalpcaaSz
import Derived.Test.YthohopbolalpcaaSf
namespace Go.Proofs.Ythohopbolalpcaa
open Go.RowKit
set_option linter.unusedVariables false
set_option linter.unusedSimpArgs false
set_option maxRecDepth 100000

/-- the first seven fields together -/
theorem slot7 (x : Nd) : (⟨(be 1 1).toArray⟩ : ByteArray) ++ ⟨(be (tell x 1) 1).toArray⟩ ++ ⟨(be (tell x 2) 2).toArray⟩ ++ ⟨(be (tell x 3) 8).toArray⟩ ++ ⟨(be (tell x 4) 1).toArray⟩ ++ ⟨(be (tell x 5) 4).toArray⟩ ++ ⟨(be (tell x 6) 6).toArray⟩ = ⟨(slotP x 7).toArray⟩ := by
  have e : slotP x 7 = be 1 1 ++ be (tell x 1) 1 ++ be (tell x 2) 2 ++ be (tell x 3) 8 ++ be (tell x 4) 1 ++ be (tell x 5) 4 ++ be (tell x 6) 6 := by
    rw [slotP_succ, slotP_succ, slotP_succ, slotP_succ, slotP_succ, slotP_succ, slotP_succ]
    rfl
  rw [e]
  apply ByteArray.ext
  apply Array.toList_inj.1
  simp [ByteArray.data_append]
theorem be_pad {x : Nd} (h : NdOk x) : (⟨(be (tell x 3) 8).toArray⟩ : ByteArray) = padOf x.name 8 := by
  have e : tell x 3 = val (padOf x.name 8).data.toList := rfl
  have h9 := be_val (padOf x.name 8).data.toList
  rw [pad8_len (ctE_ok h.ct).1] at h9
  rw [e, h9]
theorem bsz (n k : Nat) : (⟨(be n k).toArray⟩ : ByteArray).size = k := by rw [Lib.size_eq]; exact be_length n k

set_option maxHeartbeats 8000000 in
theorem rSlot_any (x : Nd) (kv : Value) (w : World) (ho : NdOk x) (hl : LiesK w kv x.kids) :
    Calls Try.prog 34 #[.agg (cellsN x kv)] w fun e w' => e = .returned (.string ⟨(slotB x).toArray⟩) ∧ Below w.heap.size w w' := by
  obtain ⟨ka, kc, rfl⟩ := hl.form
  obtain ⟨h8, h4, hA⟩ := ctE_ok ho.ct
  have HB1 := hid ((Below.refl w.heap.size w).alloc (Nat.le_refl _) (.cells (cellsN x (.slice ka x.kids.length kc)) 57))
  have HX1 := hid (Blk.made w (cellsN x (.slice ka x.kids.length kc)) 57)
  have HL := hid hl
  have H7 := hid (slot7 x)
  have hbp := be_pad ho
  have HT : Hid (∀ i, i < 11 → tell x i < 256 ^ wd i) := fun i hi => tell_lt ho hi
  have P0 : Hid (∀ w1, _) := fun w1 => rput 1 1 w1 (by decide) (by decide) (by decide)
  have P1 : Hid (∀ w1, _) := fun w1 => rput (tell x 1) 1 w1 (by decide) (by decide) (HT.out 1 (by decide))
  have P2 : Hid (∀ w1, _) := fun w1 => rput (tell x 2) 2 w1 (by decide) (by decide) (HT.out 2 (by decide))
  have P3 : Hid (∀ w1, Calls Try.prog 26 #[.string x.name] w1 fun e w' => e = .returned (.string ⟨(be (tell x 3) 8).toArray⟩) ∧ Below w1.heap.size w1 w') := fun w1 => by rw [hbp]; exact rpad x.name w1 h8
  have P4 : Hid (∀ w1, _) := fun w1 => rput (tell x 4) 1 w1 (by decide) (by decide) (HT.out 4 (by decide))
  have P5 : Hid (∀ w1, _) := fun w1 => rput (tell x 5) 4 w1 (by decide) (by decide) (HT.out 5 (by decide))
  have P6 : Hid (∀ w1, _) := fun w1 => rput (tell x 6) 6 w1 (by decide) (by decide) (HT.out 6 (by decide))
  have PK : Hid (∀ k, k < 4 → ∀ w1, Calls Try.prog 27 #[.int .u64 (x.kids.getD k 0 : Nat), .int .i64 ((6 : Nat) : Int)] w1 fun e w' => e = .returned (.string ⟨(be (tell x (7 + k)) 6).toArray⟩) ∧ Below w1.heap.size w1 w') := fun k hk w1 => by
    have e : tell x (7 + k) = x.kids.getD k 0 := by
      unfold tell
      iterate 7 rw [if_neg (by omega)]
      rw [show 7 + k - 7 = k by omega]
    have ew : wd (7 + k) = 6 := by
      unfold wd
      iterate 6 rw [if_neg (by omega)]
    have := HT.out (7 + k) (by omega)
    rw [ew] at this
    rw [← e]
    exact rput _ 6 w1 (by decide) (by decide) this
  have HS : Hid (∀ k, k < 4 → slotP x (7 + k + 1) = slotP x (7 + k) ++ be (tell x (7 + k)) 6) := fun k hk => by
    have ew : wd (7 + k) = 6 := by
      unfold wd
      iterate 6 rw [if_neg (by omega)]
    rw [slotP_succ, ew]
  have PZ : Hid (∀ w1, _) := fun w1 => rput 0 1 w1 (by decide) (by decide) (by decide)
  have e1 : tell x 1 = if x.queued then 1 else 0 := rfl
  have e2 : tell x 2 = x.at' % 65536 := rfl
  have e4 : tell x 4 = x.kids.length := rfl
  have e5 : tell x 5 = x.count.toNat := rfl
  have e6 : tell x 6 = x.next := rfl
  have hc0 := ho.c0
  have hc1 := ho.c1
  have HSB : Hid (slotB x = slotP x 11 ++ [0]) := rfl
  have HLN : Hid (∀ n, (slotP x n).length = off n) := fun n => slotP_len x n
  rw [e1] at P1 H7
  rw [e2] at P2 H7
  rw [e4] at P4 H7
  rw [e5] at P5 H7
  rw [e6] at P6 H7
  have hk9 : x.kids.length ≤ 4 := h4
  obtain ⟨p, hp⟩ : ∃ p, w.heap.size = p := ⟨_, rfl⟩
  have HKG : Hid (∀ k, x.kids.length ≤ k → x.kids.getD k 0 = 0) := fun k hk => by rw [List.getD_eq_getElem?_getD, List.getElem?_eq_none hk]; rfl
  have HKA : Hid (∀ k v, x.kids[k]? = some v → x.kids.getD k 0 = v) := fun k v h => by rw [List.getD_eq_getElem?_getD, h]; rfl
  clear e1 e2 e4 e5 e6 hbp HT ho hl hA h4
  obtain ⟨A, nm, K, ct, qd, nx⟩ := x
  simp only [cellsN] at *
  obtain ⟨C5, hC5⟩ : ∃ C5 : Nat, ct.toNat = C5 := ⟨_, rfl⟩
  obtain ⟨M2, hM2⟩ : ∃ M2 : Nat, A % 65536 = M2 := ⟨_, rfl⟩
  obtain ⟨m, hm⟩ : ∃ m, K.length = m := ⟨_, rfl⟩
  have HMM := hid hm
  have g2 : (A : Int) % 65536 = (M2 : Int) := by omega
  have g3 : (A : Int).tmod 65536 = (M2 : Int) := by rw [Int.tmod_eq_emod_of_nonneg (by omega)]; exact g2
  have g4 : IntKind.u64.wrap (m : Int) = (m : Int) := by rw [IntKind.wrap_u64]; omega
  have g5 : IntKind.u64.wrap ct = (C5 : Int) := by rw [IntKind.wrap_u64]; omega
  rw [hm] at P4 H7 HX1 HB1 HL HKG hk9 ⊢
  rw [hM2] at P2 H7
  rw [hC5] at P5 H7
  rw [hp] at HX1 HB1
  have z0 := bsz 1 1
  have z2 := bsz M2 2
  have z3 := bsz (tell ⟨A, nm, K, ct, qd, nx⟩ 3) 8
  have z4 := bsz m 1
  have z5 := bsz C5 4
  have z6 := bsz nx 6
  have hqd : ∃ q1 : Nat, (qd = true ∧ q1 = 1 ∨ qd = false ∧ q1 = 0) ∧ (if qd = true then 1 else 0) = q1 := by cases qd; exact ⟨0, .inr ⟨rfl, rfl⟩, rfl⟩; exact ⟨1, .inl ⟨rfl, rfl⟩, rfl⟩
  obtain ⟨q1, hq1, hq2⟩ := hqd
  rw [hq2] at P1 H7
  have z1 := bsz q1 1
  have HSX := hid (Eq.refl (slotB ⟨A, nm, K, ct, qd, nx⟩))
  obtain ⟨X, hX⟩ : ∃ X, (⟨A, nm, K, ct, qd, nx⟩ : Nd) = X := ⟨_, rfl⟩
  rw [hX] at H7 P3 PK HS HSB HLN z3 ⊢
  have HXE := hid hX
  clear hX HSX hq2 hM2 hC5 hm hc0 hc1
  generalize (⟨(be 1 1).toArray⟩ : ByteArray) = Y0 at *
  generalize (⟨(be q1 1).toArray⟩ : ByteArray) = Y1 at *
  generalize (⟨(be M2 2).toArray⟩ : ByteArray) = Y2 at *
  generalize (⟨(be (tell X 3) 8).toArray⟩ : ByteArray) = Y3 at *
  generalize (⟨(be m 1).toArray⟩ : ByteArray) = Y4 at *
  generalize (⟨(be C5 4).toArray⟩ : ByteArray) = Y5 at *
  generalize (⟨(be nx 6).toArray⟩ : ByteArray) = Y6 at *
  obtain ⟨T1, t1⟩ : ∃ T, Y0 ++ Y1 = T := ⟨_, rfl⟩
  obtain ⟨T2, t2⟩ : ∃ T, T1 ++ Y2 = T := ⟨_, rfl⟩
  obtain ⟨T3, t3⟩ : ∃ T, T2 ++ Y3 = T := ⟨_, rfl⟩
  obtain ⟨T4, t4⟩ : ∃ T, T3 ++ Y4 = T := ⟨_, rfl⟩
  obtain ⟨T5, t5⟩ : ∃ T, T4 ++ Y5 = T := ⟨_, rfl⟩
  obtain ⟨T6, t6⟩ : ∃ T, T5 ++ Y6 = T := ⟨_, rfl⟩
  rw [t1, t2, t3, t4, t5, t6] at H7
  have s1 : T1.size = 2 := by rw [← t1, ByteArray.size_append, z0, z1]
  have s2 : T2.size = 4 := by rw [← t2, ByteArray.size_append, s1, z2]
  have s3 : T3.size = 12 := by rw [← t3, ByteArray.size_append, s2, z3]
  have s4 : T4.size = 13 := by rw [← t4, ByteArray.size_append, s3, z4]
  have s5 : T5.size = 17 := by rw [← t5, ByteArray.size_append, s4, z5]
  have l1 : ¬ 9223372036854775807 < Y0.size + Y1.size := by omega
  have l2 : ¬ 9223372036854775807 < T1.size + Y2.size := by omega
  have l3 : ¬ 9223372036854775807 < T2.size + Y3.size := by omega
  have l4 : ¬ 9223372036854775807 < T3.size + Y4.size := by omega
  have l5 : ¬ 9223372036854775807 < T4.size + Y5.size := by omega
  have l6 : ¬ 9223372036854775807 < T5.size + Y6.size := by omega
  clear z0 z1 z2 z3 z4 z5 z6 s1 s2 s3 s4 s5
  have H70 : Hid (T6 = ⟨(slotP X (7 + 0)).toArray⟩) := H7
  have HPP := hid hp
  rcases hq1 with ⟨rfl, rfl⟩ | ⟨rfl, rfl⟩
  · have x4 := HX1.out.cell (i := 4) rfl
    go_enter Try.func34, Try.ntmps34
    go_wp2_with fail
    generalize w.alloc (Obj.cells #[.int .u64 (A : Nat), .string nm, .slice ka m kc, .int .i64 ct, .bool true, .int .u64 (nx : Nat)] 57) = w1 at *
    clear x4 hp
    refine wp_region_d (fun w' => w'.cell? ⟨p, 0, none⟩ = some (.int .u64 (A : Nat)) ∧ w'.cell? ⟨p, 1, none⟩ = some (.string nm) ∧ w'.cell? ⟨p, 2, none⟩ = some (.slice ka m kc) ∧ w'.cell? ⟨p, 3, none⟩ = some (.int .i64 ct) ∧ w'.cell? ⟨p, 4, none⟩ = some (.bool true) ∧ w'.cell? ⟨p, 5, none⟩ = some (.int .u64 (nx : Nat))) (fun _ => true) (by kernel_rfl) ?_
    have HX2 := hid (HX1.out.on (Below.refl _ w1).drew HX1.out.lt)
    have HB2 := hid HB1.out.drew
    clear HX1 HB1
    generalize w1.drew = w2 at *
    have HSS : Hid (∀ w', Blk w' p #[.int .u64 (A : Nat), .string nm, .slice ka m kc, .int .i64 ct, .bool true, .int .u64 (nx : Nat)] 57 → w'.cell? ⟨p, 0, none⟩ = some (.int .u64 (A : Nat)) ∧ w'.cell? ⟨p, 1, none⟩ = some (.string nm) ∧ w'.cell? ⟨p, 2, none⟩ = some (.slice ka m kc) ∧ w'.cell? ⟨p, 3, none⟩ = some (.int .i64 ct) ∧ w'.cell? ⟨p, 4, none⟩ = some (.bool true) ∧ w'.cell? ⟨p, 5, none⟩ = some (.int .u64 (nx : Nat))) := fun w' h => ⟨h.cell (i := 0) rfl, h.cell (i := 1) rfl, h.cell (i := 2) rfl, h.cell (i := 3) rfl, h.cell (i := 4) rfl, h.cell (i := 5) rfl⟩
    have hS := HSS.out w2 HX2.out
    refine wpAnyM_pick (i := 1) (some 10) (v := ?vz1) rfl rfl (by kernel_rfl) (by kernel_rfl) (by kernel_rfl) (by kernel_rfl) (fun _ _ _ h => h) (Or.inl ⟨by rfl, ?hz1⟩) hS ?rz1
    case hz1 => intro w hSw; (first | obtain ⟨hs1, hs2, hs3, hs4, hs5, hs6, hs7, hs8, hs9, hs10, hs11, hs12⟩ := hSw | obtain ⟨hs1, hs2, hs3, hs4, hs5, hs6, hs7, hs8⟩ := hSw | obtain ⟨hs1, hs2, hs3, hs4, hs5, hs6⟩ := hSw | obtain ⟨hs1, hs2, hs3⟩ := hSw | obtain ⟨hs1, hs2⟩ := hSw | skip); go_simp; try with_reducible rfl
    try simp only [Act.put, List.setIfInBounds_toArray, List.set_cons_zero, List.set_cons_succ]
    refine wpAnyM_pick (i := 4) (some 13) (v := ?vz2) rfl rfl (by kernel_rfl) (by kernel_rfl) (by kernel_rfl) (by kernel_rfl) (fun _ _ _ h => h) (Or.inl ⟨by rfl, ?hz2⟩) hS ?rz2
    case hz2 => intro w hSw; (first | obtain ⟨hs1, hs2, hs3, hs4, hs5, hs6, hs7, hs8, hs9, hs10, hs11, hs12⟩ := hSw | obtain ⟨hs1, hs2, hs3, hs4, hs5, hs6, hs7, hs8⟩ := hSw | obtain ⟨hs1, hs2, hs3, hs4, hs5, hs6⟩ := hSw | obtain ⟨hs1, hs2, hs3⟩ := hSw | obtain ⟨hs1, hs2⟩ := hSw | skip); go_simp; try with_reducible rfl
    try simp only [Act.put, List.setIfInBounds_toArray, List.set_cons_zero, List.set_cons_succ]
    refine wpAnyM_pick (i := 5) (some 14) (v := ?vz3) rfl rfl (by kernel_rfl) (by kernel_rfl) (by kernel_rfl) (by kernel_rfl) (fun _ _ _ h => h) (Or.inl ⟨by rfl, ?hz3⟩) hS ?rz3
    case hz3 => intro w hSw; (first | obtain ⟨hs1, hs2, hs3, hs4, hs5, hs6, hs7, hs8, hs9, hs10, hs11, hs12⟩ := hSw | obtain ⟨hs1, hs2, hs3, hs4, hs5, hs6, hs7, hs8⟩ := hSw | obtain ⟨hs1, hs2, hs3, hs4, hs5, hs6⟩ := hSw | obtain ⟨hs1, hs2, hs3⟩ := hSw | obtain ⟨hs1, hs2⟩ := hSw | skip); go_simp; try with_reducible rfl
    try simp only [Act.put, List.setIfInBounds_toArray, List.set_cons_zero, List.set_cons_succ]
    refine wpAnyM_pick (i := 6) (some 15) (v := ?vz4) rfl rfl (by kernel_rfl) (by kernel_rfl) (by kernel_rfl) (by kernel_rfl) (fun _ _ _ h => h) (Or.inl ⟨by rfl, ?hz4⟩) hS ?rz4
    case hz4 => intro w hSw; (first | obtain ⟨hs1, hs2, hs3, hs4, hs5, hs6, hs7, hs8, hs9, hs10, hs11, hs12⟩ := hSw | obtain ⟨hs1, hs2, hs3, hs4, hs5, hs6, hs7, hs8⟩ := hSw | obtain ⟨hs1, hs2, hs3, hs4, hs5, hs6⟩ := hSw | obtain ⟨hs1, hs2, hs3⟩ := hSw | obtain ⟨hs1, hs2⟩ := hSw | skip); go_simp; try with_reducible rfl
    try simp only [Act.put, List.setIfInBounds_toArray, List.set_cons_zero, List.set_cons_succ]
    refine wpAnyM_pick (i := 9) (some 18) (v := ?vz5) rfl rfl (by kernel_rfl) (by kernel_rfl) (by kernel_rfl) (by kernel_rfl) (fun _ _ _ h => h) (Or.inl ⟨by rfl, ?hz5⟩) hS ?rz5
    case hz5 => intro w hSw; (first | obtain ⟨hs1, hs2, hs3, hs4, hs5, hs6, hs7, hs8, hs9, hs10, hs11, hs12⟩ := hSw | obtain ⟨hs1, hs2, hs3, hs4, hs5, hs6, hs7, hs8⟩ := hSw | obtain ⟨hs1, hs2, hs3, hs4, hs5, hs6⟩ := hSw | obtain ⟨hs1, hs2, hs3⟩ := hSw | obtain ⟨hs1, hs2⟩ := hSw | skip); go_simp; try with_reducible rfl
    try simp only [Act.put, List.setIfInBounds_toArray, List.set_cons_zero, List.set_cons_succ]
    refine wpAnyM_pick (i := 10) (some 19) (v := ?vz6) rfl rfl (by kernel_rfl) (by kernel_rfl) (by kernel_rfl) (by kernel_rfl) (fun _ _ _ h => h) (Or.inl ⟨by rfl, ?hz6⟩) hS ?rz6
    case hz6 => intro w hSw; (first | obtain ⟨hs1, hs2, hs3, hs4, hs5, hs6, hs7, hs8, hs9, hs10, hs11, hs12⟩ := hSw | obtain ⟨hs1, hs2, hs3, hs4, hs5, hs6, hs7, hs8⟩ := hSw | obtain ⟨hs1, hs2, hs3, hs4, hs5, hs6⟩ := hSw | obtain ⟨hs1, hs2, hs3⟩ := hSw | obtain ⟨hs1, hs2⟩ := hSw | skip); go_simp; try with_reducible rfl
    try simp only [Act.put, List.setIfInBounds_toArray, List.set_cons_zero, List.set_cons_succ]
    refine wpAnyM_pick (i := 13) (some 22) (v := ?vz7) rfl rfl (by kernel_rfl) (by kernel_rfl) (by kernel_rfl) (by kernel_rfl) (fun _ _ _ h => h) (Or.inl ⟨by rfl, ?hz7⟩) hS ?rz7
    case hz7 => intro w hSw; (first | obtain ⟨hs1, hs2, hs3, hs4, hs5, hs6, hs7, hs8, hs9, hs10, hs11, hs12⟩ := hSw | obtain ⟨hs1, hs2, hs3, hs4, hs5, hs6, hs7, hs8⟩ := hSw | obtain ⟨hs1, hs2, hs3, hs4, hs5, hs6⟩ := hSw | obtain ⟨hs1, hs2, hs3⟩ := hSw | obtain ⟨hs1, hs2⟩ := hSw | skip); go_simp; try with_reducible rfl
    try simp only [Act.put, List.setIfInBounds_toArray, List.set_cons_zero, List.set_cons_succ]
    refine wpAnyM_pick (i := 14) (some 23) (v := ?vz8) rfl rfl (by kernel_rfl) (by kernel_rfl) (by kernel_rfl) (by kernel_rfl) (fun _ _ _ h => h) (Or.inl ⟨by rfl, ?hz8⟩) hS ?rz8
    case hz8 => intro w hSw; (first | obtain ⟨hs1, hs2, hs3, hs4, hs5, hs6, hs7, hs8, hs9, hs10, hs11, hs12⟩ := hSw | obtain ⟨hs1, hs2, hs3, hs4, hs5, hs6, hs7, hs8⟩ := hSw | obtain ⟨hs1, hs2, hs3, hs4, hs5, hs6⟩ := hSw | obtain ⟨hs1, hs2, hs3⟩ := hSw | obtain ⟨hs1, hs2⟩ := hSw | skip); go_simp; try with_reducible rfl
    try simp only [Act.put, List.setIfInBounds_toArray, List.set_cons_zero, List.set_cons_succ]
    refine wpAnyM_pick (i := 15) (some 24) (v := ?vz9) rfl rfl (by kernel_rfl) (by kernel_rfl) (by kernel_rfl) (by kernel_rfl) (fun _ _ _ h => h) (Or.inl ⟨by rfl, ?hz9⟩) hS ?rz9
    case hz9 => intro w hSw; (first | obtain ⟨hs1, hs2, hs3, hs4, hs5, hs6, hs7, hs8, hs9, hs10, hs11, hs12⟩ := hSw | obtain ⟨hs1, hs2, hs3, hs4, hs5, hs6, hs7, hs8⟩ := hSw | obtain ⟨hs1, hs2, hs3, hs4, hs5, hs6⟩ := hSw | obtain ⟨hs1, hs2, hs3⟩ := hSw | obtain ⟨hs1, hs2⟩ := hSw | skip); go_simp; try with_reducible rfl
    try simp only [Act.put, List.setIfInBounds_toArray, List.set_cons_zero, List.set_cons_succ]
    refine wpAnyM_pick (i := 16) (some 25) (v := ?vz10) rfl rfl (by kernel_rfl) (by kernel_rfl) (by kernel_rfl) (by kernel_rfl) (fun _ _ _ h => h) (Or.inl ⟨by rfl, ?hz10⟩) hS ?rz10
    case hz10 => intro w hSw; (first | obtain ⟨hs1, hs2, hs3, hs4, hs5, hs6, hs7, hs8, hs9, hs10, hs11, hs12⟩ := hSw | obtain ⟨hs1, hs2, hs3, hs4, hs5, hs6, hs7, hs8⟩ := hSw | obtain ⟨hs1, hs2, hs3, hs4, hs5, hs6⟩ := hSw | obtain ⟨hs1, hs2, hs3⟩ := hSw | obtain ⟨hs1, hs2⟩ := hSw | skip); go_simp; try with_reducible rfl
    try simp only [Act.put, List.setIfInBounds_toArray, List.set_cons_zero, List.set_cons_succ]
    refine wpAnyM_pick (i := 19) (some 28) (v := ?vz11) rfl rfl (by kernel_rfl) (by kernel_rfl) (by kernel_rfl) (by kernel_rfl) (fun _ _ _ h => h) (Or.inl ⟨by rfl, ?hz11⟩) hS ?rz11
    case hz11 => intro w hSw; (first | obtain ⟨hs1, hs2, hs3, hs4, hs5, hs6, hs7, hs8, hs9, hs10, hs11, hs12⟩ := hSw | obtain ⟨hs1, hs2, hs3, hs4, hs5, hs6, hs7, hs8⟩ := hSw | obtain ⟨hs1, hs2, hs3, hs4, hs5, hs6⟩ := hSw | obtain ⟨hs1, hs2, hs3⟩ := hSw | obtain ⟨hs1, hs2⟩ := hSw | skip); go_simp; try with_reducible rfl
    try simp only [Act.put, List.setIfInBounds_toArray, List.set_cons_zero, List.set_cons_succ]
    refine wpAnyM_pick (i := 20) (some 29) (v := ?vz12) rfl rfl (by kernel_rfl) (by kernel_rfl) (by kernel_rfl) (by kernel_rfl) (fun _ _ _ h => h) (Or.inl ⟨by rfl, ?hz12⟩) hS ?rz12
    case hz12 => intro w hSw; (first | obtain ⟨hs1, hs2, hs3, hs4, hs5, hs6, hs7, hs8, hs9, hs10, hs11, hs12⟩ := hSw | obtain ⟨hs1, hs2, hs3, hs4, hs5, hs6, hs7, hs8⟩ := hSw | obtain ⟨hs1, hs2, hs3, hs4, hs5, hs6⟩ := hSw | obtain ⟨hs1, hs2, hs3⟩ := hSw | obtain ⟨hs1, hs2⟩ := hSw | skip); go_simp; try with_reducible rfl
    try simp only [Act.put, List.setIfInBounds_toArray, List.set_cons_zero, List.set_cons_succ]
    refine wpAnyM_pick (i := 21) (some 30) (v := ?vz13) rfl rfl (by kernel_rfl) (by kernel_rfl) (by kernel_rfl) (by kernel_rfl) (fun _ _ _ h => h) (Or.inl ⟨by rfl, ?hz13⟩) hS ?rz13
    case hz13 => intro w hSw; (first | obtain ⟨hs1, hs2, hs3, hs4, hs5, hs6, hs7, hs8, hs9, hs10, hs11, hs12⟩ := hSw | obtain ⟨hs1, hs2, hs3, hs4, hs5, hs6, hs7, hs8⟩ := hSw | obtain ⟨hs1, hs2, hs3, hs4, hs5, hs6⟩ := hSw | obtain ⟨hs1, hs2, hs3⟩ := hSw | obtain ⟨hs1, hs2⟩ := hSw | skip); go_simp; try with_reducible rfl
    try simp only [Act.put, List.setIfInBounds_toArray, List.set_cons_zero, List.set_cons_succ]
    refine wpAnyM_pick (i := 24) (some 33) (v := ?vz14) rfl rfl (by kernel_rfl) (by kernel_rfl) (by kernel_rfl) (by kernel_rfl) (fun _ _ _ h => h) (Or.inl ⟨by rfl, ?hz14⟩) hS ?rz14
    case hz14 => intro w hSw; (first | obtain ⟨hs1, hs2, hs3, hs4, hs5, hs6, hs7, hs8, hs9, hs10, hs11, hs12⟩ := hSw | obtain ⟨hs1, hs2, hs3, hs4, hs5, hs6, hs7, hs8⟩ := hSw | obtain ⟨hs1, hs2, hs3, hs4, hs5, hs6⟩ := hSw | obtain ⟨hs1, hs2, hs3⟩ := hSw | obtain ⟨hs1, hs2⟩ := hSw | skip); go_simp; try with_reducible rfl
    try simp only [Act.put, List.setIfInBounds_toArray, List.set_cons_zero, List.set_cons_succ]
    refine wpAnyM_pick (i := 25) (some 34) (v := ?vz15) rfl rfl (by kernel_rfl) (by kernel_rfl) (by kernel_rfl) (by kernel_rfl) (fun _ _ _ h => h) (Or.inl ⟨by rfl, ?hz15⟩) hS ?rz15
    case hz15 => intro w hSw; (first | obtain ⟨hs1, hs2, hs3, hs4, hs5, hs6, hs7, hs8, hs9, hs10, hs11, hs12⟩ := hSw | obtain ⟨hs1, hs2, hs3, hs4, hs5, hs6, hs7, hs8⟩ := hSw | obtain ⟨hs1, hs2, hs3, hs4, hs5, hs6⟩ := hSw | obtain ⟨hs1, hs2, hs3⟩ := hSw | obtain ⟨hs1, hs2⟩ := hSw | skip); go_simp; try with_reducible rfl
    try simp only [Act.put, List.setIfInBounds_toArray, List.set_cons_zero, List.set_cons_succ]
    refine wpAnyM_one (i := 0) (by kernel_rfl) rfl (fun K hK => ?_)
    go_simp
    go_at_call 27
    refine (P0.out _).mono ?_
    clear P0
    rintro e w3 ⟨rfl, hb3⟩
    have HX3 := hid (HX2.out.on hb3 HX2.out.lt)
    have HB3 := hid (HB2.out.trans (hb3.mono (Nat.le_of_lt HX2.out.lt)))
    clear hb3 HX2 HB2 hS
    have hS := HSS.out w3 HX3.out
    go_wp2_with fail
    refine hK.out _ _ (fun _ => hS) ?_
    clear hK K
    try simp only [Act.put, List.setIfInBounds_toArray, List.set_cons_zero, List.set_cons_succ]
    refine wpAnyM_one (i := 2) (by kernel_rfl) rfl (fun K hK => ?_)
    go_simp
    go_at_call 27
    refine (P1.out _).mono ?_
    clear P1
    rintro e w4 ⟨rfl, hb4⟩
    have HX4 := hid (HX3.out.on hb4 HX3.out.lt)
    have HB4 := hid (HB3.out.trans (hb4.mono (Nat.le_of_lt HX3.out.lt)))
    clear hb4 HX3 HB3 hS
    have hS := HSS.out w4 HX4.out
    go_wp2_with fail
    refine hK.out _ _ (fun _ => hS) ?_
    clear hK K
    try simp only [Act.put, List.setIfInBounds_toArray, List.set_cons_zero, List.set_cons_succ]
    refine wpAnyM_pick (i := 3) (some 12) (v := ?vz16) rfl rfl (by kernel_rfl) (by kernel_rfl) (by kernel_rfl) (by kernel_rfl) (fun _ _ _ h => h) (Or.inl ⟨by rfl, ?hz16⟩) hS ?rz16
    case hz16 => intro w hSw; (first | obtain ⟨hs1, hs2, hs3, hs4, hs5, hs6, hs7, hs8, hs9, hs10, hs11, hs12⟩ := hSw | obtain ⟨hs1, hs2, hs3, hs4, hs5, hs6, hs7, hs8⟩ := hSw | obtain ⟨hs1, hs2, hs3, hs4, hs5, hs6⟩ := hSw | obtain ⟨hs1, hs2, hs3⟩ := hSw | obtain ⟨hs1, hs2⟩ := hSw | skip); go_simp; try with_reducible rfl
    try simp only [Act.put, List.setIfInBounds_toArray, List.set_cons_zero, List.set_cons_succ]
    refine wpAnyM_one (i := 7) (by kernel_rfl) rfl (fun K hK => ?_)
    go_simp
    go_at_call 27
    refine (P2.out _).mono ?_
    clear P2
    rintro e w5 ⟨rfl, hb5⟩
    have HX5 := hid (HX4.out.on hb5 HX4.out.lt)
    have HB5 := hid (HB4.out.trans (hb5.mono (Nat.le_of_lt HX4.out.lt)))
    clear hb5 HX4 HB4 hS
    have hS := HSS.out w5 HX5.out
    go_wp2_with fail
    refine hK.out _ _ (fun _ => hS) ?_
    clear hK K
    try simp only [Act.put, List.setIfInBounds_toArray, List.set_cons_zero, List.set_cons_succ]
    refine wpAnyM_pick (i := 8) (some 17) (v := ?vz17) rfl rfl (by kernel_rfl) (by kernel_rfl) (by kernel_rfl) (by kernel_rfl) (fun _ _ _ h => h) (Or.inl ⟨by rfl, ?hz17⟩) hS ?rz17
    case hz17 => intro w hSw; (first | obtain ⟨hs1, hs2, hs3, hs4, hs5, hs6, hs7, hs8, hs9, hs10, hs11, hs12⟩ := hSw | obtain ⟨hs1, hs2, hs3, hs4, hs5, hs6, hs7, hs8⟩ := hSw | obtain ⟨hs1, hs2, hs3, hs4, hs5, hs6⟩ := hSw | obtain ⟨hs1, hs2, hs3⟩ := hSw | obtain ⟨hs1, hs2⟩ := hSw | skip); go_simp; try with_reducible rfl
    try simp only [Act.put, List.setIfInBounds_toArray, List.set_cons_zero, List.set_cons_succ]
    refine wpAnyM_one (i := 11) (by kernel_rfl) rfl (fun K hK => ?_)
    go_simp
    go_at_call 26
    refine (P3.out _).mono ?_
    clear P3
    rintro e w6 ⟨rfl, hb6⟩
    have HX6 := hid (HX5.out.on hb6 HX5.out.lt)
    have HB6 := hid (HB5.out.trans (hb6.mono (Nat.le_of_lt HX5.out.lt)))
    clear hb6 HX5 HB5 hS
    have hS := HSS.out w6 HX6.out
    go_wp2_with fail
    refine hK.out _ _ (fun _ => hS) ?_
    clear hK K
    try simp only [Act.put, List.setIfInBounds_toArray, List.set_cons_zero, List.set_cons_succ]
    refine wpAnyM_pick (i := 12) (some 21) (v := ?vz18) rfl rfl (by kernel_rfl) (by kernel_rfl) (by kernel_rfl) (by kernel_rfl) (fun _ _ _ h => h) (Or.inl ⟨by rfl, ?hz18⟩) hS ?rz18
    case hz18 => intro w hSw; (first | obtain ⟨hs1, hs2, hs3, hs4, hs5, hs6, hs7, hs8, hs9, hs10, hs11, hs12⟩ := hSw | obtain ⟨hs1, hs2, hs3, hs4, hs5, hs6, hs7, hs8⟩ := hSw | obtain ⟨hs1, hs2, hs3, hs4, hs5, hs6⟩ := hSw | obtain ⟨hs1, hs2, hs3⟩ := hSw | obtain ⟨hs1, hs2⟩ := hSw | skip); go_simp; try with_reducible rfl
    try simp only [Act.put, List.setIfInBounds_toArray, List.set_cons_zero, List.set_cons_succ]
    refine wpAnyM_one (i := 17) (by kernel_rfl) rfl (fun K hK => ?_)
    go_simp
    go_at_call 27
    refine (P4.out _).mono ?_
    clear P4
    rintro e w7 ⟨rfl, hb7⟩
    have HX7 := hid (HX6.out.on hb7 HX6.out.lt)
    have HB7 := hid (HB6.out.trans (hb7.mono (Nat.le_of_lt HX6.out.lt)))
    clear hb7 HX6 HB6 hS
    have hS := HSS.out w7 HX7.out
    go_wp2_with fail
    refine hK.out _ _ (fun _ => hS) ?_
    clear hK K
    try simp only [Act.put, List.setIfInBounds_toArray, List.set_cons_zero, List.set_cons_succ]
    refine wpAnyM_pick (i := 18) (some 27) (v := ?vz19) rfl rfl (by kernel_rfl) (by kernel_rfl) (by kernel_rfl) (by kernel_rfl) (fun _ _ _ h => h) (Or.inl ⟨by rfl, ?hz19⟩) hS ?rz19
    case hz19 => intro w hSw; (first | obtain ⟨hs1, hs2, hs3, hs4, hs5, hs6, hs7, hs8, hs9, hs10, hs11, hs12⟩ := hSw | obtain ⟨hs1, hs2, hs3, hs4, hs5, hs6, hs7, hs8⟩ := hSw | obtain ⟨hs1, hs2, hs3, hs4, hs5, hs6⟩ := hSw | obtain ⟨hs1, hs2, hs3⟩ := hSw | obtain ⟨hs1, hs2⟩ := hSw | skip); go_simp; try with_reducible rfl
    try simp only [Act.put, List.setIfInBounds_toArray, List.set_cons_zero, List.set_cons_succ]
    refine wpAnyM_one (i := 22) (by kernel_rfl) rfl (fun K hK => ?_)
    go_simp
    go_at_call 27
    refine (P5.out _).mono ?_
    clear P5
    rintro e w8 ⟨rfl, hb8⟩
    have HX8 := hid (HX7.out.on hb8 HX7.out.lt)
    have HB8 := hid (HB7.out.trans (hb8.mono (Nat.le_of_lt HX7.out.lt)))
    clear hb8 HX7 HB7 hS
    have hS := HSS.out w8 HX8.out
    go_wp2_with fail
    refine hK.out _ _ (fun _ => hS) ?_
    clear hK K
    try simp only [Act.put, List.setIfInBounds_toArray, List.set_cons_zero, List.set_cons_succ]
    refine wpAnyM_pick (i := 23) (some 32) (v := ?vz20) rfl rfl (by kernel_rfl) (by kernel_rfl) (by kernel_rfl) (by kernel_rfl) (fun _ _ _ h => h) (Or.inl ⟨by rfl, ?hz20⟩) hS ?rz20
    case hz20 => intro w hSw; (first | obtain ⟨hs1, hs2, hs3, hs4, hs5, hs6, hs7, hs8, hs9, hs10, hs11, hs12⟩ := hSw | obtain ⟨hs1, hs2, hs3, hs4, hs5, hs6, hs7, hs8⟩ := hSw | obtain ⟨hs1, hs2, hs3, hs4, hs5, hs6⟩ := hSw | obtain ⟨hs1, hs2, hs3⟩ := hSw | obtain ⟨hs1, hs2⟩ := hSw | skip); go_simp; try with_reducible rfl
    try simp only [Act.put, List.setIfInBounds_toArray, List.set_cons_zero, List.set_cons_succ]
    refine wpAnyM_one (i := 26) (by kernel_rfl) rfl (fun K hK => ?_)
    go_simp
    go_at_call 27
    refine (P6.out _).mono ?_
    clear P6
    rintro e w9 ⟨rfl, hb9⟩
    have HX9 := hid (HX8.out.on hb9 HX8.out.lt)
    have HB9 := hid (HB8.out.trans (hb9.mono (Nat.le_of_lt HX8.out.lt)))
    clear hb9 HX8 HB8 hS
    have hS := HSS.out w9 HX9.out
    go_wp2_with fail
    refine hK.out _ _ (fun _ => hS) ?_
    clear hK K
    try simp only [Act.put, List.setIfInBounds_toArray, List.set_cons_zero, List.set_cons_succ]
    refine wpAnyM_pick (i := 27) (some 36) (v := ?vz21) rfl rfl (by kernel_rfl) (by kernel_rfl) (by kernel_rfl) (by kernel_rfl) (fun _ _ _ h => h) (Or.inl ⟨by rfl, ?hz21⟩) hS ?rz21
    case hz21 => intro w hSw; (first | obtain ⟨hs1, hs2, hs3, hs4, hs5, hs6, hs7, hs8, hs9, hs10, hs11, hs12⟩ := hSw | obtain ⟨hs1, hs2, hs3, hs4, hs5, hs6, hs7, hs8⟩ := hSw | obtain ⟨hs1, hs2, hs3, hs4, hs5, hs6⟩ := hSw | obtain ⟨hs1, hs2, hs3⟩ := hSw | obtain ⟨hs1, hs2⟩ := hSw | skip); go_simp; try with_reducible rfl
    try simp only [Act.put, List.setIfInBounds_toArray, List.set_cons_zero, List.set_cons_succ]
    refine wpAnyM_pick (i := 28) (some 4) (v := ?vz22) rfl rfl (by kernel_rfl) (by kernel_rfl) (by kernel_rfl) (by kernel_rfl) (fun _ _ _ h => h) (Or.inl ⟨by rfl, ?hz22⟩) hS ?rz22
    case hz22 => intro w hSw; (first | obtain ⟨hs1, hs2, hs3, hs4, hs5, hs6, hs7, hs8, hs9, hs10, hs11, hs12⟩ := hSw | obtain ⟨hs1, hs2, hs3, hs4, hs5, hs6, hs7, hs8⟩ := hSw | obtain ⟨hs1, hs2, hs3, hs4, hs5, hs6⟩ := hSw | obtain ⟨hs1, hs2, hs3⟩ := hSw | obtain ⟨hs1, hs2⟩ := hSw | skip); go_simp; try with_reducible rfl
    try simp only [Act.put, List.setIfInBounds_toArray, List.set_cons_zero, List.set_cons_succ]
    refine wpAnyM_done (by kernel_rfl) ?_ _
    clear hS t1 t2 t3 t4 t5 t6 l1 l2 l3 l4 l5 l6 g2 g3 g4 g5
    go_wp2_with fail
    go_loopw [4, 5] (fun y i wr => ∃ (j : Nat) (S : ByteArray), j ≤ 4 ∧ y = .string S ∧ i = .int .i64 (j : Nat) ∧ Hid (S = ⟨(slotP X (7 + j)).toArray⟩) ∧ Hid (Blk wr p #[.int .u64 (A : Nat), .string nm, .slice ka m kc, .int .i64 ct, .bool true, .int .u64 (nx : Nat)] 57) ∧ Hid (Below p w wr)) (fun _ i _ => 4 - (intOf i).toNat)
    case atStart => exact ⟨0, T6, Nat.zero_le _, rfl, rfl, H70, HX9, HB9⟩
    case round =>
      obtain ⟨j, S, hj, rfl, rfl, HI, HX, HB⟩ := hrel
      clear HX9 HB9 H70 H7
      have HSL : Hid (S.size = off (7 + j)) := by show _ = _; rw [HI.out, Lib.size_eq]; exact HLN.out _
      by_cases hjn : j < 4
      · have hji : (j : Int) < 4 := by omega
        have HP := hid (PK.out j hjn)
        have hof : off (7 + j) ≤ 41 := by
          have h1 := off_le (i := 7 + j) (by omega)
          have ew : wd (7 + j) = 6 := by
            unfold wd
            iterate 6 rw [if_neg (by omega)]
          omega
        obtain ⟨Y, hY⟩ : ∃ Y, (⟨(be (tell X (7 + j)) 6).toArray⟩ : ByteArray) = Y := ⟨_, rfl⟩
        have hYs : Y.size = 6 := by rw [← hY]; exact bsz _ _
        have lS : ¬ 9223372036854775807 < S.size + Y.size := by rw [HSL.out]; omega
        have HSY : Hid (S ++ Y = ⟨(slotP X (7 + (j + 1))).toArray⟩) := by
          show _ = _
          rw [show 7 + (j + 1) = 7 + j + 1 by omega, HS.out j hjn, HI.out, ← hY]
          apply ByteArray.ext; apply Array.toList_inj.1; simp
        obtain ⟨S', hS'⟩ : ∃ S', S ++ Y = S' := ⟨_, rfl⟩
        rw [hY] at HP
        rw [hS'] at HSY
        clear hY hYs hof
        have c2 := HX.out.cell (i := 2) rfl
        have HSZ := hid (Nat.le_of_lt HX.out.lt)
        by_cases hjm : j < m
        · have hjk : (j : Int) < (m : Int) := by omega
          have hbw : Below w.heap.size w wr := by rw [HPP.out]; exact HB.out
          obtain ⟨v, hv⟩ : ∃ v, K[j]? = some v := ⟨_, List.getElem?_eq_getElem (by rw [HMM.out]; exact hjm)⟩
          obtain ⟨b, off, e1, hbl, d1, d2⟩ := (HL.out.on hbw).at hv
          subst e1
          have hg := HKA.out j v hv
          rw [hg] at HP
          clear hv hbw hg
          go_wp2_with (go_at_call 27; refine (HP.out _).mono ?_; clear HP; rintro e w2 ⟨rfl, hb2⟩)
          have HX2 := hid (HX.out.on hb2 HX.out.lt)
          have HB2 := hid (HB.out.trans (hb2.mono HSZ.out))
          go_roundw
          case rel => exact ⟨j + 1, S', by omega, rfl, by go_num, HSY, HX2, HB2⟩
          case measure => simp [intOf]; omega
        · have hjk : ¬ (j : Int) < (m : Int) := by omega
          have hg := HKG.out j (by omega)
          rw [hg] at HP
          clear hg
          go_wp2_with (go_at_call 27; refine (HP.out _).mono ?_; clear HP; rintro e w2 ⟨rfl, hb2⟩)
          have HX2 := hid (HX.out.on hb2 HX.out.lt)
          have HB2 := hid (HB.out.trans (hb2.mono HSZ.out))
          go_roundw
          case rel => exact ⟨j + 1, S', by omega, rfl, by go_num, HSY, HX2, HB2⟩
          case measure => simp [intOf]; omega
      · have hji : ¬ (j : Int) < 4 := by omega
        obtain rfl : j = 4 := by omega
        have h47 : off (7 + 4) = 47 := by decide
        rw [h47] at HSL
        have hzz : (⟨(be 0 1).toArray⟩ : ByteArray).size = 1 := bsz 0 1
        have HFIN : Hid (S ++ ⟨(be 0 1).toArray⟩ = ⟨(slotB X).toArray⟩) := by
          show _ = _
          rw [HSB.out, HI.out]
          apply ByteArray.ext; apply Array.toList_inj.1; simp
          rfl
        generalize (⟨(be 0 1).toArray⟩ : ByteArray) = Z at *
        have lZ : ¬ 9223372036854775807 < S.size + Z.size := by rw [HSL.out]; omega
        obtain ⟨S', hS'⟩ : ∃ S', S ++ Z = S' := ⟨_, rfl⟩
        rw [hS'] at HFIN
        have HSZ := hid (Nat.le_of_lt HX.out.lt)
        clear hzz h47
        go_wp2_with (go_at_call 27; refine (PZ.out _).mono ?_; clear PZ; rintro e w2 ⟨rfl, hb2⟩)
        go_ret
        exact ⟨by rw [← HFIN.out]; rfl, by rw [HPP.out]; exact HB.out.trans (hb2.mono HSZ.out)⟩
  · have x4 := HX1.out.cell (i := 4) rfl
    go_enter Try.func34, Try.ntmps34
    go_wp2_with fail
    generalize w.alloc (Obj.cells #[.int .u64 (A : Nat), .string nm, .slice ka m kc, .int .i64 ct, .bool false, .int .u64 (nx : Nat)] 57) = w1 at *
    clear x4 hp
    refine wp_region_d (fun w' => w'.cell? ⟨p, 0, none⟩ = some (.int .u64 (A : Nat)) ∧ w'.cell? ⟨p, 1, none⟩ = some (.string nm) ∧ w'.cell? ⟨p, 2, none⟩ = some (.slice ka m kc) ∧ w'.cell? ⟨p, 3, none⟩ = some (.int .i64 ct) ∧ w'.cell? ⟨p, 4, none⟩ = some (.bool false) ∧ w'.cell? ⟨p, 5, none⟩ = some (.int .u64 (nx : Nat))) (fun _ => true) (by kernel_rfl) ?_
    have HX2 := hid (HX1.out.on (Below.refl _ w1).drew HX1.out.lt)
    have HB2 := hid HB1.out.drew
    clear HX1 HB1
    generalize w1.drew = w2 at *
    have HSS : Hid (∀ w', Blk w' p #[.int .u64 (A : Nat), .string nm, .slice ka m kc, .int .i64 ct, .bool false, .int .u64 (nx : Nat)] 57 → w'.cell? ⟨p, 0, none⟩ = some (.int .u64 (A : Nat)) ∧ w'.cell? ⟨p, 1, none⟩ = some (.string nm) ∧ w'.cell? ⟨p, 2, none⟩ = some (.slice ka m kc) ∧ w'.cell? ⟨p, 3, none⟩ = some (.int .i64 ct) ∧ w'.cell? ⟨p, 4, none⟩ = some (.bool false) ∧ w'.cell? ⟨p, 5, none⟩ = some (.int .u64 (nx : Nat))) := fun w' h => ⟨h.cell (i := 0) rfl, h.cell (i := 1) rfl, h.cell (i := 2) rfl, h.cell (i := 3) rfl, h.cell (i := 4) rfl, h.cell (i := 5) rfl⟩
    have hS := HSS.out w2 HX2.out
    refine wpAnyM_pick (i := 1) (some 10) (v := ?vz23) rfl rfl (by kernel_rfl) (by kernel_rfl) (by kernel_rfl) (by kernel_rfl) (fun _ _ _ h => h) (Or.inl ⟨by rfl, ?hz23⟩) hS ?rz23
    case hz23 => intro w hSw; (first | obtain ⟨hs1, hs2, hs3, hs4, hs5, hs6, hs7, hs8, hs9, hs10, hs11, hs12⟩ := hSw | obtain ⟨hs1, hs2, hs3, hs4, hs5, hs6, hs7, hs8⟩ := hSw | obtain ⟨hs1, hs2, hs3, hs4, hs5, hs6⟩ := hSw | obtain ⟨hs1, hs2, hs3⟩ := hSw | obtain ⟨hs1, hs2⟩ := hSw | skip); go_simp; try with_reducible rfl
    try simp only [Act.put, List.setIfInBounds_toArray, List.set_cons_zero, List.set_cons_succ]
    refine wpAnyM_pick (i := 4) (some 13) (v := ?vz24) rfl rfl (by kernel_rfl) (by kernel_rfl) (by kernel_rfl) (by kernel_rfl) (fun _ _ _ h => h) (Or.inl ⟨by rfl, ?hz24⟩) hS ?rz24
    case hz24 => intro w hSw; (first | obtain ⟨hs1, hs2, hs3, hs4, hs5, hs6, hs7, hs8, hs9, hs10, hs11, hs12⟩ := hSw | obtain ⟨hs1, hs2, hs3, hs4, hs5, hs6, hs7, hs8⟩ := hSw | obtain ⟨hs1, hs2, hs3, hs4, hs5, hs6⟩ := hSw | obtain ⟨hs1, hs2, hs3⟩ := hSw | obtain ⟨hs1, hs2⟩ := hSw | skip); go_simp; try with_reducible rfl
    try simp only [Act.put, List.setIfInBounds_toArray, List.set_cons_zero, List.set_cons_succ]
    refine wpAnyM_pick (i := 5) (some 14) (v := ?vz25) rfl rfl (by kernel_rfl) (by kernel_rfl) (by kernel_rfl) (by kernel_rfl) (fun _ _ _ h => h) (Or.inl ⟨by rfl, ?hz25⟩) hS ?rz25
    case hz25 => intro w hSw; (first | obtain ⟨hs1, hs2, hs3, hs4, hs5, hs6, hs7, hs8, hs9, hs10, hs11, hs12⟩ := hSw | obtain ⟨hs1, hs2, hs3, hs4, hs5, hs6, hs7, hs8⟩ := hSw | obtain ⟨hs1, hs2, hs3, hs4, hs5, hs6⟩ := hSw | obtain ⟨hs1, hs2, hs3⟩ := hSw | obtain ⟨hs1, hs2⟩ := hSw | skip); go_simp; try with_reducible rfl
    try simp only [Act.put, List.setIfInBounds_toArray, List.set_cons_zero, List.set_cons_succ]
    refine wpAnyM_pick (i := 6) (some 15) (v := ?vz26) rfl rfl (by kernel_rfl) (by kernel_rfl) (by kernel_rfl) (by kernel_rfl) (fun _ _ _ h => h) (Or.inl ⟨by rfl, ?hz26⟩) hS ?rz26
    case hz26 => intro w hSw; (first | obtain ⟨hs1, hs2, hs3, hs4, hs5, hs6, hs7, hs8, hs9, hs10, hs11, hs12⟩ := hSw | obtain ⟨hs1, hs2, hs3, hs4, hs5, hs6, hs7, hs8⟩ := hSw | obtain ⟨hs1, hs2, hs3, hs4, hs5, hs6⟩ := hSw | obtain ⟨hs1, hs2, hs3⟩ := hSw | obtain ⟨hs1, hs2⟩ := hSw | skip); go_simp; try with_reducible rfl
    try simp only [Act.put, List.setIfInBounds_toArray, List.set_cons_zero, List.set_cons_succ]
    refine wpAnyM_pick (i := 9) (some 18) (v := ?vz27) rfl rfl (by kernel_rfl) (by kernel_rfl) (by kernel_rfl) (by kernel_rfl) (fun _ _ _ h => h) (Or.inl ⟨by rfl, ?hz27⟩) hS ?rz27
    case hz27 => intro w hSw; (first | obtain ⟨hs1, hs2, hs3, hs4, hs5, hs6, hs7, hs8, hs9, hs10, hs11, hs12⟩ := hSw | obtain ⟨hs1, hs2, hs3, hs4, hs5, hs6, hs7, hs8⟩ := hSw | obtain ⟨hs1, hs2, hs3, hs4, hs5, hs6⟩ := hSw | obtain ⟨hs1, hs2, hs3⟩ := hSw | obtain ⟨hs1, hs2⟩ := hSw | skip); go_simp; try with_reducible rfl
    try simp only [Act.put, List.setIfInBounds_toArray, List.set_cons_zero, List.set_cons_succ]
    refine wpAnyM_pick (i := 10) (some 19) (v := ?vz28) rfl rfl (by kernel_rfl) (by kernel_rfl) (by kernel_rfl) (by kernel_rfl) (fun _ _ _ h => h) (Or.inl ⟨by rfl, ?hz28⟩) hS ?rz28
    case hz28 => intro w hSw; (first | obtain ⟨hs1, hs2, hs3, hs4, hs5, hs6, hs7, hs8, hs9, hs10, hs11, hs12⟩ := hSw | obtain ⟨hs1, hs2, hs3, hs4, hs5, hs6, hs7, hs8⟩ := hSw | obtain ⟨hs1, hs2, hs3, hs4, hs5, hs6⟩ := hSw | obtain ⟨hs1, hs2, hs3⟩ := hSw | obtain ⟨hs1, hs2⟩ := hSw | skip); go_simp; try with_reducible rfl
    try simp only [Act.put, List.setIfInBounds_toArray, List.set_cons_zero, List.set_cons_succ]
    refine wpAnyM_pick (i := 13) (some 22) (v := ?vz29) rfl rfl (by kernel_rfl) (by kernel_rfl) (by kernel_rfl) (by kernel_rfl) (fun _ _ _ h => h) (Or.inl ⟨by rfl, ?hz29⟩) hS ?rz29
    case hz29 => intro w hSw; (first | obtain ⟨hs1, hs2, hs3, hs4, hs5, hs6, hs7, hs8, hs9, hs10, hs11, hs12⟩ := hSw | obtain ⟨hs1, hs2, hs3, hs4, hs5, hs6, hs7, hs8⟩ := hSw | obtain ⟨hs1, hs2, hs3, hs4, hs5, hs6⟩ := hSw | obtain ⟨hs1, hs2, hs3⟩ := hSw | obtain ⟨hs1, hs2⟩ := hSw | skip); go_simp; try with_reducible rfl
    try simp only [Act.put, List.setIfInBounds_toArray, List.set_cons_zero, List.set_cons_succ]
    refine wpAnyM_pick (i := 14) (some 23) (v := ?vz30) rfl rfl (by kernel_rfl) (by kernel_rfl) (by kernel_rfl) (by kernel_rfl) (fun _ _ _ h => h) (Or.inl ⟨by rfl, ?hz30⟩) hS ?rz30
    case hz30 => intro w hSw; (first | obtain ⟨hs1, hs2, hs3, hs4, hs5, hs6, hs7, hs8, hs9, hs10, hs11, hs12⟩ := hSw | obtain ⟨hs1, hs2, hs3, hs4, hs5, hs6, hs7, hs8⟩ := hSw | obtain ⟨hs1, hs2, hs3, hs4, hs5, hs6⟩ := hSw | obtain ⟨hs1, hs2, hs3⟩ := hSw | obtain ⟨hs1, hs2⟩ := hSw | skip); go_simp; try with_reducible rfl
    try simp only [Act.put, List.setIfInBounds_toArray, List.set_cons_zero, List.set_cons_succ]
    refine wpAnyM_pick (i := 15) (some 24) (v := ?vz31) rfl rfl (by kernel_rfl) (by kernel_rfl) (by kernel_rfl) (by kernel_rfl) (fun _ _ _ h => h) (Or.inl ⟨by rfl, ?hz31⟩) hS ?rz31
    case hz31 => intro w hSw; (first | obtain ⟨hs1, hs2, hs3, hs4, hs5, hs6, hs7, hs8, hs9, hs10, hs11, hs12⟩ := hSw | obtain ⟨hs1, hs2, hs3, hs4, hs5, hs6, hs7, hs8⟩ := hSw | obtain ⟨hs1, hs2, hs3, hs4, hs5, hs6⟩ := hSw | obtain ⟨hs1, hs2, hs3⟩ := hSw | obtain ⟨hs1, hs2⟩ := hSw | skip); go_simp; try with_reducible rfl
    try simp only [Act.put, List.setIfInBounds_toArray, List.set_cons_zero, List.set_cons_succ]
    refine wpAnyM_pick (i := 16) (some 25) (v := ?vz32) rfl rfl (by kernel_rfl) (by kernel_rfl) (by kernel_rfl) (by kernel_rfl) (fun _ _ _ h => h) (Or.inl ⟨by rfl, ?hz32⟩) hS ?rz32
    case hz32 => intro w hSw; (first | obtain ⟨hs1, hs2, hs3, hs4, hs5, hs6, hs7, hs8, hs9, hs10, hs11, hs12⟩ := hSw | obtain ⟨hs1, hs2, hs3, hs4, hs5, hs6, hs7, hs8⟩ := hSw | obtain ⟨hs1, hs2, hs3, hs4, hs5, hs6⟩ := hSw | obtain ⟨hs1, hs2, hs3⟩ := hSw | obtain ⟨hs1, hs2⟩ := hSw | skip); go_simp; try with_reducible rfl
    try simp only [Act.put, List.setIfInBounds_toArray, List.set_cons_zero, List.set_cons_succ]
    refine wpAnyM_pick (i := 19) (some 28) (v := ?vz33) rfl rfl (by kernel_rfl) (by kernel_rfl) (by kernel_rfl) (by kernel_rfl) (fun _ _ _ h => h) (Or.inl ⟨by rfl, ?hz33⟩) hS ?rz33
    case hz33 => intro w hSw; (first | obtain ⟨hs1, hs2, hs3, hs4, hs5, hs6, hs7, hs8, hs9, hs10, hs11, hs12⟩ := hSw | obtain ⟨hs1, hs2, hs3, hs4, hs5, hs6, hs7, hs8⟩ := hSw | obtain ⟨hs1, hs2, hs3, hs4, hs5, hs6⟩ := hSw | obtain ⟨hs1, hs2, hs3⟩ := hSw | obtain ⟨hs1, hs2⟩ := hSw | skip); go_simp; try with_reducible rfl
    try simp only [Act.put, List.setIfInBounds_toArray, List.set_cons_zero, List.set_cons_succ]
    refine wpAnyM_pick (i := 20) (some 29) (v := ?vz34) rfl rfl (by kernel_rfl) (by kernel_rfl) (by kernel_rfl) (by kernel_rfl) (fun _ _ _ h => h) (Or.inl ⟨by rfl, ?hz34⟩) hS ?rz34
    case hz34 => intro w hSw; (first | obtain ⟨hs1, hs2, hs3, hs4, hs5, hs6, hs7, hs8, hs9, hs10, hs11, hs12⟩ := hSw | obtain ⟨hs1, hs2, hs3, hs4, hs5, hs6, hs7, hs8⟩ := hSw | obtain ⟨hs1, hs2, hs3, hs4, hs5, hs6⟩ := hSw | obtain ⟨hs1, hs2, hs3⟩ := hSw | obtain ⟨hs1, hs2⟩ := hSw | skip); go_simp; try with_reducible rfl
    try simp only [Act.put, List.setIfInBounds_toArray, List.set_cons_zero, List.set_cons_succ]
    refine wpAnyM_pick (i := 21) (some 30) (v := ?vz35) rfl rfl (by kernel_rfl) (by kernel_rfl) (by kernel_rfl) (by kernel_rfl) (fun _ _ _ h => h) (Or.inl ⟨by rfl, ?hz35⟩) hS ?rz35
    case hz35 => intro w hSw; (first | obtain ⟨hs1, hs2, hs3, hs4, hs5, hs6, hs7, hs8, hs9, hs10, hs11, hs12⟩ := hSw | obtain ⟨hs1, hs2, hs3, hs4, hs5, hs6, hs7, hs8⟩ := hSw | obtain ⟨hs1, hs2, hs3, hs4, hs5, hs6⟩ := hSw | obtain ⟨hs1, hs2, hs3⟩ := hSw | obtain ⟨hs1, hs2⟩ := hSw | skip); go_simp; try with_reducible rfl
    try simp only [Act.put, List.setIfInBounds_toArray, List.set_cons_zero, List.set_cons_succ]
    refine wpAnyM_pick (i := 24) (some 33) (v := ?vz36) rfl rfl (by kernel_rfl) (by kernel_rfl) (by kernel_rfl) (by kernel_rfl) (fun _ _ _ h => h) (Or.inl ⟨by rfl, ?hz36⟩) hS ?rz36
    case hz36 => intro w hSw; (first | obtain ⟨hs1, hs2, hs3, hs4, hs5, hs6, hs7, hs8, hs9, hs10, hs11, hs12⟩ := hSw | obtain ⟨hs1, hs2, hs3, hs4, hs5, hs6, hs7, hs8⟩ := hSw | obtain ⟨hs1, hs2, hs3, hs4, hs5, hs6⟩ := hSw | obtain ⟨hs1, hs2, hs3⟩ := hSw | obtain ⟨hs1, hs2⟩ := hSw | skip); go_simp; try with_reducible rfl
    try simp only [Act.put, List.setIfInBounds_toArray, List.set_cons_zero, List.set_cons_succ]
    refine wpAnyM_pick (i := 25) (some 34) (v := ?vz37) rfl rfl (by kernel_rfl) (by kernel_rfl) (by kernel_rfl) (by kernel_rfl) (fun _ _ _ h => h) (Or.inl ⟨by rfl, ?hz37⟩) hS ?rz37
    case hz37 => intro w hSw; (first | obtain ⟨hs1, hs2, hs3, hs4, hs5, hs6, hs7, hs8, hs9, hs10, hs11, hs12⟩ := hSw | obtain ⟨hs1, hs2, hs3, hs4, hs5, hs6, hs7, hs8⟩ := hSw | obtain ⟨hs1, hs2, hs3, hs4, hs5, hs6⟩ := hSw | obtain ⟨hs1, hs2, hs3⟩ := hSw | obtain ⟨hs1, hs2⟩ := hSw | skip); go_simp; try with_reducible rfl
    try simp only [Act.put, List.setIfInBounds_toArray, List.set_cons_zero, List.set_cons_succ]
    refine wpAnyM_one (i := 0) (by kernel_rfl) rfl (fun K hK => ?_)
    go_simp
    go_at_call 27
    refine (P0.out _).mono ?_
    clear P0
    rintro e w3 ⟨rfl, hb3⟩
    have HX3 := hid (HX2.out.on hb3 HX2.out.lt)
    have HB3 := hid (HB2.out.trans (hb3.mono (Nat.le_of_lt HX2.out.lt)))
    clear hb3 HX2 HB2 hS
    have hS := HSS.out w3 HX3.out
    go_wp2_with fail
    refine hK.out _ _ (fun _ => hS) ?_
    clear hK K
    try simp only [Act.put, List.setIfInBounds_toArray, List.set_cons_zero, List.set_cons_succ]
    refine wpAnyM_one (i := 2) (by kernel_rfl) rfl (fun K hK => ?_)
    go_simp
    go_at_call 27
    refine (P1.out _).mono ?_
    clear P1
    rintro e w4 ⟨rfl, hb4⟩
    have HX4 := hid (HX3.out.on hb4 HX3.out.lt)
    have HB4 := hid (HB3.out.trans (hb4.mono (Nat.le_of_lt HX3.out.lt)))
    clear hb4 HX3 HB3 hS
    have hS := HSS.out w4 HX4.out
    go_wp2_with fail
    refine hK.out _ _ (fun _ => hS) ?_
    clear hK K
    try simp only [Act.put, List.setIfInBounds_toArray, List.set_cons_zero, List.set_cons_succ]
    refine wpAnyM_pick (i := 3) (some 12) (v := ?vz38) rfl rfl (by kernel_rfl) (by kernel_rfl) (by kernel_rfl) (by kernel_rfl) (fun _ _ _ h => h) (Or.inl ⟨by rfl, ?hz38⟩) hS ?rz38
    case hz38 => intro w hSw; (first | obtain ⟨hs1, hs2, hs3, hs4, hs5, hs6, hs7, hs8, hs9, hs10, hs11, hs12⟩ := hSw | obtain ⟨hs1, hs2, hs3, hs4, hs5, hs6, hs7, hs8⟩ := hSw | obtain ⟨hs1, hs2, hs3, hs4, hs5, hs6⟩ := hSw | obtain ⟨hs1, hs2, hs3⟩ := hSw | obtain ⟨hs1, hs2⟩ := hSw | skip); go_simp; try with_reducible rfl
    try simp only [Act.put, List.setIfInBounds_toArray, List.set_cons_zero, List.set_cons_succ]
    refine wpAnyM_one (i := 7) (by kernel_rfl) rfl (fun K hK => ?_)
    go_simp
    go_at_call 27
    refine (P2.out _).mono ?_
    clear P2
    rintro e w5 ⟨rfl, hb5⟩
    have HX5 := hid (HX4.out.on hb5 HX4.out.lt)
    have HB5 := hid (HB4.out.trans (hb5.mono (Nat.le_of_lt HX4.out.lt)))
    clear hb5 HX4 HB4 hS
    have hS := HSS.out w5 HX5.out
    go_wp2_with fail
    refine hK.out _ _ (fun _ => hS) ?_
    clear hK K
    try simp only [Act.put, List.setIfInBounds_toArray, List.set_cons_zero, List.set_cons_succ]
    refine wpAnyM_pick (i := 8) (some 17) (v := ?vz39) rfl rfl (by kernel_rfl) (by kernel_rfl) (by kernel_rfl) (by kernel_rfl) (fun _ _ _ h => h) (Or.inl ⟨by rfl, ?hz39⟩) hS ?rz39
    case hz39 => intro w hSw; (first | obtain ⟨hs1, hs2, hs3, hs4, hs5, hs6, hs7, hs8, hs9, hs10, hs11, hs12⟩ := hSw | obtain ⟨hs1, hs2, hs3, hs4, hs5, hs6, hs7, hs8⟩ := hSw | obtain ⟨hs1, hs2, hs3, hs4, hs5, hs6⟩ := hSw | obtain ⟨hs1, hs2, hs3⟩ := hSw | obtain ⟨hs1, hs2⟩ := hSw | skip); go_simp; try with_reducible rfl
    try simp only [Act.put, List.setIfInBounds_toArray, List.set_cons_zero, List.set_cons_succ]
    refine wpAnyM_one (i := 11) (by kernel_rfl) rfl (fun K hK => ?_)
    go_simp
    go_at_call 26
    refine (P3.out _).mono ?_
    clear P3
    rintro e w6 ⟨rfl, hb6⟩
    have HX6 := hid (HX5.out.on hb6 HX5.out.lt)
    have HB6 := hid (HB5.out.trans (hb6.mono (Nat.le_of_lt HX5.out.lt)))
    clear hb6 HX5 HB5 hS
    have hS := HSS.out w6 HX6.out
    go_wp2_with fail
    refine hK.out _ _ (fun _ => hS) ?_
    clear hK K
    try simp only [Act.put, List.setIfInBounds_toArray, List.set_cons_zero, List.set_cons_succ]
    refine wpAnyM_pick (i := 12) (some 21) (v := ?vz40) rfl rfl (by kernel_rfl) (by kernel_rfl) (by kernel_rfl) (by kernel_rfl) (fun _ _ _ h => h) (Or.inl ⟨by rfl, ?hz40⟩) hS ?rz40
    case hz40 => intro w hSw; (first | obtain ⟨hs1, hs2, hs3, hs4, hs5, hs6, hs7, hs8, hs9, hs10, hs11, hs12⟩ := hSw | obtain ⟨hs1, hs2, hs3, hs4, hs5, hs6, hs7, hs8⟩ := hSw | obtain ⟨hs1, hs2, hs3, hs4, hs5, hs6⟩ := hSw | obtain ⟨hs1, hs2, hs3⟩ := hSw | obtain ⟨hs1, hs2⟩ := hSw | skip); go_simp; try with_reducible rfl
    try simp only [Act.put, List.setIfInBounds_toArray, List.set_cons_zero, List.set_cons_succ]
    refine wpAnyM_one (i := 17) (by kernel_rfl) rfl (fun K hK => ?_)
    go_simp
    go_at_call 27
    refine (P4.out _).mono ?_
    clear P4
    rintro e w7 ⟨rfl, hb7⟩
    have HX7 := hid (HX6.out.on hb7 HX6.out.lt)
    have HB7 := hid (HB6.out.trans (hb7.mono (Nat.le_of_lt HX6.out.lt)))
    clear hb7 HX6 HB6 hS
    have hS := HSS.out w7 HX7.out
    go_wp2_with fail
    refine hK.out _ _ (fun _ => hS) ?_
    clear hK K
    try simp only [Act.put, List.setIfInBounds_toArray, List.set_cons_zero, List.set_cons_succ]
    refine wpAnyM_pick (i := 18) (some 27) (v := ?vz41) rfl rfl (by kernel_rfl) (by kernel_rfl) (by kernel_rfl) (by kernel_rfl) (fun _ _ _ h => h) (Or.inl ⟨by rfl, ?hz41⟩) hS ?rz41
    case hz41 => intro w hSw; (first | obtain ⟨hs1, hs2, hs3, hs4, hs5, hs6, hs7, hs8, hs9, hs10, hs11, hs12⟩ := hSw | obtain ⟨hs1, hs2, hs3, hs4, hs5, hs6, hs7, hs8⟩ := hSw | obtain ⟨hs1, hs2, hs3, hs4, hs5, hs6⟩ := hSw | obtain ⟨hs1, hs2, hs3⟩ := hSw | obtain ⟨hs1, hs2⟩ := hSw | skip); go_simp; try with_reducible rfl
    try simp only [Act.put, List.setIfInBounds_toArray, List.set_cons_zero, List.set_cons_succ]
    refine wpAnyM_one (i := 22) (by kernel_rfl) rfl (fun K hK => ?_)
    go_simp
    go_at_call 27
    refine (P5.out _).mono ?_
    clear P5
    rintro e w8 ⟨rfl, hb8⟩
    have HX8 := hid (HX7.out.on hb8 HX7.out.lt)
    have HB8 := hid (HB7.out.trans (hb8.mono (Nat.le_of_lt HX7.out.lt)))
    clear hb8 HX7 HB7 hS
    have hS := HSS.out w8 HX8.out
    go_wp2_with fail
    refine hK.out _ _ (fun _ => hS) ?_
    clear hK K
    try simp only [Act.put, List.setIfInBounds_toArray, List.set_cons_zero, List.set_cons_succ]
    refine wpAnyM_pick (i := 23) (some 32) (v := ?vz42) rfl rfl (by kernel_rfl) (by kernel_rfl) (by kernel_rfl) (by kernel_rfl) (fun _ _ _ h => h) (Or.inl ⟨by rfl, ?hz42⟩) hS ?rz42
    case hz42 => intro w hSw; (first | obtain ⟨hs1, hs2, hs3, hs4, hs5, hs6, hs7, hs8, hs9, hs10, hs11, hs12⟩ := hSw | obtain ⟨hs1, hs2, hs3, hs4, hs5, hs6, hs7, hs8⟩ := hSw | obtain ⟨hs1, hs2, hs3, hs4, hs5, hs6⟩ := hSw | obtain ⟨hs1, hs2, hs3⟩ := hSw | obtain ⟨hs1, hs2⟩ := hSw | skip); go_simp; try with_reducible rfl
    try simp only [Act.put, List.setIfInBounds_toArray, List.set_cons_zero, List.set_cons_succ]
    refine wpAnyM_one (i := 26) (by kernel_rfl) rfl (fun K hK => ?_)
    go_simp
    go_at_call 27
    refine (P6.out _).mono ?_
    clear P6
    rintro e w9 ⟨rfl, hb9⟩
    have HX9 := hid (HX8.out.on hb9 HX8.out.lt)
    have HB9 := hid (HB8.out.trans (hb9.mono (Nat.le_of_lt HX8.out.lt)))
    clear hb9 HX8 HB8 hS
    have hS := HSS.out w9 HX9.out
    go_wp2_with fail
    refine hK.out _ _ (fun _ => hS) ?_
    clear hK K
    try simp only [Act.put, List.setIfInBounds_toArray, List.set_cons_zero, List.set_cons_succ]
    refine wpAnyM_pick (i := 27) (some 36) (v := ?vz43) rfl rfl (by kernel_rfl) (by kernel_rfl) (by kernel_rfl) (by kernel_rfl) (fun _ _ _ h => h) (Or.inl ⟨by rfl, ?hz43⟩) hS ?rz43
    case hz43 => intro w hSw; (first | obtain ⟨hs1, hs2, hs3, hs4, hs5, hs6, hs7, hs8, hs9, hs10, hs11, hs12⟩ := hSw | obtain ⟨hs1, hs2, hs3, hs4, hs5, hs6, hs7, hs8⟩ := hSw | obtain ⟨hs1, hs2, hs3, hs4, hs5, hs6⟩ := hSw | obtain ⟨hs1, hs2, hs3⟩ := hSw | obtain ⟨hs1, hs2⟩ := hSw | skip); go_simp; try with_reducible rfl
    try simp only [Act.put, List.setIfInBounds_toArray, List.set_cons_zero, List.set_cons_succ]
    refine wpAnyM_pick (i := 28) (some 4) (v := ?vz44) rfl rfl (by kernel_rfl) (by kernel_rfl) (by kernel_rfl) (by kernel_rfl) (fun _ _ _ h => h) (Or.inl ⟨by rfl, ?hz44⟩) hS ?rz44
    case hz44 => intro w hSw; (first | obtain ⟨hs1, hs2, hs3, hs4, hs5, hs6, hs7, hs8, hs9, hs10, hs11, hs12⟩ := hSw | obtain ⟨hs1, hs2, hs3, hs4, hs5, hs6, hs7, hs8⟩ := hSw | obtain ⟨hs1, hs2, hs3, hs4, hs5, hs6⟩ := hSw | obtain ⟨hs1, hs2, hs3⟩ := hSw | obtain ⟨hs1, hs2⟩ := hSw | skip); go_simp; try with_reducible rfl
    try simp only [Act.put, List.setIfInBounds_toArray, List.set_cons_zero, List.set_cons_succ]
    refine wpAnyM_done (by kernel_rfl) ?_ _
    clear hS t1 t2 t3 t4 t5 t6 l1 l2 l3 l4 l5 l6 g2 g3 g4 g5
    go_wp2_with fail
    go_loopw [4, 5] (fun y i wr => ∃ (j : Nat) (S : ByteArray), j ≤ 4 ∧ y = .string S ∧ i = .int .i64 (j : Nat) ∧ Hid (S = ⟨(slotP X (7 + j)).toArray⟩) ∧ Hid (Blk wr p #[.int .u64 (A : Nat), .string nm, .slice ka m kc, .int .i64 ct, .bool false, .int .u64 (nx : Nat)] 57) ∧ Hid (Below p w wr)) (fun _ i _ => 4 - (intOf i).toNat)
    case atStart => exact ⟨0, T6, Nat.zero_le _, rfl, rfl, H70, HX9, HB9⟩
    case round =>
      obtain ⟨j, S, hj, rfl, rfl, HI, HX, HB⟩ := hrel
      clear HX9 HB9 H70 H7
      have HSL : Hid (S.size = off (7 + j)) := by show _ = _; rw [HI.out, Lib.size_eq]; exact HLN.out _
      by_cases hjn : j < 4
      · have hji : (j : Int) < 4 := by omega
        have HP := hid (PK.out j hjn)
        have hof : off (7 + j) ≤ 41 := by
          have h1 := off_le (i := 7 + j) (by omega)
          have ew : wd (7 + j) = 6 := by
            unfold wd
            iterate 6 rw [if_neg (by omega)]
          omega
        obtain ⟨Y, hY⟩ : ∃ Y, (⟨(be (tell X (7 + j)) 6).toArray⟩ : ByteArray) = Y := ⟨_, rfl⟩
        have hYs : Y.size = 6 := by rw [← hY]; exact bsz _ _
        have lS : ¬ 9223372036854775807 < S.size + Y.size := by rw [HSL.out]; omega
        have HSY : Hid (S ++ Y = ⟨(slotP X (7 + (j + 1))).toArray⟩) := by
          show _ = _
          rw [show 7 + (j + 1) = 7 + j + 1 by omega, HS.out j hjn, HI.out, ← hY]
          apply ByteArray.ext; apply Array.toList_inj.1; simp
        obtain ⟨S', hS'⟩ : ∃ S', S ++ Y = S' := ⟨_, rfl⟩
        rw [hY] at HP
        rw [hS'] at HSY
        clear hY hYs hof
        have c2 := HX.out.cell (i := 2) rfl
        have HSZ := hid (Nat.le_of_lt HX.out.lt)
        by_cases hjm : j < m
        · have hjk : (j : Int) < (m : Int) := by omega
          have hbw : Below w.heap.size w wr := by rw [HPP.out]; exact HB.out
          obtain ⟨v, hv⟩ : ∃ v, K[j]? = some v := ⟨_, List.getElem?_eq_getElem (by rw [HMM.out]; exact hjm)⟩
          obtain ⟨b, off, e1, hbl, d1, d2⟩ := (HL.out.on hbw).at hv
          subst e1
          have hg := HKA.out j v hv
          rw [hg] at HP
          clear hv hbw hg
          go_wp2_with (go_at_call 27; refine (HP.out _).mono ?_; clear HP; rintro e w2 ⟨rfl, hb2⟩)
          have HX2 := hid (HX.out.on hb2 HX.out.lt)
          have HB2 := hid (HB.out.trans (hb2.mono HSZ.out))
          go_roundw
          case rel => exact ⟨j + 1, S', by omega, rfl, by go_num, HSY, HX2, HB2⟩
          case measure => simp [intOf]; omega
        · have hjk : ¬ (j : Int) < (m : Int) := by omega
          have hg := HKG.out j (by omega)
          rw [hg] at HP
          clear hg
          go_wp2_with (go_at_call 27; refine (HP.out _).mono ?_; clear HP; rintro e w2 ⟨rfl, hb2⟩)
          have HX2 := hid (HX.out.on hb2 HX.out.lt)
          have HB2 := hid (HB.out.trans (hb2.mono HSZ.out))
          go_roundw
          case rel => exact ⟨j + 1, S', by omega, rfl, by go_num, HSY, HX2, HB2⟩
          case measure => simp [intOf]; omega
      · have hji : ¬ (j : Int) < 4 := by omega
        obtain rfl : j = 4 := by omega
        have h47 : off (7 + 4) = 47 := by decide
        rw [h47] at HSL
        have hzz : (⟨(be 0 1).toArray⟩ : ByteArray).size = 1 := bsz 0 1
        have HFIN : Hid (S ++ ⟨(be 0 1).toArray⟩ = ⟨(slotB X).toArray⟩) := by
          show _ = _
          rw [HSB.out, HI.out]
          apply ByteArray.ext; apply Array.toList_inj.1; simp
          rfl
        generalize (⟨(be 0 1).toArray⟩ : ByteArray) = Z at *
        have lZ : ¬ 9223372036854775807 < S.size + Z.size := by rw [HSL.out]; omega
        obtain ⟨S', hS'⟩ : ∃ S', S ++ Z = S' := ⟨_, rfl⟩
        rw [hS'] at HFIN
        have HSZ := hid (Nat.le_of_lt HX.out.lt)
        clear hzz h47
        go_wp2_with (go_at_call 27; refine (PZ.out _).mono ?_; clear PZ; rintro e w2 ⟨rfl, hb2⟩)
        go_ret
        exact ⟨by rw [← HFIN.out]; rfl, by rw [HPP.out]; exact HB.out.trans (hb2.mono HSZ.out)⟩
end Go.Proofs.Ythohopbolalpcaa

