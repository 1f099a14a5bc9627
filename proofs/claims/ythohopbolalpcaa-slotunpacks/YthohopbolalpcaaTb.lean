/-
  The document's Pack.
-/
import Derived.Test.YthohopbolalpcaaTa
namespace Go.Proofs.Ythohopbolalpcaa
open Go.RowKit
set_option linter.unusedVariables false
set_option linter.unusedSimpArgs false
set_option maxRecDepth 100000

/-- how Pack ends -/
def PakP (b : Bk) (w : World) (e : Ending) (w' : World) : Prop := e = .returned (.tuple #[.string (if bkE b = 0 then ⟨(pageB b).toArray⟩ else ⟨#[]⟩), .int .i64 (bkE b : Nat)]) ∧ Below w.heap.size w w'

/-- any end -/
def Ask (Q : Ending → World → Prop) (e : Ending) (w' : World) : Prop := Q e w'
set_option maxHeartbeats 8000000 in
theorem rPack_any (b : Bk) (v : Value) (w : World) (hl : LiesN w v b.nodes) :
    Calls Try.prog 18 #[.agg #[.int .i64 b.depth, .int .i64 b.next, v]] w fun e w' => PakP b w e w' := by
  obtain ⟨ad, c, rfl, hcc⟩ := hl.form
  have hlen := hl.len
  unfold maxLen at hlen
  have HE : Hid (bkE b = if b.depth < 0 ∨ 5 < b.depth ∨ b.next < 0 ∨ 2048 ≤ b.next then 1 else if 5 < b.nodes.length then 10 else nsK b.nodes b.nodes.length) := rfl
  have HPE : Hid (∀ (e : Ending) (w' : World) (r : Nat), bkE b = r → r ≠ 0 → e = .returned (.tuple #[.string ⟨#[]⟩, .int .i64 (r : Nat)]) → Below w.heap.size w w' → PakP b w e w') := fun e w' r h h0 he hb => ⟨by rw [he, h, if_neg h0], hb⟩
  have HPO : Hid (∀ (e : Ending) (w' : World), bkE b = 0 → e = .returned (.tuple #[.string ⟨(pageB b).toArray⟩, .int .i64 0]) → Below w.heap.size w w' → PakP b w e w') := fun e w' h he hb => ⟨by rw [he, h, if_pos rfl]; rfl, hb⟩
  have HPG : Hid (pageB b = headB b ++ b.nodes.flatMap slotB ++ List.replicate (240 - 48 * b.nodes.length) 0) := rfl
  have HHD : Hid (headB b = be 3 1 ++ be b.depth.toNat 1 ++ be b.next.toNat 2 ++ List.replicate 12 0) := rfl
  have HHL := hid (headB_len b)
  have HBX := hid (Eq.refl b)
  clear HBX
  generalize PakP b w = Q at *
  have HPE : Hid (∀ (e : Ending) (w' : World) (r : Nat), bkE b = r → r ≠ 0 → e = .returned (.tuple #[.string ⟨#[]⟩, .int .i64 (r : Nat)]) → Below w.heap.size w w' → Ask Q e w') := HPE
  have HPO : Hid (∀ (e : Ending) (w' : World), bkE b = 0 → e = .returned (.tuple #[.string ⟨(pageB b).toArray⟩, .int .i64 0]) → Below w.heap.size w w' → Ask Q e w') := HPO
  show Calls Try.prog 18 _ w fun e w' => Ask Q e w'
  generalize bkE b = R at *
  generalize pageB b = PG at *
  generalize headB b = H at *
  obtain ⟨d, nx, L⟩ := b
  simp only at *
  have HL := hid hl
  obtain ⟨n, hn⟩ : ∃ n, L.length = n := ⟨_, rfl⟩
  have HN := hid hn
  rw [hn] at HL HE HPG hlen hcc ⊢
  clear hl hn
  obtain ⟨p, hp⟩ : ∃ p, w.heap.size = p := ⟨_, rfl⟩
  have HP := hid hp
  have HBK := hid (Blk.made w #[.int .i64 d, .int .i64 nx, .slice ad n c] 42)
  have HB0 := hid ((Below.refl w.heap.size w).alloc (Nat.le_refl _) (.cells #[.int .i64 d, .int .i64 nx, .slice ad n c] 42))
  by_cases h1 : d < 0 ∨ 5 < d ∨ nx < 0 ∨ 2048 ≤ nx
  · have hr : R = 1 := by rw [HE.out, if_pos h1]
    have HR := hid hr
    clear HE HPG HHD hp hr
    rcases (by omega : d < 0 ∨ (¬ d < 0 ∧ 5 < d) ∨ (¬ d < 0 ∧ ¬ 5 < d ∧ nx < 0) ∨ (¬ d < 0 ∧ ¬ 5 < d ∧ ¬ nx < 0 ∧ 2047 < nx)) with k1 | ⟨k1, k2⟩ | ⟨k1, k2, k3⟩ | ⟨k1, k2, k3, k4⟩
    all_goals
      clear h1
      go_enter Try.func18, Try.ntmps18
      go_wp2_with fail
      go_ret2
      exact HPE.out _ _ 1 HR.out (by decide) rfl HB0.out
  have k1 : ¬ d < 0 := by omega
  have k2 : ¬ 5 < d := by omega
  have k3 : ¬ nx < 0 := by omega
  have k4 : ¬ 2047 < nx := by omega
  by_cases h5 : 5 < n
  · have hr : R = 10 := by rw [HE.out, if_neg h1, if_pos h5]
    have HR := hid hr
    have h5i : (5 : Int) < (n : Int) := by omega
    clear HE h1 HPG HHD hp hr
    go_enter Try.func18, Try.ntmps18
    go_wp2_with fail
    go_ret2
    exact HPE.out _ _ 10 HR.out (by decide) rfl HB0.out
  have h5i : ¬ (5 : Int) < (n : Int) := by omega
  have HR : Hid (R = nsK L n) := by show _ = _; rw [HE.out, if_neg h1, if_neg h5]
  have H0 : Hid (nsK L 0 = 0) := by show _ = _; rfl
  obtain ⟨D, hD⟩ : ∃ D : Nat, d = D := ⟨d.toNat, by omega⟩
  obtain ⟨E, hE⟩ : ∃ E : Nat, nx = E := ⟨nx.toNat, by omega⟩
  subst hD hE
  have P0 : Hid (∀ w1, _) := fun w1 => rput 3 1 w1 (by decide) (by decide) (by decide)
  have P1 : Hid (∀ w1, _) := fun w1 => rput D 1 w1 (by decide) (by decide) (by omega)
  have P2 : Hid (∀ w1, _) := fun w1 => rput E 2 w1 (by decide) (by decide) (by omega)
  have PZ : Hid (∀ w1, _) := fun w1 => zeros_ok 12 w1 (by decide)
  have HZS : Hid (∀ (k : Nat) (w1 : World), k ≤ 65536 → Calls Try.prog 32 #[.int .i64 (k : Nat)] w1 fun e w' => e = .returned (.string ⟨(List.replicate k 0).toArray⟩) ∧ Below w1.heap.size w1 w') := fun k w1 hk => zeros_ok k w1 hk
  have z0 := bsz 3 1
  have z1 := bsz D 1
  have z2 := bsz E 2
  have z3 : (⟨(List.replicate 12 0).toArray⟩ : ByteArray).size = 12 := by rw [Lib.size_eq]; rfl
  have HHQ : Hid ((⟨(be 3 1).toArray⟩ : ByteArray) ++ ⟨(be D 1).toArray⟩ ++ ⟨(be E 2).toArray⟩ ++ ⟨(List.replicate 12 0).toArray⟩ = ⟨H.toArray⟩) := by
    show _ = _
    rw [HHD.out]
    apply ByteArray.ext; apply Array.toList_inj.1; simp
  generalize (⟨(be 3 1).toArray⟩ : ByteArray) = Y0 at *
  generalize (⟨(be D 1).toArray⟩ : ByteArray) = Y1 at *
  generalize (⟨(be E 2).toArray⟩ : ByteArray) = Y2 at *
  generalize (⟨(List.replicate 12 0).toArray⟩ : ByteArray) = Y3 at P2 PZ z3 HHQ
  obtain ⟨T1, t1⟩ : ∃ T, Y0 ++ Y1 = T := ⟨_, rfl⟩
  obtain ⟨T2, t2⟩ : ∃ T, T1 ++ Y2 = T := ⟨_, rfl⟩
  obtain ⟨T3, t3⟩ : ∃ T, T2 ++ Y3 = T := ⟨_, rfl⟩
  rw [t1, t2, t3] at HHQ
  have s1 : T1.size = 2 := by rw [← t1, ByteArray.size_append, z0, z1]
  have s2 : T2.size = 4 := by rw [← t2, ByteArray.size_append, s1, z2]
  have l1 : ¬ 9223372036854775807 < Y0.size + Y1.size := by omega
  have l2 : ¬ 9223372036854775807 < T1.size + Y2.size := by omega
  have l3 : ¬ 9223372036854775807 < T2.size + Y3.size := by omega
  have g1 : IntKind.u64.wrap (D : Int) = (D : Int) := by rw [IntKind.wrap_u64]; omega
  have g2 : IntKind.u64.wrap (E : Int) = (E : Int) := by rw [IntKind.wrap_u64]; omega
  have HS0 : Hid (T3 = ⟨(H ++ (L.take 0).flatMap slotB).toArray⟩) := by show _ = _; rw [HHQ.out]; simp
  rw [hp] at HBK HB0
  have hn5 : n ≤ 5 := by omega
  clear z0 z1 z2 z3 s1 s2 HE h1 HHD
  go_enter Try.func18, Try.ntmps18
  go_wp2_with fail
  generalize w.alloc (Obj.cells #[.int .i64 (D : Nat), .int .i64 (E : Nat), .slice ad n c] 42) = w1 at *
  clear hp k1 k2 k3 k4 h5i
  refine wp_region_d (fun w' => w'.cell? ⟨p, 0, none⟩ = some (.int .i64 (D : Nat)) ∧ w'.cell? ⟨p, 1, none⟩ = some (.int .i64 (E : Nat)) ∧ w'.cell? ⟨p, 2, none⟩ = some (.slice ad n c)) (fun _ => true) (by kernel_rfl) ?_
  have HSS : Hid (∀ w', Blk w' p #[.int .i64 (D : Nat), .int .i64 (E : Nat), .slice ad n c] 42 → w'.cell? ⟨p, 0, none⟩ = some (.int .i64 (D : Nat)) ∧ w'.cell? ⟨p, 1, none⟩ = some (.int .i64 (E : Nat)) ∧ w'.cell? ⟨p, 2, none⟩ = some (.slice ad n c)) := fun w' h => ⟨h.cell (i := 0) rfl, h.cell (i := 1) rfl, h.cell (i := 2) rfl⟩
  have HX2 := hid (HBK.out.on (Below.refl _ w1).drew HBK.out.lt)
  have HB2 := hid HB0.out.drew
  clear HBK HB0
  generalize w1.drew = w2 at *
  have hS := HSS.out w2 HX2.out
  refine wpAnyM_pick (i := 1) (some 31) (v := ?vz1) rfl rfl (by kernel_rfl) (by kernel_rfl) (by kernel_rfl) (by kernel_rfl) (fun _ _ _ h => h) (Or.inl ⟨by rfl, ?hz1⟩) hS ?rz1
  case hz1 => intro w hSw; (first | obtain ⟨hs1, hs2, hs3, hs4, hs5, hs6, hs7, hs8, hs9, hs10, hs11, hs12⟩ := hSw | obtain ⟨hs1, hs2, hs3, hs4, hs5, hs6, hs7, hs8⟩ := hSw | obtain ⟨hs1, hs2, hs3, hs4, hs5, hs6⟩ := hSw | obtain ⟨hs1, hs2, hs3⟩ := hSw | obtain ⟨hs1, hs2⟩ := hSw | skip); go_simp; try with_reducible rfl
  try simp only [Act.put, List.setIfInBounds_toArray, List.set_cons_zero, List.set_cons_succ]
  refine wpAnyM_pick (i := 2) (some 32) (v := ?vz2) rfl rfl (by kernel_rfl) (by kernel_rfl) (by kernel_rfl) (by kernel_rfl) (fun _ _ _ h => h) (Or.inl ⟨by rfl, ?hz2⟩) hS ?rz2
  case hz2 => intro w hSw; (first | obtain ⟨hs1, hs2, hs3, hs4, hs5, hs6, hs7, hs8, hs9, hs10, hs11, hs12⟩ := hSw | obtain ⟨hs1, hs2, hs3, hs4, hs5, hs6, hs7, hs8⟩ := hSw | obtain ⟨hs1, hs2, hs3, hs4, hs5, hs6⟩ := hSw | obtain ⟨hs1, hs2, hs3⟩ := hSw | obtain ⟨hs1, hs2⟩ := hSw | skip); go_simp; try with_reducible rfl
  try simp only [Act.put, List.setIfInBounds_toArray, List.set_cons_zero, List.set_cons_succ]
  refine wpAnyM_pick (i := 3) (some 33) (v := ?vz3) rfl rfl (by kernel_rfl) (by kernel_rfl) (by kernel_rfl) (by kernel_rfl) (fun _ _ _ h => h) (Or.inl ⟨by rfl, ?hz3⟩) hS ?rz3
  case hz3 => intro w hSw; (first | obtain ⟨hs1, hs2, hs3, hs4, hs5, hs6, hs7, hs8, hs9, hs10, hs11, hs12⟩ := hSw | obtain ⟨hs1, hs2, hs3, hs4, hs5, hs6, hs7, hs8⟩ := hSw | obtain ⟨hs1, hs2, hs3, hs4, hs5, hs6⟩ := hSw | obtain ⟨hs1, hs2, hs3⟩ := hSw | obtain ⟨hs1, hs2⟩ := hSw | skip); go_simp; try with_reducible rfl
  try simp only [Act.put, List.setIfInBounds_toArray, List.set_cons_zero, List.set_cons_succ]
  refine wpAnyM_pick (i := 6) (some 36) (v := ?vz4) rfl rfl (by kernel_rfl) (by kernel_rfl) (by kernel_rfl) (by kernel_rfl) (fun _ _ _ h => h) (Or.inl ⟨by rfl, ?hz4⟩) hS ?rz4
  case hz4 => intro w hSw; (first | obtain ⟨hs1, hs2, hs3, hs4, hs5, hs6, hs7, hs8, hs9, hs10, hs11, hs12⟩ := hSw | obtain ⟨hs1, hs2, hs3, hs4, hs5, hs6, hs7, hs8⟩ := hSw | obtain ⟨hs1, hs2, hs3, hs4, hs5, hs6⟩ := hSw | obtain ⟨hs1, hs2, hs3⟩ := hSw | obtain ⟨hs1, hs2⟩ := hSw | skip); go_simp; try with_reducible rfl
  try simp only [Act.put, List.setIfInBounds_toArray, List.set_cons_zero, List.set_cons_succ]
  refine wpAnyM_pick (i := 7) (some 37) (v := ?vz5) rfl rfl (by kernel_rfl) (by kernel_rfl) (by kernel_rfl) (by kernel_rfl) (fun _ _ _ h => h) (Or.inl ⟨by rfl, ?hz5⟩) hS ?rz5
  case hz5 => intro w hSw; (first | obtain ⟨hs1, hs2, hs3, hs4, hs5, hs6, hs7, hs8, hs9, hs10, hs11, hs12⟩ := hSw | obtain ⟨hs1, hs2, hs3, hs4, hs5, hs6, hs7, hs8⟩ := hSw | obtain ⟨hs1, hs2, hs3, hs4, hs5, hs6⟩ := hSw | obtain ⟨hs1, hs2, hs3⟩ := hSw | obtain ⟨hs1, hs2⟩ := hSw | skip); go_simp; try with_reducible rfl
  try simp only [Act.put, List.setIfInBounds_toArray, List.set_cons_zero, List.set_cons_succ]
  refine wpAnyM_pick (i := 8) (some 38) (v := ?vz6) rfl rfl (by kernel_rfl) (by kernel_rfl) (by kernel_rfl) (by kernel_rfl) (fun _ _ _ h => h) (Or.inl ⟨by rfl, ?hz6⟩) hS ?rz6
  case hz6 => intro w hSw; (first | obtain ⟨hs1, hs2, hs3, hs4, hs5, hs6, hs7, hs8, hs9, hs10, hs11, hs12⟩ := hSw | obtain ⟨hs1, hs2, hs3, hs4, hs5, hs6, hs7, hs8⟩ := hSw | obtain ⟨hs1, hs2, hs3, hs4, hs5, hs6⟩ := hSw | obtain ⟨hs1, hs2, hs3⟩ := hSw | obtain ⟨hs1, hs2⟩ := hSw | skip); go_simp; try with_reducible rfl
  try simp only [Act.put, List.setIfInBounds_toArray, List.set_cons_zero, List.set_cons_succ]
  refine wpAnyM_one (i := 0) (by kernel_rfl) rfl (fun K hK => ?_)
  go_simp
  go_at_call 27
  refine (P0.out _).mono ?_
  clear P0
  rintro e w3 ⟨rfl, hb3⟩
  have HX3 := hid (HX2.out.on hb3 HX2.out.lt)
  have HB3 := hid (HB2.out.trans (hb3.mono (Nat.le_of_lt HX2.out.lt)))
  clear hb3 HX2 HB2 hS
  have hS := HSS.out w3 HX3.out
  go_wp2_with fail
  refine hK.out _ _ (fun _ => hS) ?_
  clear hK K
  try simp only [Act.put, List.setIfInBounds_toArray, List.set_cons_zero, List.set_cons_succ]
  refine wpAnyM_one (i := 4) (by kernel_rfl) rfl (fun K hK => ?_)
  go_simp
  go_at_call 27
  refine (P1.out _).mono ?_
  clear P1
  rintro e w4 ⟨rfl, hb4⟩
  have HX4 := hid (HX3.out.on hb4 HX3.out.lt)
  have HB4 := hid (HB3.out.trans (hb4.mono (Nat.le_of_lt HX3.out.lt)))
  clear hb4 HX3 HB3 hS
  have hS := HSS.out w4 HX4.out
  go_wp2_with fail
  refine hK.out _ _ (fun _ => hS) ?_
  clear hK K
  try simp only [Act.put, List.setIfInBounds_toArray, List.set_cons_zero, List.set_cons_succ]
  refine wpAnyM_pick (i := 5) (some 35) (v := ?vz7) rfl rfl (by kernel_rfl) (by kernel_rfl) (by kernel_rfl) (by kernel_rfl) (fun _ _ _ h => h) (Or.inl ⟨by rfl, ?hz7⟩) hS ?rz7
  case hz7 => intro w hSw; (first | obtain ⟨hs1, hs2, hs3, hs4, hs5, hs6, hs7, hs8, hs9, hs10, hs11, hs12⟩ := hSw | obtain ⟨hs1, hs2, hs3, hs4, hs5, hs6, hs7, hs8⟩ := hSw | obtain ⟨hs1, hs2, hs3, hs4, hs5, hs6⟩ := hSw | obtain ⟨hs1, hs2, hs3⟩ := hSw | obtain ⟨hs1, hs2⟩ := hSw | skip); go_simp; try with_reducible rfl
  try simp only [Act.put, List.setIfInBounds_toArray, List.set_cons_zero, List.set_cons_succ]
  refine wpAnyM_one (i := 9) (by kernel_rfl) rfl (fun K hK => ?_)
  go_simp
  go_at_call 27
  refine (P2.out _).mono ?_
  clear P2
  rintro e w5 ⟨rfl, hb5⟩
  have HX5 := hid (HX4.out.on hb5 HX4.out.lt)
  have HB5 := hid (HB4.out.trans (hb5.mono (Nat.le_of_lt HX4.out.lt)))
  clear hb5 HX4 HB4 hS
  have hS := HSS.out w5 HX5.out
  go_wp2_with fail
  refine hK.out _ _ (fun _ => hS) ?_
  clear hK K
  try simp only [Act.put, List.setIfInBounds_toArray, List.set_cons_zero, List.set_cons_succ]
  refine wpAnyM_pick (i := 10) (some 40) (v := ?vz8) rfl rfl (by kernel_rfl) (by kernel_rfl) (by kernel_rfl) (by kernel_rfl) (fun _ _ _ h => h) (Or.inl ⟨by rfl, ?hz8⟩) hS ?rz8
  case hz8 => intro w hSw; (first | obtain ⟨hs1, hs2, hs3, hs4, hs5, hs6, hs7, hs8, hs9, hs10, hs11, hs12⟩ := hSw | obtain ⟨hs1, hs2, hs3, hs4, hs5, hs6, hs7, hs8⟩ := hSw | obtain ⟨hs1, hs2, hs3, hs4, hs5, hs6⟩ := hSw | obtain ⟨hs1, hs2, hs3⟩ := hSw | obtain ⟨hs1, hs2⟩ := hSw | skip); go_simp; try with_reducible rfl
  try simp only [Act.put, List.setIfInBounds_toArray, List.set_cons_zero, List.set_cons_succ]
  refine wpAnyM_one (i := 11) (by kernel_rfl) rfl (fun K hK => ?_)
  go_simp
  go_at_call 32
  refine (PZ.out _).mono ?_
  clear PZ
  rintro e w6 ⟨rfl, hb6⟩
  have HX6 := hid (HX5.out.on hb6 HX5.out.lt)
  have HB6 := hid (HB5.out.trans (hb6.mono (Nat.le_of_lt HX5.out.lt)))
  clear hb6 HX5 HB5 hS
  have hS := HSS.out w6 HX6.out
  go_wp2_with fail
  refine hK.out _ _ (fun _ => hS) ?_
  clear hK K
  try simp only [Act.put, List.setIfInBounds_toArray, List.set_cons_zero, List.set_cons_succ]
  refine wpAnyM_pick (i := 12) (some 42) (v := ?vz9) rfl rfl (by kernel_rfl) (by kernel_rfl) (by kernel_rfl) (by kernel_rfl) (fun _ _ _ h => h) (Or.inl ⟨by rfl, ?hz9⟩) hS ?rz9
  case hz9 => intro w hSw; (first | obtain ⟨hs1, hs2, hs3, hs4, hs5, hs6, hs7, hs8, hs9, hs10, hs11, hs12⟩ := hSw | obtain ⟨hs1, hs2, hs3, hs4, hs5, hs6, hs7, hs8⟩ := hSw | obtain ⟨hs1, hs2, hs3, hs4, hs5, hs6⟩ := hSw | obtain ⟨hs1, hs2, hs3⟩ := hSw | obtain ⟨hs1, hs2⟩ := hSw | skip); go_simp; try with_reducible rfl
  try simp only [Act.put, List.setIfInBounds_toArray, List.set_cons_zero, List.set_cons_succ]
  refine wpAnyM_pick (i := 13) (some 4) (v := ?vz10) rfl rfl (by kernel_rfl) (by kernel_rfl) (by kernel_rfl) (by kernel_rfl) (fun _ _ _ h => h) (Or.inl ⟨by rfl, ?hz10⟩) hS ?rz10
  case hz10 => intro w hSw; (first | obtain ⟨hs1, hs2, hs3, hs4, hs5, hs6, hs7, hs8, hs9, hs10, hs11, hs12⟩ := hSw | obtain ⟨hs1, hs2, hs3, hs4, hs5, hs6, hs7, hs8⟩ := hSw | obtain ⟨hs1, hs2, hs3, hs4, hs5, hs6⟩ := hSw | obtain ⟨hs1, hs2, hs3⟩ := hSw | obtain ⟨hs1, hs2⟩ := hSw | skip); go_simp; try with_reducible rfl
  try simp only [Act.put, List.setIfInBounds_toArray, List.set_cons_zero, List.set_cons_succ]
  refine wpAnyM_done (by kernel_rfl) ?_ _
  clear hS t1 t2 t3 l1 l2 l3 g1 g2
  have c2 := HX6.out.cell (i := 2) rfl
  go_wp2_with fail
  clear c2
  go_loopw [4, 46] (fun y i wr => ∃ (j : Nat) (S : ByteArray), j ≤ n ∧ y = .string S ∧ i = .int .i64 (j : Nat) ∧ Hid (S = ⟨(H ++ (L.take j).flatMap slotB).toArray⟩) ∧ Hid (nsK L j = 0) ∧ Hid (Blk wr p #[.int .i64 (D : Nat), .int .i64 (E : Nat), .slice ad n c] 42) ∧ Hid (Below p w wr)) (fun _ i _ => n - (intOf i).toNat)
  case atStart => exact ⟨0, T3, Nat.zero_le _, rfl, rfl, HS0, H0, HX6, HB6⟩
  case round =>
    obtain ⟨j, S, hj, rfl, rfl, HSI, HI, HX, HB⟩ := hrel
    clear HX6 HB6 HS0 H0
    have HSL : Hid (S.size = 16 + 48 * j) := by
      show _ = _
      rw [HSI.out, Lib.size_eq]
      show (H ++ (L.take j).flatMap slotB).length = _
      rw [List.length_append, HHL.out, slots_len, List.length_take, HN.out, Nat.min_eq_left hj]
    have c2 := HX.out.cell (i := 2) rfl
    by_cases hjn : j < n
    · have hji : (j : Int) < (n : Int) := by omega
      obtain ⟨x, hx⟩ : ∃ x, L[j]? = some x := ⟨_, List.getElem?_eq_getElem (by rw [HN.out]; exact hjn)⟩
      have HBW : Hid (Below w.heap.size w wr) := by show Below _ _ _; rw [HP.out]; exact HB.out
      obtain ⟨b, off, kv, e1, hbl, a0, a1, a2, a3, a4, a5, hf⟩ := (HL.out.on HBW.out).at hx
      subst e1
      have HNX := hid (nsK_next HI.out hx)
      have HUP := hid (fun h : nsK L (j + 1) ≠ 0 => nsK_up h (n := n) (by omega))
      have HXJ := hid hx
      have HF := hid hf
      have HCL : Hid (∀ w2, Below wr.heap.size wr w2 → Calls Try.prog 33 #[.agg (cellsN x kv)] w2 fun e w' => e = .returned (.int .i64 (ndE x : Nat)) ∧ Below w2.heap.size w2 w') := fun w2 hb => may_any x kv w2 (HF.out.on hb)
      have HSP : Hid (ndE x = 0 → ∀ w2 kv, NdF w2 kv x → Calls Try.prog 34 #[.agg (cellsN x kv)] w2 fun e w' => e = .returned (.string ⟨(slotB x).toArray⟩) ∧ Below w2.heap.size w2 w') := fun h0 w2 kv hf => rSlot_any x kv w2 (NdOk.of h0) hf.lies
      have HSN : Hid ((⟨(H ++ (L.take j).flatMap slotB).toArray⟩ : ByteArray) ++ ⟨(slotB x).toArray⟩ = ⟨(H ++ (L.take (j + 1)).flatMap slotB).toArray⟩) := by
        show _ = _
        rw [List.take_add_one, hx]
        apply ByteArray.ext; apply Array.toList_inj.1; simp
      have HSS2 : Hid ((⟨(slotB x).toArray⟩ : ByteArray).size = 48) := by show _ = _; rw [Lib.size_eq]; exact slotB_len x
      have HRF : Hid (Below wr.heap.size wr wr) := Below.refl _ wr
      clear hf hx
      obtain ⟨A, nm, K, ct, q, nx'⟩ := x
      simp only [cellsN] at a0 a1 a2 a3 a4 a5 HCL HSP HNX
      generalize (⟨(slotB _).toArray⟩ : ByteArray) = Y at *
      generalize ndE _ = ne at *
      by_cases hz : ne = 0
      · subst hz
        have HNX2 : Hid (nsK L (j + 1) = if hasN (L.take j) A then 9 else 0) := HNX
        clear HNX
        go_wp2_with (go_at_call 33; refine (HCL.out _ HRF.out).mono ?_; clear HCL; rintro e w2 ⟨rfl, hb2⟩)
        have HX2 := hid (HX.out.on hb2 HX.out.lt)
        have HB2 := hid (HB.out.trans (hb2.mono (Nat.le_of_lt HX.out.lt)))
        have HR2 := hid hb2
        have HSP2 := hid (HSP.out trivial)
        clear hb2 c2 a0 a1 a2 a3 a4 a5 HX HB HBW HRF HSP
        obtain ⟨h9, hh9⟩ : ∃ h9, hasN (L.take j) A = h9 := ⟨_, rfl⟩
        have HH9 := hid hh9
        rw [hh9] at HNX2
        clear hh9
        obtain ⟨wo, hwo⟩ : ∃ wo, wo = wr := ⟨_, rfl⟩
        subst hwo
        go_loopw [7] (fun i w9 => ∃ k : Nat, k ≤ j ∧ i = .int .i64 (k : Nat) ∧ Hid (hasN (L.take k) A = false) ∧ Hid (Below wo.heap.size wo w9) ∧ Hid (Blk w9 p #[.int .i64 (D : Nat), .int .i64 (E : Nat), .slice (some ⟨b, off, none⟩) n c] 42) ∧ Hid (Below p w w9)) (fun i _ => j - (intOf i).toNat)
        case atStart => exact ⟨0, Nat.zero_le _, rfl, (by show hasN (L.take 0) A = false; rfl), HR2, HX2, HB2⟩
        case round =>
          obtain ⟨k, hk, rfl, HHK, HR3, HX3, HB3⟩ := hrel
          clear HR2 HX2 HB2
          have HBW : Hid (Below w.heap.size w wr) := by show Below _ _ _; rw [HP.out]; exact HB3.out
          by_cases hkj : k < j
          · have hki : (k : Int) < (j : Int) := by omega
            have hkn : (k : Int) < (n : Int) := by omega
            obtain ⟨y, hy⟩ : ∃ y, L[k]? = some y := ⟨_, List.getElem?_eq_getElem (by rw [HN.out]; omega)⟩
            have HHK2 := hid (hasN_succ hy A)
            have HUN : Hid (∀ a, L[k]? = some y → y.at' = a → a = A → h9 = true) := fun a h1 h2 h3 => by
              rw [← HH9.out]
              unfold hasN
              rw [List.any_eq_true]
              exact ⟨y, List.mem_iff_getElem?.2 ⟨k, by rw [List.getElem?_take, if_pos hkj]; exact h1⟩, by rw [h2, h3]; exact decide_eq_true rfl⟩
            have HYK := hid hy
            rw [HHK.out] at HHK2
            obtain ⟨_, _, _, e3, _, b0, _⟩ := (HL.out.on HBW.out).at hy
            cases e3
            obtain ⟨_, _, _, e4, _, b1, _⟩ := (HL.out.on HBW.out).at HXJ.out
            cases e4
            clear hy
            have HYA := hid (Eq.refl y.at')
            obtain ⟨B, hB⟩ : ∃ B, y.at' = B := ⟨_, rfl⟩
            have HBA := hid hB
            rw [hB] at b0 HHK2
            clear hB HYA
            simp only at b1
            have c2 := HX3.out.cell (i := 2) rfl
            go_wp2_with fail
            refine wp_region_d (fun w' => w'.cell? ⟨p, 2, none⟩ = some (.slice (some ⟨b, off, none⟩) n c) ∧ w'.cell? ⟨b, off + k * 6, none⟩ = some (.int .u64 (B : Nat)) ∧ w'.cell? ⟨b, off + j * 6, none⟩ = some (.int .u64 (A : Nat))) (fun _ => true) (by kernel_rfl) ?_
            have hS : wr.drew.cell? ⟨p, 2, none⟩ = some (.slice (some ⟨b, off, none⟩) n c) ∧ wr.drew.cell? ⟨b, off + k * 6, none⟩ = some (.int .u64 (B : Nat)) ∧ wr.drew.cell? ⟨b, off + j * 6, none⟩ = some (.int .u64 (A : Nat)) := ⟨(HX3.out.on (Below.refl _ wr).drew HX3.out.lt).cell (i := 2) rfl, b0, b1⟩
            have HX4 := hid (HX3.out.on (Below.refl _ wr).drew HX3.out.lt)
            have HB4 := hid HB3.out.drew
            have HR4 := hid HR3.out.drew
            clear HX3 HB3 HR3 c2 b0 b1 HBW
            generalize wr.drew = w4 at *
            by_cases hBA : B = A
            · subst hBA
              have h9t := HUN.out _ HYK.out HBA.out rfl
              subst h9t
              have h99 : nsK L (j + 1) = 9 := HNX2.out
              have hrr : R = 9 := by rw [HR.out, HUP.out (by rw [h99]; decide), h99]
              have HRR := hid hrr
              clear hrr h99
              refine wpAnyM_pick (i := 0) (some 63) (v := ?vz11) rfl rfl (by kernel_rfl) (by kernel_rfl) (by kernel_rfl) (by kernel_rfl) (fun _ _ _ h => h) (Or.inl ⟨by rfl, ?hz11⟩) hS ?rz11
              case hz11 => intro w hSw; (first | obtain ⟨hs1, hs2, hs3, hs4, hs5, hs6, hs7, hs8, hs9, hs10, hs11, hs12⟩ := hSw | obtain ⟨hs1, hs2, hs3, hs4, hs5, hs6, hs7, hs8⟩ := hSw | obtain ⟨hs1, hs2, hs3, hs4, hs5, hs6⟩ := hSw | obtain ⟨hs1, hs2, hs3⟩ := hSw | obtain ⟨hs1, hs2⟩ := hSw | skip); go_simp; try with_reducible rfl
              try simp only [Act.put, List.setIfInBounds_toArray, List.set_cons_zero, List.set_cons_succ]
              refine wpAnyM_pick (i := 1) (some 64) (v := ?vz12) rfl rfl (by kernel_rfl) (by kernel_rfl) (by kernel_rfl) (by kernel_rfl) (fun _ _ _ h => h) (Or.inl ⟨by rfl, ?hz12⟩) hS ?rz12
              case hz12 => intro w hSw; (first | obtain ⟨hs1, hs2, hs3, hs4, hs5, hs6, hs7, hs8, hs9, hs10, hs11, hs12⟩ := hSw | obtain ⟨hs1, hs2, hs3, hs4, hs5, hs6, hs7, hs8⟩ := hSw | obtain ⟨hs1, hs2, hs3, hs4, hs5, hs6⟩ := hSw | obtain ⟨hs1, hs2, hs3⟩ := hSw | obtain ⟨hs1, hs2⟩ := hSw | skip); go_simp; try with_reducible rfl
              try simp only [Act.put, List.setIfInBounds_toArray, List.set_cons_zero, List.set_cons_succ]
              refine wpAnyM_pick (i := 2) (some 65) (v := ?vz13) rfl rfl (by kernel_rfl) (by kernel_rfl) (by kernel_rfl) (by kernel_rfl) (fun _ _ _ h => h) (Or.inl ⟨by rfl, ?hz13⟩) hS ?rz13
              case hz13 => intro w hSw; (first | obtain ⟨hs1, hs2, hs3, hs4, hs5, hs6, hs7, hs8, hs9, hs10, hs11, hs12⟩ := hSw | obtain ⟨hs1, hs2, hs3, hs4, hs5, hs6, hs7, hs8⟩ := hSw | obtain ⟨hs1, hs2, hs3, hs4, hs5, hs6⟩ := hSw | obtain ⟨hs1, hs2, hs3⟩ := hSw | obtain ⟨hs1, hs2⟩ := hSw | skip); go_simp; try with_reducible rfl
              try simp only [Act.put, List.setIfInBounds_toArray, List.set_cons_zero, List.set_cons_succ]
              refine wpAnyM_pick (i := 3) (some 66) (v := ?vz14) rfl rfl (by kernel_rfl) (by kernel_rfl) (by kernel_rfl) (by kernel_rfl) (fun _ _ _ h => h) (Or.inl ⟨by rfl, ?hz14⟩) hS ?rz14
              case hz14 => intro w hSw; (first | obtain ⟨hs1, hs2, hs3, hs4, hs5, hs6, hs7, hs8, hs9, hs10, hs11, hs12⟩ := hSw | obtain ⟨hs1, hs2, hs3, hs4, hs5, hs6, hs7, hs8⟩ := hSw | obtain ⟨hs1, hs2, hs3, hs4, hs5, hs6⟩ := hSw | obtain ⟨hs1, hs2, hs3⟩ := hSw | obtain ⟨hs1, hs2⟩ := hSw | skip); go_simp; try with_reducible rfl
              try simp only [Act.put, List.setIfInBounds_toArray, List.set_cons_zero, List.set_cons_succ]
              refine wpAnyM_pick (i := 4) (some 67) (v := ?vz15) rfl rfl (by kernel_rfl) (by kernel_rfl) (by kernel_rfl) (by kernel_rfl) (fun _ _ _ h => h) (Or.inl ⟨by rfl, ?hz15⟩) hS ?rz15
              case hz15 => intro w hSw; (first | obtain ⟨hs1, hs2, hs3, hs4, hs5, hs6, hs7, hs8, hs9, hs10, hs11, hs12⟩ := hSw | obtain ⟨hs1, hs2, hs3, hs4, hs5, hs6, hs7, hs8⟩ := hSw | obtain ⟨hs1, hs2, hs3, hs4, hs5, hs6⟩ := hSw | obtain ⟨hs1, hs2, hs3⟩ := hSw | obtain ⟨hs1, hs2⟩ := hSw | skip); go_simp; try with_reducible rfl
              try simp only [Act.put, List.setIfInBounds_toArray, List.set_cons_zero, List.set_cons_succ]
              refine wpAnyM_pick (i := 5) (some 68) (v := ?vz16) rfl rfl (by kernel_rfl) (by kernel_rfl) (by kernel_rfl) (by kernel_rfl) (fun _ _ _ h => h) (Or.inl ⟨by rfl, ?hz16⟩) hS ?rz16
              case hz16 => intro w hSw; (first | obtain ⟨hs1, hs2, hs3, hs4, hs5, hs6, hs7, hs8, hs9, hs10, hs11, hs12⟩ := hSw | obtain ⟨hs1, hs2, hs3, hs4, hs5, hs6, hs7, hs8⟩ := hSw | obtain ⟨hs1, hs2, hs3, hs4, hs5, hs6⟩ := hSw | obtain ⟨hs1, hs2, hs3⟩ := hSw | obtain ⟨hs1, hs2⟩ := hSw | skip); go_simp; try with_reducible rfl
              try simp only [Act.put, List.setIfInBounds_toArray, List.set_cons_zero, List.set_cons_succ]
              refine wpAnyM_pick (i := 6) (some 69) (v := ?vz17) rfl rfl (by kernel_rfl) (by kernel_rfl) (by kernel_rfl) (by kernel_rfl) (fun _ _ _ h => h) (Or.inl ⟨by rfl, ?hz17⟩) hS ?rz17
              case hz17 => intro w hSw; (first | obtain ⟨hs1, hs2, hs3, hs4, hs5, hs6, hs7, hs8, hs9, hs10, hs11, hs12⟩ := hSw | obtain ⟨hs1, hs2, hs3, hs4, hs5, hs6, hs7, hs8⟩ := hSw | obtain ⟨hs1, hs2, hs3, hs4, hs5, hs6⟩ := hSw | obtain ⟨hs1, hs2, hs3⟩ := hSw | obtain ⟨hs1, hs2⟩ := hSw | skip); go_simp; try with_reducible rfl
              try simp only [Act.put, List.setIfInBounds_toArray, List.set_cons_zero, List.set_cons_succ]
              refine wpAnyM_pick (i := 7) (some 70) (v := ?vz18) rfl rfl (by kernel_rfl) (by kernel_rfl) (by kernel_rfl) (by kernel_rfl) (fun _ _ _ h => h) (Or.inl ⟨by rfl, ?hz18⟩) hS ?rz18
              case hz18 => intro w hSw; (first | obtain ⟨hs1, hs2, hs3, hs4, hs5, hs6, hs7, hs8, hs9, hs10, hs11, hs12⟩ := hSw | obtain ⟨hs1, hs2, hs3, hs4, hs5, hs6, hs7, hs8⟩ := hSw | obtain ⟨hs1, hs2, hs3, hs4, hs5, hs6⟩ := hSw | obtain ⟨hs1, hs2, hs3⟩ := hSw | obtain ⟨hs1, hs2⟩ := hSw | skip); go_simp; try with_reducible rfl
              try simp only [Act.put, List.setIfInBounds_toArray, List.set_cons_zero, List.set_cons_succ]
              refine wpAnyM_pick (i := 8) (some 71) (v := ?vz19) rfl rfl (by kernel_rfl) (by kernel_rfl) (by kernel_rfl) (by kernel_rfl) (fun _ _ _ h => h) (Or.inl ⟨by rfl, ?hz19⟩) hS ?rz19
              case hz19 => intro w hSw; (first | obtain ⟨hs1, hs2, hs3, hs4, hs5, hs6, hs7, hs8, hs9, hs10, hs11, hs12⟩ := hSw | obtain ⟨hs1, hs2, hs3, hs4, hs5, hs6, hs7, hs8⟩ := hSw | obtain ⟨hs1, hs2, hs3, hs4, hs5, hs6⟩ := hSw | obtain ⟨hs1, hs2, hs3⟩ := hSw | obtain ⟨hs1, hs2⟩ := hSw | skip); go_simp; try with_reducible rfl
              try simp only [Act.put, List.setIfInBounds_toArray, List.set_cons_zero, List.set_cons_succ]
              refine wpAnyM_pick (i := 9) (some 72) (v := ?vz20) rfl rfl (by kernel_rfl) (by kernel_rfl) (by kernel_rfl) (by kernel_rfl) (fun _ _ _ h => h) (Or.inl ⟨by rfl, ?hz20⟩) hS ?rz20
              case hz20 => intro w hSw; (first | obtain ⟨hs1, hs2, hs3, hs4, hs5, hs6, hs7, hs8, hs9, hs10, hs11, hs12⟩ := hSw | obtain ⟨hs1, hs2, hs3, hs4, hs5, hs6, hs7, hs8⟩ := hSw | obtain ⟨hs1, hs2, hs3, hs4, hs5, hs6⟩ := hSw | obtain ⟨hs1, hs2, hs3⟩ := hSw | obtain ⟨hs1, hs2⟩ := hSw | skip); go_simp; try with_reducible rfl
              try simp only [Act.put, List.setIfInBounds_toArray, List.set_cons_zero, List.set_cons_succ]
              refine wpAnyM_pick (i := 10) (some 73) (v := ?vz21) rfl rfl (by kernel_rfl) (by kernel_rfl) (by kernel_rfl) (by kernel_rfl) (fun _ _ _ h => h) (Or.inl ⟨by rfl, ?hz21⟩) hS ?rz21
              case hz21 => intro w hSw; (first | obtain ⟨hs1, hs2, hs3, hs4, hs5, hs6, hs7, hs8, hs9, hs10, hs11, hs12⟩ := hSw | obtain ⟨hs1, hs2, hs3, hs4, hs5, hs6, hs7, hs8⟩ := hSw | obtain ⟨hs1, hs2, hs3, hs4, hs5, hs6⟩ := hSw | obtain ⟨hs1, hs2, hs3⟩ := hSw | obtain ⟨hs1, hs2⟩ := hSw | skip); go_simp; try with_reducible rfl
              try simp only [Act.put, List.setIfInBounds_toArray, List.set_cons_zero, List.set_cons_succ]
              refine wpAnyM_pick (i := 11) (some 74) (v := ?vz22) rfl rfl (by kernel_rfl) (by kernel_rfl) (by kernel_rfl) (by kernel_rfl) (fun _ _ _ h => h) (Or.inl ⟨by rfl, ?hz22⟩) hS ?rz22
              case hz22 => intro w hSw; (first | obtain ⟨hs1, hs2, hs3, hs4, hs5, hs6, hs7, hs8, hs9, hs10, hs11, hs12⟩ := hSw | obtain ⟨hs1, hs2, hs3, hs4, hs5, hs6, hs7, hs8⟩ := hSw | obtain ⟨hs1, hs2, hs3, hs4, hs5, hs6⟩ := hSw | obtain ⟨hs1, hs2, hs3⟩ := hSw | obtain ⟨hs1, hs2⟩ := hSw | skip); go_simp; try with_reducible rfl
              try simp only [Act.put, List.setIfInBounds_toArray, List.set_cons_zero, List.set_cons_succ]
              refine wpAnyM_pick (i := 12) (some 75) (v := ?vz23) rfl rfl (by kernel_rfl) (by kernel_rfl) (by kernel_rfl) (by kernel_rfl) (fun _ _ _ h => h) (Or.inl ⟨by rfl, ?hz23⟩) hS ?rz23
              case hz23 => intro w hSw; (first | obtain ⟨hs1, hs2, hs3, hs4, hs5, hs6, hs7, hs8, hs9, hs10, hs11, hs12⟩ := hSw | obtain ⟨hs1, hs2, hs3, hs4, hs5, hs6, hs7, hs8⟩ := hSw | obtain ⟨hs1, hs2, hs3, hs4, hs5, hs6⟩ := hSw | obtain ⟨hs1, hs2, hs3⟩ := hSw | obtain ⟨hs1, hs2⟩ := hSw | skip); go_simp; try with_reducible rfl
              try simp only [Act.put, List.setIfInBounds_toArray, List.set_cons_zero, List.set_cons_succ]
              refine wpAnyM_done (by kernel_rfl) ?_ _
              clear hS
              go_wp2_with fail
              go_ret2
              exact HPE.out _ _ 9 HRR.out (by decide) rfl (by rw [HP.out]; exact HB4.out)
            · have hBAi : ¬ (B : Int) = (A : Int) := by omega
              have HHK3 : Hid (hasN (L.take (k + 1)) A = false) := by show _ = _; rw [HHK2.out, decide_eq_false hBA]; rfl
              refine wpAnyM_pick (i := 0) (some 63) (v := ?vz24) rfl rfl (by kernel_rfl) (by kernel_rfl) (by kernel_rfl) (by kernel_rfl) (fun _ _ _ h => h) (Or.inl ⟨by rfl, ?hz24⟩) hS ?rz24
              case hz24 => intro w hSw; (first | obtain ⟨hs1, hs2, hs3, hs4, hs5, hs6, hs7, hs8, hs9, hs10, hs11, hs12⟩ := hSw | obtain ⟨hs1, hs2, hs3, hs4, hs5, hs6, hs7, hs8⟩ := hSw | obtain ⟨hs1, hs2, hs3, hs4, hs5, hs6⟩ := hSw | obtain ⟨hs1, hs2, hs3⟩ := hSw | obtain ⟨hs1, hs2⟩ := hSw | skip); go_simp; try with_reducible rfl
              try simp only [Act.put, List.setIfInBounds_toArray, List.set_cons_zero, List.set_cons_succ]
              refine wpAnyM_pick (i := 1) (some 64) (v := ?vz25) rfl rfl (by kernel_rfl) (by kernel_rfl) (by kernel_rfl) (by kernel_rfl) (fun _ _ _ h => h) (Or.inl ⟨by rfl, ?hz25⟩) hS ?rz25
              case hz25 => intro w hSw; (first | obtain ⟨hs1, hs2, hs3, hs4, hs5, hs6, hs7, hs8, hs9, hs10, hs11, hs12⟩ := hSw | obtain ⟨hs1, hs2, hs3, hs4, hs5, hs6, hs7, hs8⟩ := hSw | obtain ⟨hs1, hs2, hs3, hs4, hs5, hs6⟩ := hSw | obtain ⟨hs1, hs2, hs3⟩ := hSw | obtain ⟨hs1, hs2⟩ := hSw | skip); go_simp; try with_reducible rfl
              try simp only [Act.put, List.setIfInBounds_toArray, List.set_cons_zero, List.set_cons_succ]
              refine wpAnyM_pick (i := 2) (some 65) (v := ?vz26) rfl rfl (by kernel_rfl) (by kernel_rfl) (by kernel_rfl) (by kernel_rfl) (fun _ _ _ h => h) (Or.inl ⟨by rfl, ?hz26⟩) hS ?rz26
              case hz26 => intro w hSw; (first | obtain ⟨hs1, hs2, hs3, hs4, hs5, hs6, hs7, hs8, hs9, hs10, hs11, hs12⟩ := hSw | obtain ⟨hs1, hs2, hs3, hs4, hs5, hs6, hs7, hs8⟩ := hSw | obtain ⟨hs1, hs2, hs3, hs4, hs5, hs6⟩ := hSw | obtain ⟨hs1, hs2, hs3⟩ := hSw | obtain ⟨hs1, hs2⟩ := hSw | skip); go_simp; try with_reducible rfl
              try simp only [Act.put, List.setIfInBounds_toArray, List.set_cons_zero, List.set_cons_succ]
              refine wpAnyM_pick (i := 3) (some 66) (v := ?vz27) rfl rfl (by kernel_rfl) (by kernel_rfl) (by kernel_rfl) (by kernel_rfl) (fun _ _ _ h => h) (Or.inl ⟨by rfl, ?hz27⟩) hS ?rz27
              case hz27 => intro w hSw; (first | obtain ⟨hs1, hs2, hs3, hs4, hs5, hs6, hs7, hs8, hs9, hs10, hs11, hs12⟩ := hSw | obtain ⟨hs1, hs2, hs3, hs4, hs5, hs6, hs7, hs8⟩ := hSw | obtain ⟨hs1, hs2, hs3, hs4, hs5, hs6⟩ := hSw | obtain ⟨hs1, hs2, hs3⟩ := hSw | obtain ⟨hs1, hs2⟩ := hSw | skip); go_simp; try with_reducible rfl
              try simp only [Act.put, List.setIfInBounds_toArray, List.set_cons_zero, List.set_cons_succ]
              refine wpAnyM_pick (i := 4) (some 67) (v := ?vz28) rfl rfl (by kernel_rfl) (by kernel_rfl) (by kernel_rfl) (by kernel_rfl) (fun _ _ _ h => h) (Or.inl ⟨by rfl, ?hz28⟩) hS ?rz28
              case hz28 => intro w hSw; (first | obtain ⟨hs1, hs2, hs3, hs4, hs5, hs6, hs7, hs8, hs9, hs10, hs11, hs12⟩ := hSw | obtain ⟨hs1, hs2, hs3, hs4, hs5, hs6, hs7, hs8⟩ := hSw | obtain ⟨hs1, hs2, hs3, hs4, hs5, hs6⟩ := hSw | obtain ⟨hs1, hs2, hs3⟩ := hSw | obtain ⟨hs1, hs2⟩ := hSw | skip); go_simp; try with_reducible rfl
              try simp only [Act.put, List.setIfInBounds_toArray, List.set_cons_zero, List.set_cons_succ]
              refine wpAnyM_pick (i := 5) (some 68) (v := ?vz29) rfl rfl (by kernel_rfl) (by kernel_rfl) (by kernel_rfl) (by kernel_rfl) (fun _ _ _ h => h) (Or.inl ⟨by rfl, ?hz29⟩) hS ?rz29
              case hz29 => intro w hSw; (first | obtain ⟨hs1, hs2, hs3, hs4, hs5, hs6, hs7, hs8, hs9, hs10, hs11, hs12⟩ := hSw | obtain ⟨hs1, hs2, hs3, hs4, hs5, hs6, hs7, hs8⟩ := hSw | obtain ⟨hs1, hs2, hs3, hs4, hs5, hs6⟩ := hSw | obtain ⟨hs1, hs2, hs3⟩ := hSw | obtain ⟨hs1, hs2⟩ := hSw | skip); go_simp; try with_reducible rfl
              try simp only [Act.put, List.setIfInBounds_toArray, List.set_cons_zero, List.set_cons_succ]
              refine wpAnyM_pick (i := 6) (some 69) (v := ?vz30) rfl rfl (by kernel_rfl) (by kernel_rfl) (by kernel_rfl) (by kernel_rfl) (fun _ _ _ h => h) (Or.inl ⟨by rfl, ?hz30⟩) hS ?rz30
              case hz30 => intro w hSw; (first | obtain ⟨hs1, hs2, hs3, hs4, hs5, hs6, hs7, hs8, hs9, hs10, hs11, hs12⟩ := hSw | obtain ⟨hs1, hs2, hs3, hs4, hs5, hs6, hs7, hs8⟩ := hSw | obtain ⟨hs1, hs2, hs3, hs4, hs5, hs6⟩ := hSw | obtain ⟨hs1, hs2, hs3⟩ := hSw | obtain ⟨hs1, hs2⟩ := hSw | skip); go_simp; try with_reducible rfl
              try simp only [Act.put, List.setIfInBounds_toArray, List.set_cons_zero, List.set_cons_succ]
              refine wpAnyM_pick (i := 7) (some 70) (v := ?vz31) rfl rfl (by kernel_rfl) (by kernel_rfl) (by kernel_rfl) (by kernel_rfl) (fun _ _ _ h => h) (Or.inl ⟨by rfl, ?hz31⟩) hS ?rz31
              case hz31 => intro w hSw; (first | obtain ⟨hs1, hs2, hs3, hs4, hs5, hs6, hs7, hs8, hs9, hs10, hs11, hs12⟩ := hSw | obtain ⟨hs1, hs2, hs3, hs4, hs5, hs6, hs7, hs8⟩ := hSw | obtain ⟨hs1, hs2, hs3, hs4, hs5, hs6⟩ := hSw | obtain ⟨hs1, hs2, hs3⟩ := hSw | obtain ⟨hs1, hs2⟩ := hSw | skip); go_simp; try with_reducible rfl
              try simp only [Act.put, List.setIfInBounds_toArray, List.set_cons_zero, List.set_cons_succ]
              refine wpAnyM_pick (i := 8) (some 71) (v := ?vz32) rfl rfl (by kernel_rfl) (by kernel_rfl) (by kernel_rfl) (by kernel_rfl) (fun _ _ _ h => h) (Or.inl ⟨by rfl, ?hz32⟩) hS ?rz32
              case hz32 => intro w hSw; (first | obtain ⟨hs1, hs2, hs3, hs4, hs5, hs6, hs7, hs8, hs9, hs10, hs11, hs12⟩ := hSw | obtain ⟨hs1, hs2, hs3, hs4, hs5, hs6, hs7, hs8⟩ := hSw | obtain ⟨hs1, hs2, hs3, hs4, hs5, hs6⟩ := hSw | obtain ⟨hs1, hs2, hs3⟩ := hSw | obtain ⟨hs1, hs2⟩ := hSw | skip); go_simp; try with_reducible rfl
              try simp only [Act.put, List.setIfInBounds_toArray, List.set_cons_zero, List.set_cons_succ]
              refine wpAnyM_pick (i := 9) (some 72) (v := ?vz33) rfl rfl (by kernel_rfl) (by kernel_rfl) (by kernel_rfl) (by kernel_rfl) (fun _ _ _ h => h) (Or.inl ⟨by rfl, ?hz33⟩) hS ?rz33
              case hz33 => intro w hSw; (first | obtain ⟨hs1, hs2, hs3, hs4, hs5, hs6, hs7, hs8, hs9, hs10, hs11, hs12⟩ := hSw | obtain ⟨hs1, hs2, hs3, hs4, hs5, hs6, hs7, hs8⟩ := hSw | obtain ⟨hs1, hs2, hs3, hs4, hs5, hs6⟩ := hSw | obtain ⟨hs1, hs2, hs3⟩ := hSw | obtain ⟨hs1, hs2⟩ := hSw | skip); go_simp; try with_reducible rfl
              try simp only [Act.put, List.setIfInBounds_toArray, List.set_cons_zero, List.set_cons_succ]
              refine wpAnyM_pick (i := 10) (some 73) (v := ?vz34) rfl rfl (by kernel_rfl) (by kernel_rfl) (by kernel_rfl) (by kernel_rfl) (fun _ _ _ h => h) (Or.inl ⟨by rfl, ?hz34⟩) hS ?rz34
              case hz34 => intro w hSw; (first | obtain ⟨hs1, hs2, hs3, hs4, hs5, hs6, hs7, hs8, hs9, hs10, hs11, hs12⟩ := hSw | obtain ⟨hs1, hs2, hs3, hs4, hs5, hs6, hs7, hs8⟩ := hSw | obtain ⟨hs1, hs2, hs3, hs4, hs5, hs6⟩ := hSw | obtain ⟨hs1, hs2, hs3⟩ := hSw | obtain ⟨hs1, hs2⟩ := hSw | skip); go_simp; try with_reducible rfl
              try simp only [Act.put, List.setIfInBounds_toArray, List.set_cons_zero, List.set_cons_succ]
              refine wpAnyM_pick (i := 11) (some 74) (v := ?vz35) rfl rfl (by kernel_rfl) (by kernel_rfl) (by kernel_rfl) (by kernel_rfl) (fun _ _ _ h => h) (Or.inl ⟨by rfl, ?hz35⟩) hS ?rz35
              case hz35 => intro w hSw; (first | obtain ⟨hs1, hs2, hs3, hs4, hs5, hs6, hs7, hs8, hs9, hs10, hs11, hs12⟩ := hSw | obtain ⟨hs1, hs2, hs3, hs4, hs5, hs6, hs7, hs8⟩ := hSw | obtain ⟨hs1, hs2, hs3, hs4, hs5, hs6⟩ := hSw | obtain ⟨hs1, hs2, hs3⟩ := hSw | obtain ⟨hs1, hs2⟩ := hSw | skip); go_simp; try with_reducible rfl
              try simp only [Act.put, List.setIfInBounds_toArray, List.set_cons_zero, List.set_cons_succ]
              refine wpAnyM_pick (i := 12) (some 75) (v := ?vz36) rfl rfl (by kernel_rfl) (by kernel_rfl) (by kernel_rfl) (by kernel_rfl) (fun _ _ _ h => h) (Or.inl ⟨by rfl, ?hz36⟩) hS ?rz36
              case hz36 => intro w hSw; (first | obtain ⟨hs1, hs2, hs3, hs4, hs5, hs6, hs7, hs8, hs9, hs10, hs11, hs12⟩ := hSw | obtain ⟨hs1, hs2, hs3, hs4, hs5, hs6, hs7, hs8⟩ := hSw | obtain ⟨hs1, hs2, hs3, hs4, hs5, hs6⟩ := hSw | obtain ⟨hs1, hs2, hs3⟩ := hSw | obtain ⟨hs1, hs2⟩ := hSw | skip); go_simp; try with_reducible rfl
              try simp only [Act.put, List.setIfInBounds_toArray, List.set_cons_zero, List.set_cons_succ]
              refine wpAnyM_done (by kernel_rfl) ?_ _
              clear hS
              go_wp2_with fail
              go_roundw
              case rel => exact ⟨k + 1, by omega, by go_num, HHK3, HR4, HX4, HB4⟩
              case measure => simp [intOf]; omega
          · have hki : ¬ (k : Int) < (j : Int) := by omega
            obtain rfl : k = j := by omega
            obtain rfl : h9 = false := by rw [← HH9.out, HHK.out]
            have HNZ : Hid (nsK L (k + 1) = 0) := HNX2
            have c2 := HX3.out.cell (i := 2) rfl
            obtain ⟨_, _, kv', e4, _, a0, a1, a2, a3, a4, a5, hf⟩ := (HL.out.on HBW.out).at HXJ.out
            cases e4
            simp only at a0 a1 a2 a3 a4 a5
            have HCS := hid (HSP2.out _ _ hf)
            have lS : ¬ 9223372036854775807 < S.size + Y.size := by rw [HSL.out, HSS2.out]; omega
            rw [← HSI.out] at HSN
            obtain ⟨S', hS'⟩ : ∃ S', S ++ Y = S' := ⟨_, rfl⟩
            rw [hS'] at HSN
            clear hf HNX2 HUP
            go_wp2_with (go_at_call 34; refine (HCS.out).mono ?_; clear HCS; rintro e w5 ⟨rfl, hb5⟩)
            have HX5 := hid (HX3.out.on hb5 HX3.out.lt)
            have HB5 := hid (HB3.out.trans (hb5.mono (Nat.le_of_lt HX3.out.lt)))
            go_roundw
            case rel => exact ⟨k + 1, S', by omega, rfl, by go_num, HSN, HNZ, HX5, HB5⟩
            case measure => simp [intOf]; omega
      · have hzi : ¬ (ne : Int) = 0 := by omega
        rw [if_pos hz] at HNX
        have hrr : R = ne := by rw [HR.out, HUP.out (by rw [HNX.out]; exact hz), HNX.out]
        have HRR := hid hrr
        clear hrr
        go_wp2_with (go_at_call 33; refine (HCL.out _ HRF.out).mono ?_; clear HCL; rintro e w2 ⟨rfl, hb2⟩)
        go_ret2
        exact HPE.out _ _ ne HRR.out hz rfl (by rw [HP.out]; exact HB.out.trans (hb2.mono (Nat.le_of_lt HX.out.lt)))
    · have hji : ¬ (j : Int) < (n : Int) := by omega
      obtain rfl : j = n := by omega
      have hR0 : R = 0 := by rw [HR.out, HI.out]
      obtain ⟨z, hz⟩ : ∃ z : Nat, 240 - 48 * j = z := ⟨_, rfl⟩
      have hzs : z ≤ 240 := by omega
      have hsz : (256 : Int) - (S.size : Int) = (z : Int) := by rw [HSL.out]; omega
      have HZZ : Hid (∀ w1, _) := fun w1 => HZS.out z w1 (by omega)
      have HZL : (⟨(List.replicate z (0 : UInt8)).toArray⟩ : ByteArray).size = z := by rw [Lib.size_eq]; show (List.replicate z (0 : UInt8)).length = z; rw [List.length_replicate]
      have HPE2 : Hid (S ++ (⟨(List.replicate z (0 : UInt8)).toArray⟩ : ByteArray) = ⟨PG.toArray⟩) := by
        show _ = _
        rw [HSI.out, HPG.out, hz, List.take_of_length_le (by rw [HN.out]; exact Nat.le_refl _)]
        apply ByteArray.ext; apply Array.toList_inj.1; simp
      generalize (⟨(List.replicate z (0 : UInt8)).toArray⟩ : ByteArray) = Zs at *
      have lS : ¬ 9223372036854775807 < S.size + Zs.size := by rw [HSL.out, HZL]; omega
      obtain ⟨S', hS'⟩ : ∃ S', S ++ Zs = S' := ⟨_, rfl⟩
      rw [hS'] at HPE2
      have HR0 := hid hR0
      have HSS' := hid hsz
      clear hR0 HZS
      go_wp2_with (go_at_call 32; refine (HZZ.out _).mono ?_; clear HZZ; rintro e w2 ⟨rfl, hb2⟩)
      go_ret2
      exact HPO.out _ _ HR0.out (by rw [HPE2.out]; rfl) (by rw [HP.out]; exact HB.out.trans (hb2.mono (Nat.le_of_lt HX.out.lt)))
end Go.Proofs.Ythohopbolalpcaa

