/-
  A bucket's page, as the program makes it; its Pack.
-/
import Derived.Test.YthohopbolalpcaaSj
namespace Go.Proofs.Ythohopbolalpcaa
open Go.RowKit
set_option linter.unusedVariables false
set_option linter.unusedSimpArgs false
set_option maxRecDepth 100000

theorem Arr.pad {w : World} {g : Nat} {t : TypeId} {N : Nat} {pre : List UInt8} (h : Arr w g t N pre) (k : Nat) (hk : pre.length + k ≤ N) : Arr w g t N (pre ++ List.replicate k 0) := by
  unfold Arr at h ⊢
  rw [List.length_append, List.length_replicate, List.append_assoc, List.replicate_append_replicate, show k + (N - (pre.length + k)) = N - pre.length by omega]
  exact h
/-- the bytes of an array copied behind what stands there -/
theorem Arr.copyArr {w : World} {g q : Nat} {t u : TypeId} {N : Nat} {pre l : List UInt8} (h : Arr w g t N pre) (hq : Blk w q (Lib.byteCells l).toArray u) (o m n c c' : Nat) (ho : pre.length = o) (hm : l.length = m) (hs : o + m ≤ N) (hn : m ≤ n) :
    ∃ w', (Builtin.copy_ #[76, 76] 3 #[.slice (some ⟨g, o, none⟩) n c, .slice (some ⟨q, 0, none⟩) m c']).run Try.prog w = .ok (.int .i64 (m : Nat)) w' ∧ Arr w' g t N (pre ++ l) ∧ Keep (fun j => j = g) w w' := by
  subst ho
  subst hm
  have hcl : (Lib.byteCells l).length = l.length := Lib.byteCells_length l
  have hr := run_copy_row (P := Try.prog) w 76 76 3 5 g pre.length n c ⟨q, 0, none⟩ l.length c' _ t (Lib.byteCells l) Try.underlying76 info5s h (by rw [hcl]; exact (Nat.min_eq_left hn).symm) (fun j v hj => by
    rw [add_zero_off]
    exact hq.cell (by simpa using hj)) (by simp only [List.size_toArray, Lib.byteCells_length, List.length_append, List.length_replicate]; omega) (Lib.byteCells_one l)
  rw [hcl] at hr
  refine ⟨_, hr, ?_, ⟨rfl, rfl, rfl, by simp [World.setRow], fun k _ hk => setRow_other w g k _ (fun e => hk e)⟩⟩
  have hh := setRow_heap w g _ (((Lib.byteCells (pre ++ List.replicate (N - pre.length) 0)).toArray.toList.take pre.length ++ Lib.byteCells l ++ (Lib.byteCells (pre ++ List.replicate (N - pre.length) 0)).toArray.toList.drop (pre.length + l.length)).toArray) t (0, 0) h
  unfold Arr Blk
  rw [hh]
  congr 2
  apply congrArg
  rw [List.toList_toArray, Lib.byteCells_append, Lib.byteCells_append, Lib.byteCells_append]
  have hl : (Lib.byteCells pre).length = pre.length := Lib.byteCells_length pre
  rw [List.take_append_of_le_length (by omega), List.take_of_length_le (by omega), ← hl, List.drop_append, List.drop_eq_nil_of_le (by omega), List.nil_append]
  congr 1
  have : (Lib.byteCells (List.replicate (N - pre.length) 0)).drop ((Lib.byteCells pre).length + l.length - (Lib.byteCells pre).length) = Lib.byteCells (List.replicate (N - (pre ++ l).length) 0) := by
    unfold Lib.byteCells
    rw [← List.map_drop, List.drop_replicate, List.length_append, List.length_map]
    congr 2
    omega
  rw [hl] at this ⊢
  exact this
theorem zero82 (W : World) : Arr (W.alloc (.cells Try.zeroCells82 82)) W.heap.size 82 256 [] := by
  have h : Try.zeroCells82 = (Lib.byteCells ([] ++ List.replicate (256 - ([] : List UInt8).length) 0)).toArray := by kernel_rfl
  rw [h]
  exact Blk.made W _ 82

/-- a bucket's head -/
def headB (b : Bk) : List UInt8 := be 3 1 ++ be b.depth.toNat 1 ++ be b.next.toNat 2 ++ List.replicate 12 0
theorem headB_len (b : Bk) : (headB b).length = 16 := by simp [headB, be_length]
theorem slotB_len (x : Nd) : (slotB x).length = 48 := by unfold slotB; rw [List.length_append, slotP_len]; rfl
theorem slots_len (L : List Nd) : (L.flatMap slotB).length = 48 * L.length := by
  induction L with
  | nil => rfl
  | cons x K ih => rw [List.flatMap_cons, List.length_append, ih, slotB_len, List.length_cons]; omega
/-- a bucket's page -/
def pageB (b : Bk) : List UInt8 := headB b ++ b.nodes.flatMap slotB ++ List.replicate (240 - 48 * b.nodes.length) 0
theorem nsK_ok {L : List Nd} : ∀ {n : Nat}, nsK L n = 0 → ∀ j, j < n → ∀ x, L[j]? = some x → NdOk x ∧ hasN (L.take j) x.at' = false
  | 0, _, j, hj, _, _ => by omega
  | n + 1, h, j, hj, x, hx => by
    rw [nsK] at h
    split at h
    · exact absurd h (by assumption)
    · rename_i h0
      rcases Nat.lt_or_ge j n with h1 | h1
      · exact nsK_ok (Decidable.not_not.1 h0) j h1 x hx
      · obtain rfl : j = n := by omega
        unfold ndX at h
        rw [hx] at h
        simp only at h
        split at h
        · exact absurd h (by assumption)
        · rename_i h2
          refine ⟨NdOk.of (Decidable.not_not.1 h2), ?_⟩
          cases hh : hasN (L.take j) x.at'
          · rfl
          · rw [hh] at h; simp at h
structure BkOk (b : Bk) : Prop where
  d0 : 0 ≤ b.depth
  d1 : b.depth ≤ 5
  n0 : 0 ≤ b.next
  n1 : b.next ≤ 2047
  len : b.nodes.length ≤ 5
  ns : nsK b.nodes b.nodes.length = 0
theorem BkOk.of {b : Bk} (h : bkE b = 0) : BkOk b := by
  unfold bkE at h
  split at h
  · omega
  · split at h
    · omega
    · exact ⟨by omega, by omega, by omega, by omega, by omega, h⟩
theorem BkOk.nd {b : Bk} (h : BkOk b) {j : Nat} {x : Nd} (hx : b.nodes[j]? = some x) : NdOk x := (nsK_ok h.ns j (List.getElem?_eq_some_iff.1 hx).1 x hx).1

theorem Flds.keep82 {w w' : World} {B k N : Nat} {v : Value} {l : List UInt8} (h : Flds w B v) (ha : Arr w k 82 N l) (hk : Keep (fun j => j = k) w w') : Flds w' B v := by
  obtain ⟨cl, h1, h2, h3⟩ := h
  refine ⟨cl, h1, hk.row h2 (fun g hg e => Blk.ne ha h2 (by decide) hg e), fun i c hc => hk.blk (h3 i c hc) (fun e => ?_)⟩
  have := h3 i c hc
  unfold Arr at ha
  subst e
  unfold Blk at this ha
  rw [this] at ha
  simp at ha
set_option maxHeartbeats 8000000 in
theorem write_any (b : Bk) (v : Value) (w : World) (hl : LiesN w v b.nodes) (ho : BkOk b) :
    Calls Try.prog 30 #[.agg #[.int .i64 b.depth, .int .i64 b.next, v]] w fun e w' => e = .returned (.string ⟨(pageB b).toArray⟩) ∧ Below w.heap.size w w' := by
  obtain ⟨ad, c, rfl, hcc⟩ := hl.form
  have HPG : Hid (pageB b = headB b ++ b.nodes.flatMap slotB ++ List.replicate (240 - 48 * b.nodes.length) 0) := rfl
  have HHD : Hid (headB b = be 3 1 ++ be b.depth.toNat 1 ++ be b.next.toNat 2 ++ List.replicate 12 0) := rfl
  have HHL := hid (headB_len b)
  generalize pageB b = PG at *
  generalize headB b = H at *
  have HND := hid (fun (j : Nat) (x : Nd) (hx : b.nodes[j]? = some x) => ho.nd hx)
  obtain ⟨a0, a1, a2, a3, a4, _⟩ := ho
  obtain ⟨d, nx, L⟩ := b
  simp only at *
  have HL := hid hl
  obtain ⟨n, hn⟩ : ∃ n, L.length = n := ⟨_, rfl⟩
  have HN := hid hn
  rw [hn] at HL HPG hcc a4 ⊢
  obtain ⟨D, hD⟩ : ∃ D : Nat, d = D := ⟨d.toNat, by omega⟩
  obtain ⟨E, hE⟩ : ∃ E : Nat, nx = E := ⟨nx.toNat, by omega⟩
  subst hD hE
  have HP1 : Hid (∀ w1, _) := fun w1 => sput 3 1 w1 (by omega) (by omega) (by omega)
  have HP2 : Hid (∀ w1, _) := fun w1 => sput D 1 w1 (by omega) (by omega) (by omega)
  have HP3 : Hid (∀ w1, _) := fun w1 => sput E 2 w1 (by omega) (by omega) (by omega)
  have X1 : (⟨(be 3 1).toArray⟩ : ByteArray).size = 1 := by rw [Lib.size_eq]; exact be_length 3 1
  have X2 : (⟨(be D 1).toArray⟩ : ByteArray).size = 1 := by rw [Lib.size_eq]; exact be_length D 1
  have X3 : (⟨(be E 2).toArray⟩ : ByteArray).size = 2 := by rw [Lib.size_eq]; exact be_length E 2
  have HH3 : Hid ((⟨(be 3 1).toArray⟩ : ByteArray).data.toList ++ (⟨(be D 1).toArray⟩ : ByteArray).data.toList ++ (⟨(be E 2).toArray⟩ : ByteArray).data.toList ++ List.replicate 12 0 = H) := by show _ = _; rw [HHD.out]; rfl
  clear HHD hl hn
  generalize (⟨(be 3 1).toArray⟩ : ByteArray) = Y1 at *
  generalize (⟨(be D 1).toArray⟩ : ByteArray) = Y2 at *
  generalize (⟨(be E 2).toArray⟩ : ByteArray) = Y3 at *
  have hwD : IntKind.u64.wrap (D : Int) = (D : Int) := by rw [IntKind.wrap_u64]; omega
  have hwE : IntKind.u64.wrap (E : Int) = (E : Int) := by rw [IntKind.wrap_u64]; omega
  obtain ⟨p, hp⟩ : ∃ p, w.heap.size = p := ⟨_, rfl⟩
  have h1 := (Below.refl w.heap.size w).alloc (Nat.le_refl _) (.cells #[.int .i64 (D : Nat), .int .i64 (E : Nat), .slice ad n c] 42)
  have s1 : (w.alloc (.cells #[.int .i64 (D : Nat), .int .i64 (E : Nat), .slice ad n c] 42)).heap.size = p + 1 := by rw [← hp]; show (w.heap.push _).size = _; rw [Array.size_push]
  have k1 := Blk.made w #[.int .i64 (D : Nat), .int .i64 (E : Nat), .slice ad n c] 42
  have HB3 := hid (h1.alloc h1.size (.cells Try.zeroCells82 82))
  have HX3 := hid (k1.alloc (.cells Try.zeroCells82 82))
  have HA3 := hid (zero82 (w.alloc (.cells #[.int .i64 (D : Nat), .int .i64 (E : Nat), .slice ad n c] 42)))
  rw [s1] at HA3
  rw [hp] at HX3 HB3
  have HP := hid hp
  clear h1 s1 k1
  go_enter Try.func30, Try.ntmps30
  go_wp2_with fail
  generalize ((w.alloc (Obj.cells #[.int .i64 (D : Nat), .int .i64 (E : Nat), .slice ad n c] 42)).alloc (Obj.cells Try.zeroCells82 82)) = w3 at *
  clear hp
  refine wp_region_d (fun _ => True) (fun _ => true) (by kernel_rfl) ?_
  have HX4 := hid (HX3.out.on (Below.refl _ w3).drew HX3.out.lt)
  have HA4 := hid (HA3.out.on (Below.refl _ w3).drew)
  have HB4 := hid HB3.out.drew
  clear HX3 HA3 HB3
  generalize w3.drew = w4 at *
  refine wpAnyM_pick (i := 0) (some 8) (v := ?vz1) rfl rfl (by kernel_rfl) (by kernel_rfl) (by kernel_rfl) (by kernel_rfl) (fun _ _ _ h => h) (Or.inl ⟨by rfl, ?hz1⟩) trivial ?rz1
  case hz1 => intro w hSw; (first | obtain ⟨hs1, hs2, hs3, hs4, hs5, hs6, hs7, hs8⟩ := hSw | obtain ⟨hs1, hs2, hs3⟩ := hSw | obtain ⟨hs1, hs2⟩ := hSw | skip); go_simp; try with_reducible rfl
  try simp only [Act.put, List.setIfInBounds_toArray, List.set_cons_zero, List.set_cons_succ]
  refine wpAnyM_one (i := 1) (by kernel_rfl) rfl (fun K hK => ?_)
  go_simp
  go_at_call 43
  refine (HP1.out _).mono ?_
  rintro e w5 ⟨rfl, hb5⟩
  have HX5 := hid (HX4.out.on hb5 HX4.out.lt)
  have HA5 := hid (HA4.out.on hb5)
  have HB5 := hid (HB4.out.trans (hb5.mono (Nat.le_of_lt HX4.out.lt)))
  clear hb5 HX4 HA4 HB4 HP1
  go_wp2_with fail
  refine hK.out _ _ (fun _ => trivial) ?_
  clear hK K
  try simp only [Act.put, List.setIfInBounds_toArray, List.set_cons_zero, List.set_cons_succ]
  obtain ⟨w6, hcp, ha6, hk6⟩ := HA5.out.copy Y1 0 1 256 256 rfl X1 (by decide) (by decide)
  have HX6 := hid (hk6.blk HX5.out (by omega))
  have HA6 := hid ha6
  have HB6 := hid (HB5.out.trans (hk6.below (fun j hj => by rw [hj]; omega) (Nat.le_of_lt HX5.out.lt)))
  clear ha6 hk6 HX5 HA5 HB5
  refine wpAnyM_one (i := 2) (by kernel_rfl) rfl (fun K hK => ?_)
  go_simp
  refine hK.out _ _ (fun _ => trivial) ?_
  clear hK K
  try simp only [Act.put, List.setIfInBounds_toArray, List.set_cons_zero, List.set_cons_succ]
  refine wpAnyM_done (by kernel_rfl) ?_ _
  clear hcp
  go_wp2_with fail
  refine wp_region_d (fun w' => w'.cell? ⟨p, 0, none⟩ = some (.int .i64 (D : Nat)) ∧ w'.cell? ⟨p, 1, none⟩ = some (.int .i64 (E : Nat))) (fun _ => true) (by kernel_rfl) ?_
  have HX7a := hid (HX6.out.on (Below.refl _ w6).drew HX6.out.lt)
  have HA7a := hid (HA6.out.on (Below.refl _ w6).drew)
  have HB7a := hid HB6.out.drew
  clear HX6 HA6 HB6
  generalize w6.drew = w7a at *
  have hS : w7a.cell? ⟨p, 0, none⟩ = some (.int .i64 (D : Nat)) ∧ w7a.cell? ⟨p, 1, none⟩ = some (.int .i64 (E : Nat)) := ⟨HX7a.out.cell (i := 0) rfl, HX7a.out.cell (i := 1) rfl⟩
  refine wpAnyM_pick (i := 0) (some 11) (v := ?vz2) rfl rfl (by kernel_rfl) (by kernel_rfl) (by kernel_rfl) (by kernel_rfl) (fun _ _ _ h => h) (Or.inl ⟨by rfl, ?hz2⟩) hS ?rz2
  case hz2 => intro w hSw; (first | obtain ⟨hs1, hs2, hs3, hs4, hs5, hs6, hs7, hs8⟩ := hSw | obtain ⟨hs1, hs2, hs3⟩ := hSw | obtain ⟨hs1, hs2⟩ := hSw | skip); go_simp; try with_reducible rfl
  try simp only [Act.put, List.setIfInBounds_toArray, List.set_cons_zero, List.set_cons_succ]
  refine wpAnyM_pick (i := 1) (some 12) (v := ?vz3) rfl rfl (by kernel_rfl) (by kernel_rfl) (by kernel_rfl) (by kernel_rfl) (fun _ _ _ h => h) (Or.inl ⟨by rfl, ?hz3⟩) hS ?rz3
  case hz3 => intro w hSw; (first | obtain ⟨hs1, hs2, hs3, hs4, hs5, hs6, hs7, hs8⟩ := hSw | obtain ⟨hs1, hs2, hs3⟩ := hSw | obtain ⟨hs1, hs2⟩ := hSw | skip); go_simp; try with_reducible rfl
  try simp only [Act.put, List.setIfInBounds_toArray, List.set_cons_zero, List.set_cons_succ]
  refine wpAnyM_pick (i := 2) (some 13) (v := ?vz4) rfl rfl (by kernel_rfl) (by kernel_rfl) (by kernel_rfl) (by kernel_rfl) (fun _ _ _ h => h) (Or.inl ⟨by rfl, ?hz4⟩) hS ?rz4
  case hz4 => intro w hSw; (first | obtain ⟨hs1, hs2, hs3, hs4, hs5, hs6, hs7, hs8⟩ := hSw | obtain ⟨hs1, hs2, hs3⟩ := hSw | obtain ⟨hs1, hs2⟩ := hSw | skip); go_simp; try with_reducible rfl
  try simp only [Act.put, List.setIfInBounds_toArray, List.set_cons_zero, List.set_cons_succ]
  refine wpAnyM_pick (i := 3) (some 14) (v := ?vz5) rfl rfl (by kernel_rfl) (by kernel_rfl) (by kernel_rfl) (by kernel_rfl) (fun _ _ _ h => h) (Or.inl ⟨by rfl, ?hz5⟩) hS ?rz5
  case hz5 => intro w hSw; (first | obtain ⟨hs1, hs2, hs3, hs4, hs5, hs6, hs7, hs8⟩ := hSw | obtain ⟨hs1, hs2, hs3⟩ := hSw | obtain ⟨hs1, hs2⟩ := hSw | skip); go_simp; try with_reducible rfl
  try simp only [Act.put, List.setIfInBounds_toArray, List.set_cons_zero, List.set_cons_succ]
  refine wpAnyM_one (i := 4) (by kernel_rfl) rfl (fun K hK => ?_)
  go_simp
  go_at_call 43
  refine (HP2.out _).mono ?_
  rintro e w7b ⟨rfl, hb5⟩
  have HX7b := hid (HX7a.out.on hb5 HX7a.out.lt)
  have HA7b := hid (HA7a.out.on hb5)
  have HB7b := hid (HB7a.out.trans (hb5.mono (Nat.le_of_lt HX7a.out.lt)))
  clear hb5 HX7a HA7a HB7a HP2 hS
  have hS : w7b.cell? ⟨p, 0, none⟩ = some (.int .i64 (D : Nat)) ∧ w7b.cell? ⟨p, 1, none⟩ = some (.int .i64 (E : Nat)) := ⟨HX7b.out.cell (i := 0) rfl, HX7b.out.cell (i := 1) rfl⟩
  go_wp2_with fail
  refine hK.out _ _ (fun _ => hS) ?_
  clear hK K
  try simp only [Act.put, List.setIfInBounds_toArray, List.set_cons_zero, List.set_cons_succ]
  obtain ⟨w7, hcp, ha6, hk6⟩ := HA7b.out.copy Y2 1 1 255 255 (by rw [List.nil_append, ← Lib.size_eq, X1]) X2 (by decide) (by decide)
  have HX7 := hid (hk6.blk HX7b.out (by omega))
  have HA7 := hid ha6
  have HB7 := hid (HB7b.out.trans (hk6.below (fun j hj => by rw [hj]; omega) (Nat.le_of_lt HX7b.out.lt)))
  clear ha6 hk6 HX7b HA7b HB7b hS
  have hS : w7.cell? ⟨p, 0, none⟩ = some (.int .i64 (D : Nat)) ∧ w7.cell? ⟨p, 1, none⟩ = some (.int .i64 (E : Nat)) := ⟨HX7.out.cell (i := 0) rfl, HX7.out.cell (i := 1) rfl⟩
  refine wpAnyM_one (i := 5) (by kernel_rfl) rfl (fun K hK => ?_)
  go_simp
  refine hK.out _ _ (fun _ => hS) ?_
  clear hK K
  try simp only [Act.put, List.setIfInBounds_toArray, List.set_cons_zero, List.set_cons_succ]
  refine wpAnyM_done (by kernel_rfl) ?_ _
  clear hcp hS
  go_wp2_with fail
  refine wp_region_d (fun w' => w'.cell? ⟨p, 0, none⟩ = some (.int .i64 (D : Nat)) ∧ w'.cell? ⟨p, 1, none⟩ = some (.int .i64 (E : Nat))) (fun _ => true) (by kernel_rfl) ?_
  have HX8a := hid (HX7.out.on (Below.refl _ w7).drew HX7.out.lt)
  have HA8a := hid (HA7.out.on (Below.refl _ w7).drew)
  have HB8a := hid HB7.out.drew
  clear HX7 HA7 HB7
  generalize w7.drew = w8a at *
  have hS : w8a.cell? ⟨p, 0, none⟩ = some (.int .i64 (D : Nat)) ∧ w8a.cell? ⟨p, 1, none⟩ = some (.int .i64 (E : Nat)) := ⟨HX8a.out.cell (i := 0) rfl, HX8a.out.cell (i := 1) rfl⟩
  refine wpAnyM_pick (i := 0) (some 17) (v := ?vz6) rfl rfl (by kernel_rfl) (by kernel_rfl) (by kernel_rfl) (by kernel_rfl) (fun _ _ _ h => h) (Or.inl ⟨by rfl, ?hz6⟩) hS ?rz6
  case hz6 => intro w hSw; (first | obtain ⟨hs1, hs2, hs3, hs4, hs5, hs6, hs7, hs8⟩ := hSw | obtain ⟨hs1, hs2, hs3⟩ := hSw | obtain ⟨hs1, hs2⟩ := hSw | skip); go_simp; try with_reducible rfl
  try simp only [Act.put, List.setIfInBounds_toArray, List.set_cons_zero, List.set_cons_succ]
  refine wpAnyM_pick (i := 1) (some 18) (v := ?vz7) rfl rfl (by kernel_rfl) (by kernel_rfl) (by kernel_rfl) (by kernel_rfl) (fun _ _ _ h => h) (Or.inl ⟨by rfl, ?hz7⟩) hS ?rz7
  case hz7 => intro w hSw; (first | obtain ⟨hs1, hs2, hs3, hs4, hs5, hs6, hs7, hs8⟩ := hSw | obtain ⟨hs1, hs2, hs3⟩ := hSw | obtain ⟨hs1, hs2⟩ := hSw | skip); go_simp; try with_reducible rfl
  try simp only [Act.put, List.setIfInBounds_toArray, List.set_cons_zero, List.set_cons_succ]
  refine wpAnyM_pick (i := 2) (some 19) (v := ?vz8) rfl rfl (by kernel_rfl) (by kernel_rfl) (by kernel_rfl) (by kernel_rfl) (fun _ _ _ h => h) (Or.inl ⟨by rfl, ?hz8⟩) hS ?rz8
  case hz8 => intro w hSw; (first | obtain ⟨hs1, hs2, hs3, hs4, hs5, hs6, hs7, hs8⟩ := hSw | obtain ⟨hs1, hs2, hs3⟩ := hSw | obtain ⟨hs1, hs2⟩ := hSw | skip); go_simp; try with_reducible rfl
  try simp only [Act.put, List.setIfInBounds_toArray, List.set_cons_zero, List.set_cons_succ]
  refine wpAnyM_pick (i := 3) (some 20) (v := ?vz9) rfl rfl (by kernel_rfl) (by kernel_rfl) (by kernel_rfl) (by kernel_rfl) (fun _ _ _ h => h) (Or.inl ⟨by rfl, ?hz9⟩) hS ?rz9
  case hz9 => intro w hSw; (first | obtain ⟨hs1, hs2, hs3, hs4, hs5, hs6, hs7, hs8⟩ := hSw | obtain ⟨hs1, hs2, hs3⟩ := hSw | obtain ⟨hs1, hs2⟩ := hSw | skip); go_simp; try with_reducible rfl
  try simp only [Act.put, List.setIfInBounds_toArray, List.set_cons_zero, List.set_cons_succ]
  refine wpAnyM_one (i := 4) (by kernel_rfl) rfl (fun K hK => ?_)
  go_simp
  go_at_call 43
  refine (HP3.out _).mono ?_
  rintro e w8b ⟨rfl, hb5⟩
  have HX8b := hid (HX8a.out.on hb5 HX8a.out.lt)
  have HA8b := hid (HA8a.out.on hb5)
  have HB8b := hid (HB8a.out.trans (hb5.mono (Nat.le_of_lt HX8a.out.lt)))
  clear hb5 HX8a HA8a HB8a HP3 hS
  have hS : w8b.cell? ⟨p, 0, none⟩ = some (.int .i64 (D : Nat)) ∧ w8b.cell? ⟨p, 1, none⟩ = some (.int .i64 (E : Nat)) := ⟨HX8b.out.cell (i := 0) rfl, HX8b.out.cell (i := 1) rfl⟩
  go_wp2_with fail
  refine hK.out _ _ (fun _ => hS) ?_
  clear hK K
  try simp only [Act.put, List.setIfInBounds_toArray, List.set_cons_zero, List.set_cons_succ]
  obtain ⟨w8, hcp, ha6, hk6⟩ := HA8b.out.copy Y3 2 2 254 254 (by rw [List.nil_append, List.length_append, ← Lib.size_eq, ← Lib.size_eq, X1, X2]) X3 (by decide) (by decide)
  have HX8 := hid (hk6.blk HX8b.out (by omega))
  have HA8 := hid ha6
  have HB8 := hid (HB8b.out.trans (hk6.below (fun j hj => by rw [hj]; omega) (Nat.le_of_lt HX8b.out.lt)))
  clear ha6 hk6 HX8b HA8b HB8b hS
  have hS : w8.cell? ⟨p, 0, none⟩ = some (.int .i64 (D : Nat)) ∧ w8.cell? ⟨p, 1, none⟩ = some (.int .i64 (E : Nat)) := ⟨HX8.out.cell (i := 0) rfl, HX8.out.cell (i := 1) rfl⟩
  refine wpAnyM_one (i := 5) (by kernel_rfl) rfl (fun K hK => ?_)
  go_simp
  refine hK.out _ _ (fun _ => hS) ?_
  clear hK K
  try simp only [Act.put, List.setIfInBounds_toArray, List.set_cons_zero, List.set_cons_succ]
  refine wpAnyM_done (by kernel_rfl) ?_ _
  clear hcp hS
  have HA9 : Hid (Arr w8 (p + 1) 82 256 (H ++ (L.take 0).flatMap slotB)) := by
    show Arr _ _ _ _ _
    have := HA8.out.pad 12 (by rw [List.nil_append, List.length_append, List.length_append, ← Lib.size_eq, ← Lib.size_eq, ← Lib.size_eq, X1, X2, X3]; decide)
    rw [List.nil_append, HH3.out] at this
    simpa using this
  have HFI : Hid (∀ w1, _) := fun w1 => fields_any w1
  clear HA8 HH3 X1 X2 X3 hwD hwE
  go_wp2_with (go_at_call 49; refine (HFI.out _).mono ?_; clear HFI; rintro e w10 ⟨fv, rfl, hfl, hb10⟩; have HX10 := hid (HX8.out.on hb10 HX8.out.lt); have c2 := HX10.out.cell (i := 2) rfl)
  have HFL := hid hfl
  have HA10 := hid (HA9.out.on hb10)
  have HB10 := hid (HB8.out.trans (hb10.mono (Nat.le_of_lt HX8.out.lt)))
  clear hfl hb10 HX8 HA9 HB8 c2
  generalize w8.heap.size = B at *
  go_loopw [27] (fun i wr => ∃ j : Nat, j ≤ n ∧ i = .int .i64 (j : Nat) ∧ Hid (Arr wr (p + 1) 82 256 (H ++ (L.take j).flatMap slotB)) ∧ Hid (Blk wr p #[.int .i64 (D : Nat), .int .i64 (E : Nat), .slice ad n c] 42) ∧ Hid (Flds wr B fv) ∧ Hid (Below p w wr)) (fun i _ => n - (intOf i).toNat)
  case atStart => exact ⟨0, Nat.zero_le _, rfl, HA10, HX10, HFL, HB10⟩
  case round =>
    obtain ⟨j, hj, rfl, HA, HX, HF, HB⟩ := hrel
    clear HA10 HX10 HFL HB10
    by_cases hjn : j < n
    · have hji : (j : Int) < (n : Int) := by omega
      obtain ⟨x, hx⟩ : ∃ x, L[j]? = some x := ⟨_, List.getElem?_eq_getElem (by rw [HN.out]; exact hjn)⟩
      have hbw : Below w.heap.size w wr := by rw [HP.out]; exact HB.out
      obtain ⟨b, off, kv, e1, hbl, c0, c1, c2, c3, c4, c5, hf⟩ := (HL.out.on hbw).at hx
      subst e1
      obtain ⟨ak, ck, rfl⟩ := hf.lies.form
      have HSO : Hid (∀ w1, Below wr.heap.size wr w1 → Calls Try.prog 50 #[.agg (cellsN x (.slice ak x.kids.length ck)), fv] w1 fun e w' => e = .returned (.agg (Lib.byteCells (slotB x)).toArray) ∧ Below w1.heap.size w1 w') := fun w1 hb => slotOf_any x _ fv B w1 (HND.out j x hx) (hf.on hb) (HF.out.on hb)
      have HTK : Hid ((L.take (j + 1)).flatMap slotB = (L.take j).flatMap slotB ++ slotB x) := by show _ = _; rw [List.take_add_one, hx]; simp [List.flatMap_append]
      have HTL : Hid (((L.take j).flatMap slotB).length = 48 * j) := by show _ = _; rw [slots_len, List.length_take, HN.out, Nat.min_eq_left hj]
      have HS48 := hid (slotB_len x)
      have HAL : Hid (∀ o, Below wr.heap.size wr (wr.alloc o)) := fun o => (Below.refl _ wr).alloc (Nat.le_refl _) o
      clear hx hf hbw
      obtain ⟨A, nm, K, ct, q, nx'⟩ := x
      simp only [cellsN] at c0 c1 c2 c3 c4 c5 HSO
      generalize K.length = m at *
      generalize slotB _ = sb at *
      have HBn : Hid (∀ w2, Below (wr.alloc (.cells #[.int .u64 (A : Nat), .string nm, .slice ak m ck, .int .i64 ct, .bool q, .int .u64 (nx' : Nat)] 57)).heap.size (wr.alloc (.cells #[.int .u64 (A : Nat), .string nm, .slice ak m ck, .int .i64 ct, .bool q, .int .u64 (nx' : Nat)] 57)) w2 → Below wr.heap.size wr w2) := fun w2 hb => (HAL.out _).trans (hb.mono (HAL.out _).size)
      go_wp2_with (first
        | (go_at_call 50; refine (HSO.out _ (HAL.out _)).mono ?_; clear HSO; rintro e w12 ⟨rfl, hb12⟩; have HB12 := hid (HBn.out _ hb12); have HZ := hid (zero86 w12); have HB13 := hid ((Below.refl w12.heap.size w12).alloc (Nat.le_refl _) (.cells #[Value.int IntKind.u8 0, Value.int IntKind.u8 0, Value.int IntKind.u8 0, Value.int IntKind.u8 0, Value.int IntKind.u8 0, Value.int IntKind.u8 0, Value.int IntKind.u8 0, Value.int IntKind.u8 0, Value.int IntKind.u8 0, Value.int IntKind.u8 0, Value.int IntKind.u8 0, Value.int IntKind.u8 0, Value.int IntKind.u8 0, Value.int IntKind.u8 0, Value.int IntKind.u8 0, Value.int IntKind.u8 0, Value.int IntKind.u8 0, Value.int IntKind.u8 0, Value.int IntKind.u8 0, Value.int IntKind.u8 0, Value.int IntKind.u8 0, Value.int IntKind.u8 0, Value.int IntKind.u8 0, Value.int IntKind.u8 0, Value.int IntKind.u8 0, Value.int IntKind.u8 0, Value.int IntKind.u8 0, Value.int IntKind.u8 0, Value.int IntKind.u8 0, Value.int IntKind.u8 0, Value.int IntKind.u8 0, Value.int IntKind.u8 0, Value.int IntKind.u8 0, Value.int IntKind.u8 0, Value.int IntKind.u8 0, Value.int IntKind.u8 0, Value.int IntKind.u8 0, Value.int IntKind.u8 0, Value.int IntKind.u8 0, Value.int IntKind.u8 0, Value.int IntKind.u8 0, Value.int IntKind.u8 0, Value.int IntKind.u8 0, Value.int IntKind.u8 0, Value.int IntKind.u8 0, Value.int IntKind.u8 0, Value.int IntKind.u8 0, Value.int IntKind.u8 0] 86)); clear hb12)
        | (refine wpList_stArr rfl (.tmp 7) (.tmp 34) rfl w12.heap.size sb (List.replicate 48 0) rfl rfl HZ.out HS48.out (by simp) ?_; intro w14 hb14 hk14))
      have hlw := HX.out.lt
      have hq12 : p < w12.heap.size := Nat.lt_of_lt_of_le hlw HB12.out.size
      have hA12 := (HA.out.on HB12.out).on HB13.out
      have hX12 := (HX.out.on HB12.out hlw).on HB13.out hq12
      have hF12 := (HF.out.on HB12.out).on HB13.out
      have hne : p + 1 < w12.heap.size := Nat.lt_of_lt_of_le HA.out.lt HB12.out.size
      have HA14 : Hid (Arr w14 (p + 1) 82 256 (H ++ (L.take j).flatMap slotB)) := hk14.blk hA12 (by omega)
      have HX14 := hid (hk14.blk hX12 (by omega))
      have HF14 : Hid (Flds w14 B fv) := hF12.keep HZ.out hk14
      have HB14 := hid ((HB.out.trans (HB12.out.mono (Nat.le_of_lt hlw))).trans ((HB13.out.mono (Nat.le_of_lt hq12)).trans (hk14.below (fun j hj => by rw [hj]; omega) (by have := HB13.out.size; omega))))
      have HQ14 := hid hb14
      clear hA12 hX12 hF12 HZ hk14 hb14 HB12 HB13 HBn HAL HA HX HF HB hlw hq12
      obtain ⟨sq, hsq⟩ : ∃ sq, w12.heap.size = sq := ⟨_, rfl⟩
      rw [hsq] at HQ14 hne
      try rw [hsq]
      clear hsq
      simp only [Act.put]
      obtain ⟨Q, hQ⟩ : ∃ Q, 16 + j * 48 = Q := ⟨_, rfl⟩
      have m1 : IntKind.i64.wrap ((j : Int) * 48) = ((j * 48 : Nat) : Int) := by rw [IntKind.wrap_i64]; omega
      have m2 : IntKind.i64.wrap (16 + ((j * 48 : Nat) : Int)) = (Q : Int) := by rw [IntKind.wrap_i64]; omega
      have q1 : (Q : Int) ≤ 256 := by omega
      have q2 : ¬ 256 = Q := by omega
      have q3 : Q + 48 ≤ 256 := by omega
      have HLQ : Hid ((H ++ (L.take j).flatMap slotB).length = Q) := by show _ = _; rw [List.length_append, HHL.out, HTL.out]; omega
      generalize j * 48 = j48 at *
      clear hQ
      refine wp_region_d (fun _ => True) (fun _ => true) (by kernel_rfl) ?_
      have HA15 := hid (HA14.out.on (Below.refl _ w14).drew)
      have HX15 := hid (HX14.out.on (Below.refl _ w14).drew HX14.out.lt)
      have HF15 := hid (HF14.out.on (Below.refl _ w14).drew)
      have HQ15 := hid (HQ14.out.on (Below.refl _ w14).drew HQ14.out.lt)
      have HB15 := hid HB14.out.drew
      clear HA14 HX14 HF14 HQ14 HB14
      generalize w14.drew = w15 at *
      refine wpAnyM_pick (i := 0) (some 35) (v := ?vz10) rfl rfl (by kernel_rfl) (by kernel_rfl) (by kernel_rfl) (by kernel_rfl) (fun _ _ _ h => h) (Or.inl ⟨by rfl, ?hz10⟩) trivial ?rz10
      case hz10 => intro w hSw; (first | obtain ⟨hs1, hs2, hs3, hs4, hs5, hs6, hs7, hs8⟩ := hSw | obtain ⟨hs1, hs2, hs3⟩ := hSw | obtain ⟨hs1, hs2⟩ := hSw | skip); go_simp; try with_reducible rfl
      try simp only [Act.put, List.setIfInBounds_toArray, List.set_cons_zero, List.set_cons_succ]
      refine wpAnyM_pick (i := 1) (some 36) (v := ?vz11) rfl rfl (by kernel_rfl) (by kernel_rfl) (by kernel_rfl) (by kernel_rfl) (fun _ _ _ h => h) (Or.inl ⟨by rfl, ?hz11⟩) trivial ?rz11
      case hz11 => intro w hSw; (first | obtain ⟨hs1, hs2, hs3, hs4, hs5, hs6, hs7, hs8⟩ := hSw | obtain ⟨hs1, hs2, hs3⟩ := hSw | obtain ⟨hs1, hs2⟩ := hSw | skip); go_simp; try with_reducible rfl
      try simp only [Act.put, List.setIfInBounds_toArray, List.set_cons_zero, List.set_cons_succ]
      refine wpAnyM_pick (i := 2) (some 37) (v := ?vz12) rfl rfl (by kernel_rfl) (by kernel_rfl) (by kernel_rfl) (by kernel_rfl) (fun _ _ _ h => h) (Or.inl ⟨by rfl, ?hz12⟩) trivial ?rz12
      case hz12 => intro w hSw; (first | obtain ⟨hs1, hs2, hs3, hs4, hs5, hs6, hs7, hs8⟩ := hSw | obtain ⟨hs1, hs2, hs3⟩ := hSw | obtain ⟨hs1, hs2⟩ := hSw | skip); go_simp; try with_reducible rfl
      try simp only [Act.put, List.setIfInBounds_toArray, List.set_cons_zero, List.set_cons_succ]
      refine wpAnyM_pick (i := 3) (some 38) (v := ?vz13) rfl rfl (by kernel_rfl) (by kernel_rfl) (by kernel_rfl) (by kernel_rfl) (fun _ _ _ h => h) (Or.inl ⟨by rfl, ?hz13⟩) trivial ?rz13
      case hz13 => intro w hSw; (first | obtain ⟨hs1, hs2, hs3, hs4, hs5, hs6, hs7, hs8⟩ := hSw | obtain ⟨hs1, hs2, hs3⟩ := hSw | obtain ⟨hs1, hs2⟩ := hSw | skip); go_simp; try with_reducible rfl
      try simp only [Act.put, List.setIfInBounds_toArray, List.set_cons_zero, List.set_cons_succ]
      refine wpAnyM_pick (i := 4) (some 39) (v := ?vz14) rfl rfl (by kernel_rfl) (by kernel_rfl) (by kernel_rfl) (by kernel_rfl) (fun _ _ _ h => h) (Or.inl ⟨by rfl, ?hz14⟩) trivial ?rz14
      case hz14 => intro w hSw; (first | obtain ⟨hs1, hs2, hs3, hs4, hs5, hs6, hs7, hs8⟩ := hSw | obtain ⟨hs1, hs2, hs3⟩ := hSw | obtain ⟨hs1, hs2⟩ := hSw | skip); go_simp; try with_reducible rfl
      try simp only [Act.put, List.setIfInBounds_toArray, List.set_cons_zero, List.set_cons_succ]
      obtain ⟨w16, hcp, ha16, hk16⟩ := HA15.out.copyArr HQ15.out Q 48 (256 - Q) (256 - Q) 48 HLQ.out HS48.out q3 (by omega)
      have HX16 := hid (hk16.blk HX15.out (by omega))
      have HF16 : Hid (Flds w16 B fv) := HF15.out.keep82 HA15.out hk16
      have HB16 := hid (HB15.out.trans (hk16.below (fun j hj => by rw [hj]; omega) (Nat.le_of_lt HX15.out.lt)))
      have HA16 : Hid (Arr w16 (p + 1) 82 256 (H ++ (L.take (j + 1)).flatMap slotB)) := by show Arr _ _ _ _ _; rw [HTK.out, ← List.append_assoc]; exact ha16
      clear ha16 hk16 HA15 HX15 HF15 HQ15 HB15
      refine wpAnyM_one (i := 5) (by kernel_rfl) rfl (fun K hK => ?_)
      go_simp
      refine hK.out _ _ (fun _ => trivial) ?_
      clear hK K
      try simp only [Act.put, List.setIfInBounds_toArray, List.set_cons_zero, List.set_cons_succ]
      refine wpAnyM_done (by kernel_rfl) ?_ _
      clear hcp
      go_wp2_with fail
      go_roundw
      case rel => exact ⟨j + 1, by omega, by go_num, HA16, HX16, HF16, HB16⟩
      case measure => simp [intOf]; omega
    · have hji : ¬ (j : Int) < (n : Int) := by omega
      obtain rfl : j = n := by omega
      have HT : L.take j = L := by rw [← HN.out]; exact List.take_length
      rw [HT] at HA
      have hsl : (L.flatMap slotB).length = 48 * j := by rw [slots_len, HN.out]
      have hap := HA.out.pad (240 - 48 * j) (by rw [List.length_append, HHL.out, hsl]; omega)
      rw [← HPG.out] at hap
      have hpl : PG.length = 256 := by rw [HPG.out, List.length_append, List.length_append, HHL.out, hsl, List.length_replicate]; omega
      have hcv := hap.text 256 256 hpl
      clear hap hpl hsl
      go_wp2_with fail
      go_ret
      exact ⟨rfl, by rw [HP.out]; exact HB.out⟩
theorem sPack_any (b : Bk) (v : Value) (w : World) (hl : LiesN w v b.nodes) :
    Calls Try.prog 16 #[.agg #[.int .i64 b.depth, .int .i64 b.next, v]] w fun e w' => e = .returned (.tuple #[.string (if bkE b = 0 then ⟨(pageB b).toArray⟩ else ⟨#[]⟩), .int .i64 (bkE b : Nat)]) ∧ Below w.heap.size w w' := by
  obtain ⟨ad, c, rfl, hcc⟩ := hl.form
  obtain ⟨p, hp⟩ : ∃ p, w.heap.size = p := ⟨_, rfl⟩
  have HC : Hid (∀ w1, Below w.heap.size w w1 → Calls Try.prog 29 #[.agg #[.int .i64 b.depth, .int .i64 b.next, .slice ad b.nodes.length c]] w1 fun e w' => e = .returned (.int .i64 (bkE b : Nat)) ∧ Below w1.heap.size w1 w') := fun w1 hb => check_any b _ w1 (hl.on hb)
  have HW : Hid (bkE b = 0 → ∀ w1, Below w.heap.size w w1 → Calls Try.prog 30 #[.agg #[.int .i64 b.depth, .int .i64 b.next, .slice ad b.nodes.length c]] w1 fun e w' => e = .returned (.string ⟨(pageB b).toArray⟩) ∧ Below w1.heap.size w1 w') := fun h w1 hb => write_any b _ w1 (hl.on hb) (BkOk.of h)
  obtain ⟨d, nx, L⟩ := b
  simp only at *
  generalize L.length = n at *
  have HB0 := hid ((Below.refl w.heap.size w).alloc (Nat.le_refl _) (.cells #[.int .i64 d, .int .i64 nx, .slice ad n c] 42))
  have HX0 := hid (Blk.made w #[.int .i64 d, .int .i64 nx, .slice ad n c] 42)
  have d0 := HX0.out.cell (i := 0) rfl
  have d1 := HX0.out.cell (i := 1) rfl
  have d2 := HX0.out.cell (i := 2) rfl
  generalize pageB _ = PG at *
  generalize bkE _ = r at *
  by_cases h0 : r = 0
  · subst h0
    have HW' := hid (HW.out rfl)
    clear HW hl hp
    go_enter Try.func16, Try.ntmps16
    go_wp2_with (first
      | (go_at_call 29; refine (HC.out _ HB0.out).mono ?_; clear HC; rintro e w2 ⟨rfl, hb2⟩; have HX2 := hid (HX0.out.on hb2 HX0.out.lt); have e0 := HX2.out.cell (i := 0) rfl; have e1 := HX2.out.cell (i := 1) rfl; have e2 := HX2.out.cell (i := 2) rfl; have HB2 := hid (HB0.out.trans (hb2.mono HB0.out.size)))
      | (go_at_call 30; refine (HW'.out _ HB2.out).mono ?_; clear HW'; rintro e w3 ⟨rfl, hb3⟩))
    go_ret2
    exact ⟨rfl, HB2.out.trans (hb3.mono HB2.out.size)⟩
  · have hz : ¬ (r : Int) = 0 := by omega
    rw [if_neg h0]
    clear HW hl h0 hp
    go_enter Try.func16, Try.ntmps16
    go_wp2_with (go_at_call 29; refine (HC.out _ HB0.out).mono ?_; clear HC; rintro e w2 ⟨rfl, hb2⟩)
    go_ret2
    exact ⟨rfl, HB0.out.trans (hb2.mono HB0.out.size)⟩
end Go.Proofs.Ythohopbolalpcaa

