/-
  Lists of nodes in memory; is an address among them; why a bucket may not be: the program's check.
-/
import Derived.Test.YthohopbolalpcaaSe
namespace Go.Proofs.Ythohopbolalpcaa
open Go.RowKit
set_option linter.unusedVariables false
set_option linter.unusedSimpArgs false
set_option maxRecDepth 100000

/-- nodes as they lie in memory -/
def LiesN (w : World) (v : Value) (L : List Nd) : Prop :=
  ∃ (a : Option Addr) (cap : Nat), v = .slice a L.length cap ∧ L.length ≤ cap ∧ cap ≤ maxLen ∧ ∀ k x, L[k]? = some x → ∃ b off kv, a = some ⟨b, off, none⟩ ∧ b < w.heap.size ∧ (∀ i u, (cellsN x kv)[i]? = some u → w.cell? ⟨b, off + k * 6 + i, none⟩ = some u) ∧ NdF w kv x
theorem LiesN.on {w w' : World} {v : Value} {L : List Nd} (h : LiesN w v L) (hb : Below w.heap.size w w') : LiesN w' v L := by
  obtain ⟨a, cap, h1, h2, h3, h4⟩ := h
  refine ⟨a, cap, h1, h2, h3, fun k p hp => ?_⟩
  obtain ⟨b, off, kv, ha, hlt, c1, r⟩ := h4 k p hp
  exact ⟨b, off, kv, ha, Nat.lt_of_lt_of_le hlt hb.size, fun i u hi => (hb.cell (p := ⟨b, off + k * 6 + i, none⟩) hlt).trans (c1 i u hi), r.on hb⟩
theorem LiesN.form {w : World} {v : Value} {L : List Nd} (h : LiesN w v L) : ∃ a c, v = .slice a L.length c ∧ L.length ≤ c := by obtain ⟨a, c, h, h2, _⟩ := h; exact ⟨a, c, h, h2⟩
theorem LiesN.len {w : World} {v : Value} {L : List Nd} (h : LiesN w v L) : L.length ≤ maxLen := by
  obtain ⟨a, c, h1, h2, h3, h4⟩ := h
  omega
theorem LiesN.at {w : World} {a : Option Addr} {n c : Nat} {L : List Nd} (h : LiesN w (.slice a n c) L) {k : Nat} {x : Nd} (hk : L[k]? = some x) : ∃ b off kv, a = some ⟨b, off, none⟩ ∧ b < w.heap.size ∧ w.cell? ⟨b, off + k * 6, none⟩ = some (.int .u64 (x.at' : Nat)) ∧ w.cell? ⟨b, off + k * 6 + 1, none⟩ = some (.string x.name) ∧ w.cell? ⟨b, off + k * 6 + 2, none⟩ = some kv ∧ w.cell? ⟨b, off + k * 6 + 3, none⟩ = some (.int .i64 x.count) ∧ w.cell? ⟨b, off + k * 6 + 4, none⟩ = some (.bool x.queued) ∧ w.cell? ⟨b, off + k * 6 + 5, none⟩ = some (.int .u64 (x.next : Nat)) ∧ NdF w kv x := by
  obtain ⟨a', c', h1, _, _, h4⟩ := h
  injection h1 with e1 _ _
  subst e1
  obtain ⟨b, off, kv, ha, hlt, c1, r⟩ := h4 k x hk
  exact ⟨b, off, kv, ha, hlt, c1 0 _ rfl, c1 1 _ rfl, c1 2 _ rfl, c1 3 _ rfl, c1 4 _ rfl, c1 5 _ rfl, r⟩
theorem LiesN.take {w : World} {a : Option Addr} {n c : Nat} {L : List Nd} (h : LiesN w (.slice a n c) L) (i : Nat) (hi : i ≤ L.length) : LiesN w (.slice a i c) (L.take i) := by
  obtain ⟨a', c', h1, h2, h3, h4⟩ := h
  injection h1 with e1 e2 e3
  subst e1 e3
  have hl : (L.take i).length = i := by rw [List.length_take]; omega
  refine ⟨a, c, by rw [hl], by omega, h3, fun k x hk => ?_⟩
  rw [List.getElem?_take] at hk
  split at hk
  · exact h4 k x hk
  · cases hk
theorem LiesN.nil (w : World) : LiesN w (.slice none 0 0) [] := ⟨none, 0, rfl, Nat.le_refl _, Nat.zero_le _, fun k x h => by simp at h⟩

/-- is a among the addresses? -/
def hasN (L : List Nd) (a : Nat) : Bool := L.any fun x => decide (x.at' = a)
theorem hasN_succ {L : List Nd} {j : Nat} {x : Nd} (h : L[j]? = some x) (a : Nat) : hasN (L.take (j + 1)) a = (hasN (L.take j) a || decide (x.at' = a)) := by
  unfold hasN
  rw [List.take_add_one, h]
  simp [List.any_append]

set_option maxHeartbeats 4000000 in
theorem has_any (v : Value) (L : List Nd) (a : Nat) (w : World) (hl : LiesN w v L) :
    Calls Try.prog 48 #[v, .int .u64 (a : Nat)] w fun e w' => e = .returned (.bool (hasN L a)) ∧ Below w.heap.size w w' := by
  obtain ⟨ad, c, rfl, _⟩ := hl.form
  have hlen := hl.len
  unfold maxLen at hlen
  have HL := hid hl
  have HT : Hid (L.take L.length = L) := List.take_length
  obtain ⟨n, hn⟩ : ∃ n, L.length = n := ⟨_, rfl⟩
  have HN := hid hn
  rw [hn] at HL HT hlen ⊢
  obtain ⟨r, hr⟩ : ∃ r, hasN L a = r := ⟨_, rfl⟩
  have HRR := hid hr
  rw [hr]
  clear hl hn hr
  have H0 : Hid (hasN (L.take 0) a = false) := by show _ = _; rfl
  have HB0 := hid (Below.refl w.heap.size w)
  go_enter Try.func48, Try.ntmps48
  go_wp2_with fail
  go_loopw [9] (fun i wr => ∃ j : Nat, j ≤ n ∧ i = .int .i64 (j : Nat) ∧ Hid (hasN (L.take j) a = false) ∧ Hid (Below w.heap.size w wr)) (fun i _ => n - (intOf i).toNat)
  case atStart => exact ⟨0, Nat.zero_le _, rfl, H0, HB0⟩
  case round =>
    obtain ⟨j, hj, rfl, HI, HB⟩ := hrel
    clear H0 HB0
    by_cases hjn : j < n
    · have hji : (j : Int) < (n : Int) := by omega
      obtain ⟨x, hx⟩ : ∃ x, L[j]? = some x := ⟨_, List.getElem?_eq_getElem (by rw [HN.out]; exact hjn)⟩
      obtain ⟨b, off, kv, e1, hbl, c0, c1, c2, c3, c4, c5, hf⟩ := (HL.out.on HB.out).at hx
      subst e1
      obtain ⟨ak, ck, rfl⟩ := hf.lies.form
      have HS := hid (hasN_succ hx a)
      have HM := hid (List.mem_of_getElem? hx)
      have HB2 := hid (HB.out.alloc HB.out.size (.cells (cellsN x (.slice ak x.kids.length ck)) 57))
      clear hx hf
      obtain ⟨A, nm, K, ct, q, nx⟩ := x
      simp only [cellsN] at c0 c1 c2 c3 c4 c5 HS HB2
      generalize K.length = m at *
      have hbk := Blk.made wr #[.int .u64 (A : Nat), .string nm, .slice ak m ck, .int .i64 ct, .bool q, .int .u64 (nx : Nat)] 57
      have d0 := hbk.cell (i := 0) rfl
      clear hbk
      by_cases hA : A = a
      · have hE : ((A : Int) == (a : Int)) = true := by rw [hA]; simp
        have hR : hasN L a = true := List.any_eq_true.2 ⟨_, HM.out, by simp [hA]⟩
        obtain rfl : r = true := by rw [← HRR.out, hR]
        subst hA
        clear hR
        go_wp2_with fail
        go_ret
        exact ⟨rfl, HB2.out⟩
      · have hE : ((A : Int) == (a : Int)) = false := by rw [beq_eq_false_iff_ne]; omega
        go_wp2_with fail
        go_roundw
        case rel => exact ⟨j + 1, by omega, by go_num, by show _ = _; rw [HS.out, HI.out]; simp [hA], HB2⟩
        case measure => simp [intOf]; omega
    · have hji : ¬ (j : Int) < (n : Int) := by omega
      obtain rfl : j = n := by omega
      rw [HT.out] at HI
      obtain rfl : r = false := by rw [← HRR.out, HI.out]
      go_wp2_with fail
      go_ret
      exact ⟨rfl, HB.out⟩

/-- why a node may not stand where it does: 0 where it may -/
def ndX (L : List Nd) (j : Nat) : Nat := match L[j]? with
  | some x => if ndE x ≠ 0 then ndE x else if hasN (L.take j) x.at' then 9 else 0
  | none => 0
/-- the first fault of the first k nodes -/
def nsK (L : List Nd) : Nat → Nat
  | 0 => 0
  | k + 1 => if nsK L k ≠ 0 then nsK L k else ndX L k
theorem nsK_up {L : List Nd} {j : Nat} (h : nsK L j ≠ 0) : ∀ {n : Nat}, j ≤ n → nsK L n = nsK L j := by
  intro n hn
  induction n with
  | zero => obtain rfl : j = 0 := by omega
            rfl
  | succ n ih =>
    rcases Nat.lt_or_ge n j with h' | h'
    · obtain rfl : j = n + 1 := by omega
      rfl
    · rw [nsK, ih h', if_pos h]
structure Bk where
  depth : Int
  next : Int
  nodes : List Nd
/-- why a bucket may not be: 0 where it may -/
def bkE (b : Bk) : Nat :=
  if b.depth < 0 ∨ 5 < b.depth ∨ b.next < 0 ∨ 2048 ≤ b.next then 1 else if 5 < b.nodes.length then 10 else nsK b.nodes b.nodes.length
theorem nsK_next {L : List Nd} {j : Nat} {x : Nd} (h0 : nsK L j = 0) (hx : L[j]? = some x) : nsK L (j + 1) = if ndE x ≠ 0 then ndE x else if hasN (L.take j) x.at' then 9 else 0 := by
  rw [nsK, if_neg (by omega)]
  unfold ndX
  rw [hx]

set_option maxHeartbeats 8000000 in
theorem check_any (b : Bk) (v : Value) (w : World) (hl : LiesN w v b.nodes) :
    Calls Try.prog 29 #[.agg #[.int .i64 b.depth, .int .i64 b.next, v]] w fun e w' => e = .returned (.int .i64 (bkE b : Nat)) ∧ Below w.heap.size w w' := by
  obtain ⟨ad, c, rfl, hcc⟩ := hl.form
  have hlen := hl.len
  unfold maxLen at hlen
  have HE : Hid (bkE b = if b.depth < 0 ∨ 5 < b.depth ∨ b.next < 0 ∨ 2048 ≤ b.next then 1 else if 5 < b.nodes.length then 10 else nsK b.nodes b.nodes.length) := rfl
  generalize bkE b = r at *
  obtain ⟨d, nx, L⟩ := b
  simp only at *
  have HL := hid hl
  obtain ⟨n, hn⟩ : ∃ n, L.length = n := ⟨_, rfl⟩
  have HN := hid hn
  rw [hn] at HL HE hlen hcc ⊢
  clear hl hn
  have HBK := hid (Blk.made w #[.int .i64 d, .int .i64 nx, .slice ad n c] 42)
  have HB0 := hid ((Below.refl w.heap.size w).alloc (Nat.le_refl _) (.cells #[.int .i64 d, .int .i64 nx, .slice ad n c] 42))
  by_cases h1 : d < 0 ∨ 5 < d ∨ nx < 0 ∨ 2048 ≤ nx
  · obtain rfl : r = 1 := by rw [HE.out, if_pos h1]
    clear HE
    rcases (by omega : d < 0 ∨ (¬ d < 0 ∧ 5 < d) ∨ (¬ d < 0 ∧ ¬ 5 < d ∧ nx < 0) ∨ (¬ d < 0 ∧ ¬ 5 < d ∧ ¬ nx < 0 ∧ 2048 ≤ nx)) with k1 | ⟨k1, k2⟩ | ⟨k1, k2, k3⟩ | ⟨k1, k2, k3, k4⟩
    all_goals
      clear h1
      go_enter Try.func29, Try.ntmps29
      go_wp2_with fail
      go_ret
      exact ⟨rfl, HB0.out⟩
  have k1 : ¬ d < 0 := by omega
  have k2 : ¬ 5 < d := by omega
  have k3 : ¬ nx < 0 := by omega
  have k4 : ¬ 2048 ≤ nx := by omega
  by_cases h5 : 5 < n
  · obtain rfl : r = 10 := by rw [HE.out, if_neg h1, if_pos h5]
    have h5i : (5 : Int) < (n : Int) := by omega
    clear HE h1
    go_enter Try.func29, Try.ntmps29
    go_wp2_with fail
    go_ret
    exact ⟨rfl, HB0.out⟩
  have h5i : ¬ (5 : Int) < (n : Int) := by omega
  have HR : Hid (r = nsK L n) := by show _ = _; rw [HE.out, if_neg h1, if_neg h5]
  have H0 : Hid (nsK L 0 = 0) := by show _ = _; rfl
  obtain ⟨p, hp⟩ : ∃ p, w.heap.size = p := ⟨_, rfl⟩
  have HP := hid hp
  clear HE h1
  go_enter Try.func29, Try.ntmps29
  go_wp2_with fail
  rw [hp] at HBK HB0
  try rw [hp]
  generalize w.alloc (Obj.cells #[.int .i64 d, .int .i64 nx, .slice ad n c] 42) = wz at *
  clear k1 k2 k3 k4 hp
  go_loopw [31] (fun i wr => ∃ j : Nat, j ≤ n ∧ i = .int .i64 (j : Nat) ∧ Hid (nsK L j = 0) ∧ Hid (Blk wr p #[.int .i64 d, .int .i64 nx, .slice ad n c] 42) ∧ Hid (Below p w wr)) (fun i _ => n - (intOf i).toNat)
  case atStart => exact ⟨0, Nat.zero_le _, rfl, H0, HBK, HB0⟩
  case round =>
    obtain ⟨j, hj, rfl, HI, HBJ, HB⟩ := hrel
    clear H0 HB0 HBK
    by_cases hjn : j < n
    · have hji : (j : Int) < (n : Int) := by omega
      obtain ⟨x, hx⟩ : ∃ x, L[j]? = some x := ⟨_, List.getElem?_eq_getElem (by rw [HN.out]; exact hjn)⟩
      have hbw : Below w.heap.size w wr := by rw [HP.out]; exact HB.out
      obtain ⟨b, off, kv, e1, hbl, c0, c1, c2, c3, c4, c5, hf⟩ := (HL.out.on hbw).at hx
      subst e1
      obtain ⟨ak, ck, rfl⟩ := hf.lies.form
      have HNX := hid (nsK_next HI.out hx)
      have HUP := hid (fun h : nsK L (j + 1) ≠ 0 => nsK_up h (n := n) (by omega))
      have hlt := HBJ.out.lt
      have HB2 := hid (HB.out.alloc (Nat.le_of_lt hlt) (.cells (cellsN x (.slice ak x.kids.length ck)) 57))
      have HBJ2 := hid (HBJ.out.alloc (.cells (cellsN x (.slice ak x.kids.length ck)) 57))
      have HX2 := hid (Blk.made wr (cellsN x (.slice ak x.kids.length ck)) 57)
      have HAL : Hid (∀ o, Below wr.heap.size wr (wr.alloc o)) := fun o => (Below.refl _ wr).alloc (Nat.le_refl _) o
      have HC : Hid (∀ w2, Below wr.heap.size wr w2 → Calls Try.prog 47 #[.agg (cellsN x (.slice ak x.kids.length ck))] w2 fun e w' => e = .returned (.int .i64 (ndE x : Nat)) ∧ Below w2.heap.size w2 w') := fun w2 hb => ckNode_any x _ w2 (hf.on hb)
      have HHS : Hid (∀ w2, Below wr.heap.size wr w2 → Calls Try.prog 48 #[.slice (some ⟨b, off, none⟩) j c, .int .u64 (x.at' : Nat)] w2 fun e w' => e = .returned (.bool (hasN (L.take j) x.at')) ∧ Below w2.heap.size w2 w') := fun w2 hb => has_any _ _ _ w2 (((HL.out.on hbw).on hb).take j (by rw [HN.out]; omega))
      have hjc : j ≤ c := by omega
      have hjci : (j : Int) ≤ (c : Int) := by omega
      clear hx hf hbw
      obtain ⟨A, nm, K, ct, q, nx'⟩ := x
      simp only [cellsN] at c0 c1 c2 c3 c4 c5 HB2 HBJ2 HX2 HC HHS HNX
      generalize K.length = m at *
      generalize ndE _ = ne at *
      generalize hasN _ _ = hv at *
      by_cases hz : ne = 0
      · subst hz
        have HNX2 : Hid (nsK L (j + 1) = if hv then 9 else 0) := HNX
        clear HNX
        go_wp2_with (go_at_call 47; refine (HC.out _ (HAL.out _)).mono ?_; clear HC; rintro e w2 ⟨rfl, hb2⟩)
        have HBJ3 := hid (HBJ2.out.on hb2 HBJ2.out.lt)
        have HX3 := hid (HX2.out.on hb2 HX2.out.lt)
        have hbr := (HAL.out (.cells #[.int .u64 (A : Nat), .string nm, .slice ak m ck, .int .i64 ct, .bool q, .int .u64 (nx' : Nat)] 57)).trans (hb2.mono (HAL.out _).size)
        have HB3 := hid (HB2.out.trans (hb2.mono (Nat.le_trans (Nat.le_of_lt hlt) (HAL.out _).size)))
        have HH2 := hid (HHS.out _ hbr.drew)
        clear hbr hb2 HBJ2 HX2 HB2 HBJ HB HHS
        generalize hq : wr.heap.size = qb at *
        refine wp_region_d (fun w' => w'.cell? ⟨p, 2, none⟩ = some (.slice (some ⟨b, off, none⟩) n c) ∧ w'.cell? ⟨qb, 0, none⟩ = some (.int .u64 (A : Nat))) (fun _ => true) (by kernel_rfl) ?_
        have HBJ4 := hid (HBJ3.out.on (Below.refl _ w2).drew HBJ3.out.lt)
        have HX4 := hid (HX3.out.on (Below.refl _ w2).drew HX3.out.lt)
        have HB4 := hid HB3.out.drew
        clear HBJ3 HX3 HB3
        generalize w2.drew = w4 at *
        have hS : w4.cell? ⟨p, 2, none⟩ = some (.slice (some ⟨b, off, none⟩) n c) ∧ w4.cell? ⟨qb, 0, none⟩ = some (.int .u64 (A : Nat)) := ⟨HBJ4.out.cell (i := 2) rfl, HX4.out.cell (i := 0) rfl⟩
        refine wpAnyM_pick (i := 0) (some 41) (v := ?vz1) rfl rfl (by kernel_rfl) (by kernel_rfl) (by kernel_rfl) (by kernel_rfl) (fun _ _ _ h => h) (Or.inl ⟨by rfl, ?hz1⟩) hS ?rz1
        case hz1 => intro w hSw; (try have hs1 := hSw.1); (try have hs2 := hSw.2); go_simp; try with_reducible rfl
        try simp only [Act.put, List.setIfInBounds_toArray, List.set_cons_zero, List.set_cons_succ]
        refine wpAnyM_pick (i := 1) (some 42) (v := ?vz2) rfl rfl (by kernel_rfl) (by kernel_rfl) (by kernel_rfl) (by kernel_rfl) (fun _ _ _ h => h) (Or.inl ⟨by rfl, ?hz2⟩) hS ?rz2
        case hz2 => intro w hSw; (try have hs1 := hSw.1); (try have hs2 := hSw.2); go_simp; try with_reducible rfl
        try simp only [Act.put, List.setIfInBounds_toArray, List.set_cons_zero, List.set_cons_succ]
        refine wpAnyM_pick (i := 2) (some 43) (v := ?vz3) rfl rfl (by kernel_rfl) (by kernel_rfl) (by kernel_rfl) (by kernel_rfl) (fun _ _ _ h => h) (Or.inl ⟨by rfl, ?hz3⟩) hS ?rz3
        case hz3 => intro w hSw; (try have hs1 := hSw.1); (try have hs2 := hSw.2); go_simp; try with_reducible rfl
        try simp only [Act.put, List.setIfInBounds_toArray, List.set_cons_zero, List.set_cons_succ]
        refine wpAnyM_pick (i := 3) (some 44) (v := ?vz4) rfl rfl (by kernel_rfl) (by kernel_rfl) (by kernel_rfl) (by kernel_rfl) (fun _ _ _ h => h) (Or.inl ⟨by rfl, ?hz4⟩) hS ?rz4
        case hz4 => intro w hSw; (try have hs1 := hSw.1); (try have hs2 := hSw.2); go_simp; try with_reducible rfl
        try simp only [Act.put, List.setIfInBounds_toArray, List.set_cons_zero, List.set_cons_succ]
        refine wpAnyM_pick (i := 4) (some 45) (v := ?vz5) rfl rfl (by kernel_rfl) (by kernel_rfl) (by kernel_rfl) (by kernel_rfl) (fun _ _ _ h => h) (Or.inl ⟨by rfl, ?hz5⟩) hS ?rz5
        case hz5 => intro w hSw; (try have hs1 := hSw.1); (try have hs2 := hSw.2); go_simp; try with_reducible rfl
        try simp only [Act.put, List.setIfInBounds_toArray, List.set_cons_zero, List.set_cons_succ]
        refine wpAnyM_pick (i := 5) (some 46) (v := ?vz6) rfl rfl (by kernel_rfl) (by kernel_rfl) (by kernel_rfl) (by kernel_rfl) (fun _ _ _ h => h) (Or.inl ⟨by rfl, ?hz6⟩) hS ?rz6
        case hz6 => intro w hSw; (try have hs1 := hSw.1); (try have hs2 := hSw.2); go_simp; try with_reducible rfl
        try simp only [Act.put, List.setIfInBounds_toArray, List.set_cons_zero, List.set_cons_succ]
        refine wpAnyM_one (i := 6) (by kernel_rfl) rfl (fun K hK => ?_)
        go_simp
        go_at_call 48
        refine (HH2.out).mono ?_
        rintro e w5 ⟨rfl, hb5⟩
        have HBJ5 := hid (HBJ4.out.on hb5 HBJ4.out.lt)
        have HX5 := hid (HX4.out.on hb5 HX4.out.lt)
        have HB5 := hid (HB4.out.trans (hb5.mono (Nat.le_of_lt HBJ4.out.lt)))
        clear hb5 HBJ4 HX4 HB4 hS HH2
        have hS : w5.cell? ⟨p, 2, none⟩ = some (.slice (some ⟨b, off, none⟩) n c) ∧ w5.cell? ⟨qb, 0, none⟩ = some (.int .u64 (A : Nat)) := ⟨HBJ5.out.cell (i := 2) rfl, HX5.out.cell (i := 0) rfl⟩
        go_wp2_with fail
        refine hK.out _ _ (fun _ => hS) ?_
        clear hK K
        try simp only [Act.put, List.setIfInBounds_toArray, List.set_cons_zero, List.set_cons_succ]
        refine wpAnyM_done (by kernel_rfl) ?_ _
        clear hS
        cases hv
        · go_wp2_with fail
          go_roundw
          case rel => exact ⟨j + 1, by omega, by go_num, HNX2, HBJ5, HB5⟩
          case measure => simp [intOf]; omega
        · have h9 : nsK L (j + 1) = 9 := HNX2
          obtain rfl : r = 9 := by rw [HR.out, HUP.out (by rw [h9]; decide), h9]
          clear h9
          go_wp2_with fail
          go_ret
          exact ⟨rfl, by rw [HP.out]; exact HB5.out⟩
      · have hzi : ¬ (ne : Int) = 0 := by omega
        rw [if_pos hz] at HNX
        obtain rfl : r = ne := by rw [HR.out, HUP.out (by rw [HNX.out]; exact hz), HNX.out]
        go_wp2_with (go_at_call 47; refine (HC.out _ (HAL.out _)).mono ?_; clear HC; rintro e w2 ⟨rfl, hb2⟩)
        go_ret
        refine ⟨rfl, ?_⟩
        rw [HP.out]
        exact HB2.out.trans (hb2.mono (Nat.le_trans (Nat.le_of_lt hlt) (HAL.out _).size))
    · have hji : ¬ (j : Int) < (n : Int) := by omega
      obtain rfl : j = n := by omega
      obtain rfl : r = 0 := by rw [HR.out, HI.out]
      go_wp2_with fail
      go_ret
      exact ⟨rfl, by rw [HP.out]; exact HB.out⟩
end Go.Proofs.Ythohopbolalpcaa

