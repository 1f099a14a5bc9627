/-
  Copies: of a list of addresses, of a node, of a bucket.
-/
import Derived.Test.YthohopbolalpcaaSu
namespace Go.Proofs.Ythohopbolalpcaa
open Go.RowKit
set_option linter.unusedVariables false
set_option linter.unusedSimpArgs false
set_option maxRecDepth 100000

theorem run_append_empty {P : Program} (w : World) (base : Nat) (t ty e : TypeId) (i : TypeInfo) (size : Nat) (ht : P.underlying t = some (.slice e)) (hi : P.info? e = some i)
    (v : Value) (n : Nat) (xs : List Value) (hown : w.ownsRow base e size v n xs) (ad : Option Addr) (c : Nat) :
    (Builtin.append_ #[t, t] ty #[v, .slice ad 0 c]).run P w = .ok v w := by
  rcases hown.2 with ⟨rfl, rfl⟩ | ⟨g, cap, cur, rfl, _, _, hnc, _⟩
  · cases ad <;> simp [Builtin.append_, run_underlying ht, sizeOf, typeInfo, hi, Builtin.lenOf, Builtin.firstCells, loadCells, loadCellsFrom]
  · cases ad <;> simp [Builtin.append_, run_underlying ht, sizeOf, typeInfo, hi, Builtin.lenOf, Builtin.firstCells, hnc, storeCells, loadCells, loadCellsFrom]
theorem LiesK.flat {w : World} {b off n c : Nat} {K : List Nat} (h : LiesK w (.slice (some ⟨b, off, none⟩) n c) K) : ∀ j u, (flatK K)[j]? = some u → w.cell? ((⟨b, off, none⟩ : Addr).add j) = some u := by
  intro j u hj
  rw [add_plain]
  simp only [flatK, List.getElem?_map] at hj
  obtain ⟨x, hx, rfl⟩ := Option.map_eq_some_iff.1 hj
  obtain ⟨b', off', e, _, c1, _⟩ := h.at hx
  cases e
  exact c1
/-- append of a list of addresses that lies somewhere, to an empty row -/
theorem wpList_kids {ops : Array Oper} {rest : List Oper} {o : Oper} {a : Act} {Q : Exit → Act → World → Prop} (W : World) (hgd : o.guard = none) (s x : Operand)
    (ho : o.op = .call { callee := .builtin .append, args := #[s, x], argTypes := #[22, 22] }) (B : Nat) (v : Value) (hs : a.eval s = v) (hown : RowK W B v []) (hB : B ≤ W.heap.size)
    (y : Value) (K : List Nat) (k : Nat) (hk : K.length = k) (hx : a.eval x = y) (hK : LiesK W y K) (hlen : k * 8 ≤ 140737488351232)
    (h : ∀ va vc w', RowK w' B (.slice va k vc) K → W.grownBy w' v.ownBlock → wpList Try.prog ops Q rest (a.put o.dst (.slice va k vc)) w') : wpList Try.prog ops Q (o :: rest) a W := by
  obtain ⟨i0, hi, hz0, hz1, hz2⟩ := info_parts infoK
  obtain ⟨ad, c, e1⟩ := hK.form
  subst e1
  subst hk
  by_cases h0 : K = []
  · subst h0
    refine wpList_plain hgd fun K' hK' => ?_
    have hr := run_append_empty (P := Try.prog) W B 22 o.type 33 i0 1 Try.underlying22 hi v _ _ hown ad c
    obtain ⟨va, vc, e1⟩ := hown.form
    subst e1
    have := h va vc W hown ⟨rfl, rfl, rfl, Nat.le_refl _, fun _ _ _ => rfl⟩
    unfold Oper.wp execOp
    simp only [List.length_nil] at hr
    simp only [ho, resolve, invoke, builtin, Sem.run_bind, Sem.run_pure, Result.andThen_ok, List.map_toArray, List.map_cons, List.map_nil, hs, hx, List.length_nil, hr]
    exact hK' _ _ this
  · obtain ⟨y, hy⟩ : ∃ y, K[0]? = some y := by cases K with | nil => exact absurd rfl h0 | cons y r => exact ⟨y, rfl⟩
    obtain ⟨b, off, rfl, _⟩ := hK.at hy
    have hpos : 0 < K.length := (List.getElem?_eq_some_iff.1 hy).1
    refine wpList_append_blk W hgd s x 22 ho B 33 i0 (.int .u64 0) 1 8 Try.underlying22 hi hz0 hz1 hz2 rfl (by decide) v 0 [] hs hown ⟨b, off, none⟩ K.length c (flatK K) hx (flatK_length K) hK.flat (flatK_one K) hpos (by unfold maxLen; omega) (by omega) hB ?_
    intro v' w' hown' hgrow _
    rw [Nat.zero_add] at hown'
    obtain ⟨va, vc, hv'⟩ := own_form hown'
    subst hv'
    exact h va vc w' hown' hgrow

/-- how a copy of a list of addresses ends -/
def KidP (K : List Nat) (w : World) (e : Ending) (w' : World) : Prop := ∃ a c, e = .returned (.slice a K.length c) ∧ RowK w' w.heap.size (.slice a K.length c) K ∧ Below w.heap.size w w'
theorem kids_any (v : Value) (K : List Nat) (w : World) (hl : LiesK w v K) (hz : K.length * 8 ≤ 140737488351232) :
    Calls Try.prog 11 #[v] w fun e w' => KidP K w e w' := by
  obtain ⟨a, c, rfl⟩ := hl.form
  have HA := hid ((Below.refl w.heap.size w).alloc (Nat.le_refl _) (.cells #[] 33))
  have HL := hid (hl.on HA.out)
  have HR : Hid (RowK (w.alloc (.cells #[] 33)) w.heap.size (.slice (some ⟨w.heap.size, 0, none⟩) 0 0) []) := by
    refine ⟨rfl, .inr ⟨w.heap.size, 0, #[], rfl, Nat.le_refl _, Blk.made w #[] 33, Nat.le_refl _, by unfold maxLen; omega, rfl, rfl⟩⟩
  have HSZ := hid HA.out.size
  obtain ⟨n, hn⟩ : ∃ n, K.length = n := ⟨_, rfl⟩
  have HN := hid hn
  rw [hn] at HL hz ⊢
  clear hl hn
  go_enter Try.func11, Try.ntmps11
  go_wp2_with (at_builtin; refine wpList_kids _ rfl (.tmp 3) (.tmp 4) rfl w.heap.size (.slice (some ⟨w.heap.size, 0, none⟩) 0 0) rfl HR.out HSZ.out (.slice a n c) K n HN.out rfl HL.out hz ?_; intro va vc w5 hr5 hg5)
  have hb := HA.out.grown hg5 HSZ.out (fun g hg => (World.ownsRow.lt HR.out g hg).1)
  go_ret
  exact ⟨va, vc, by rw [HN.out]; rfl, by rw [HN.out]; exact hr5, hb⟩

/-- how a copy of a node ends -/
def NodP (x : Nd) (w : World) (e : Ending) (w' : World) : Prop := ∃ kv, e = .returned (.agg (cellsN x kv)) ∧ RowK w' w.heap.size kv x.kids ∧ Below w.heap.size w w'
set_option maxHeartbeats 2000000 in
theorem copyNode_any (x : Nd) (kv : Value) (w : World) (hf : NdF w kv x) (hz : x.kids.length * 8 ≤ 140737488351232) :
    Calls Try.prog 31 #[.agg (cellsN x kv)] w fun e w' => NodP x w e w' := by
  obtain ⟨ka, kc, rfl⟩ := hf.lies.form
  obtain ⟨p, hp⟩ : ∃ p, w.heap.size = p := ⟨_, rfl⟩
  have h1 := (Below.refl w.heap.size w).alloc (Nat.le_refl _) (.cells (cellsN x (.slice ka x.kids.length kc)) 57)
  have s1 : (w.alloc (.cells (cellsN x (.slice ka x.kids.length kc)) 57)).heap.size = p + 1 := by rw [← hp]; show (w.heap.push _).size = _; rw [Array.size_push]
  have k1 := Blk.made w (cellsN x (.slice ka x.kids.length kc)) 57
  have HB2 := hid (h1.alloc h1.size (.cells #[.int .u64 0, .string ⟨#[]⟩, .slice none 0 0, .int .i64 0, .bool false, .int .u64 0] 57))
  have HX2 := hid (k1.alloc (.cells #[.int .u64 0, .string ⟨#[]⟩, .slice none 0 0, .int .i64 0, .bool false, .int .u64 0] 57))
  have HR2 := hid (Blk.made (w.alloc (.cells (cellsN x (.slice ka x.kids.length kc)) 57)) #[.int .u64 0, .string ⟨#[]⟩, .slice none 0 0, .int .i64 0, .bool false, .int .u64 0] 57)
  rw [s1] at HR2
  rw [hp] at HX2 HB2
  have HL2 := hid (hf.lies.on (by rw [hp]; exact HB2.out))
  have HP := hid hp
  obtain ⟨A, nm, K, ct, q, nx⟩ := x
  simp only [cellsN] at *
  obtain ⟨m, hm⟩ : ∃ m, K.length = m := ⟨_, rfl⟩
  have HM := hid hm
  rw [hm] at HX2 HR2 HB2 HL2 hz ⊢
  clear h1 s1 k1 hf hm
  have HSZ : Hid (p ≤ (((w.alloc (.cells #[.int .u64 (A : Nat), .string nm, .slice ka m kc, .int .i64 ct, .bool q, .int .u64 (nx : Nat)] 57)).alloc (.cells #[.int .u64 0, .string ⟨#[]⟩, .slice none 0 0, .int .i64 0, .bool false, .int .u64 0] 57))).heap.size) := Nat.le_of_lt HX2.out.lt
  have c2 := HX2.out.cell (i := 2) rfl
  have HONE : Hid (∀ (va : Option Addr) (vc : Nat), (#[.int .u64 (A : Nat), .string nm, .slice va m vc, .int .i64 ct, .bool q, .int .u64 (nx : Nat)] : Array Value).all (·.oneCell') = true) := fun va vc => by simp [Value.oneCell']
  clear c2
  have c2 := HX2.out.cell (i := 2) rfl
  go_enter Try.func31, Try.ntmps31
  go_wp2_with (first
    | (at_builtin; refine wpList_kids _ rfl (.tmp 4) (.tmp 6) rfl p (.slice none 0 0) rfl (RowK.nil _ _) HSZ.out (.slice ka m kc) K m HM.out rfl HL2.out hz ?_; intro va vc w5 hr5 hg5; have HX5 := hid (HX2.out.kept hg5 (by simp [Value.ownBlock])); have HR5 := hid (HR2.out.kept hg5 (by simp [Value.ownBlock])); have e2 := HX5.out.cell (i := 2) rfl; have f2 := HX5.out.free 2; have hkp := Keep.set (S := fun j => j = p) w5 rfl 2 (.slice va m vc); have HRS := hid (hkp.blk HR5.out (by omega)); have hxs := HX5.out.set 2 (.slice va m vc); have d0 := hxs.cell (i := 0) rfl; have d1 := hxs.cell (i := 1) rfl; have d2 := hxs.cell (i := 2) rfl; have d3 := hxs.cell (i := 3) rfl; have d4 := hxs.cell (i := 4) rfl; have d5 := hxs.cell (i := 5) rfl; have HKS := hid (hkp.row hr5 (fun g hg e => Blk.ne HX5.out hr5 (by decide) hg e)); have HB5 := hid ((HB2.out.grown hg5 HSZ.out (fun g hg => by simp [Value.ownBlock] at hg)).trans (hkp.below (B := p) (fun j hj => by rw [hj]; exact Nat.le_refl _) (Nat.le_of_lt HX5.out.lt))); clear hkp hxs hr5 hg5)
    | (refine wpList_st 57 rfl (.tmp 2) (.tmp 10) rfl (p + 1) _ #[.int .u64 (A : Nat), .string nm, .slice va m vc, .int .i64 ct, .bool q, .int .u64 (nx : Nat)] rfl rfl HRS.out info57 rfl (HONE.out va vc) ?_; intro w7 hb7 hk7))
  have HK7 := hid (hk7.row HKS.out (fun g hg e => Blk.ne HRS.out HKS.out (by decide) hg e))
  have HB7 := hid (HB5.out.trans (hk7.below (B := p) (fun j hj => by rw [hj]; omega) (by have := HRS.out.lt; omega)))
  refine bodyPost_ret (results_cell_row rfl _ w7 (p + 1) 57 _ (0, 0) _ rfl hb7 Try.underlying57 rfl info57) rfl ⟨.slice va m vc, rfl, ?_, ?_⟩
  · rw [HP.out]
    show World.ownsRow _ _ _ _ _ K.length _
    rw [HM.out]
    have := HK7.out
    rw [HM.out] at this
    exact this
  · rw [HP.out]
    exact HB7.out
end Go.Proofs.Ythohopbolalpcaa

