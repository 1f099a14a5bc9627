/-
  The document's Unpack.
-/
import Derived.Test.YthohopbolalpcaaTc
import Derived.Deep.DeepCutAuto
import Derived.Deep.CutBlock
namespace Go.Proofs.Ythohopbolalpcaa
open Go.RowKit
set_option linter.unusedVariables false
set_option linter.unusedSimpArgs false
set_option maxRecDepth 100000

theorem wp_kid {o : Oper} {a : Act} {K : Act → World → Prop} {Q : Exit → Act → World → Prop} (W : World) (s x : Operand)
    (ho : o.op = .call { callee := .builtin .append, args := #[s, x], argTypes := #[22, 22] }) (B : Nat) (v : Value) (L : List Nat) (m : Nat) (hm : L.length = m) (hs : a.eval s = v) (hown : RowK W B v L) (hB : B ≤ W.heap.size)
    (ad n : Nat) (hx : a.eval x = .slice (some ⟨ad, 0, none⟩) 1 1) (c0 : W.cell? ⟨ad, 0, none⟩ = some (.int .u64 (n : Nat))) (hlen : m ≤ 1000)
    (h : ∀ va vc w', RowK w' B (.slice va (m + 1) vc) (L ++ [n]) → W.grownBy w' v.ownBlock → K (a.put o.dst (.slice va (m + 1) vc)) w') : o.wp Try.prog a W K Q := by
  obtain ⟨i0, hi, hz0, hz1, hz2⟩ := info_parts infoK
  subst hm
  refine wp_append_blk W s x 22 ho B 33 i0 (.int .u64 0) 1 8 Try.underlying22 hi hz0 hz1 hz2 rfl (by decide) v L.length (flatK L) hs hown ⟨ad, 0, none⟩ 1 1 [.int .u64 (n : Nat)] hx rfl (by
    intro j u hj
    match j, hj with
    | 0, hj => simp at hj; subst hj; simpa [Addr.add] using c0) (by intro u hu; simp at hu; subst hu; rfl) (by decide) (by unfold maxLen; omega) (by omega) hB ?_
  intro v' w' hown' hgrow _
  obtain ⟨va, vc, hv'⟩ := own_form hown'
  subst hv'
  refine h va vc w' ?_ hgrow
  unfold RowK
  rw [List.length_append, flatK_append]
  exact hown'
theorem wpList_nd {ops : Array Oper} {rest : List Oper} {o : Oper} {a : Act} {Q : Exit → Act → World → Prop} (W : World) (hgd : o.guard = none) (s x : Operand)
    (ho : o.op = .call { callee := .builtin .append, args := #[s, x], argTypes := #[40, 40] }) (B : Nat) (v : Value) (M : List (Nd × Value)) (m : Nat) (hm : M.length = m) (hs : a.eval s = v) (hown : W.ownsRow B 57 6 v M.length (flatN M)) (hB : B ≤ W.heap.size)
    (ad : Nat) (y : Nd) (ka : Option Addr) (kn kc : Nat) (hx : a.eval x = .slice (some ⟨ad, 0, none⟩) 1 1) (c0 : Blk W ad (cellsN y (.slice ka kn kc)) 57) (hlen : m ≤ 1954687338267)
    (h : ∀ va vc w', w'.ownsRow B 57 6 (.slice va (m + 1) vc) (m + 1) (flatN (M ++ [(y, .slice ka kn kc)])) → W.grownBy w' v.ownBlock → wpList Try.prog ops Q rest (a.put o.dst (.slice va (m + 1) vc)) w') : wpList Try.prog ops Q (o :: rest) a W := by
  refine wpList_plain hgd fun K hK => ?_
  exact wp_nd W s x ho B v M m hm hs hown hB ad y ka kn kc hx c0 hlen (fun va vc w' h1 h2 => hK _ _ (h va vc w' h1 h2))
theorem val_byte {T : ByteArray} {p : Nat} (h : p < T.size) : (T[p].toNat : Int) = (val (sub T p 1) : Nat) := by
  have h1 := sub_snoc T p 0 (by omega)
  have h0 : sub T p 0 = [] := rfl
  rw [h0, List.nil_append] at h1
  simp only [Nat.zero_add] at h1
  rw [h1]
  simp [val]
/-- what is read of a slot, its first m kids taken -/
def ndP (T : ByteArray) (m : Nat) : Nd := ⟨0, nameQ T, kidQ T m, (num T 0 5 : Nat), decide (num T 0 1 = 1), num T 0 6⟩

set_option maxHeartbeats 8000000 in
theorem rUnpack_any (s : ByteArray) (w : World) (hml : s.size ≤ maxLen) : Calls Try.prog 20 #[.string s] w fun e w' => UnpS s w e w' := by
  have HZERO : Hid (∀ (w' : World), (∀ b, bkE b = 0 → pageB b ≠ s.data.toList) → Below w.heap.size w w' → UnpS s w (.returned (.tuple #[.agg #[.int .i64 0, .int .i64 0, .slice none 0 0], .int .i64 3])) w') := fun w' h1 h2 => .inr ⟨h1, rfl, h2⟩
  have HGOOD : Hid (∀ (w' : World) (b : Bk) va vc M, bkE b = 0 → (⟨(pageB b).toArray⟩ : ByteArray) = s → M.map (·.1) = b.nodes → OwnN w' w.heap.size (.slice va b.nodes.length vc) M → LiesN w' (.slice va b.nodes.length vc) b.nodes → Below w.heap.size w w' → UnpS s w (.returned (.tuple #[.agg #[.int .i64 b.depth, .int .i64 b.next, .slice va b.nodes.length vc], .int .i64 0])) w') := fun w' b va vc M h1 h2 h3 h4 h5 h6 => .inl ⟨b, va, vc, M, h1, h2, rfl, h3, h4, h5, h6⟩
  generalize UnpS s w = Q at *
  have HZERO : Hid (∀ (w' : World), (∀ b, bkE b = 0 → pageB b ≠ s.data.toList) → Below w.heap.size w w' → Ask Q (.returned (.tuple #[.agg #[.int .i64 0, .int .i64 0, .slice none 0 0], .int .i64 3])) w') := HZERO
  have HGOOD : Hid (∀ (w' : World) (b : Bk) va vc M, bkE b = 0 → (⟨(pageB b).toArray⟩ : ByteArray) = s → M.map (·.1) = b.nodes → OwnN w' w.heap.size (.slice va b.nodes.length vc) M → LiesN w' (.slice va b.nodes.length vc) b.nodes → Below w.heap.size w w' → Ask Q (.returned (.tuple #[.agg #[.int .i64 b.depth, .int .i64 b.next, .slice va b.nodes.length vc], .int .i64 0])) w') := HGOOD
  show Calls Try.prog 20 _ w fun e w' => Ask Q e w'
  have HB1 := hid ((Below.refl w.heap.size w).alloc (Nat.le_refl _) (.cells #[.int .i64 0, .int .i64 0, .slice none 0 0] 42))
  have HX1 := hid (Blk.made w #[.int .i64 0, .int .i64 0, .slice none 0 0] 42)
  by_cases h256 : ¬ s.size = 256
  · have hne : ((s.size : Int) != 256) = true := by rw [bne_iff_ne]; omega
    have HNO : Hid (∀ b, bkE b = 0 → pageB b ≠ s.data.toList) := fun b hb e => by
      have := pageB_len (BkOk.of hb)
      rw [e, ← Lib.size_eq] at this
      exact h256 this
    clear h256
    go_enter Try.func20, Try.ntmps20
    go_wp2_with fail
    have hc := HX1.out
    refine bodyPost_ret (v := .tuple #[.agg #[.int .i64 0, .int .i64 0, .slice none 0 0], .int .i64 3]) ?_ rfl (HZERO.out _ HNO.out HB1.out)
    rw [results_cell_tmp rfl]
    have c0 := HX1.out.cell (i := 0) rfl
    have c1 := HX1.out.cell (i := 1) rfl
    have c2 := HX1.out.cell (i := 2) rfl
    go_simp
  have h256 : s.size = 256 := by omega
  have heq : ((s.size : Int) != 256) = false := by rw [bne_eq_false_iff_eq]; omega
  have hl1 : 1 < s.size := by omega
  have hl1i : (1 : Int) < (s.size : Int) := by omega
  have hb1 := val_byte hl1
  have HG2 : Hid (∀ w1, _) := fun w1 => rnum s 2 2 w1 (by omega) (by omega) hml (by omega)
  have hd1 : val (sub s 1 1) < 256 := by have := val_lt (sub s 1 1); rw [sub_length _ _ _ (by omega)] at this; simpa using this
  have hn1 : val (sub s 2 2) < 65536 := by have := val_lt (sub s 2 2); rw [sub_length _ _ _ (by omega)] at this; simpa using this
  obtain ⟨D, hD⟩ : ∃ D, val (sub s 1 1) = D := ⟨_, rfl⟩
  obtain ⟨E, hE⟩ : ∃ E, val (sub s 2 2) = E := ⟨_, rfl⟩
  have HDD := hid hD
  have HEE := hid hE
  rw [hD] at hd1 hb1
  rw [hE] at HG2 hn1
  clear hD hE
  have hwD : IntKind.i64.wrap (D : Int) = (D : Int) := by rw [IntKind.wrap_i64]; omega
  have hwE : IntKind.i64.wrap (E : Int) = (E : Int) := by rw [IntKind.wrap_i64]; omega
  obtain ⟨p, hp⟩ : ∃ p, w.heap.size = p := ⟨_, rfl⟩
  have s1 : (w.alloc (.cells #[.int .i64 0, .int .i64 0, .slice none 0 0] 42)).heap.size = p + 1 := by rw [← hp]; show (w.heap.push _).size = _; rw [Array.size_push]
  rw [hp] at HZERO HGOOD
  have HP := hid hp
  have HS1 := hid s1
  have HDW : Hid (∀ (N : Array Value), N.size = 3 → Blk ((w.alloc (.cells #[.int .i64 0, .int .i64 0, .slice none 0 0] 42)).drew.alloc (.cells N 42)) (p + 1) N 42 ∧ Blk ((w.alloc (.cells #[.int .i64 0, .int .i64 0, .slice none 0 0] 42)).drew.alloc (.cells N 42)) p #[.int .i64 0, .int .i64 0, .slice none 0 0] 42 ∧ Below p w ((w.alloc (.cells #[.int .i64 0, .int .i64 0, .slice none 0 0] 42)).drew.alloc (.cells N 42))) := fun N _ => by
    have q1 := Blk.made ((w.alloc (.cells #[.int .i64 0, .int .i64 0, .slice none 0 0] 42)).drew) N 42
    have q2 : ((w.alloc (.cells #[.int .i64 0, .int .i64 0, .slice none 0 0] 42)).drew).heap.size = p + 1 := s1
    rw [q2] at q1
    have q3 := HX1.out
    rw [hp] at q3
    refine ⟨q1, ?_, ?_⟩
    · exact Blk.alloc (w := (w.alloc (.cells #[.int .i64 0, .int .i64 0, .slice none 0 0] 42)).drew) q3 _
    · rw [← hp]; exact HB1.out.drew.alloc (by rw [q2]; omega) _
  clear s1 HB1 HX1
  go_enter Try.func20, Try.ntmps20
  go_upto_region 3 with fail
  go_cut [4] (fun s4 wx => s4 = .pointer (some ⟨p + 1, 0, none⟩) ∧ Hid (Blk wx (p + 1) #[.int .i64 (D : Nat), .int .i64 (E : Nat), .slice none 0 0] 42) ∧ Hid (Blk wx p #[.int .i64 0, .int .i64 0, .slice none 0 0] 42) ∧ Hid (Below p w wx))
  case first =>
    have HXD : Hid (∀ (N : Array Value), N.size = 3 → Blk ((w.alloc (.cells #[.int .i64 0, .int .i64 0, .slice none 0 0] 42)).drew.alloc (.cells N 42)) (p + 1) N 42 ∧ Blk ((w.alloc (.cells #[.int .i64 0, .int .i64 0, .slice none 0 0] 42)).drew.alloc (.cells N 42)) p #[.int .i64 0, .int .i64 0, .slice none 0 0] 42 ∧ Below p w ((w.alloc (.cells #[.int .i64 0, .int .i64 0, .slice none 0 0] 42)).drew.alloc (.cells N 42))) := HDW.out
    refine wp_region_d (fun _ => True) (fun _ => true) (by kernel_rfl) ?_
    refine wpAnyM_pick (i := 0) (some 17) (v := ?vz1) rfl rfl (by kernel_rfl) (by kernel_rfl) (by kernel_rfl) (by kernel_rfl) (fun _ _ _ h => h) (Or.inl ⟨by rfl, ?hz1⟩) trivial ?rz1
    case hz1 => intro w hSw; (first | obtain ⟨hs1, hs2, hs3, hs4, hs5, hs6, hs7, hs8, hs9, hs10, hs11, hs12⟩ := hSw | obtain ⟨hs1, hs2, hs3, hs4, hs5, hs6, hs7, hs8⟩ := hSw | obtain ⟨hs1, hs2, hs3, hs4, hs5, hs6⟩ := hSw | obtain ⟨hs1, hs2, hs3⟩ := hSw | obtain ⟨hs1, hs2⟩ := hSw | skip); go_simp; try with_reducible rfl
    try simp only [Act.put, List.setIfInBounds_toArray, List.set_cons_zero, List.set_cons_succ]
    refine wpAnyM_pick (i := 1) (some 18) (v := ?vz2) rfl rfl (by kernel_rfl) (by kernel_rfl) (by kernel_rfl) (by kernel_rfl) (fun _ _ _ h => h) (Or.inl ⟨by rfl, ?hz2⟩) trivial ?rz2
    case hz2 => intro w hSw; (first | obtain ⟨hs1, hs2, hs3, hs4, hs5, hs6, hs7, hs8, hs9, hs10, hs11, hs12⟩ := hSw | obtain ⟨hs1, hs2, hs3, hs4, hs5, hs6, hs7, hs8⟩ := hSw | obtain ⟨hs1, hs2, hs3, hs4, hs5, hs6⟩ := hSw | obtain ⟨hs1, hs2, hs3⟩ := hSw | obtain ⟨hs1, hs2⟩ := hSw | skip); go_simp; try with_reducible rfl
    try simp only [Act.put, List.setIfInBounds_toArray, List.set_cons_zero, List.set_cons_succ]
    refine wpAnyM_pick (i := 2) (some 19) (v := ?vz3) rfl rfl (by kernel_rfl) (by kernel_rfl) (by kernel_rfl) (by kernel_rfl) (fun _ _ _ h => h) (Or.inl ⟨by rfl, ?hz3⟩) trivial ?rz3
    case hz3 => intro w hSw; (first | obtain ⟨hs1, hs2, hs3, hs4, hs5, hs6, hs7, hs8, hs9, hs10, hs11, hs12⟩ := hSw | obtain ⟨hs1, hs2, hs3, hs4, hs5, hs6, hs7, hs8⟩ := hSw | obtain ⟨hs1, hs2, hs3, hs4, hs5, hs6⟩ := hSw | obtain ⟨hs1, hs2, hs3⟩ := hSw | obtain ⟨hs1, hs2⟩ := hSw | skip); go_simp; try with_reducible rfl
    try simp only [Act.put, List.setIfInBounds_toArray, List.set_cons_zero, List.set_cons_succ]
    refine wpAnyM_pick (i := 3) (some 20) (v := ?vz4) rfl rfl (by kernel_rfl) (by kernel_rfl) (by kernel_rfl) (by kernel_rfl) (fun _ _ _ h => h) (Or.inl ⟨by rfl, ?hz4⟩) trivial ?rz4
    case hz4 => intro w hSw; (first | obtain ⟨hs1, hs2, hs3, hs4, hs5, hs6, hs7, hs8, hs9, hs10, hs11, hs12⟩ := hSw | obtain ⟨hs1, hs2, hs3, hs4, hs5, hs6, hs7, hs8⟩ := hSw | obtain ⟨hs1, hs2, hs3, hs4, hs5, hs6⟩ := hSw | obtain ⟨hs1, hs2, hs3⟩ := hSw | obtain ⟨hs1, hs2⟩ := hSw | skip); go_simp; try with_reducible rfl
    try simp only [Act.put, List.setIfInBounds_toArray, List.set_cons_zero, List.set_cons_succ]
    have hsz1 : ((w.alloc (.cells #[.int .i64 0, .int .i64 0, .slice none 0 0] 42)).drew).heap.size = p + 1 := HS1.out
    generalize (w.alloc (.cells #[.int .i64 0, .int .i64 0, .slice none 0 0] 42)).drew = w0 at *
    refine wpAnyM_two (i := 4) (j := 7) (by kernel_rfl) rfl rfl (fun K hK => ?_) (fun K hK => ?_)
    · go_simp
      go_at_call 36
      refine (HG2.out _).mono ?_
      clear HG2
      rintro e w4 ⟨rfl, rfl⟩
      go_wp2_with fail
      refine hK.out _ _ (fun _ => trivial) ?_
      clear hK K
      try simp only [Act.put, List.setIfInBounds_toArray, List.set_cons_zero, List.set_cons_succ]
      refine wpAnyM_pick (i := 5) (some 22) (v := ?vz5) rfl rfl (by kernel_rfl) (by kernel_rfl) (by kernel_rfl) (by kernel_rfl) (fun _ _ _ h => h) (Or.inl ⟨by rfl, ?hz5⟩) trivial ?rz5
      case hz5 => intro w hSw; (first | obtain ⟨hs1, hs2, hs3, hs4, hs5, hs6, hs7, hs8, hs9, hs10, hs11, hs12⟩ := hSw | obtain ⟨hs1, hs2, hs3, hs4, hs5, hs6, hs7, hs8⟩ := hSw | obtain ⟨hs1, hs2, hs3, hs4, hs5, hs6⟩ := hSw | obtain ⟨hs1, hs2, hs3⟩ := hSw | obtain ⟨hs1, hs2⟩ := hSw | skip); go_simp; try with_reducible rfl
      try simp only [Act.put, List.setIfInBounds_toArray, List.set_cons_zero, List.set_cons_succ]
      refine wpAnyM_pick (i := 6) (some 23) (v := ?vz6) rfl rfl (by kernel_rfl) (by kernel_rfl) (by kernel_rfl) (by kernel_rfl) (fun _ _ _ h => h) (Or.inl ⟨by rfl, ?hz6⟩) trivial ?rz6
      case hz6 => intro w hSw; (first | obtain ⟨hs1, hs2, hs3, hs4, hs5, hs6, hs7, hs8, hs9, hs10, hs11, hs12⟩ := hSw | obtain ⟨hs1, hs2, hs3, hs4, hs5, hs6, hs7, hs8⟩ := hSw | obtain ⟨hs1, hs2, hs3, hs4, hs5, hs6⟩ := hSw | obtain ⟨hs1, hs2, hs3⟩ := hSw | obtain ⟨hs1, hs2⟩ := hSw | skip); go_simp; try with_reducible rfl
      try simp only [Act.put, List.setIfInBounds_toArray, List.set_cons_zero, List.set_cons_succ]
      refine wpAnyM_one (i := 7) (by kernel_rfl) rfl (fun K hK => ?_)
      go_simp
      refine hK.out _ _ (fun _ => trivial) ?_
      clear hK K
      try simp only [Act.put, List.setIfInBounds_toArray, List.set_cons_zero, List.set_cons_succ]
      refine wpAnyM_one (i := 8) (by kernel_rfl) rfl (fun K hK => ?_)
      go_simp
      refine hK.out _ _ (fun _ => trivial) ?_
      clear hK K
      try simp only [Act.put, List.setIfInBounds_toArray, List.set_cons_zero, List.set_cons_succ]
      refine wpAnyM_done (by kernel_rfl) ?_ _
      have HF := hid (HXD.out #[.int .i64 (D : Nat), .int .i64 (E : Nat), .slice none 0 0] rfl)
      go_wp2_with fail
      go_meet
      exact ⟨rfl, HF.out.1, HF.out.2.1, HF.out.2.2⟩
    · go_simp
      refine hK.out _ _ (fun _ => trivial) ?_
      clear hK K
      try simp only [Act.put, List.setIfInBounds_toArray, List.set_cons_zero, List.set_cons_succ]
      refine wpAnyM_one (i := 4) (by kernel_rfl) rfl (fun K hK => ?_)
      go_simp
      go_at_call 36
      refine (HG2.out _).mono ?_
      clear HG2
      rintro e w4 ⟨rfl, rfl⟩
      go_wp2_with fail
      refine hK.out _ _ (fun _ => trivial) ?_
      clear hK K
      try simp only [Act.put, List.setIfInBounds_toArray, List.set_cons_zero, List.set_cons_succ]
      refine wpAnyM_pick (i := 5) (some 22) (v := ?vz7) rfl rfl (by kernel_rfl) (by kernel_rfl) (by kernel_rfl) (by kernel_rfl) (fun _ _ _ h => h) (Or.inl ⟨by rfl, ?hz7⟩) trivial ?rz7
      case hz7 => intro w hSw; (first | obtain ⟨hs1, hs2, hs3, hs4, hs5, hs6, hs7, hs8, hs9, hs10, hs11, hs12⟩ := hSw | obtain ⟨hs1, hs2, hs3, hs4, hs5, hs6, hs7, hs8⟩ := hSw | obtain ⟨hs1, hs2, hs3, hs4, hs5, hs6⟩ := hSw | obtain ⟨hs1, hs2, hs3⟩ := hSw | obtain ⟨hs1, hs2⟩ := hSw | skip); go_simp; try with_reducible rfl
      try simp only [Act.put, List.setIfInBounds_toArray, List.set_cons_zero, List.set_cons_succ]
      refine wpAnyM_pick (i := 6) (some 23) (v := ?vz8) rfl rfl (by kernel_rfl) (by kernel_rfl) (by kernel_rfl) (by kernel_rfl) (fun _ _ _ h => h) (Or.inl ⟨by rfl, ?hz8⟩) trivial ?rz8
      case hz8 => intro w hSw; (first | obtain ⟨hs1, hs2, hs3, hs4, hs5, hs6, hs7, hs8, hs9, hs10, hs11, hs12⟩ := hSw | obtain ⟨hs1, hs2, hs3, hs4, hs5, hs6, hs7, hs8⟩ := hSw | obtain ⟨hs1, hs2, hs3, hs4, hs5, hs6⟩ := hSw | obtain ⟨hs1, hs2, hs3⟩ := hSw | obtain ⟨hs1, hs2⟩ := hSw | skip); go_simp; try with_reducible rfl
      try simp only [Act.put, List.setIfInBounds_toArray, List.set_cons_zero, List.set_cons_succ]
      refine wpAnyM_one (i := 8) (by kernel_rfl) rfl (fun K hK => ?_)
      go_simp
      refine hK.out _ _ (fun _ => trivial) ?_
      clear hK K
      try simp only [Act.put, List.setIfInBounds_toArray, List.set_cons_zero, List.set_cons_succ]
      refine wpAnyM_done (by kernel_rfl) ?_ _
      have HF := hid (HXD.out #[.int .i64 (D : Nat), .int .i64 (E : Nat), .slice none 0 0] rfl)
      go_wp2_with fail
      go_meet
      exact ⟨rfl, HF.out.1, HF.out.2.1, HF.out.2.2⟩
  case rest =>
    obtain ⟨rfl, HX3, HR3, HB3⟩ := hcut
    clear HDW HS1 hd1 hn1 hl1 hl1i hb1 hp heq HG2 hwD hwE
    generalize wc = w3 at *
    go_upto_block 0 with fail
    go_cut [] (fun wx => ∃ (j : Nat) (va : Option Addr) (vc : Nat) (M : List (Nd × Value)), Hid (RdQ s ⟨(D : Nat), (E : Nat), (List.range j).map fun k => ndQ (slQ s k)⟩ j) ∧ Hid (∀ k, k < j → ¬ badQ (slQ s k)) ∧ Hid (M.map (·.1) = (List.range j).map fun k => ndQ (slQ s k)) ∧ Hid (OwnN wx p (.slice va j vc) M) ∧ Hid (Blk wx (p + 1) #[.int .i64 (D : Nat), .int .i64 (E : Nat), .slice va j vc] 42) ∧ Hid (Blk wx p #[.int .i64 0, .int .i64 0, .slice none 0 0] 42) ∧ Hid (Below p w wx))
    case first =>
      have HO3 : Hid (OwnN w3 p (.slice none 0 0) []) := OwnN.nil _ _
      go_wp2_with fail
      go_loopw [5] (fun y wr => ∃ (j : Nat) (va : Option Addr) (vc : Nat) (M : List (Nd × Value)), j ≤ 5 ∧ y = .int .i64 (j : Nat) ∧ Hid (M.length = j) ∧ Hid (∀ k, k < j → slQ s k ≠ Z48 ∧ ¬ badQ (slQ s k)) ∧ Hid (M.map (·.1) = (List.range j).map fun k => ndQ (slQ s k)) ∧ Hid (OwnN wr p (.slice va j vc) M) ∧ Hid (Blk wr (p + 1) #[.int .i64 (D : Nat), .int .i64 (E : Nat), .slice va j vc] 42) ∧ Hid (Blk wr p #[.int .i64 0, .int .i64 0, .slice none 0 0] 42) ∧ Hid (Below p w wr)) (fun y _ => 5 - (intOf y).toNat)
      case atStart => exact ⟨0, none, 0, [], Nat.zero_le _, rfl, rfl, (fun k h => by omega), rfl, HO3, HX3, HR3, HB3⟩
      case round =>
        obtain ⟨j, va, vc, M, hj, rfl, HML, HU, HMM, HO, HX, HR, HB⟩ := hrel
        clear HO3 HX3 HR3 HB3
        by_cases hj5 : ¬ j < 5
        · have hji : ¬ (j : Int) < 5 := by omega
          obtain rfl : j = 5 := by omega
          go_wp2_with fail
          go_meet
          exact ⟨5, va, vc, M, ⟨by rw [HDD.out], by rw [HEE.out], Nat.le_refl _, rfl, (fun k hk => (HU.out k hk).1), .inl rfl⟩, (fun k hk => (HU.out k hk).2), HMM, HO, HX, HR, HB⟩
        have hj5 : j < 5 := by omega
        have hji : (j : Int) < 5 := by omega
        have q1 : IntKind.i64.wrap (48 * (j : Int)) = ((48 * j : Nat) : Int) := by rw [IntKind.wrap_i64]; omega
        have q2 : IntKind.i64.wrap (16 + ((48 * j : Nat) : Int)) = ((16 + 48 * j : Nat) : Int) := by rw [IntKind.wrap_i64]; omega
        have q3 : IntKind.i64.wrap (64 + ((48 * j : Nat) : Int)) = ((64 + 48 * j : Nat) : Int) := by rw [IntKind.wrap_i64]; omega
        have q4 : (64 + 48 * j : Nat) ≤ s.size := by omega
        have q5 : (16 + 48 * j : Nat) ≤ (64 + 48 * j : Nat) := by omega
        have q6 : ((64 + 48 * j : Nat) : Int) ≤ (s.size : Int) := by omega
        have q7 : ((16 + 48 * j : Nat) : Int) ≤ ((64 + 48 * j : Nat) : Int) := by omega
        go_upto_region 8 with fail
        obtain ⟨T, hT⟩ : ∃ T, s.extract (16 + 48 * j) (64 + 48 * j) = T := ⟨_, rfl⟩
        have HT : Hid (slQ s j = T) := hT
        rw [hT]
        have hTz : T.size = 48 := by rw [← hT]; exact slQ_size (s := s) (j := j) q4
        have HZ : Hid (Calls Try.prog 32 #[.int .i64 48] wr fun e w' => e = .returned (.string Z48) ∧ Below wr.heap.size wr w') := zeros_ok 48 wr (by decide)
        clear q1 q2 q3 q4 q5 q6 q7 hT
        by_cases hz : T = Z48
        · subst hz
          have hss : (Z48.toList == Z48.toList) = true := by simp
          go_wp2_with (go_at_call 32; refine HZ.out.mono ?_; clear HZ; rintro e w5 ⟨rfl, hb5⟩)
          go_meet
          exact ⟨j, va, vc, M, ⟨by rw [HDD.out], by rw [HEE.out], hj, rfl, (fun k hk => (HU.out k hk).1), .inr HT.out⟩, (fun k hk => (HU.out k hk).2), HMM, HO.out.on hb5, HX.out.on hb5 HX.out.lt, HR.out.on hb5 HR.out.lt, HB.out.trans (hb5.mono (Nat.le_of_lt HR.out.lt))⟩
        have HNZ := hid hz
        have hss : (T.toList == Z48.toList) = false := by
          rw [beq_eq_false_iff_ne]
          intro h
          rw [Lib.toList_data, Lib.toList_data] at h
          exact hz (ByteArray.ext (Array.toList_inj.1 h))
        clear hz
        have hTm : T.size ≤ maxLen := by rw [hTz]; unfold maxLen; omega
        have t1 : (1 : Int) < (T.size : Int) := by omega
        have t2 : (4 : Int) ≤ (T.size : Int) := by omega
        have t3 : (12 : Int) ≤ (T.size : Int) := by omega
        have t4 : (12 : Int) < (T.size : Int) := by omega
        have l1 : 1 < T.size := by omega
        have l12 : 12 < T.size := by omega
        have HTR : Hid (∀ w1, Calls Try.prog 37 #[.string (T.extract 4 12)] w1 fun e w' => e = .returned (.string (nameQ T)) ∧ w1 = w') := fun w1 => rTrim_any (T.extract 4 12) w1 (by rw [ByteArray.size_extract]; unfold maxLen; omega)
        have HN5 : Hid (∀ w1, Calls Try.prog 36 #[.string T, .int .i64 13, .int .i64 4] w1 fun e w' => e = .returned (.int .u64 (num T 0 5 : Nat)) ∧ w1 = w') := fun w1 => rnum T 13 4 w1 (by decide) (by decide) hTm (by omega)
        have HN6 : Hid (∀ w1, Calls Try.prog 36 #[.string T, .int .i64 17, .int .i64 6] w1 fun e w' => e = .returned (.int .u64 (num T 0 6 : Nat)) ∧ w1 = w') := fun w1 => rnum T 17 6 w1 (by decide) (by decide) hTm (by omega)
        have HN2 : Hid (∀ w1, Calls Try.prog 36 #[.string T, .int .i64 2, .int .i64 2] w1 fun e w' => e = .returned (.int .u64 (num T 0 2 : Nat)) ∧ w1 = w') := fun w1 => rnum T 2 2 w1 (by decide) (by decide) hTm (by omega)
        have HNK : Hid (∀ (m : Nat) w1, m < 4 → Calls Try.prog 36 #[.string T, .int .i64 (23 + 6 * (m : Int)), .int .i64 6] w1 fun e w' => e = .returned (.int .u64 (num T 0 (7 + m) : Nat)) ∧ w1 = w') := fun m w1 hm => by
          have := rnum T (23 + 6 * m) 6 w1 (by decide) (by decide) hTm (by omega)
          have e1 : wd (7 + m) = 6 := by unfold wd; iterate 6 rw [if_neg (by omega)]
          have e2 : off (7 + m) = 23 + 6 * m := by
            match m, hm with
            | 0, _ | 1, _ | 2, _ | 3, _ => decide
          have e3 : num T 0 (7 + m) = val (sub T (23 + 6 * m) 6) := by unfold num; rw [e1, e2, Nat.zero_add]
          have e4 : ((23 + 6 * m : Nat) : Int) = 23 + 6 * (m : Int) := by omega
          rw [e3, ← e4]
          exact this
        have b1 : (T[1].toNat : Int) = (num T 0 1 : Nat) := val_byte l1
        have b12 : (T[12].toNat : Int) = (num T 0 4 : Nat) := val_byte l12
        have N1 : num T 0 1 < 256 := num_lt' hTz (i := 1) (by decide)
        have N4 : num T 0 4 < 256 := num_lt' hTz (i := 4) (by decide)
        have N5 : num T 0 5 < 4294967296 := num_lt' hTz (i := 5) (by decide)
        have w5' : IntKind.i64.wrap (num T 0 5 : Int) = (num T 0 5 : Int) := by rw [IntKind.wrap_i64]; omega
        go_wp2_with (go_at_call 32; refine HZ.out.mono ?_; clear HZ; rintro e w5 ⟨rfl, hb5⟩)
        have HO5 := hid (HO.out.on hb5)
        have HX5 := hid (HX.out.on hb5 HX.out.lt)
        have HR5 := hid (HR.out.on hb5 HR.out.lt)
        have HB5 := hid (HB.out.trans (hb5.mono (Nat.le_of_lt HR.out.lt)))
        clear HO HX HR HB hb5 hss
        obtain ⟨g, hg⟩ : ∃ g, w5.heap.size = g := ⟨_, rfl⟩
        have HG := hid hg
        obtain ⟨qb, hqb⟩ : ∃ qb, decide (num T 0 1 = 1) = qb := ⟨_, rfl⟩
        have HQB := hid hqb
        have hqe : ((num T 0 1 : Int) == 1) = qb := by
          rw [← hqb]
          by_cases h : num T 0 1 = 1
          · rw [h]; rfl
          · rw [decide_eq_false h, beq_eq_false_iff_ne]; omega
        clear hqb
        have HND0 : Hid (cellsN (ndP T 0) (.slice none 0 0) = #[.int .u64 0, .string (nameQ T), .slice none 0 0, .int .i64 (num T 0 5 : Nat), .bool qb, .int .u64 (num T 0 6 : Nat)]) := by rw [← HQB.out]; show _ = _; rfl
        go_cut [7] (fun s7 wx => s7 = .pointer (some ⟨g, 0, none⟩) ∧ Hid (Blk wx g (cellsN (ndP T 0) (.slice none 0 0)) 57) ∧ Hid (Below g w5 wx))
        case first =>
          refine wp_region_d (fun _ => True) (fun _ => true) (by kernel_rfl) ?_
          refine wpAnyM_pick (i := 0) (some 39) (v := ?vz9) rfl rfl (by kernel_rfl) (by kernel_rfl) (by kernel_rfl) (by kernel_rfl) (fun _ _ _ h => h) (Or.inl ⟨by rfl, ?hz9⟩) trivial ?rz9
          case hz9 => intro w hSw; (first | obtain ⟨hs1, hs2, hs3, hs4, hs5, hs6, hs7, hs8, hs9, hs10, hs11, hs12⟩ := hSw | obtain ⟨hs1, hs2, hs3, hs4, hs5, hs6, hs7, hs8⟩ := hSw | obtain ⟨hs1, hs2, hs3, hs4, hs5, hs6⟩ := hSw | obtain ⟨hs1, hs2, hs3⟩ := hSw | obtain ⟨hs1, hs2⟩ := hSw | skip); go_simp; try with_reducible rfl
          try simp only [Act.put, List.setIfInBounds_toArray, List.set_cons_zero, List.set_cons_succ]
          refine wpAnyM_pick (i := 1) (some 40) (v := ?vz10) rfl rfl (by kernel_rfl) (by kernel_rfl) (by kernel_rfl) (by kernel_rfl) (fun _ _ _ h => h) (Or.inl ⟨by rfl, ?hz10⟩) trivial ?rz10
          case hz10 => intro w hSw; (first | obtain ⟨hs1, hs2, hs3, hs4, hs5, hs6, hs7, hs8, hs9, hs10, hs11, hs12⟩ := hSw | obtain ⟨hs1, hs2, hs3, hs4, hs5, hs6, hs7, hs8⟩ := hSw | obtain ⟨hs1, hs2, hs3, hs4, hs5, hs6⟩ := hSw | obtain ⟨hs1, hs2, hs3⟩ := hSw | obtain ⟨hs1, hs2⟩ := hSw | skip); go_simp; try with_reducible rfl
          try simp only [Act.put, List.setIfInBounds_toArray, List.set_cons_zero, List.set_cons_succ]
          refine wpAnyM_pick (i := 3) (some 42) (v := ?vz11) rfl rfl (by kernel_rfl) (by kernel_rfl) (by kernel_rfl) (by kernel_rfl) (fun _ _ _ h => h) (Or.inl ⟨by rfl, ?hz11⟩) trivial ?rz11
          case hz11 => intro w hSw; (first | obtain ⟨hs1, hs2, hs3, hs4, hs5, hs6, hs7, hs8, hs9, hs10, hs11, hs12⟩ := hSw | obtain ⟨hs1, hs2, hs3, hs4, hs5, hs6, hs7, hs8⟩ := hSw | obtain ⟨hs1, hs2, hs3, hs4, hs5, hs6⟩ := hSw | obtain ⟨hs1, hs2, hs3⟩ := hSw | obtain ⟨hs1, hs2⟩ := hSw | skip); go_simp; try with_reducible rfl
          try simp only [Act.put, List.setIfInBounds_toArray, List.set_cons_zero, List.set_cons_succ]
          refine wpAnyM_pick (i := 4) (some 43) (v := ?vz12) rfl rfl (by kernel_rfl) (by kernel_rfl) (by kernel_rfl) (by kernel_rfl) (fun _ _ _ h => h) (Or.inl ⟨by rfl, ?hz12⟩) trivial ?rz12
          case hz12 => intro w hSw; (first | obtain ⟨hs1, hs2, hs3, hs4, hs5, hs6, hs7, hs8, hs9, hs10, hs11, hs12⟩ := hSw | obtain ⟨hs1, hs2, hs3, hs4, hs5, hs6, hs7, hs8⟩ := hSw | obtain ⟨hs1, hs2, hs3, hs4, hs5, hs6⟩ := hSw | obtain ⟨hs1, hs2, hs3⟩ := hSw | obtain ⟨hs1, hs2⟩ := hSw | skip); go_simp; try with_reducible rfl
          try simp only [Act.put, List.setIfInBounds_toArray, List.set_cons_zero, List.set_cons_succ]
          refine wpAnyM_pick (i := 5) (some 44) (v := ?vz13) rfl rfl (by kernel_rfl) (by kernel_rfl) (by kernel_rfl) (by kernel_rfl) (fun _ _ _ h => h) (Or.inl ⟨by rfl, ?hz13⟩) trivial ?rz13
          case hz13 => intro w hSw; (first | obtain ⟨hs1, hs2, hs3, hs4, hs5, hs6, hs7, hs8, hs9, hs10, hs11, hs12⟩ := hSw | obtain ⟨hs1, hs2, hs3, hs4, hs5, hs6, hs7, hs8⟩ := hSw | obtain ⟨hs1, hs2, hs3, hs4, hs5, hs6⟩ := hSw | obtain ⟨hs1, hs2, hs3⟩ := hSw | obtain ⟨hs1, hs2⟩ := hSw | skip); go_simp; try with_reducible rfl
          try simp only [Act.put, List.setIfInBounds_toArray, List.set_cons_zero, List.set_cons_succ]
          refine wpAnyM_pick (i := 6) (some 45) (v := ?vz14) rfl rfl (by kernel_rfl) (by kernel_rfl) (by kernel_rfl) (by kernel_rfl) (fun _ _ _ h => h) (Or.inl ⟨by rfl, ?hz14⟩) trivial ?rz14
          case hz14 => intro w hSw; (first | obtain ⟨hs1, hs2, hs3, hs4, hs5, hs6, hs7, hs8, hs9, hs10, hs11, hs12⟩ := hSw | obtain ⟨hs1, hs2, hs3, hs4, hs5, hs6, hs7, hs8⟩ := hSw | obtain ⟨hs1, hs2, hs3, hs4, hs5, hs6⟩ := hSw | obtain ⟨hs1, hs2, hs3⟩ := hSw | obtain ⟨hs1, hs2⟩ := hSw | skip); go_simp; try with_reducible rfl
          try simp only [Act.put, List.setIfInBounds_toArray, List.set_cons_zero, List.set_cons_succ]
          refine wpAnyM_pick (i := 9) (some 48) (v := ?vz15) rfl rfl (by kernel_rfl) (by kernel_rfl) (by kernel_rfl) (by kernel_rfl) (fun _ _ _ h => h) (Or.inl ⟨by rfl, ?hz15⟩) trivial ?rz15
          case hz15 => intro w hSw; (first | obtain ⟨hs1, hs2, hs3, hs4, hs5, hs6, hs7, hs8, hs9, hs10, hs11, hs12⟩ := hSw | obtain ⟨hs1, hs2, hs3, hs4, hs5, hs6, hs7, hs8⟩ := hSw | obtain ⟨hs1, hs2, hs3, hs4, hs5, hs6⟩ := hSw | obtain ⟨hs1, hs2, hs3⟩ := hSw | obtain ⟨hs1, hs2⟩ := hSw | skip); go_simp; try with_reducible rfl
          try simp only [Act.put, List.setIfInBounds_toArray, List.set_cons_zero, List.set_cons_succ]
          have hsz : w5.drew.heap.size = g := HG.out
          have hend : Blk (w5.drew.alloc (.cells #[.int .u64 0, .string (nameQ T), .slice none 0 0, .int .i64 (num T 0 5 : Nat), .bool qb, .int .u64 (num T 0 6 : Nat)] 57)) g (cellsN (ndP T 0) (.slice none 0 0)) 57 ∧ Below g w5 (w5.drew.alloc (.cells #[.int .u64 0, .string (nameQ T), .slice none 0 0, .int .i64 (num T 0 5 : Nat), .bool qb, .int .u64 (num T 0 6 : Nat)] 57)) := by
            rw [HND0.out]
            refine ⟨?_, ?_⟩
            · have := Blk.made w5.drew #[.int .u64 0, .string (nameQ T), .slice none 0 0, .int .i64 (num T 0 5 : Nat), .bool qb, .int .u64 (num T 0 6 : Nat)] 57
              rw [hsz] at this
              exact this
            · rw [← hg]
              exact (Below.refl _ w5).drew.alloc (Nat.le_refl _) _
          have HEND := hid hend
          generalize w5.drew = w6 at *
          clear hend hg b1 b12 N1 N4 N5 HND0 HNK HN2 HO5 HX5 HR5 HB5 HMM HU HML
          refine wpAnyM_two (i := 2) (j := 12) (by kernel_rfl) rfl rfl (fun K hK => ?_) (fun K hK => ?_)
          · go_simp
            go_at_call 37
            refine (HTR.out _).mono ?_
            rintro e w7 ⟨rfl, rfl⟩
            go_wp2_with fail
            refine hK.out _ _ (fun _ => trivial) ?_
            clear hK K
            try simp only [Act.put, List.setIfInBounds_toArray, List.set_cons_zero, List.set_cons_succ]
            refine wpAnyM_two (i := 7) (j := 12) (by kernel_rfl) rfl rfl (fun K hK => ?_) (fun K hK => ?_)
            · go_simp
              go_at_call 36
              refine (HN5.out _).mono ?_
              rintro e w7 ⟨rfl, rfl⟩
              go_wp2_with fail
              refine hK.out _ _ (fun _ => trivial) ?_
              clear hK K
              try simp only [Act.put, List.setIfInBounds_toArray, List.set_cons_zero, List.set_cons_succ]
              refine wpAnyM_pick (i := 8) (some 47) (v := ?vz16) rfl rfl (by kernel_rfl) (by kernel_rfl) (by kernel_rfl) (by kernel_rfl) (fun _ _ _ h => h) (Or.inl ⟨by rfl, ?hz16⟩) trivial ?rz16
              case hz16 => intro w hSw; (first | obtain ⟨hs1, hs2, hs3, hs4, hs5, hs6, hs7, hs8, hs9, hs10, hs11, hs12⟩ := hSw | obtain ⟨hs1, hs2, hs3, hs4, hs5, hs6, hs7, hs8⟩ := hSw | obtain ⟨hs1, hs2, hs3, hs4, hs5, hs6⟩ := hSw | obtain ⟨hs1, hs2, hs3⟩ := hSw | obtain ⟨hs1, hs2⟩ := hSw | skip); go_simp; try with_reducible rfl
              try simp only [Act.put, List.setIfInBounds_toArray, List.set_cons_zero, List.set_cons_succ]
              refine wpAnyM_two (i := 10) (j := 12) (by kernel_rfl) rfl rfl (fun K hK => ?_) (fun K hK => ?_)
              · go_simp
                go_at_call 36
                refine (HN6.out _).mono ?_
                rintro e w7 ⟨rfl, rfl⟩
                go_wp2_with fail
                refine hK.out _ _ (fun _ => trivial) ?_
                clear hK K
                try simp only [Act.put, List.setIfInBounds_toArray, List.set_cons_zero, List.set_cons_succ]
                refine wpAnyM_pick (i := 11) (some 50) (v := ?vz17) rfl rfl (by kernel_rfl) (by kernel_rfl) (by kernel_rfl) (by kernel_rfl) (fun _ _ _ h => h) (Or.inl ⟨by rfl, ?hz17⟩) trivial ?rz17
                case hz17 => intro w hSw; (first | obtain ⟨hs1, hs2, hs3, hs4, hs5, hs6, hs7, hs8, hs9, hs10, hs11, hs12⟩ := hSw | obtain ⟨hs1, hs2, hs3, hs4, hs5, hs6, hs7, hs8⟩ := hSw | obtain ⟨hs1, hs2, hs3, hs4, hs5, hs6⟩ := hSw | obtain ⟨hs1, hs2, hs3⟩ := hSw | obtain ⟨hs1, hs2⟩ := hSw | skip); go_simp; try with_reducible rfl
                try simp only [Act.put, List.setIfInBounds_toArray, List.set_cons_zero, List.set_cons_succ]
                refine wpAnyM_one (i := 12) (by kernel_rfl) rfl (fun K hK => ?_)
                go_simp
                refine hK.out _ _ (fun _ => trivial) ?_
                clear hK K
                try simp only [Act.put, List.setIfInBounds_toArray, List.set_cons_zero, List.set_cons_succ]
                refine wpAnyM_one (i := 13) (by kernel_rfl) rfl (fun K hK => ?_)
                go_simp
                refine hK.out _ _ (fun _ => trivial) ?_
                clear hK K
                try simp only [Act.put, List.setIfInBounds_toArray, List.set_cons_zero, List.set_cons_succ]
                refine wpAnyM_done (by kernel_rfl) ?_ _
                go_wp2_with fail
                go_meet
                exact ⟨rfl, HEND.out.1, HEND.out.2⟩
              · go_simp
                refine hK.out _ _ (fun _ => trivial) ?_
                clear hK K
                try simp only [Act.put, List.setIfInBounds_toArray, List.set_cons_zero, List.set_cons_succ]
                refine wpAnyM_one (i := 10) (by kernel_rfl) rfl (fun K hK => ?_)
                go_simp
                go_at_call 36
                refine (HN6.out _).mono ?_
                rintro e w7 ⟨rfl, rfl⟩
                go_wp2_with fail
                refine hK.out _ _ (fun _ => trivial) ?_
                clear hK K
                try simp only [Act.put, List.setIfInBounds_toArray, List.set_cons_zero, List.set_cons_succ]
                refine wpAnyM_pick (i := 11) (some 50) (v := ?vz18) rfl rfl (by kernel_rfl) (by kernel_rfl) (by kernel_rfl) (by kernel_rfl) (fun _ _ _ h => h) (Or.inl ⟨by rfl, ?hz18⟩) trivial ?rz18
                case hz18 => intro w hSw; (first | obtain ⟨hs1, hs2, hs3, hs4, hs5, hs6, hs7, hs8, hs9, hs10, hs11, hs12⟩ := hSw | obtain ⟨hs1, hs2, hs3, hs4, hs5, hs6, hs7, hs8⟩ := hSw | obtain ⟨hs1, hs2, hs3, hs4, hs5, hs6⟩ := hSw | obtain ⟨hs1, hs2, hs3⟩ := hSw | obtain ⟨hs1, hs2⟩ := hSw | skip); go_simp; try with_reducible rfl
                try simp only [Act.put, List.setIfInBounds_toArray, List.set_cons_zero, List.set_cons_succ]
                refine wpAnyM_one (i := 13) (by kernel_rfl) rfl (fun K hK => ?_)
                go_simp
                refine hK.out _ _ (fun _ => trivial) ?_
                clear hK K
                try simp only [Act.put, List.setIfInBounds_toArray, List.set_cons_zero, List.set_cons_succ]
                refine wpAnyM_done (by kernel_rfl) ?_ _
                go_wp2_with fail
                go_meet
                exact ⟨rfl, HEND.out.1, HEND.out.2⟩
            · go_simp
              refine hK.out _ _ (fun _ => trivial) ?_
              clear hK K
              try simp only [Act.put, List.setIfInBounds_toArray, List.set_cons_zero, List.set_cons_succ]
              refine wpAnyM_one (i := 7) (by kernel_rfl) rfl (fun K hK => ?_)
              go_simp
              go_at_call 36
              refine (HN5.out _).mono ?_
              rintro e w7 ⟨rfl, rfl⟩
              go_wp2_with fail
              refine hK.out _ _ (fun _ => trivial) ?_
              clear hK K
              try simp only [Act.put, List.setIfInBounds_toArray, List.set_cons_zero, List.set_cons_succ]
              refine wpAnyM_pick (i := 8) (some 47) (v := ?vz19) rfl rfl (by kernel_rfl) (by kernel_rfl) (by kernel_rfl) (by kernel_rfl) (fun _ _ _ h => h) (Or.inl ⟨by rfl, ?hz19⟩) trivial ?rz19
              case hz19 => intro w hSw; (first | obtain ⟨hs1, hs2, hs3, hs4, hs5, hs6, hs7, hs8, hs9, hs10, hs11, hs12⟩ := hSw | obtain ⟨hs1, hs2, hs3, hs4, hs5, hs6, hs7, hs8⟩ := hSw | obtain ⟨hs1, hs2, hs3, hs4, hs5, hs6⟩ := hSw | obtain ⟨hs1, hs2, hs3⟩ := hSw | obtain ⟨hs1, hs2⟩ := hSw | skip); go_simp; try with_reducible rfl
              try simp only [Act.put, List.setIfInBounds_toArray, List.set_cons_zero, List.set_cons_succ]
              refine wpAnyM_one (i := 10) (by kernel_rfl) rfl (fun K hK => ?_)
              go_simp
              go_at_call 36
              refine (HN6.out _).mono ?_
              rintro e w7 ⟨rfl, rfl⟩
              go_wp2_with fail
              refine hK.out _ _ (fun _ => trivial) ?_
              clear hK K
              try simp only [Act.put, List.setIfInBounds_toArray, List.set_cons_zero, List.set_cons_succ]
              refine wpAnyM_pick (i := 11) (some 50) (v := ?vz20) rfl rfl (by kernel_rfl) (by kernel_rfl) (by kernel_rfl) (by kernel_rfl) (fun _ _ _ h => h) (Or.inl ⟨by rfl, ?hz20⟩) trivial ?rz20
              case hz20 => intro w hSw; (first | obtain ⟨hs1, hs2, hs3, hs4, hs5, hs6, hs7, hs8, hs9, hs10, hs11, hs12⟩ := hSw | obtain ⟨hs1, hs2, hs3, hs4, hs5, hs6, hs7, hs8⟩ := hSw | obtain ⟨hs1, hs2, hs3, hs4, hs5, hs6⟩ := hSw | obtain ⟨hs1, hs2, hs3⟩ := hSw | obtain ⟨hs1, hs2⟩ := hSw | skip); go_simp; try with_reducible rfl
              try simp only [Act.put, List.setIfInBounds_toArray, List.set_cons_zero, List.set_cons_succ]
              refine wpAnyM_one (i := 13) (by kernel_rfl) rfl (fun K hK => ?_)
              go_simp
              refine hK.out _ _ (fun _ => trivial) ?_
              clear hK K
              try simp only [Act.put, List.setIfInBounds_toArray, List.set_cons_zero, List.set_cons_succ]
              refine wpAnyM_done (by kernel_rfl) ?_ _
              go_wp2_with fail
              go_meet
              exact ⟨rfl, HEND.out.1, HEND.out.2⟩
          · go_simp
            refine hK.out _ _ (fun _ => trivial) ?_
            clear hK K
            try simp only [Act.put, List.setIfInBounds_toArray, List.set_cons_zero, List.set_cons_succ]
            refine wpAnyM_one (i := 2) (by kernel_rfl) rfl (fun K hK => ?_)
            go_simp
            go_at_call 37
            refine (HTR.out _).mono ?_
            rintro e w7 ⟨rfl, rfl⟩
            go_wp2_with fail
            refine hK.out _ _ (fun _ => trivial) ?_
            clear hK K
            try simp only [Act.put, List.setIfInBounds_toArray, List.set_cons_zero, List.set_cons_succ]
            refine wpAnyM_one (i := 7) (by kernel_rfl) rfl (fun K hK => ?_)
            go_simp
            go_at_call 36
            refine (HN5.out _).mono ?_
            rintro e w7 ⟨rfl, rfl⟩
            go_wp2_with fail
            refine hK.out _ _ (fun _ => trivial) ?_
            clear hK K
            try simp only [Act.put, List.setIfInBounds_toArray, List.set_cons_zero, List.set_cons_succ]
            refine wpAnyM_pick (i := 8) (some 47) (v := ?vz21) rfl rfl (by kernel_rfl) (by kernel_rfl) (by kernel_rfl) (by kernel_rfl) (fun _ _ _ h => h) (Or.inl ⟨by rfl, ?hz21⟩) trivial ?rz21
            case hz21 => intro w hSw; (first | obtain ⟨hs1, hs2, hs3, hs4, hs5, hs6, hs7, hs8, hs9, hs10, hs11, hs12⟩ := hSw | obtain ⟨hs1, hs2, hs3, hs4, hs5, hs6, hs7, hs8⟩ := hSw | obtain ⟨hs1, hs2, hs3, hs4, hs5, hs6⟩ := hSw | obtain ⟨hs1, hs2, hs3⟩ := hSw | obtain ⟨hs1, hs2⟩ := hSw | skip); go_simp; try with_reducible rfl
            try simp only [Act.put, List.setIfInBounds_toArray, List.set_cons_zero, List.set_cons_succ]
            refine wpAnyM_one (i := 10) (by kernel_rfl) rfl (fun K hK => ?_)
            go_simp
            go_at_call 36
            refine (HN6.out _).mono ?_
            rintro e w7 ⟨rfl, rfl⟩
            go_wp2_with fail
            refine hK.out _ _ (fun _ => trivial) ?_
            clear hK K
            try simp only [Act.put, List.setIfInBounds_toArray, List.set_cons_zero, List.set_cons_succ]
            refine wpAnyM_pick (i := 11) (some 50) (v := ?vz22) rfl rfl (by kernel_rfl) (by kernel_rfl) (by kernel_rfl) (by kernel_rfl) (fun _ _ _ h => h) (Or.inl ⟨by rfl, ?hz22⟩) trivial ?rz22
            case hz22 => intro w hSw; (first | obtain ⟨hs1, hs2, hs3, hs4, hs5, hs6, hs7, hs8, hs9, hs10, hs11, hs12⟩ := hSw | obtain ⟨hs1, hs2, hs3, hs4, hs5, hs6, hs7, hs8⟩ := hSw | obtain ⟨hs1, hs2, hs3, hs4, hs5, hs6⟩ := hSw | obtain ⟨hs1, hs2, hs3⟩ := hSw | obtain ⟨hs1, hs2⟩ := hSw | skip); go_simp; try with_reducible rfl
            try simp only [Act.put, List.setIfInBounds_toArray, List.set_cons_zero, List.set_cons_succ]
            refine wpAnyM_one (i := 13) (by kernel_rfl) rfl (fun K hK => ?_)
            go_simp
            refine hK.out _ _ (fun _ => trivial) ?_
            clear hK K
            try simp only [Act.put, List.setIfInBounds_toArray, List.set_cons_zero, List.set_cons_succ]
            refine wpAnyM_done (by kernel_rfl) ?_ _
            go_wp2_with fail
            go_meet
            exact ⟨rfl, HEND.out.1, HEND.out.2⟩
        case rest =>
          obtain ⟨rfl, HY6, HB6⟩ := hcut
          clear HTR HN5 HN6 hqe HND0 N1 N5 w5' b1 t1 t2 t3 l1
          generalize wc = w6 at *
          have hpg : p < g := by have := HR5.out.lt; omega
          have hpg1 : p + 1 < g := by have := HX5.out.lt; omega
          have HPG := hid hpg
          have HPG1 := hid hpg1
          have hgw : g < w6.heap.size := HY6.out.lt
          have HR6 := hid (HR5.out.on HB6.out hpg)
          have HPB6 := hid (HB5.out.trans (HB6.out.mono (Nat.le_of_lt hpg)))
          clear hpg hpg1
          have HONZ : Hid ((#[.int .i64 0, .int .i64 0, .slice none 0 0] : Array Value).all (·.oneCell') = true) := by show _ = _; simp [Value.oneCell']
          have HBADQ : Hid (badQ T → ∀ b0, bkE b0 = 0 → pageB b0 ≠ s.data.toList) := fun hb b0 h0 e => by
            have h1 := bad_page (BkOk.of h0) e.symm hj5 (by rw [HT.out]; exact HNZ.out)
            rw [HT.out] at h1
            exact h1 hb
          by_cases h4 : 4 < num T 0 4
          · have h4i : (4 : Int) < ((num T 0 4 : Nat) : Int) := by omega
            have HNO := hid (HBADQ.out (.inl h4))
            clear h4
            go_wp2_with (refine wpList_st 42 rfl (.tmp 2) (.tmp 54) rfl p _ #[.int .i64 0, .int .i64 0, .slice none 0 0] rfl rfl HR6.out info42 rfl HONZ.out ?_; intro w7 hb7 hk7)
            have HB7 := hid (HPB6.out.trans (hk7.below (fun j hj => by rw [hj]; exact Nat.le_refl _) (Nat.le_of_lt HR6.out.lt)))
            refine bodyPost_ret (v := .tuple #[.agg #[.int .i64 0, .int .i64 0, .slice none 0 0], .int .i64 3]) ?_ rfl (HZERO.out _ HNO.out HB7.out)
            rw [results_cell_tmp rfl]
            have hrun := run_loadVar_row (P := Try.prog) w7 p 42 42 _ (0, 0) _ hb7 Try.underlying42 rfl info42
            simp [asAddr, hrun, Result.andThen]
          have h4i : ¬ (4 : Int) < ((num T 0 4 : Nat) : Int) := by omega
          have hc4 : num T 0 4 ≤ 4 := by omega
          have wc4 : IntKind.i64.wrap ((num T 0 4 : Nat) : Int) = ((num T 0 4 : Nat) : Int) := by rw [IntKind.wrap_i64]; omega
          clear HR6 HPB6 h4
          go_wp2_with fail
          have HK6 : Hid (RowK w6 (g + 1) (.slice none 0 0) (kidQ T 0)) := RowK.nil _ _
          go_loopw [8] (fun y wr => ∃ (m : Nat) (ka : Option Addr) (kc : Nat), m ≤ num T 0 4 ∧ y = .int .i64 (m : Nat) ∧ Hid (Blk wr g (cellsN (ndP T m) (.slice ka m kc)) 57) ∧ Hid (RowK wr (g + 1) (.slice ka m kc) (kidQ T m)) ∧ Hid (Below g w5 wr)) (fun y _ => 4 - (intOf y).toNat)
          case atStart => exact ⟨0, none, 0, Nat.zero_le _, rfl, HY6, HK6, HB6⟩
          case round =>
            obtain ⟨m, ka, kc, hm, rfl, HY, HK, HBg⟩ := hrel
            clear HY6 HK6 HB6
            by_cases hmc : m < num T 0 4
            · have hmi : (m : Int) < ((num T 0 4 : Nat) : Int) := by omega
              have k1 : IntKind.i64.wrap (6 * (m : Int)) = 6 * (m : Int) := by rw [IntKind.wrap_i64]; omega
              have k2 : IntKind.i64.wrap (23 + 6 * (m : Int)) = 23 + 6 * (m : Int) := by rw [IntKind.wrap_i64]; omega
              have HNm : Hid (∀ w1, _) := fun w1 => HNK.out m w1 (by omega)
              have HKS := hid (kidQ_snoc T m)
              have HKL := hid (kidQ_len T m)
              have hm3 : m ≤ 1000 := by omega
              have hm4 : m ≤ 3 := by omega
              have HMC := hid hmc
              clear hmc
              obtain ⟨n, hn⟩ : ∃ n, num T 0 (7 + m) = n := ⟨_, rfl⟩
              rw [hn] at HNm HKS
              clear hn
              go_wp2_with fail
              refine wp_region_d (fun w' => w'.cell? ⟨g, 2, none⟩ = some (.slice ka m kc)) (fun i => i != 10) (by kernel_rfl) ?_
              have hdr := (Below.refl wr.heap.size wr).drew
              have HY9 := hid (HY.out.on hdr HY.out.lt)
              have HK9 := hid (HK.out.on hdr)
              have HB9 := hid HBg.out.drew
              clear HY HK HBg hdr
              generalize wr.drew = w9 at *
              have hS : w9.cell? ⟨g, 2, none⟩ = some (.slice ka m kc) := HY9.out.cell (i := 2) rfl
              refine wpAnyM_pick (i := 0) (some 62) (v := ?vz23) rfl rfl (by kernel_rfl) (by kernel_rfl) (by kernel_rfl) (by kernel_rfl) (fun _ _ _ h => h) (Or.inl ⟨by rfl, ?hz23⟩) hS ?rz23
              case hz23 => intro w hSw; (first | obtain ⟨hs1, hs2, hs3, hs4, hs5, hs6, hs7, hs8, hs9, hs10, hs11, hs12⟩ := hSw | obtain ⟨hs1, hs2, hs3, hs4, hs5, hs6, hs7, hs8⟩ := hSw | obtain ⟨hs1, hs2, hs3, hs4, hs5, hs6⟩ := hSw | obtain ⟨hs1, hs2, hs3⟩ := hSw | obtain ⟨hs1, hs2⟩ := hSw | skip); go_simp; try with_reducible rfl
              try simp only [Act.put, List.setIfInBounds_toArray, List.set_cons_zero, List.set_cons_succ]
              refine wpAnyM_pick (i := 1) (some 63) (v := ?vz24) rfl rfl (by kernel_rfl) (by kernel_rfl) (by kernel_rfl) (by kernel_rfl) (fun _ _ _ h => h) (Or.inl ⟨by rfl, ?hz24⟩) hS ?rz24
              case hz24 => intro w hSw; (first | obtain ⟨hs1, hs2, hs3, hs4, hs5, hs6, hs7, hs8, hs9, hs10, hs11, hs12⟩ := hSw | obtain ⟨hs1, hs2, hs3, hs4, hs5, hs6, hs7, hs8⟩ := hSw | obtain ⟨hs1, hs2, hs3, hs4, hs5, hs6⟩ := hSw | obtain ⟨hs1, hs2, hs3⟩ := hSw | obtain ⟨hs1, hs2⟩ := hSw | skip); go_simp; try with_reducible rfl
              try simp only [Act.put, List.setIfInBounds_toArray, List.set_cons_zero, List.set_cons_succ]
              refine wpAnyM_pick (i := 2) (some 64) (v := ?vz25) rfl rfl (by kernel_rfl) (by kernel_rfl) (by kernel_rfl) (by kernel_rfl) (fun _ _ _ h => h) (Or.inl ⟨by rfl, ?hz25⟩) hS ?rz25
              case hz25 => intro w hSw; (first | obtain ⟨hs1, hs2, hs3, hs4, hs5, hs6, hs7, hs8, hs9, hs10, hs11, hs12⟩ := hSw | obtain ⟨hs1, hs2, hs3, hs4, hs5, hs6, hs7, hs8⟩ := hSw | obtain ⟨hs1, hs2, hs3, hs4, hs5, hs6⟩ := hSw | obtain ⟨hs1, hs2, hs3⟩ := hSw | obtain ⟨hs1, hs2⟩ := hSw | skip); go_simp; try with_reducible rfl
              try simp only [Act.put, List.setIfInBounds_toArray, List.set_cons_zero, List.set_cons_succ]
              refine wpAnyM_pick (i := 3) (some 65) (v := ?vz26) rfl rfl (by kernel_rfl) (by kernel_rfl) (by kernel_rfl) (by kernel_rfl) (fun _ _ _ h => h) (Or.inl ⟨by rfl, ?hz26⟩) hS ?rz26
              case hz26 => intro w hSw; (first | obtain ⟨hs1, hs2, hs3, hs4, hs5, hs6, hs7, hs8, hs9, hs10, hs11, hs12⟩ := hSw | obtain ⟨hs1, hs2, hs3, hs4, hs5, hs6, hs7, hs8⟩ := hSw | obtain ⟨hs1, hs2, hs3, hs4, hs5, hs6⟩ := hSw | obtain ⟨hs1, hs2, hs3⟩ := hSw | obtain ⟨hs1, hs2⟩ := hSw | skip); go_simp; try with_reducible rfl
              try simp only [Act.put, List.setIfInBounds_toArray, List.set_cons_zero, List.set_cons_succ]
              refine wpAnyM_pick (i := 4) (some 66) (v := ?vz27) rfl rfl (by kernel_rfl) (by kernel_rfl) (by kernel_rfl) (by kernel_rfl) (fun _ _ _ h => h) (Or.inl ⟨by rfl, ?hz27⟩) hS ?rz27
              case hz27 => intro w hSw; (first | obtain ⟨hs1, hs2, hs3, hs4, hs5, hs6, hs7, hs8, hs9, hs10, hs11, hs12⟩ := hSw | obtain ⟨hs1, hs2, hs3, hs4, hs5, hs6, hs7, hs8⟩ := hSw | obtain ⟨hs1, hs2, hs3, hs4, hs5, hs6⟩ := hSw | obtain ⟨hs1, hs2, hs3⟩ := hSw | obtain ⟨hs1, hs2⟩ := hSw | skip); go_simp; try with_reducible rfl
              try simp only [Act.put, List.setIfInBounds_toArray, List.set_cons_zero, List.set_cons_succ]
              refine wpAnyM_pick (i := 5) (some 67) (v := ?vz28) rfl rfl (by kernel_rfl) (by kernel_rfl) (by kernel_rfl) (by kernel_rfl) (fun _ _ _ h => h) (Or.inl ⟨by rfl, ?hz28⟩) hS ?rz28
              case hz28 => intro w hSw; (first | obtain ⟨hs1, hs2, hs3, hs4, hs5, hs6, hs7, hs8, hs9, hs10, hs11, hs12⟩ := hSw | obtain ⟨hs1, hs2, hs3, hs4, hs5, hs6, hs7, hs8⟩ := hSw | obtain ⟨hs1, hs2, hs3, hs4, hs5, hs6⟩ := hSw | obtain ⟨hs1, hs2, hs3⟩ := hSw | obtain ⟨hs1, hs2⟩ := hSw | skip); go_simp; try with_reducible rfl
              try simp only [Act.put, List.setIfInBounds_toArray, List.set_cons_zero, List.set_cons_succ]
              refine wpAnyM_one (i := 6) (by kernel_rfl) rfl (fun K hK => ?_)
              go_simp
              go_at_call 36
              refine (HNm.out _).mono ?_
              clear HNm
              rintro e w10 ⟨rfl, rfl⟩
              go_wp2_with fail
              refine hK.out _ _ (fun _ => hS) ?_
              clear hK K
              try simp only [Act.put, List.setIfInBounds_toArray, List.set_cons_zero, List.set_cons_succ]
              refine wpAnyM_one (i := 7) (by kernel_rfl) rfl (fun K hK => ?_)
              go_simp
              have HAL := hid ((Below.refl w9.heap.size w9).alloc (Nat.le_refl _) (.cells #[.int .u64 (n : Nat)] 33))
              have HCB := hid (Blk.made w9 #[.int .u64 (n : Nat)] 33)
              have HY11 := hid (HY9.out.on HAL.out HY9.out.lt)
              have HK11 := hid (HK9.out.on HAL.out)
              have HB11 := hid (HB9.out.trans (HAL.out.mono (Nat.le_of_lt HY9.out.lt)))
              obtain ⟨sq, hsq⟩ : ∃ sq, w9.heap.size = sq := ⟨_, rfl⟩
              rw [hsq] at HCB
              try rw [hsq]
              generalize w9.alloc (.cells #[.int .u64 (n : Nat)] 33) = w11 at *
              clear HAL HY9 HK9 HB9 hS hsq
              have hS : w11.cell? ⟨g, 2, none⟩ = some (.slice ka m kc) := HY11.out.cell (i := 2) rfl
              refine hK.out _ _ (fun _ => hS) ?_
              clear hK K
              try simp only [Act.put, List.setIfInBounds_toArray, List.set_cons_zero, List.set_cons_succ]
              refine wpAnyM_one (i := 8) (by kernel_rfl) rfl (fun K hK => ?_)
              refine wp_kid w11 (.tmp 63) (.tmp 69) rfl (g + 1) (.slice ka m kc) (kidQ T m) m HKL.out rfl HK11.out HY11.out.lt sq n rfl (HCB.out.cell (i := 0) rfl) hm3 ?_
              intro va2 vc2 w12 hr12 hg12
              have hk12 : Keep (fun j' => (Value.slice ka m kc).ownBlock = some j') w11 w12 := Keep.grown hg12 (fun k hk => hk)
              have HY12 := hid (hk12.blk HY11.out (fun h => Blk.ne HY11.out HK11.out (by decide) h rfl))
              have HB12 := hid (HB11.out.trans (hk12.below (fun j' hj' => Nat.le_trans (Nat.le_succ g) (World.ownsRow.lt HK11.out j' hj').1) (Nat.le_of_lt HY11.out.lt)))
              have HR12 := hid hr12
              clear hr12 hg12 hk12 HY11 HK11 HB11 HCB hS
              have hS : w12.cell? ⟨g, 2, none⟩ = some (.slice ka m kc) := HY12.out.cell (i := 2) rfl
              refine hK.out _ _ (fun _ => hS) ?_
              clear hK K
              try simp only [Act.put, List.setIfInBounds_toArray, List.set_cons_zero, List.set_cons_succ]
              refine wpAnyM_pick (i := 9) (some 71) (v := ?vz29) rfl rfl (by kernel_rfl) (by kernel_rfl) (by kernel_rfl) (by kernel_rfl) (fun _ _ _ h => h) (Or.inl ⟨by rfl, ?hz29⟩) hS ?rz29
              case hz29 => intro w hSw; (first | obtain ⟨hs1, hs2, hs3, hs4, hs5, hs6, hs7, hs8, hs9, hs10, hs11, hs12⟩ := hSw | obtain ⟨hs1, hs2, hs3, hs4, hs5, hs6, hs7, hs8⟩ := hSw | obtain ⟨hs1, hs2, hs3, hs4, hs5, hs6⟩ := hSw | obtain ⟨hs1, hs2, hs3⟩ := hSw | obtain ⟨hs1, hs2⟩ := hSw | skip); go_simp; try with_reducible rfl
              try simp only [Act.put, List.setIfInBounds_toArray, List.set_cons_zero, List.set_cons_succ]
              have hf2 := HY12.out.free 2
              have hk13 := Keep.set (S := fun j' => j' = g) w12 rfl 2 (.slice va2 (m + 1) vc2)
              have HY13 : Hid (Blk (w12.setCell ⟨g, 2, none⟩ (.slice va2 (m + 1) vc2)) g (cellsN (ndP T (m + 1)) (.slice va2 (m + 1) vc2)) 57) := HY12.out.set 2 _
              have HR13 : Hid (RowK (w12.setCell ⟨g, 2, none⟩ (.slice va2 (m + 1) vc2)) (g + 1) (.slice va2 (m + 1) vc2) (kidQ T (m + 1))) := by
                have h := HR12.out
                rw [← HKS.out] at h
                exact hk13.row h (fun g' hg' e => Blk.ne HY12.out h (by decide) hg' e)
              have HB13 := hid (HB12.out.trans (hk13.below (fun j' hj' => by rw [hj']; exact Nat.le_refl _) (Nat.le_of_lt HY12.out.lt)))
              refine wpAnyM_one (i := 10) (by kernel_rfl) rfl (fun K hK => ?_)
              go_simp
              refine hK.out _ _ (fun h => absurd h (by decide)) ?_
              clear hK K
              generalize w12.setCell ⟨g, 2, none⟩ (.slice va2 (m + 1) vc2) = w13 at *
              refine wpAnyM_done (by kernel_rfl) ?_ _
              clear hS hf2 hk13 HY12 HR12 HB12
              go_wp2_with fail
              go_roundw
              case rel => exact ⟨m + 1, va2, vc2, by have := HMC.out; omega, by go_num, HY13, HR13, HB13⟩
              case measure => simp [intOf]; omega
            · have hmi : ¬ (m : Int) < ((num T 0 4 : Nat) : Int) := by omega
              obtain rfl : m = num T 0 4 := by omega
              clear hmi hm
              have HCL : Hid ((kidQ T (num T 0 4)).length = num T 0 4) := kidQ_len T _
              have HKU : Hid (U64 (kidQ T (num T 0 4))) := kidQ_u hTz hc4
              have HHA : Hid (∀ w1 v, RowK w1 (g + 1) v (kidQ T (num T 0 4)) → Calls Try.prog 12 #[.string (nameQ T), v] w1 fun e w' => e = .returned (.tuple #[.int .u32 (hs (nameQ T) (kidQ T (num T 0 4)) : Nat), .int .i64 (ctE (nameQ T).data.toList (kidQ T (num T 0 4)) : Nat)]) ∧ Below w1.heap.size w1 w') := fun w1 v h => by
                refine rHashN_any (nameQ T) v (kidQ T (num T 0 4)) w1 ?_ (h.lies HKU.out)
                have h1 := trimOf_le (T.extract 4 12)
                have h3 : (T.extract 4 12).size ≤ 8 := by rw [ByteArray.size_extract]; omega
                unfold nameQ maxLen
                omega
              have HBDE : Hid (ctE (nameQ T).data.toList (kidQ T (num T 0 4)) ≠ 0 → badQ T) := fun h => .inr h
              have HGO : Hid (ctE (nameQ T).data.toList (kidQ T (num T 0 4)) = 0 → ¬ badQ T) := fun h hb => by
                rcases hb with h' | h'
                · omega
                · exact h' h
              have HNQ : Hid (∀ v, cellsN (ndQ T) v = #[.int .u64 ((hs (nameQ T) (kidQ T (num T 0 4)) * 65536 + num T 0 2 : Nat) : Int), .string (nameQ T), v, .int .i64 (num T 0 5 : Nat), .bool qb, .int .u64 (num T 0 6 : Nat)]) := fun v => by rw [← HQB.out]; rfl
              have HNP : Hid (cellsN (ndP T (num T 0 4)) (.slice ka (num T 0 4) kc) = #[.int .u64 0, .string (nameQ T), .slice ka (num T 0 4) kc, .int .i64 (num T 0 5 : Nat), .bool qb, .int .u64 (num T 0 6 : Nat)]) := by rw [← HQB.out]; show _ = _; rfl
              have HKD : Hid ((ndQ T).kids = kidQ T (num T 0 4)) := rfl
              have hsl := hs_lt (nameQ T) (kidQ T (num T 0 4))
              have hn2 : num T 0 2 < 65536 := num_lt' hTz (i := 2) (by decide)
              obtain ⟨h, hh⟩ : ∃ h, hs (nameQ T) (kidQ T (num T 0 4)) = h := ⟨_, rfl⟩
              obtain ⟨f, hf⟩ : ∃ f, ctE (nameQ T).data.toList (kidQ T (num T 0 4)) = f := ⟨_, rfl⟩
              obtain ⟨N2, hN2⟩ : ∃ N2, num T 0 2 = N2 := ⟨_, rfl⟩
              rw [hh] at HHA HNQ hsl
              rw [hf] at HHA HBDE HGO
              rw [hN2] at HNQ HN2 hn2
              clear hh hf hN2
              generalize num T 0 5 = C5 at *
              generalize num T 0 6 = C6 at *
              generalize nameQ T = nm at *
              obtain ⟨c, hc⟩ : ∃ c, num T 0 4 = c := ⟨_, rfl⟩
              rw [hc] at HY HK HCL HHA HNP HKD b12 wc4 hc4 h4i ⊢
              have hmi : ¬ (c : Int) < (c : Int) := by omega
              clear hc
              have y0 := HY.out
              rw [HNP.out] at y0
              have HY' := hid y0
              have d1 := y0.cell (i := 1) rfl
              have d2 := y0.cell (i := 2) rfl
              clear y0
              go_upto_region 17 with (go_at_call 12; refine (HHA.out _ _ HK.out).mono ?_; clear HHA; rintro e w7 ⟨rfl, hb7⟩)
              have HR7 := hid (HR5.out.on (HBg.out.trans (hb7.mono (Nat.le_of_lt HY.out.lt))) HPG.out)
              have HX7 := hid (HX5.out.on (HBg.out.trans (hb7.mono (Nat.le_of_lt HY.out.lt))) HPG1.out)
              have HO7 : Hid (OwnN w7 p (.slice va j vc) M) := HO5.out.on (by rw [hg]; exact HBg.out.trans (hb7.mono (Nat.le_of_lt HY.out.lt)))
              have HB7 := hid (HB5.out.trans ((HBg.out.trans (hb7.mono (Nat.le_of_lt HY.out.lt))).mono (Nat.le_of_lt HPG.out)))
              have HY7 := hid (HY'.out.on hb7 HY'.out.lt)
              have HK7 := hid (HK.out.on hb7)
              have HBB7 := hid (HBg.out.trans (hb7.mono (Nat.le_of_lt HY.out.lt)))
              clear HY HY' HK HBg hb7 d1 d2 b12 wc4 h4i t4 l12 hmi
              by_cases hf0 : ¬ f = 0
              · have hf0i : ¬ ((f : Nat) : Int) = 0 := by omega
                have HNO := hid (HBADQ.out (HBDE.out hf0))
                go_wp2_with (refine wpList_st 42 rfl (.tmp 2) (.tmp 82) rfl p _ #[.int .i64 0, .int .i64 0, .slice none 0 0] rfl rfl HR7.out info42 rfl HONZ.out ?_; intro w8 hb8 hk8)
                have HB8 := hid (HB7.out.trans (hk8.below (fun j hj => by rw [hj]; exact Nat.le_refl _) (Nat.le_of_lt HR7.out.lt)))
                refine bodyPost_ret (v := .tuple #[.agg #[.int .i64 0, .int .i64 0, .slice none 0 0], .int .i64 3]) ?_ rfl (HZERO.out _ HNO.out HB8.out)
                rw [results_cell_tmp rfl]
                have hrun := run_loadVar_row (P := Try.prog) w8 p 42 42 _ (0, 0) _ hb8 Try.underlying42 rfl info42
                simp [asAddr, hrun, Result.andThen]
              have hf0 : f = 0 := by omega
              have HGD := hid (HGO.out hf0)
              subst hf0
              have g1 : IntKind.u64.wrap ((h : Nat) : Int) = ((h : Nat) : Int) := by rw [IntKind.wrap_u64]; omega
              have g2 : IntKind.u64.wrap (((h : Nat) : Int) * 65536) = ((h : Nat) : Int) * 65536 := by rw [IntKind.wrap_u64]; omega
              have g3 : IntKind.u64.wrap (((h : Nat) : Int) * 65536 + ((N2 : Nat) : Int)) = ((h : Nat) : Int) * 65536 + ((N2 : Nat) : Int) := by rw [IntKind.wrap_u64]; omega
              have hf0i : ((0 : Nat) : Int) = 0 := rfl
              have e0 := HY7.out.cell (i := 0) rfl
              have ef := HY7.out.free 0
              clear hsl hn2 hf0i
              go_upto_region 20 with (go_at_call 36; refine (HN2.out _).mono ?_; clear HN2; rintro e w8 ⟨rfl, rfl⟩)
              have hk8 := Keep.set (S := fun j' => j' = g) w7 rfl 0 (.int .u64 ((h : Int) * 65536 + (N2 : Int)))
              have HBB8 := hid (HBB7.out.trans (hk8.below (fun j' hj' => by rw [hj']; exact Nat.le_refl _) (Nat.le_of_lt HY7.out.lt)))
              have HY8 : Hid (Blk (w7.setCell ⟨g, 0, none⟩ (.int .u64 ((h : Int) * 65536 + (N2 : Int)))) g #[.int .u64 ((h : Int) * 65536 + (N2 : Int)), .string nm, .slice ka c kc, .int .i64 (C5 : Nat), .bool qb, .int .u64 (C6 : Nat)] 57) := HY7.out.set 0 _
              have HK8 : Hid (RowK (w7.setCell ⟨g, 0, none⟩ (.int .u64 ((h : Int) * 65536 + (N2 : Int)))) (g + 1) (.slice ka c kc) (kidQ T c)) := hk8.row HK7.out (fun g' hg' e => Blk.ne HY7.out HK7.out (by decide) hg' e)
              generalize w7.setCell ⟨g, 0, none⟩ (.int .u64 ((h : Int) * 65536 + (N2 : Int))) = w8 at *
              clear hk8 e0 ef HR7 HX7 HO7 HB7 HY7 HK7 HBB7 g1 g2 g3 HBADQ HBDE HGO HZERO HGOOD HCL HKU HNP
              have hcast : ((h * 65536 + N2 : Nat) : Int) = (h : Int) * 65536 + (N2 : Int) := by omega
              have HNQ' : Hid (cellsN (ndQ T) (.slice ka c kc) = #[.int .u64 ((h : Int) * 65536 + (N2 : Int)), .string nm, .slice ka c kc, .int .i64 (C5 : Nat), .bool qb, .int .u64 (C6 : Nat)]) := by rw [← hcast]; exact HNQ.out _
              clear hcast HNQ
              obtain ⟨nq, hnq⟩ : ∃ nq, ndQ T = nq := ⟨_, rfl⟩
              have HNE := hid hnq
              rw [hnq] at HNQ' HKD
              clear hnq
              obtain ⟨sq, hsq⟩ : ∃ sq, w8.heap.size = sq := ⟨_, rfl⟩
              have HX8 := hid (HX5.out.on HBB8.out HPG1.out)
              have HR8 := hid (HR5.out.on HBB8.out HPG.out)
              have HO8 : Hid (OwnN w8 p (.slice va j vc) M) := HO5.out.on (by rw [hg]; exact HBB8.out)
              have HB8 := hid (HB5.out.trans (HBB8.out.mono (Nat.le_of_lt HPG.out)))
              have hp8 : p ≤ w8.heap.size := Nat.le_of_lt HR8.out.lt
              have HAL := hid ((Below.refl w8.heap.size w8).alloc (Nat.le_refl _) (.cells #[.int .u64 ((h : Int) * 65536 + (N2 : Int)), .string nm, .slice ka c kc, .int .i64 (C5 : Nat), .bool qb, .int .u64 (C6 : Nat)] 57))
              have HCB : Hid (Blk (w8.alloc (.cells #[.int .u64 ((h : Int) * 65536 + (N2 : Int)), .string nm, .slice ka c kc, .int .i64 (C5 : Nat), .bool qb, .int .u64 (C6 : Nat)] 57)) sq (cellsN nq (.slice ka c kc)) 57) := by
                rw [HNQ'.out, ← hsq]
                exact Blk.made w8 _ 57
              have HX9 := hid (HX8.out.on HAL.out HX8.out.lt)
              have HR9 := hid (HR8.out.on HAL.out HR8.out.lt)
              have HO9 := hid (HO8.out.on HAL.out)
              have HK9 : Hid (RowK _ p (.slice ka c kc) (kidQ T c)) := own_base (HK8.out.on HAL.out) (Nat.le_of_lt (Nat.lt_succ_of_lt HPG.out))
              have HB9 := hid (HB8.out.trans (HAL.out.mono hp8))
              have HS9 := hid (Nat.le_trans hp8 HAL.out.size)
              have HAPP : Hid (∀ (va2 : Option Addr) (vc2 : Nat) (w10 : World), w10.ownsRow p 57 6 (.slice va2 (j + 1) vc2) (j + 1) (flatN (M ++ [(nq, .slice ka c kc)])) → (w8.alloc (.cells #[.int .u64 ((h : Int) * 65536 + (N2 : Int)), .string nm, .slice ka c kc, .int .i64 (C5 : Nat), .bool qb, .int .u64 (C6 : Nat)] 57)).grownBy w10 (Value.slice va j vc).ownBlock → Blk w10 (p + 1) #[.int .i64 (D : Nat), .int .i64 (E : Nat), .slice va j vc] 42 ∧ Blk (w10.setCell ⟨p + 1, 2, none⟩ (.slice va2 (j + 1) vc2)) (p + 1) #[.int .i64 (D : Nat), .int .i64 (E : Nat), .slice va2 (j + 1) vc2] 42 ∧ Blk (w10.setCell ⟨p + 1, 2, none⟩ (.slice va2 (j + 1) vc2)) p #[.int .i64 0, .int .i64 0, .slice none 0 0] 42 ∧ OwnN (w10.setCell ⟨p + 1, 2, none⟩ (.slice va2 (j + 1) vc2)) p (.slice va2 (j + 1) vc2) (M ++ [(nq, .slice ka c kc)]) ∧ Below p w (w10.setCell ⟨p + 1, 2, none⟩ (.slice va2 (j + 1) vc2))) := by
                intro va2 vc2 w10 hr10 hg10
                have hnb : ∀ q, (Value.slice va j vc).ownBlock = some q → q ≠ p + 1 ∧ q ≠ p ∧ p ≤ q := fun q hq => ⟨Blk.ne HX9.out HO9.out.row (by decide) hq, Blk.ne HR9.out HO9.out.row (by decide) hq, (World.ownsRow.lt HO9.out.row q hq).1⟩
                have hk10 : Keep (fun j' => (Value.slice va j vc).ownBlock = some j') _ w10 := Keep.grown hg10 (fun k hk => hk)
                have hx10 := hk10.blk HX9.out (fun h => (hnb _ h).1 rfl)
                have hr0 := hk10.blk HR9.out (fun h => (hnb _ h).2.1 rfl)
                have ho10 : OwnN w10 p (.slice va2 (j + 1) vc2) (M ++ [(nq, .slice ka c kc)]) := by
                  refine ⟨by rw [List.length_append, HML.out]; exact hr10, fun y hy => ?_⟩
                  rcases List.mem_append.1 hy with h | h
                  · exact hk10.row (HO9.out.kids y h) (fun q hq e => rows_ne (HO9.out.kids y h) HO9.out.row (by decide) hq e)
                  · simp at h
                    subst h
                    have h9 : RowK w10 p (.slice ka c kc) (kidQ T c) := hk10.row HK9.out (fun q hq e => rows_ne HK9.out HO9.out.row (by decide) hq e)
                    rw [← HKD.out] at h9
                    exact h9
                have hb10 := HB9.out.trans (hk10.below (fun j' hj' => (hnb _ hj').2.2) HS9.out)
                have hk13 := Keep.set (S := fun j' => j' = p + 1) w10 rfl 2 (.slice va2 (j + 1) vc2)
                exact ⟨hx10, hx10.set 2 _, hk13.blk hr0 (by omega), ho10.keep hx10 hk13, hb10.trans (hk13.below (fun j' hj' => by rw [hj']; omega) (Nat.le_of_lt hr0.lt))⟩
              have y0 := HY8.out.cell (i := 0) rfl
              have y1 := HY8.out.cell (i := 1) rfl
              have y2 := HY8.out.cell (i := 2) rfl
              have y3 := HY8.out.cell (i := 3) rfl
              have y4 := HY8.out.cell (i := 4) rfl
              have y5 := HY8.out.cell (i := 5) rfl
              have x2 := HX8.out.cell (i := 2) rfl
              have HROW := hid HO9.out.row
              have j4 : IntKind.i64.wrap ((j : Int) + 1) = ((j + 1 : Nat) : Int) := by rw [IntKind.wrap_i64]; omega
              clear HX9 HR9 HO9 HK9 HB9 HX8 HR8 HO8 HB8 HK8 HY8 HBB8 HAL HO5 HX5 HR5 HB5
              go_wp2_with (at_builtin; refine wpList_nd _ rfl (.tmp 91) (.tmp 93) rfl p (.slice va j vc) M j HML.out rfl HROW.out HS9.out sq nq ka c kc rfl HCB.out (by omega) ?_; intro va2 vc2 w10 hr10 hg10; have hap := HAPP.out va2 vc2 w10 hr10 hg10; have HAP := hid hap; have e2 := hap.1.cell (i := 2) rfl; have f2 := hap.1.free 2; clear hap hr10 hg10)
              have HUS : Hid (∀ k, k < j + 1 → slQ s k ≠ Z48 ∧ ¬ badQ (slQ s k)) := fun k hk => by
                rcases Nat.lt_or_ge k j with h | h
                · exact HU.out k h
                · obtain rfl : k = j := by omega
                  rw [HT.out]
                  exact ⟨HNZ.out, HGD.out⟩
              have HMS : Hid ((M ++ [(nq, Value.slice ka c kc)]).map (·.1) = (List.range (j + 1)).map fun k => ndQ (slQ s k)) := by
                show _ = _
                rw [List.range_succ, List.map_append, List.map_append, HMM.out]
                show _ ++ [nq] = _ ++ [ndQ (slQ s j)]
                rw [HT.out, HNE.out]
              refine ⟨⟨j + 1, va2, vc2, M ++ [(nq, Value.slice ka c kc)], by omega, by go_num, ?_, HUS, HMS, HAP.out.2.2.2.1, HAP.out.2.1, HAP.out.2.2.1, HAP.out.2.2.2.2⟩, by simp [intOf]; omega⟩
              show _ = _
              rw [List.length_append, HML.out]
              rfl
    case rest =>
      obtain ⟨j, va, vc, M, HRQ, HBQ, HMM, HO, HX, HR, HB⟩ := hcut
      clear HX3 HR3 HB3
      generalize wc = w4 at *
      have hj5 := HRQ.out.j5
      have hMl : M.length = j := by have := congrArg List.length HMM.out; simpa using this
      have HFN : Hid (∀ y ∈ M, U64 y.1.kids ∧ y.1.at' < 18446744073709551616 ∧ y.1.next < 18446744073709551616 ∧ y.1.name.size ≤ 140737488351232 ∧ -9223372036854775808 ≤ y.1.count ∧ y.1.count ≤ 9223372036854775807) := fun y hy => by
        have h1 : y.1 ∈ M.map (·.1) := List.mem_map.2 ⟨y, hy, rfl⟩
        rw [HMM.out] at h1
        obtain ⟨k, hk, he⟩ := List.mem_map.1 h1
        have hk := List.mem_range.1 hk
        rw [← he]
        refine ndQ_fine (slQ_size (by omega)) ?_
        have := HBQ.out k hk
        unfold badQ at this
        omega
      have HRP : Hid (∀ b0, bkE b0 = 0 → pageB b0 = s.data.toList → (⟨(D : Nat), (E : Nat), (List.range j).map fun k => ndQ (slQ s k)⟩ : Bk) = b0) := fun b0 h0 hp => rdQ_page (BkOk.of h0) hp.symm HRQ.out
      have hnl : ((List.range j).map fun k => ndQ (slQ s k)).length = j := by simp
      generalize (List.range j).map (fun k => ndQ (slQ s k)) = N at *
      obtain ⟨b, hb⟩ : ∃ b : Bk, (⟨(D : Nat), (E : Nat), N⟩ : Bk) = b := ⟨_, rfl⟩
      have hbd : b.depth = (D : Nat) := by rw [← hb]
      have hbn : b.next = (E : Nat) := by rw [← hb]
      have hbN : b.nodes = N := by rw [← hb]
      have HPK : Hid (∀ (w1 : World), Below w4.heap.size w4 w1 → Calls Try.prog 18 #[.agg #[.int .i64 (D : Nat), .int .i64 (E : Nat), .slice va j vc]] w1 fun e w' => e = .returned (.tuple #[.string (if bkE b = 0 then ⟨(pageB b).toArray⟩ else ⟨#[]⟩), .int .i64 (bkE b : Nat)]) ∧ Below w1.heap.size w1 w') := fun w1 h => by
        have := rPack_any b (.slice va j vc) w1 (by
          have h1 := (HO.out.on h).lies HFN.out
          rw [HMM.out] at h1
          rw [hbN]
          exact h1)
        rw [hbd, hbn] at this
        exact this
      rw [hb] at HRP
      have HGD : Hid (∀ (w' : World), bkE b = 0 → (⟨(pageB b).toArray⟩ : ByteArray) = s → OwnN w' p (.slice va j vc) M → Below p w w' → Ask Q (.returned (.tuple #[.agg #[.int .i64 (D : Nat), .int .i64 (E : Nat), .slice va j vc], .int .i64 0])) w') := fun w' h1 h2 h3 h4 => by
        have hjl : j = b.nodes.length := by rw [hbN, hnl]
        subst hjl
        have := HGOOD.out w' b va vc M h1 h2 (by rw [hbN]; exact HMM.out) h3 (h3.liesOk (by rw [hbN]; exact HMM.out) h1) h4
        rw [hbd, hbn] at this
        exact this
      have c0 := HX.out.cell (i := 0) rfl
      have c1 := HX.out.cell (i := 1) rfl
      have c2 := HX.out.cell (i := 2) rfl
      have HONE : Hid ((#[.int .i64 (D : Nat), .int .i64 (E : Nat), .slice va j vc] : Array Value).all (·.oneCell') = true) := by show _ = _; simp [Value.oneCell']
      have HONZ : Hid ((#[.int .i64 0, .int .i64 0, .slice none 0 0] : Array Value).all (·.oneCell') = true) := by show _ = _; simp [Value.oneCell']
      clear HRQ HBQ HMM HFN hb hbd hbn hbN hMl hnl hj5
      go_upto_region 22 with (go_at_call 18; refine (HPK.out _ (Below.refl _ _)).mono ?_; clear HPK; rintro e w5 ⟨rfl, hb5⟩)
      have HX5 := hid (HX.out.on hb5 HX.out.lt)
      have HR5 := hid (HR.out.on hb5 HR.out.lt)
      have HO5 := hid (HO.out.on hb5)
      have HB5 := hid (HB.out.trans (hb5.mono (Nat.le_of_lt HR.out.lt)))
      clear hb5 HX HR HO HB c0 c1 c2
      have c0 := HX5.out.cell (i := 0) rfl
      have c1 := HX5.out.cell (i := 1) rfl
      have c2 := HX5.out.cell (i := 2) rfl
      have HLP : Hid (p < w5.heap.size) := HR5.out.lt
      by_cases h0 : bkE b = 0
      · have h0i : ((bkE b : Nat) : Int) = 0 := by omega
        simp only [h0, if_true, h0i]
        by_cases hps : (⟨(pageB b).toArray⟩ : ByteArray) = s
        · have hss : (s.toList == s.toList) = true := by simp
          have hGD := hid (HGD.out)
          have H0 := hid h0
          have HPS := hid hps
          rw [hps]
          clear hps h0 h0i
          go_wp2_with (refine wpList_st 42 rfl (.tmp 2) (.tmp 109) rfl p _ #[.int .i64 (D : Nat), .int .i64 (E : Nat), .slice va j vc] rfl rfl HR5.out info42 rfl HONE.out ?_; intro w6 hb6 hk6)
          have HO6 := hid (HO5.out.keep HR5.out hk6)
          have HB6 := hid (HB5.out.trans (hk6.below (fun j hj => by rw [hj]; exact Nat.le_refl _) (Nat.le_of_lt HLP.out)))
          refine bodyPost_ret (v := .tuple #[.agg #[.int .i64 (D : Nat), .int .i64 (E : Nat), .slice va j vc], .int .i64 0]) ?_ rfl (HGD.out _ H0.out HPS.out HO6.out HB6.out)
          rw [results_cell_tmp rfl]
          have hrun := run_loadVar_row (P := Try.prog) w6 p 42 42 _ (0, 0) _ hb6 Try.underlying42 rfl info42
          simp [asAddr, hrun, Result.andThen]
        · have HNO : Hid (∀ b0, bkE b0 = 0 → pageB b0 ≠ s.data.toList) := fun b0 hb0 e => hps (by rw [HRP.out b0 hb0 e, e])
          have hss : ((⟨(pageB b).toArray⟩ : ByteArray).toList == s.toList) = false := by
            rw [beq_eq_false_iff_ne]
            intro h
            rw [Lib.toList_data, Lib.toList_data] at h
            exact hps (ByteArray.ext (Array.toList_inj.1 h))
          generalize (⟨(pageB b).toArray⟩ : ByteArray) = P at *
          clear hps h0 h0i HGD HRP
          go_wp2_with (refine wpList_st 42 rfl (.tmp 2) (.tmp 108) rfl p _ #[.int .i64 0, .int .i64 0, .slice none 0 0] rfl rfl HR5.out info42 rfl HONZ.out ?_; intro w6 hb6 hk6)
          have HB6 := hid (HB5.out.trans (hk6.below (fun j hj => by rw [hj]; exact Nat.le_refl _) (Nat.le_of_lt HLP.out)))
          refine bodyPost_ret (v := .tuple #[.agg #[.int .i64 0, .int .i64 0, .slice none 0 0], .int .i64 3]) ?_ rfl (HZERO.out _ HNO.out HB6.out)
          rw [results_cell_tmp rfl]
          have hrun := run_loadVar_row (P := Try.prog) w6 p 42 42 _ (0, 0) _ hb6 Try.underlying42 rfl info42
          simp [asAddr, hrun, Result.andThen]
      · have h0i : ¬ ((bkE b : Nat) : Int) = 0 := by omega
        have h0b : ((bkE b : Nat) : Int) != 0 := by rw [bne_iff_ne]; omega
        have HNO : Hid (∀ b0, bkE b0 = 0 → pageB b0 ≠ s.data.toList) := fun b0 hb0 e => h0 (by rw [HRP.out b0 hb0 e]; exact hb0)
        rw [if_neg h0]
        clear HRP HGD
        generalize bkE b = r at *
        go_wp2_with (refine wpList_st 42 rfl (.tmp 2) (.tmp 108) rfl p _ #[.int .i64 0, .int .i64 0, .slice none 0 0] rfl rfl HR5.out info42 rfl HONZ.out ?_; intro w6 hb6 hk6)
        have HB6 := hid (HB5.out.trans (hk6.below (fun j hj => by rw [hj]; exact Nat.le_refl _) (Nat.le_of_lt HLP.out)))
        refine bodyPost_ret (v := .tuple #[.agg #[.int .i64 0, .int .i64 0, .slice none 0 0], .int .i64 3]) ?_ rfl (HZERO.out _ HNO.out HB6.out)
        rw [results_cell_tmp rfl]
        have hrun := run_loadVar_row (P := Try.prog) w6 p 42 42 _ (0, 0) _ hb6 Try.underlying42 rfl info42
        simp [asAddr, hrun, Result.andThen]
end Go.Proofs.Ythohopbolalpcaa

