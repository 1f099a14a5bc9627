/-
  A bucket read out of its page, by the program.
-/
import Derived.Test.YthohopbolalpcaaSo
namespace Go.Proofs.Ythohopbolalpcaa
open Go.RowKit
set_option linter.unusedVariables false
set_option linter.unusedSimpArgs false
set_option maxRecDepth 100000

/-- nodes, each with its kids' list, as they stand in memory -/
def flatN (M : List (Nd × Value)) : List Value := M.flatMap fun y => (cellsN y.1 y.2).toList
theorem flatN_length (M : List (Nd × Value)) : (flatN M).length = M.length * 6 := by
  induction M with
  | nil => rfl
  | cons y M ih => simp only [flatN, List.flatMap_cons, List.length_append, List.length_cons] at ih ⊢; rw [ih]; show 6 + _ = _; omega
theorem flatN_append (M M' : List (Nd × Value)) : flatN (M ++ M') = flatN M ++ flatN M' := by simp [flatN]
theorem flatN_at : ∀ {M : List (Nd × Value)} {k : Nat} {y : Nd × Value}, M[k]? = some y → ∀ i u, (cellsN y.1 y.2)[i]? = some u → (flatN M)[k * 6 + i]? = some u
  | [], k, y, h, _, _, _ => by simp at h
  | z :: M, 0, y, h, i, u, hu => by
    simp at h
    subst h
    have hi : i < 6 := by have := (Array.getElem?_eq_some_iff.1 hu).1; simpa [cellsN] using this
    show ((cellsN z.1 z.2).toList ++ flatN M)[0 * 6 + i]? = _
    rw [List.getElem?_append_left (by show _ < 6; omega), Nat.zero_mul, Nat.zero_add]
    simpa using hu
  | z :: M, k + 1, y, h, i, u, hu => by
    have := flatN_at (M := M) (k := k) (y := y) (by simpa using h) i u hu
    show ((cellsN z.1 z.2).toList ++ flatN M)[(k + 1) * 6 + i]? = _
    rw [List.getElem?_append_right (by show 6 ≤ _; omega)]
    show (flatN M)[(k + 1) * 6 + i - 6]? = _
    rw [show (k + 1) * 6 + i - 6 = k * 6 + i by omega]
    exact this
/-- a row of nodes of the call's own, their kids' lists too -/
structure OwnN (w : World) (B : Nat) (v : Value) (M : List (Nd × Value)) : Prop where
  row : w.ownsRow B 57 6 v M.length (flatN M)
  kids : ∀ y ∈ M, RowK w B y.2 y.1.kids
theorem OwnN.on {w w' : World} {B : Nat} {v : Value} {M : List (Nd × Value)} (h : OwnN w B v M) (hb : Below w.heap.size w w') : OwnN w' B v M := ⟨own_below h.row hb, fun y hy => (h.kids y hy).on hb⟩
theorem OwnN.base {w : World} {B B' : Nat} {v : Value} {M : List (Nd × Value)} (h : OwnN w B v M) (hB : B' ≤ B) : OwnN w B' v M := ⟨own_base h.row hB, fun y hy => own_base (h.kids y hy) hB⟩
theorem OwnN.nil (w : World) (B : Nat) : OwnN w B (.slice none 0 0) [] := ⟨World.ownsRow_nil _ _ _ _, fun y hy => by cases hy⟩
theorem OwnN.lies {w : World} {B : Nat} {v : Value} {M : List (Nd × Value)} (h : OwnN w B v M) (hI : ∀ y ∈ M, U64 y.1.kids ∧ y.1.at' < 18446744073709551616 ∧ y.1.next < 18446744073709551616 ∧ y.1.name.size ≤ 140737488351232 ∧ -9223372036854775808 ≤ y.1.count ∧ y.1.count ≤ 9223372036854775807) : LiesN w v (M.map (·.1)) := by
  obtain ⟨a, cap, e1, h1, h2, hcc⟩ := own_cells h.row
  have hlm : (M.map (·.1)).length = M.length := by simp
  refine ⟨a, cap, by rw [hlm]; exact e1, by rw [hlm]; exact h1, h2, fun k x hk => ?_⟩
  rw [List.getElem?_map] at hk
  obtain ⟨y, hy, rfl⟩ := Option.map_eq_some_iff.1 hk
  have hm := List.mem_of_getElem? hy
  obtain ⟨u, q1, q2, q3, q4, q5⟩ := hI y hm
  obtain ⟨g, hg, _, hlt, _, _⟩ := hcc (k * 6 + 0) _ (flatN_at hy 0 _ rfl)
  refine ⟨g, 0, y.2, hg, hlt, fun i u hu => ?_, ⟨(h.kids y hm).lies u, q1, q2, q3, q4, q5⟩⟩
  obtain ⟨g', hg', _, _, c0, _⟩ := hcc (k * 6 + i) u (flatN_at hy i u hu)
  rw [hg] at hg'
  cases hg'
  rw [Nat.zero_add]
  exact c0
theorem OwnN.keep {w w' : World} {B k : Nat} {v : Value} {M : List (Nd × Value)} {cs : Array Value} (h : OwnN w B v M) (hb : Blk w k cs 42) (hk : Keep (fun j => j = k) w w') : OwnN w' B v M :=
  ⟨hk.row h.row (fun g hg e => Blk.ne hb h.row (by decide) hg e), fun y hy => hk.row (h.kids y hy) (fun g hg e => Blk.ne hb (h.kids y hy) (by decide) hg e)⟩
theorem infoN : (Try.prog.info? 57).map (fun i => (i.zero, i.size, i.bytes)) = some (some (.agg #[.int .u64 0, .string ⟨#[]⟩, .slice none 0 0, .int .i64 0, .bool false, .int .u64 0]), 6, 72) := by kernel_rfl
theorem info42 : (Try.prog.info? 42).map (·.size) = some 3 := by kernel_rfl
/-- append, of one node -/
theorem wp_nd {o : Oper} {a : Act} {K : Act → World → Prop} {Q : Exit → Act → World → Prop} (W : World) (s x : Operand)
    (ho : o.op = .call { callee := .builtin .append, args := #[s, x], argTypes := #[40, 40] }) (B : Nat) (v : Value) (M : List (Nd × Value)) (m : Nat) (hm : M.length = m) (hs : a.eval s = v) (hown : W.ownsRow B 57 6 v M.length (flatN M)) (hB : B ≤ W.heap.size)
    (ad : Nat) (y : Nd) (ka : Option Addr) (kn kc : Nat) (hx : a.eval x = .slice (some ⟨ad, 0, none⟩) 1 1) (c0 : Blk W ad (cellsN y (.slice ka kn kc)) 57) (hlen : m ≤ 1954687338267)
    (h : ∀ va vc w', w'.ownsRow B 57 6 (.slice va (m + 1) vc) (m + 1) (flatN (M ++ [(y, .slice ka kn kc)])) → W.grownBy w' v.ownBlock → K (a.put o.dst (.slice va (m + 1) vc)) w') : o.wp Try.prog a W K Q := by
  obtain ⟨i0, hi, hz0, hz1, hz2⟩ := info_parts infoN
  subst hm
  refine wp_append_blk W s x 40 ho B 57 i0 _ 6 72 Try.underlying40 hi hz0 hz1 hz2 rfl (by decide) v M.length (flatN M) hs hown ⟨ad, 0, none⟩ 1 1 (cellsN y (.slice ka kn kc)).toList hx rfl (by
    intro j u hj
    rw [add_zero_off]
    exact c0.cell (by simpa using hj)) (by intro u hu; simp [cellsN] at hu; rcases hu with rfl | rfl | rfl | rfl | rfl | rfl <;> rfl) (by decide) (by unfold maxLen; omega) (by omega) hB ?_
  intro v' w' hown' hgrow _
  obtain ⟨va, vc, hv'⟩ := own_form hown'
  subst hv'
  refine h va vc w' ?_ hgrow
  rw [flatN_append]
  simpa [flatN] using hown'

/-- what is read of a page: some first slots that are used -/
structure Rdd (s : ByteArray) (b : Bk) (j : Nat) : Prop where
  d : b.depth = (val (sub s 1 1) : Nat)
  n : b.next = (val (sub s 2 2) : Nat)
  j5 : j ≤ 5
  nodes : b.nodes = (List.range j).map fun k => ndR s (16 + 48 * k)
  used : ∀ k, k < j → s.data.toList.getD (16 + 48 * k) 0 = 1
  stop : j = 5 ∨ s.data.toList.getD (16 + 48 * j) 0 ≠ 1

/-- how read ends -/
def ReadP (s : ByteArray) (w : World) (e : Ending) (w' : World) : Prop := ∃ b j v M, e = .returned (.agg #[.int .i64 b.depth, .int .i64 b.next, v]) ∧ Rdd s b j ∧ M.map (·.1) = b.nodes ∧ OwnN w' w.heap.size v M ∧ Below w.heap.size w w'

set_option maxHeartbeats 4000000 in
theorem read_any (s : ByteArray) (w : World) (hsz : s.size = 256) :
    Calls Try.prog 35 #[.string s] w fun e w' => ReadP s w e w' := by
  have hml : s.size ≤ maxLen := by unfold maxLen; omega
  have HG1 : Hid (∀ w1, _) := fun w1 => sget s 1 1 w1 (by omega) (by omega) hml (by omega)
  have HG2 : Hid (∀ w1, _) := fun w1 => sget s 2 2 w1 (by omega) (by omega) hml (by omega)
  have hd1 : val (sub s 1 1) < 256 := by have := val_lt (sub s 1 1); rw [sub_length _ _ _ (by omega)] at this; simpa using this
  have hn1 : val (sub s 2 2) < 65536 := by have := val_lt (sub s 2 2); rw [sub_length _ _ _ (by omega)] at this; simpa using this
  have HD : Hid (∃ d, d = val (sub s 1 1)) := ⟨_, rfl⟩
  obtain ⟨D, hD⟩ : ∃ D, val (sub s 1 1) = D := ⟨_, rfl⟩
  obtain ⟨E, hE⟩ : ∃ E, val (sub s 2 2) = E := ⟨_, rfl⟩
  have HDD := hid hD
  have HEE := hid hE
  rw [hD] at HG1 hd1
  rw [hE] at HG2 hn1
  clear HD hD hE
  have hwD : IntKind.i64.wrap (D : Int) = (D : Int) := by rw [IntKind.wrap_i64]; omega
  have hwE : IntKind.i64.wrap (E : Int) = (E : Int) := by rw [IntKind.wrap_i64]; omega
  have HFI : Hid (∀ w1, _) := fun w1 => fields_any w1
  obtain ⟨p, hp⟩ : ∃ p, w.heap.size = p := ⟨_, rfl⟩
  have h1 := (Below.refl w.heap.size w).alloc (Nat.le_refl _) (.cells #[.int .i64 0, .int .i64 0, .slice none 0 0] 42)
  have s1 : (w.alloc (.cells #[.int .i64 0, .int .i64 0, .slice none 0 0] 42)).heap.size = p + 1 := by rw [← hp]; show (w.heap.push _).size = _; rw [Array.size_push]
  have k1 := Blk.made w #[.int .i64 0, .int .i64 0, .slice none 0 0] 42
  have HB3 := hid (h1.alloc h1.size (.cells #[.int .i64 (D : Nat), .int .i64 (E : Nat), .slice none 0 0] 42))
  have HR3 := hid (k1.alloc (.cells #[.int .i64 (D : Nat), .int .i64 (E : Nat), .slice none 0 0] 42))
  have HX3 := hid (Blk.made (w.alloc (.cells #[.int .i64 0, .int .i64 0, .slice none 0 0] 42)) #[.int .i64 (D : Nat), .int .i64 (E : Nat), .slice none 0 0] 42)
  rw [s1] at HX3
  rw [hp] at HR3 HB3
  have HP := hid hp
  clear h1 s1 k1
  go_enter Try.func35, Try.ntmps35
  go_wp2_with (first
    | (go_at_call 51; first | (refine (HG1.out _).mono ?_; clear HG1; rintro e w4 ⟨rfl, rfl⟩) | (refine (HG2.out _).mono ?_; clear HG2; rintro e w4 ⟨rfl, rfl⟩))
    | (go_at_call 49; refine (HFI.out _).mono ?_; clear HFI; rintro e w10 ⟨fv, rfl, hfl, hb10⟩; have HX10 := hid (HX3.out.on hb10 HX3.out.lt); have HR10 := hid (HR3.out.on hb10 HR3.out.lt); have HB10 := hid (HB3.out.trans (hb10.mono (Nat.le_of_lt HR3.out.lt))); have HFL := hid hfl; clear hfl hb10))
  have HO10 : Hid (OwnN w10 p (.slice none 0 0) []) := OwnN.nil _ _
  have hpw := HR10.out.lt
  obtain ⟨B0, hfl0⟩ : ∃ B0, Flds w10 B0 fv := ⟨_, HFL.out⟩
  clear HFL
  have HFL := hid hfl0
  clear hfl0
  clear HX3 HR3 HB3 hp hpw
  have hs256 : (s.size : Int) = 256 := by omega
  go_loopw [5] (fun y wr => ∃ (j q : Nat) (va : Option Addr) (vc : Nat) (M : List (Nd × Value)), j ≤ 5 ∧ y = .int .i64 (q : Nat) ∧ Hid (q = 16 + 48 * j) ∧ Hid (M.length = j) ∧ Hid (M.map (·.1) = (List.range j).map fun k => ndR s (16 + 48 * k)) ∧ Hid (∀ k, k < j → s.data.toList.getD (16 + 48 * k) 0 = 1) ∧ Hid (OwnN wr p (.slice va j vc) M) ∧ Hid (Blk wr (p + 1) #[.int .i64 (D : Nat), .int .i64 (E : Nat), .slice va j vc] 42) ∧ Hid (Blk wr p #[.int .i64 0, .int .i64 0, .slice none 0 0] 42) ∧ Hid (Flds wr B0 fv) ∧ Hid (Below p w wr)) (fun y _ => 300 - (intOf y).toNat)
  case atStart => exact ⟨0, 16, none, 0, [], Nat.zero_le _, rfl, rfl, rfl, rfl, (fun k h => by omega), HO10, HX10, HR10, HFL, HB10⟩
  case round =>
    obtain ⟨j, q, va, vc, M, hj, rfl, HQ, HML, HMM, HU, HO, HX, HR, HF, HB⟩ := hrel
    clear HO10 HX10 HR10 HFL HB10
    have hq := HQ.out
    have HONE : Hid ((#[.int .i64 (D : Nat), .int .i64 (E : Nat), .slice va j vc] : Array Value).all (·.oneCell') = true) := by show _ = _; simp [Value.oneCell']
    have HKO : Hid (∀ (w1 w2 : World) {v : Value} {M : List (Nd × Value)} {k : Nat} {cs : Array Value}, OwnN w1 p v M → Blk w1 k cs 42 → Keep (fun j => j = k) w1 w2 → OwnN w2 p v M) := fun w1 w2 _ _ _ _ h hb hk => h.keep hb hk
    by_cases hjn : j < 5
    · have hji : (q : Int) < 256 := by omega
      have hql : q < s.size := by omega
      clear hq
      by_cases hu : s.data.toList.getD q 0 = 1
      · have hb1 : (s[q].toNat : Int) = 1 := by rw [← get_list s q hql, hu]; rfl
        have HND := hid (fun w1 (hf : Flds w1 B0 fv) => nodeAt_any s q fv B0 w1 hml (by have := HQ.out; omega) hf)
        have HUS : Hid (∀ k, k < j + 1 → s.data.toList.getD (16 + 48 * k) 0 = 1) := fun k hk => by
          rcases Nat.lt_or_ge k j with h | h
          · exact HU.out k h
          · obtain rfl : k = j := by omega
            rw [← HQ.out]; exact hu
        have HQS : Hid (q + 48 = 16 + 48 * (j + 1)) := by show _ = _; rw [HQ.out]; omega
        have q4 : IntKind.i64.wrap ((q : Int) + 48) = ((q + 48 : Nat) : Int) := by rw [IntKind.wrap_i64]; omega
        have HRS : Hid ((List.range (j + 1)).map (fun k => ndR s (16 + 48 * k)) = (List.range j).map (fun k => ndR s (16 + 48 * k)) ++ [ndR s q]) := by show _ = _; rw [List.range_succ, List.map_append, HQ.out]; rfl
        have hq300 : q ≤ 256 := by omega
        clear hu
        go_wp2_with fail
        refine wp_region_d (fun w' => w'.cell? ⟨p + 1, 2, none⟩ = some (.slice va j vc)) (fun i => i != 9) (by kernel_rfl) ?_
        have hdr := (Below.refl wr.heap.size wr).drew
        have HX9 := hid (HX.out.on hdr HX.out.lt)
        have HR9 := hid (HR.out.on hdr HR.out.lt)
        have HF9 := hid (HF.out.on hdr)
        have HO9 := hid (HO.out.on hdr)
        have HB9 := hid HB.out.drew
        clear HX HR HF HO HB hdr hb1 hql
        generalize wr.drew = w9 at *
        have hS : w9.cell? ⟨p + 1, 2, none⟩ = some (.slice va j vc) := HX9.out.cell (i := 2) rfl
        refine wpAnyM_pick (i := 0) (some 26) (v := ?vz1) rfl rfl (by kernel_rfl) (by kernel_rfl) (by kernel_rfl) (by kernel_rfl) (fun _ _ _ h => h) (Or.inl ⟨by rfl, ?hz1⟩) hS ?rz1
        case hz1 => intro w hSw; (first | obtain ⟨hs1, hs2, hs3, hs4, hs5, hs6, hs7, hs8⟩ := hSw | obtain ⟨hs1, hs2, hs3⟩ := hSw | obtain ⟨hs1, hs2⟩ := hSw | skip); go_simp; try with_reducible rfl
        try simp only [Act.put, List.setIfInBounds_toArray, List.set_cons_zero, List.set_cons_succ]
        refine wpAnyM_pick (i := 1) (some 27) (v := ?vz2) rfl rfl (by kernel_rfl) (by kernel_rfl) (by kernel_rfl) (by kernel_rfl) (fun _ _ _ h => h) (Or.inl ⟨by rfl, ?hz2⟩) hS ?rz2
        case hz2 => intro w hSw; (first | obtain ⟨hs1, hs2, hs3, hs4, hs5, hs6, hs7, hs8⟩ := hSw | obtain ⟨hs1, hs2, hs3⟩ := hSw | obtain ⟨hs1, hs2⟩ := hSw | skip); go_simp; try with_reducible rfl
        try simp only [Act.put, List.setIfInBounds_toArray, List.set_cons_zero, List.set_cons_succ]
        refine wpAnyM_pick (i := 2) (some 28) (v := ?vz3) rfl rfl (by kernel_rfl) (by kernel_rfl) (by kernel_rfl) (by kernel_rfl) (fun _ _ _ h => h) (Or.inl ⟨by rfl, ?hz3⟩) hS ?rz3
        case hz3 => intro w hSw; (first | obtain ⟨hs1, hs2, hs3, hs4, hs5, hs6, hs7, hs8⟩ := hSw | obtain ⟨hs1, hs2, hs3⟩ := hSw | obtain ⟨hs1, hs2⟩ := hSw | skip); go_simp; try with_reducible rfl
        try simp only [Act.put, List.setIfInBounds_toArray, List.set_cons_zero, List.set_cons_succ]
        refine wpAnyM_pick (i := 3) (some 29) (v := ?vz4) rfl rfl (by kernel_rfl) (by kernel_rfl) (by kernel_rfl) (by kernel_rfl) (fun _ _ _ h => h) (Or.inl ⟨by rfl, ?hz4⟩) hS ?rz4
        case hz4 => intro w hSw; (first | obtain ⟨hs1, hs2, hs3, hs4, hs5, hs6, hs7, hs8⟩ := hSw | obtain ⟨hs1, hs2, hs3⟩ := hSw | obtain ⟨hs1, hs2⟩ := hSw | skip); go_simp; try with_reducible rfl
        try simp only [Act.put, List.setIfInBounds_toArray, List.set_cons_zero, List.set_cons_succ]
        refine wpAnyM_pick (i := 4) (some 30) (v := ?vz5) rfl rfl (by kernel_rfl) (by kernel_rfl) (by kernel_rfl) (by kernel_rfl) (fun _ _ _ h => h) (Or.inl ⟨by rfl, ?hz5⟩) hS ?rz5
        case hz5 => intro w hSw; (first | obtain ⟨hs1, hs2, hs3, hs4, hs5, hs6, hs7, hs8⟩ := hSw | obtain ⟨hs1, hs2, hs3⟩ := hSw | obtain ⟨hs1, hs2⟩ := hSw | skip); go_simp; try with_reducible rfl
        try simp only [Act.put, List.setIfInBounds_toArray, List.set_cons_zero, List.set_cons_succ]
        refine wpAnyM_one (i := 5) (by kernel_rfl) rfl (fun K hK => ?_)
        go_simp
        go_at_call 52
        refine (HND.out _ HF9.out).mono ?_
        clear HND
        rintro e w10 ⟨kv, rfl, hrk, hb10⟩
        have HRK := hid hrk
        have HSZ9 := hid (Nat.le_of_lt HR9.out.lt)
        have HB9S := hid (Nat.le_of_lt HR9.out.lt)
        have HX10 := hid (HX9.out.on hb10 HX9.out.lt)
        have HR10 := hid (HR9.out.on hb10 HR9.out.lt)
        have HF10 := hid (HF9.out.on hb10)
        have HO10 := hid (HO9.out.on hb10)
        have HB10 := hid (HB9.out.trans (hb10.mono HSZ9.out))
        clear hrk hb10 HX9 HR9 HF9 HO9 HB9 hS
        have hS : w10.cell? ⟨p + 1, 2, none⟩ = some (.slice va j vc) := HX10.out.cell (i := 2) rfl
        go_wp2_with fail
        refine hK.out _ _ (fun _ => hS) ?_
        clear hK K
        try simp only [Act.put, List.setIfInBounds_toArray, List.set_cons_zero, List.set_cons_succ]
        obtain ⟨ka, kc, rfl⟩ := HRK.out.form
        obtain ⟨nq, hnq⟩ : ∃ nq, ndR s q = nq := ⟨_, rfl⟩
        rw [hnq] at HRK HRS
        obtain ⟨kn, hkn⟩ : ∃ kn, nq.kids.length = kn := ⟨_, rfl⟩
        have HAL := hid ((Below.refl w10.heap.size w10).alloc (Nat.le_refl _) (.cells (cellsN nq (.slice ka kn kc)) 57))
        have HCB := hid (Blk.made w10 (cellsN nq (.slice ka kn kc)) 57)
        simp only [hnq, hkn, cellsN]
        refine wpAnyM_one (i := 6) (by kernel_rfl) rfl (fun K hK => ?_)
        go_simp
        have HSZ10 := hid (Nat.le_of_lt HR10.out.lt)
        have HX11 := hid (HX10.out.on HAL.out HX10.out.lt)
        have HR11 := hid (HR10.out.on HAL.out HR10.out.lt)
        have HF11 := hid (HF10.out.on HAL.out)
        have HO11 := hid (HO10.out.on HAL.out)
        have hk11 := own_base (HRK.out.on HAL.out) HB9S.out
        rw [hkn] at hk11
        have HK11 := hid hk11
        have HKN := hid hkn
        clear hk11
        have HB11 := hid (HB10.out.trans (HAL.out.mono HSZ10.out))
        have HSZ11 := hid (Nat.le_trans HSZ10.out HAL.out.size)
        simp only [cellsN] at HCB HAL HX11 HR11 HF11 HO11 HK11 HB11 HSZ11
        obtain ⟨sq, hsq⟩ : ∃ sq, w10.heap.size = sq := ⟨_, rfl⟩
        rw [hsq] at HCB
        try rw [hsq]
        generalize w10.alloc (Obj.cells #[.int .u64 (nq.at' : Nat), .string nq.name, .slice ka kn kc, .int .i64 nq.count, .bool nq.queued, .int .u64 (nq.next : Nat)] 57) = w11 at *
        clear HAL HX10 HR10 HF10 HO10 HB10 HRK hS hsq
        have hS : w11.cell? ⟨p + 1, 2, none⟩ = some (.slice va j vc) := HX11.out.cell (i := 2) rfl
        refine hK.out _ _ (fun _ => hS) ?_
        clear hK K
        try simp only [Act.put, List.setIfInBounds_toArray, List.set_cons_zero, List.set_cons_succ]
        refine wpAnyM_one (i := 7) (by kernel_rfl) rfl (fun K hK => ?_)
        refine wp_nd w11 (.tmp 27) (.tmp 32) rfl p (.slice va j vc) M j HML.out rfl HO11.out.row HSZ11.out sq nq ka kn kc rfl HCB.out (by omega) ?_
        intro va2 vc2 w12 hr12 hg12
        have hnb : ∀ g, (Value.slice va j vc).ownBlock = some g → g ≠ p + 1 ∧ g ≠ p ∧ p ≤ g := fun g hg => ⟨Blk.ne HX11.out HO11.out.row (by decide) hg, Blk.ne HR11.out HO11.out.row (by decide) hg, (World.ownsRow.lt HO11.out.row g hg).1⟩
        have hk12 : Keep (fun j' => (Value.slice va j vc).ownBlock = some j') w11 w12 := Keep.grown hg12 (fun k hk => hk)
        have HX12 := hid (hk12.blk HX11.out (fun h => (hnb _ h).1 rfl))
        have HR12 := hid (hk12.blk HR11.out (fun h => (hnb _ h).2.1 rfl))
        have HF12 : Hid (Flds w12 B0 fv) := by
          obtain ⟨cl, h1, h2, h3⟩ := HF11.out
          refine ⟨cl, h1, hk12.row h2 (fun g hg e => rows_ne h2 HO11.out.row (by decide) hg e), fun i c hc => hk12.blk (h3 i c hc) (fun e => Blk.ne (h3 i c hc) HO11.out.row (by decide) e rfl)⟩
        have HO12 : Hid (OwnN w12 p (.slice va2 (j + 1) vc2) (M ++ [(nq, .slice ka kn kc)])) := by
          refine ⟨by rw [List.length_append, HML.out]; exact hr12, fun y hy => ?_⟩
          rcases List.mem_append.1 hy with h | h
          · exact hk12.row (HO11.out.kids y h) (fun g hg e => rows_ne (HO11.out.kids y h) HO11.out.row (by decide) hg e)
          · simp at h
            subst h
            have h9 := hk12.row HK11.out (fun g hg e => rows_ne HK11.out HO11.out.row (by decide) hg e)
            show World.ownsRow _ _ _ _ _ nq.kids.length _
            rw [HKN.out]
            exact h9
        have HB12 := hid (HB11.out.trans (hk12.below (fun j' hj' => (hnb _ hj').2.2) HSZ11.out))
        clear hr12 hg12 hnb hk12 HX11 HR11 HF11 HO11 HK11 HB11 HCB hS
        have hS : w12.cell? ⟨p + 1, 2, none⟩ = some (.slice va j vc) := HX12.out.cell (i := 2) rfl
        refine hK.out _ _ (fun _ => hS) ?_
        clear hK K
        try simp only [Act.put, List.setIfInBounds_toArray, List.set_cons_zero, List.set_cons_succ]
        refine wpAnyM_pick (i := 8) (some 34) (v := ?vz6) rfl rfl (by kernel_rfl) (by kernel_rfl) (by kernel_rfl) (by kernel_rfl) (fun _ _ _ h => h) (Or.inl ⟨by rfl, ?hz6⟩) hS ?rz6
        case hz6 => intro w hSw; (first | obtain ⟨hs1, hs2, hs3, hs4, hs5, hs6, hs7, hs8⟩ := hSw | obtain ⟨hs1, hs2, hs3⟩ := hSw | obtain ⟨hs1, hs2⟩ := hSw | skip); go_simp; try with_reducible rfl
        try simp only [Act.put, List.setIfInBounds_toArray, List.set_cons_zero, List.set_cons_succ]
        have hf2 := HX12.out.free 2
        have hk13 := Keep.set (S := fun j' => j' = p + 1) w12 rfl 2 (.slice va2 (j + 1) vc2)
        have HX13 : Hid (Blk (w12.setCell ⟨p + 1, 2, none⟩ (.slice va2 (j + 1) vc2)) (p + 1) #[.int .i64 (D : Nat), .int .i64 (E : Nat), .slice va2 (j + 1) vc2] 42) := HX12.out.set 2 _
        have HR13 := hid (hk13.blk HR12.out (by omega))
        have HF13 : Hid (Flds (w12.setCell ⟨p + 1, 2, none⟩ (.slice va2 (j + 1) vc2)) B0 fv) := by
          obtain ⟨cl, h1, h2, h3⟩ := HF12.out
          refine ⟨cl, h1, hk13.row h2 (fun g hg e => Blk.ne HX12.out h2 (by decide) hg e), fun i c hc => hk13.blk (h3 i c hc) (fun e => ?_)⟩
          have hb3 := h3 i c hc
          subst e
          have := HX12.out
          unfold Blk at this hb3
          rw [hb3] at this
          simp at this
        have HO13 := hid (HO12.out.keep HX12.out hk13)
        have HB13 := hid (HB12.out.trans (hk13.below (fun j' hj' => by rw [hj']; omega) (Nat.le_of_lt HR12.out.lt)))
        refine wpAnyM_one (i := 9) (by kernel_rfl) rfl (fun K hK => ?_)
        go_simp
        refine hK.out _ _ (fun h => absurd h (by decide)) ?_
        clear hK K
        generalize w12.setCell ⟨p + 1, 2, none⟩ (.slice va2 (j + 1) vc2) = w13 at *
        try simp only [Act.put, List.setIfInBounds_toArray, List.set_cons_zero, List.set_cons_succ]
        refine wpAnyM_done (by kernel_rfl) ?_ _
        clear hS hf2 hk13 HX12 HR12 HF12 HO12 HB12
        go_wp2_with fail
        go_roundw
        case rel => exact ⟨j + 1, q + 48, va2, vc2, M ++ [(nq, .slice ka kn kc)], by omega, by go_num, HQS, by show _ = _; rw [List.length_append, HML.out]; rfl, by show _ = _; rw [HRS.out, List.map_append, HMM.out]; rfl, HUS, HO13, HX13, HR13, HF13, HB13⟩
        case measure => simp [intOf]; omega
      · have hb1 : ((s[q].toNat : Int) == 1) = false := by
          rw [beq_eq_false_iff_ne, ← get_list s q hql]
          intro h
          apply hu
          apply UInt8.toNat_inj.1
          have : (1 : UInt8).toNat = 1 := rfl
          omega
        have HNU : Hid (s.data.toList.getD (16 + 48 * j) 0 ≠ 1) := by show _ ≠ _; rw [← HQ.out]; exact hu
        clear hu
        have c0 := HX.out.cell (i := 0) rfl
        have c1 := HX.out.cell (i := 1) rfl
        have c2 := HX.out.cell (i := 2) rfl
        go_wp2_with (refine wpList_st 42 rfl (.tmp 2) (.tmp 35) rfl p _ #[.int .i64 (D : Nat), .int .i64 (E : Nat), .slice va j vc] rfl rfl HR.out info42 rfl HONE.out ?_; intro w7 hb7 hk7)
        have HO7 := hid (HKO.out wr w7 HO.out HR.out hk7)
        refine bodyPost_ret (results_cell_row rfl _ w7 p 42 _ (0, 0) _ rfl hb7 Try.underlying42 rfl info42) rfl ⟨⟨(D : Nat), (E : Nat), (List.range j).map fun k => ndR s (16 + 48 * k)⟩, j, _, M, rfl, ⟨by rw [HDD.out], by rw [HEE.out], hj, rfl, HU.out, .inr HNU.out⟩, HMM.out, by rw [HP.out]; exact HO7.out, ?_⟩
        rw [HP.out]
        exact HB.out.trans (hk7.below (fun j hj => by rw [hj]; omega) (Nat.le_of_lt HR.out.lt))
    · have hji : ¬ (q : Int) < 256 := by omega
      obtain rfl : j = 5 := by omega
      clear hq
      have c0 := HX.out.cell (i := 0) rfl
      have c1 := HX.out.cell (i := 1) rfl
      have c2 := HX.out.cell (i := 2) rfl
      go_wp2_with (refine wpList_st 42 rfl (.tmp 2) (.tmp 35) rfl p _ #[.int .i64 (D : Nat), .int .i64 (E : Nat), .slice va 5 vc] rfl rfl HR.out info42 rfl HONE.out ?_; intro w7 hb7 hk7)
      have HO7 := hid (HKO.out wr w7 HO.out HR.out hk7)
      refine bodyPost_ret (results_cell_row rfl _ w7 p 42 _ (0, 0) _ rfl hb7 Try.underlying42 rfl info42) rfl ⟨⟨(D : Nat), (E : Nat), (List.range 5).map fun k => ndR s (16 + 48 * k)⟩, 5, _, M, rfl, ⟨by rw [HDD.out], by rw [HEE.out], hj, rfl, HU.out, .inl rfl⟩, HMM.out, by rw [HP.out]; exact HO7.out, ?_⟩
      rw [HP.out]
      exact HB.out.trans (hk7.below (fun j hj => by rw [hj]; omega) (Nat.le_of_lt HR.out.lt))
end Go.Proofs.Ythohopbolalpcaa

