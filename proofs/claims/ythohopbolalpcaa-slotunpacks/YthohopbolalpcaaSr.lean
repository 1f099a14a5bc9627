/-
  A bucket read out of its page; Unpack.
-/
import Derived.Test.YthohopbolalpcaaSq
import Derived.Laws.ResultCell
namespace Go.Proofs.Ythohopbolalpcaa
open Go.RowKit
set_option linter.unusedVariables false
set_option linter.unusedSimpArgs false
set_option maxRecDepth 100000

theorem sub_mid {s : ByteArray} {A B C : List UInt8} (h : s.data.toList = A ++ B ++ C) {p n : Nat} (hp : A.length = p) (hn : B.length = n) : sub s p n = B := by
  subst hp hn
  unfold sub
  rw [h, List.append_assoc, List.drop_append_of_le_length (Nat.le_refl _), List.drop_of_length_le (Nat.le_refl _), List.nil_append, List.take_append_of_le_length (Nat.le_refl _), List.take_of_length_le (Nat.le_refl _)]
theorem slot_one (x : Nd) : ∃ r, slotB x = 1 :: r := by
  have h3 : ∀ n, n ≤ 11 → ∃ r, slotB x = slotP x n ++ r := by
    intro n hn
    obtain ⟨d, hd⟩ : ∃ d, n + d = 11 := ⟨11 - n, by omega⟩
    induction d generalizing n with
    | zero => obtain rfl : n = 11 := by omega
              exact ⟨[0], rfl⟩
    | succ d ih =>
      obtain ⟨r, hr⟩ := ih (n + 1) (by omega) (by omega)
      exact ⟨be (tell x n) (wd n) ++ r, by rw [hr, slotP_succ, List.append_assoc]⟩
  obtain ⟨r, hr⟩ := h3 1 (by omega)
  refine ⟨r, ?_⟩
  rw [hr]
  rfl
section
variable {s : ByteArray} {b : Bk}
theorem page_slot (hs : s.data.toList = pageB b) {k : Nat} {x : Nd} (hx : b.nodes[k]? = some x) : sub s (16 + 48 * k) 48 = slotB x := by
  have hk : k < b.nodes.length := (List.getElem?_eq_some_iff.1 hx).1
  have hd : b.nodes = b.nodes.take k ++ x :: b.nodes.drop (k + 1) := by
    have hg : b.nodes[k] = x := (List.getElem?_eq_some_iff.1 hx).2
    rw [← hg, List.getElem_cons_drop, List.take_append_drop]
  have hf : b.nodes.flatMap slotB = (b.nodes.take k).flatMap slotB ++ slotB x ++ (b.nodes.drop (k + 1)).flatMap slotB := by
    conv => lhs; rw [hd]
    simp [List.flatMap_append]
  have he : s.data.toList = (headB b ++ (b.nodes.take k).flatMap slotB) ++ slotB x ++ ((b.nodes.drop (k + 1)).flatMap slotB ++ List.replicate (240 - 48 * b.nodes.length) 0) := by
    rw [hs]
    unfold pageB
    rw [hf]
    simp only [List.append_assoc]
  refine sub_mid he ?_ (slotB_len x)
  rw [List.length_append, headB_len, slots_len, List.length_take, Nat.min_eq_left (by omega)]
theorem sub_get {p : Nat} {r : List UInt8} {a : UInt8} (h : sub s p 48 = a :: r) : s.data.toList.getD p 0 = a := by
  unfold sub at h
  have h0 : ((s.data.toList.drop p).take 48)[0]? = some a := by rw [h]; rfl
  rw [List.getElem?_take] at h0
  simp at h0
  rw [List.getD_eq_getElem?_getD]
  have : s.data.toList[p]? = some a := by simpa using h0
  rw [this]
  rfl
theorem page_used (hs : s.data.toList = pageB b) {k : Nat} (hk : k < b.nodes.length) : s.data.toList.getD (16 + 48 * k) 0 = 1 := by
  obtain ⟨x, hx⟩ : ∃ x, b.nodes[k]? = some x := ⟨_, List.getElem?_eq_getElem hk⟩
  have h1 := page_slot hs hx
  obtain ⟨r, hr⟩ := slot_one x
  rw [hr] at h1
  exact sub_get h1
theorem page_stop (hs : s.data.toList = pageB b) (hk : b.nodes.length < 5) : s.data.toList.getD (16 + 48 * b.nodes.length) 0 = 0 := by
  rw [hs]
  unfold pageB
  rw [List.getD_eq_getElem?_getD, List.getElem?_append_right (by rw [List.length_append, headB_len, slots_len]; exact Nat.le_refl _), List.length_append, headB_len, slots_len, Nat.sub_self, List.getElem?_replicate, if_pos (by omega)]
  rfl
theorem page_head (ho : BkOk b) (hs : s.data.toList = pageB b) : val (sub s 1 1) = b.depth.toNat ∧ val (sub s 2 2) = b.next.toNat := by
  have e1 : s.data.toList = be 3 1 ++ be b.depth.toNat 1 ++ (be b.next.toNat 2 ++ List.replicate 12 0 ++ b.nodes.flatMap slotB ++ List.replicate (240 - 48 * b.nodes.length) 0) := by
    rw [hs]; unfold pageB headB; simp only [List.append_assoc]
  have e2 : s.data.toList = (be 3 1 ++ be b.depth.toNat 1) ++ be b.next.toNat 2 ++ (List.replicate 12 0 ++ b.nodes.flatMap slotB ++ List.replicate (240 - 48 * b.nodes.length) 0) := by
    rw [hs]; unfold pageB headB; simp only [List.append_assoc]
  have h0 := ho.d0
  have h1 := ho.d1
  have h2 := ho.n0
  have h3 := ho.n1
  rw [sub_mid e1 (be_length 3 1) (be_length _ 1), sub_mid e2 (by rw [List.length_append, be_length, be_length]) (be_length _ 2)]
  exact ⟨val_be_of_lt (by show _ < 256; omega), val_be_of_lt (by show _ < 65536; omega)⟩
/-- what is read of a bucket's page is the bucket -/
theorem rdd_page (ho : BkOk b) (hs : s.data.toList = pageB b) {b' : Bk} {j : Nat} (h : Rdd s b' j) : b' = b := by
  obtain ⟨h1, h2⟩ := page_head ho hs
  have hn := ho.len
  have hj : j = b.nodes.length := by
    rcases Nat.lt_trichotomy j b.nodes.length with h3 | h3 | h3
    · rcases h.stop with h4 | h4
      · omega
      · exact absurd (page_used hs h3) h4
    · exact h3
    · have := h.used _ h3
      rw [page_stop hs (by have := h.j5; omega)] at this
      exact absurd this (by decide)
  have hnd : b'.nodes = b.nodes := by
    rw [h.nodes, hj]
    apply List.ext_getElem?
    intro k
    rw [List.getElem?_map]
    by_cases hk : k < b.nodes.length
    · obtain ⟨x, hx⟩ : ∃ x, b.nodes[k]? = some x := ⟨_, List.getElem?_eq_getElem hk⟩
      rw [List.getElem?_range hk, hx]
      show some (ndR s (16 + 48 * k)) = some x
      rw [ndR_slot (ho.nd hx) (page_slot hs hx)]
    · rw [List.getElem?_eq_none (by simp; omega), List.getElem?_eq_none (by omega)]
      rfl
  have hd : b'.depth = b.depth := by rw [h.d, h1]; have := ho.d0; omega
  have hx : b'.next = b.next := by rw [h.n, h2]; have := ho.n0; omega
  cases b'
  cases b
  simp only at hnd hd hx
  rw [hnd, hd, hx]
end
theorem pageB_len {b : Bk} (ho : BkOk b) : (pageB b).length = 256 := by
  have := ho.len
  unfold pageB
  rw [List.length_append, List.length_append, headB_len, slots_len, List.length_replicate]
  omega
theorem ndR_fine (s : ByteArray) (p : Nat) (h : p + 47 ≤ s.size) : U64 (ndR s p).kids ∧ (ndR s p).at' < 18446744073709551616 ∧ (ndR s p).next < 18446744073709551616 ∧ (ndR s p).name.size ≤ 140737488351232 ∧ -9223372036854775808 ≤ (ndR s p).count ∧ (ndR s p).count ≤ 9223372036854775807 := by
  have hi := ndL_inv s p h 11 (Nat.le_refl _)
  have hl := hs_lt (ndL s p 11).name (ndL s p 11).kids
  unfold ndR
  generalize ndL s p 11 = X at *
  refine ⟨hi.u, ?_, ?_, ?_, ?_, ?_⟩
  · have := hi.a
    show (if X.at' = 0 then 0 else hs X.name X.kids * 65536 + X.at') < _
    split <;> omega
  · have := hi.nx; show X.next < _; omega
  · have := hi.nm; show X.name.size ≤ _; omega
  · have := hi.c0; show _ ≤ X.count; omega
  · have := hi.c1; show X.count ≤ _; omega

/-- how Unpack ends -/
def UnpP (s : ByteArray) (w : World) (e : Ending) (w' : World) : Prop :=
  (∃ b v M, bkE b = 0 ∧ pageB b = s.data.toList ∧ e = .returned (.tuple #[.agg #[.int .i64 b.depth, .int .i64 b.next, v], .int .i64 0]) ∧ M.map (·.1) = b.nodes ∧ OwnN w' w.heap.size v M ∧ Below w.heap.size w w') ∨
  ((∀ b, bkE b = 0 → pageB b ≠ s.data.toList) ∧ e = .returned (.tuple #[.agg #[.int .i64 0, .int .i64 0, .slice none 0 0], .int .i64 3]) ∧ Below w.heap.size w w')

set_option maxHeartbeats 4000000 in
theorem sUnpack_any (s : ByteArray) (w : World) (hml : s.size ≤ maxLen) : Calls Try.prog 19 #[.string s] w fun e w' => UnpP s w e w' := by
  unfold maxLen at hml
  have HB1 := hid ((Below.refl w.heap.size w).alloc (Nat.le_refl _) (.cells #[.int .i64 0, .int .i64 0, .slice none 0 0] 42))
  have HX1 := hid (Blk.made w #[.int .i64 0, .int .i64 0, .slice none 0 0] 42)
  by_cases h256 : s.size = 256
  · have heq : ((s.size : Int) != 256) = false := by rw [bne_eq_false_iff_eq]; omega
    have HRD : Hid (∀ w1, Calls Try.prog 35 #[.string s] w1 fun e w' => ReadP s w1 e w') := fun w1 => read_any s w1 h256
    have HRP : Hid (∀ b j, Rdd s b j → ∀ b0, bkE b0 = 0 → pageB b0 = s.data.toList → b = b0) := fun b j hr b0 h0 hp => rdd_page (BkOk.of h0) hp.symm hr
    have HFN : Hid (∀ b j, Rdd s b j → ∀ x ∈ b.nodes, U64 x.kids ∧ x.at' < 18446744073709551616 ∧ x.next < 18446744073709551616 ∧ x.name.size ≤ 140737488351232 ∧ -9223372036854775808 ≤ x.count ∧ x.count ≤ 9223372036854775807) := fun b j hr x hx => by
      rw [hr.nodes] at hx
      obtain ⟨k, hk, rfl⟩ := List.mem_map.1 hx
      have := List.mem_range.1 hk
      exact ndR_fine s _ (by have := hr.j5; omega)
    have HPK : Hid (∀ (b : Bk) (v : Value) (w1 : World), LiesN w1 v b.nodes → Calls Try.prog 16 #[.agg #[.int .i64 b.depth, .int .i64 b.next, v]] w1 fun e w' => e = .returned (.tuple #[.string (if bkE b = 0 then ⟨(pageB b).toArray⟩ else ⟨#[]⟩), .int .i64 (bkE b : Nat)]) ∧ Below w1.heap.size w1 w') := fun b v w1 h => sPack_any b v w1 h
    obtain ⟨p, hp⟩ : ∃ p, w.heap.size = p := ⟨_, rfl⟩
    have HP := hid hp
    go_enter Try.func19, Try.ntmps19
    go_wp2_with (go_at_call 35; refine (HRD.out _).mono ?_; clear HRD; rintro e w2 ⟨b, j, v, M, rfl, hrd, hMM, hO, hb2⟩; obtain ⟨va, vc, rfl⟩ := own_form hO.row; have HRR := hid hrd; have HMM := hid hMM; have HO := hid hO; have HB2 := hid hb2; clear hrd hMM hO hb2)
    have hw1 := HB1.out
    have HOB := hid (HO.out.base HB1.out.size)
    have HBW := hid (HB1.out.trans (HB2.out.mono HB1.out.size))
    have HX2 := hid (HX1.out.on HB2.out HX1.out.lt)
    have hl0 := HO.out.lies (fun y hy => HFN.out b j HRR.out y.1 (by rw [← HMM.out]; exact List.mem_map.2 ⟨y, hy, rfl⟩))
    rw [HMM.out] at hl0
    have HAL := hid ((Below.refl w2.heap.size w2).alloc (Nat.le_refl _) (.cells #[.int .i64 b.depth, .int .i64 b.next, .slice va M.length vc] 42))
    have HLN := hid (hl0.on HAL.out)
    have HX3 := hid (HX2.out.on HAL.out HX2.out.lt)
    have HY3 := hid (Blk.made w2 #[.int .i64 b.depth, .int .i64 b.next, .slice va M.length vc] 42)
    have HO3 := hid (HOB.out.on HAL.out)
    have HB3 := hid (HBW.out.trans (HAL.out.mono HBW.out.size))
    obtain ⟨g, hg⟩ : ∃ g, w2.heap.size = g := ⟨_, rfl⟩
    have HGP : Hid (p < g) := by show _ < _; have := HX2.out.lt; omega
    rw [hg] at HY3
    try rw [hg]
    refine (HPK.out b _ _ HLN.out).mono ?_
    clear HPK HLN hl0 HO HOB HB2 HBW HX2 HAL hw1 HX1 HB1
    rintro e w4 ⟨rfl, hb4⟩
    generalize w2.alloc (Obj.cells #[.int .i64 b.depth, .int .i64 b.next, .slice va M.length vc] 42) = w3 at *
    have HX4 := hid (HX3.out.on hb4 HX3.out.lt)
    have HY4 := hid (HY3.out.on hb4 HY3.out.lt)
    have HO4 := hid (HO3.out.on hb4)
    have HB4 := hid (HB3.out.trans (hb4.mono HB3.out.size))
    clear hb4 HX3 HY3 HO3 HB3 hg
    rw [hp] at HX4
    clear hp
    have HONE : Hid ((#[.int .i64 b.depth, .int .i64 b.next, .slice va M.length vc] : Array Value).all (·.oneCell') = true) := by show _ = _; simp [Value.oneCell']
    have HONZ : Hid ((#[.int .i64 0, .int .i64 0, .slice none 0 0] : Array Value).all (·.oneCell') = true) := by show _ = _; simp [Value.oneCell']
    have x0 := HY4.out.cell (i := 0) rfl
    have x1 := HY4.out.cell (i := 1) rfl
    have x2 := HY4.out.cell (i := 2) rfl
    have hbad : (∀ b0, bkE b0 = 0 → pageB b0 ≠ s.data.toList) → ∀ w5 : World, Blk w5 p #[.int .i64 0, .int .i64 0, .slice none 0 0] 42 → Keep (fun j => j = p) w4 w5 → ∀ tmps : Array Value, tmps.getD 2 undef = .pointer (some ⟨p, 0, none⟩) → tmps.getD 3 undef = .int .i64 3 → bodyPost Try.prog Try.f19 (fun e w' => UnpP s w e w') Exit.ret ⟨tmps, []⟩ w5 := by
      intro hno w5 hb5 hk5 tmps ht2 ht3
      refine bodyPost_ret (v := .tuple #[.agg #[.int .i64 0, .int .i64 0, .slice none 0 0], .int .i64 3]) ?_ rfl (.inr ⟨hno, rfl, HB4.out.trans (hk5.below (fun j hj => by rw [hj, ← HP.out]; exact Nat.le_refl _) HB4.out.size)⟩)
      rw [results_cell_tmp rfl, ht2, ht3]
      have hrun := run_loadVar_row (P := Try.prog) w5 p 42 42 _ (0, 0) _ hb5 Try.underlying42 rfl info42
      simp [asAddr, hrun, Result.andThen]
    have HBAD := hid hbad
    clear hbad
    by_cases h0 : bkE b = 0
    · have h0i : ((bkE b : Nat) : Int) = 0 := by omega
      simp only [h0, if_true, h0i]
      have HPB := hid (pageB_len (BkOk.of h0))
      by_cases hps : pageB b = s.data.toList
      · have hsP : (⟨(pageB b).toArray⟩ : ByteArray) = s := by rw [hps]
        have hss : (s.toList == s.toList) = true := by simp
        rw [hsP]
        go_wp2_with (refine wpList_st 42 rfl (.tmp 2) (.tmp 26) rfl p _ #[.int .i64 b.depth, .int .i64 b.next, .slice va M.length vc] rfl rfl HX4.out info42 rfl HONE.out ?_; intro w5 hb5 hk5)
        have HO5 := hid (HO4.out.keep HX4.out hk5)
        have HB5 := hid (HB4.out.trans (hk5.below (fun j hj => by rw [hj, ← HP.out]; exact Nat.le_refl _) HB4.out.size))
        refine bodyPost_ret (v := .tuple #[.agg #[.int .i64 b.depth, .int .i64 b.next, .slice va M.length vc], .int .i64 0]) ?_ rfl (.inl ⟨b, _, M, h0, hps, rfl, HMM.out, HO5.out, HB5.out⟩)
        rw [results_cell_tmp rfl]
        have hrun := run_loadVar_row (P := Try.prog) w5 p 42 42 _ (0, 0) _ hb5 Try.underlying42 rfl info42
        simp [asAddr, hrun, Result.andThen]
      · have hsn : (⟨(pageB b).toArray⟩ : ByteArray) ≠ s := fun e => hps (by rw [← e])
        have HNO : Hid (∀ b0, bkE b0 = 0 → pageB b0 ≠ s.data.toList) := fun b0 hb0 e => hps (by rw [HRP.out b j HRR.out b0 hb0 e]; exact e)
        have hss : ((⟨(pageB b).toArray⟩ : ByteArray).toList == s.toList) = false := by
          rw [beq_eq_false_iff_ne]
          intro h
          rw [Lib.toList_data, Lib.toList_data] at h
          exact hsn (ByteArray.ext (Array.toList_inj.1 h))
        generalize (⟨(pageB b).toArray⟩ : ByteArray) = P at *
        go_wp2_with (refine wpList_st 42 rfl (.tmp 2) (.tmp 25) rfl p _ #[.int .i64 0, .int .i64 0, .slice none 0 0] rfl rfl HX4.out info42 rfl HONZ.out ?_; intro w5 hb5 hk5)
        exact HBAD.out HNO.out w5 hb5 hk5 _ rfl rfl
    · have h0i : ¬ ((bkE b : Nat) : Int) = 0 := by omega
      have HNO : Hid (∀ b0, bkE b0 = 0 → pageB b0 ≠ s.data.toList) := fun b0 hb0 e => h0 (by rw [HRP.out b j HRR.out b0 hb0 e]; exact hb0)
      rw [if_neg h0]
      generalize bkE b = r at *
      go_wp2_with (refine wpList_st 42 rfl (.tmp 2) (.tmp 25) rfl p _ #[.int .i64 0, .int .i64 0, .slice none 0 0] rfl rfl HX4.out info42 rfl HONZ.out ?_; intro w5 hb5 hk5)
      exact HBAD.out HNO.out w5 hb5 hk5 _ rfl rfl
  · have hne : ((s.size : Int) != 256) = true := by rw [bne_iff_ne]; omega
    have HNO : Hid (∀ b, bkE b = 0 → pageB b ≠ s.data.toList) := fun b hb e => by
      have := pageB_len (BkOk.of hb)
      rw [e, ← Lib.size_eq] at this
      exact h256 this
    clear h256
    go_enter Try.func19, Try.ntmps19
    go_wp2_with fail
    have hc := HX1.out
    refine bodyPost_ret (v := .tuple #[.agg #[.int .i64 0, .int .i64 0, .slice none 0 0], .int .i64 3]) ?_ rfl (.inr ⟨HNO.out, rfl, HB1.out⟩)
    rw [results_cell_tmp rfl]
    have c0 := HX1.out.cell (i := 0) rfl
    have c1 := HX1.out.cell (i := 1) rfl
    have c2 := HX1.out.cell (i := 2) rfl
    go_simp
end Go.Proofs.Ythohopbolalpcaa

