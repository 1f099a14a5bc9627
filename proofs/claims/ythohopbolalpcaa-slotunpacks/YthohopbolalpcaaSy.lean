/-
  The document's Copy of a bucket.
-/
import Derived.Test.YthohopbolalpcaaSw
namespace Go.Proofs.Ythohopbolalpcaa
open Go.RowKit
set_option linter.unusedVariables false
set_option linter.unusedSimpArgs false
set_option maxRecDepth 100000

theorem cell_heap {w w' : World} {b k : Nat} (h : w'.heap[b]? = w.heap[b]?) : w'.cell? ⟨b, k, none⟩ = w.cell? ⟨b, k, none⟩ := by
  simp only [World.cell?, h]
/-- how a copy of a bucket ends -/
def CopP (b : Bk) (w : World) (e : Ending) (w' : World) : Prop := ∃ v M, e = .returned (.agg #[.int .i64 b.depth, .int .i64 b.next, v]) ∧ M.map (·.1) = b.nodes ∧ OwnN w' w.heap.size v M ∧ Below w.heap.size w w'

set_option maxHeartbeats 4000000 in
theorem copy_any (b : Bk) (v : Value) (w : World) (hl : LiesN w v b.nodes) (hz : b.nodes.length * 72 ≤ 140737488351232) (hk : SmN b.nodes) :
    Calls Try.prog 17 #[.agg #[.int .i64 b.depth, .int .i64 b.next, v]] w fun e w' => CopP b w e w' := by
  obtain ⟨ad, c, rfl, hcc⟩ := hl.form
  have HBE : Hid (∃ b', b' = b) := ⟨b, rfl⟩
  obtain ⟨d, nx, L⟩ := b
  simp only at *
  have HL := hid hl
  have HK := hid hk
  obtain ⟨n, hn⟩ : ∃ n, L.length = n := ⟨_, rfl⟩
  have HN := hid hn
  have HT : Hid (L.take n = L) := by show _ = _; rw [← hn]; exact List.take_length
  rw [hn] at HL hcc hz ⊢
  clear hl hk hn HBE
  obtain ⟨p, hp⟩ : ∃ p, w.heap.size = p := ⟨_, rfl⟩
  have h1 := (Below.refl w.heap.size w).alloc (Nat.le_refl _) (.cells #[.int .i64 d, .int .i64 nx, .slice ad n c] 42)
  have s1 : (w.alloc (.cells #[.int .i64 d, .int .i64 nx, .slice ad n c] 42)).heap.size = p + 1 := by rw [← hp]; show (w.heap.push _).size = _; rw [Array.size_push]
  have k1 := Blk.made w #[.int .i64 d, .int .i64 nx, .slice ad n c] 42
  have h2 := h1.alloc h1.size (.cells #[.int .i64 0, .int .i64 0, .slice none 0 0] 42)
  have s2 : ((w.alloc (.cells #[.int .i64 d, .int .i64 nx, .slice ad n c] 42)).alloc (.cells #[.int .i64 0, .int .i64 0, .slice none 0 0] 42)).heap.size = p + 1 + 1 := by show (Array.push _ _).size = _; rw [Array.size_push, s1]
  have k2 := Blk.made (w.alloc (.cells #[.int .i64 d, .int .i64 nx, .slice ad n c] 42)) #[.int .i64 0, .int .i64 0, .slice none 0 0] 42
  have HB3 := hid (h2.alloc h2.size (.cells #[.int .i64 d, .int .i64 nx, .slice none 0 0] 42))
  have HX3 := hid ((k1.alloc (.cells #[.int .i64 0, .int .i64 0, .slice none 0 0] 42)).alloc (.cells #[.int .i64 d, .int .i64 nx, .slice none 0 0] 42))
  have HR3 := hid (k2.alloc (.cells #[.int .i64 d, .int .i64 nx, .slice none 0 0] 42))
  have HY3 := hid (Blk.made ((w.alloc (.cells #[.int .i64 d, .int .i64 nx, .slice ad n c] 42)).alloc (.cells #[.int .i64 0, .int .i64 0, .slice none 0 0] 42)) #[.int .i64 d, .int .i64 nx, .slice none 0 0] 42)
  rw [s2] at HY3
  rw [s1] at HR3
  rw [hp] at HX3 HB3
  have HP := hid hp
  have c2 := HX3.out.cell (i := 2) rfl
  clear h1 s1 k1 h2 s2 k2
  go_enter Try.func17, Try.ntmps17
  go_wp2_with fail
  generalize (((w.alloc (Obj.cells #[.int .i64 d, .int .i64 nx, .slice ad n c] 42)).alloc (Obj.cells #[.int .i64 0, .int .i64 0, .slice none 0 0] 42)).alloc (Obj.cells #[.int .i64 d, .int .i64 nx, .slice none 0 0] 42)) = w3 at *
  clear hp c2
  have HO3 : Hid (OwnN w3 p (.slice none 0 0) []) := OwnN.nil _ _
  go_loopw [13] (fun i wr => ∃ (j : Nat) (va : Option Addr) (vc : Nat) (M : List (Nd × Value)), j ≤ n ∧ i = .int .i64 (j : Nat) ∧ Hid (M.length = j) ∧ Hid (M.map (·.1) = L.take j) ∧ Hid (OwnN wr p (.slice va j vc) M) ∧ Hid (Blk wr p #[.int .i64 d, .int .i64 nx, .slice ad n c] 42) ∧ Hid (Blk wr (p + 1) #[.int .i64 0, .int .i64 0, .slice none 0 0] 42) ∧ Hid (Blk wr (p + 1 + 1) #[.int .i64 d, .int .i64 nx, .slice va j vc] 42) ∧ Hid (Below p w wr)) (fun i _ => n - (intOf i).toNat)
  case atStart => exact ⟨0, none, 0, [], Nat.zero_le _, rfl, rfl, rfl, HO3, HX3, HR3, HY3, HB3⟩
  case round =>
    obtain ⟨j, va, vc, M, hj, rfl, HML, HMM, HO, HX, HR, HY, HB⟩ := hrel
    clear HO3 HX3 HR3 HY3 HB3
    have HONE : Hid ((#[.int .i64 d, .int .i64 nx, .slice va j vc] : Array Value).all (·.oneCell') = true) := by show _ = _; simp [Value.oneCell']
    by_cases hjn : j < n
    · have hji : (j : Int) < (n : Int) := by omega
      obtain ⟨x, hx⟩ : ∃ x, L[j]? = some x := ⟨_, List.getElem?_eq_getElem (by rw [HN.out]; exact hjn)⟩
      have hbw : Below w.heap.size w wr := by rw [HP.out]; exact HB.out
      have hd : Below wr.heap.size wr wr.drew := (Below.refl _ wr).drew
      obtain ⟨b, off, kv, e1, hbl, c0, c1, c2, c3, c4, c5, hf⟩ := ((HL.out.on hbw).on hd).at hx
      have HBP : Hid (b < p) := by
        show b < p
        obtain ⟨b2, off2, _, e2, hlt2, _⟩ := HL.out.at hx
        rw [e1] at e2
        cases e2
        rw [← HP.out]
        exact hlt2
      subst e1
      have HC : Hid (∀ w1, Below wr.drew.heap.size wr.drew w1 → Calls Try.prog 31 #[.agg (cellsN x kv)] w1 fun e w' => NodP x w1 e w') := fun w1 hb => copyNode_any x kv w1 (hf.on hb) (HK.out x (List.mem_of_getElem? hx))
      have HTK : Hid (L.take (j + 1) = L.take j ++ [x]) := by show _ = _; rw [List.take_add_one, hx]; rfl
      obtain ⟨ka, kc, rfl⟩ := hf.lies.form
      have HX9 := hid (HX.out.on hd HX.out.lt)
      have HR9 := hid (HR.out.on hd HR.out.lt)
      have HY9 := hid (HY.out.on hd HY.out.lt)
      have HO9 := hid (HO.out.on hd)
      have HB9 := hid HB.out.drew
      clear hx hf hbw hd HX HR HY HO HB
      have HXX : Hid (∃ y, y = x) := ⟨x, rfl⟩
      obtain ⟨y, hy⟩ := HXX.out
      have HYX := hid hy
      clear HXX
      obtain ⟨A, nm, K, ct, q, nx'⟩ := x
      simp only [cellsN] at c0 c1 c2 c3 c4 c5 HC
      rw [← hy] at HC HTK
      clear hy
      generalize K.length = m at *
      go_wp2_with fail
      refine wp_region_d (fun w' => w'.cell? ⟨p + 1 + 1, 2, none⟩ = some (.slice va j vc) ∧ w'.cell? ⟨p, 2, none⟩ = some (.slice (some ⟨b, off, none⟩) n c) ∧ w'.cell? ⟨b, off + j * 6, none⟩ = some (.int .u64 (A : Nat)) ∧ w'.cell? ⟨b, off + j * 6 + 1, none⟩ = some (.string nm) ∧ w'.cell? ⟨b, off + j * 6 + 2, none⟩ = some (.slice ka m kc) ∧ w'.cell? ⟨b, off + j * 6 + 3, none⟩ = some (.int .i64 ct) ∧ w'.cell? ⟨b, off + j * 6 + 4, none⟩ = some (.bool q) ∧ w'.cell? ⟨b, off + j * 6 + 5, none⟩ = some (.int .u64 (nx' : Nat))) (fun i => i != 11) (by kernel_rfl) ?_
      generalize wr.drew = w9 at *
      have HSB : Hid (∀ w', Blk w' (p + 1 + 1) #[.int .i64 d, .int .i64 nx, .slice va j vc] 42 → Blk w' p #[.int .i64 d, .int .i64 nx, .slice (some ⟨b, off, none⟩) n c] 42 → (∀ k, w'.cell? ⟨b, k, none⟩ = w9.cell? ⟨b, k, none⟩) → w'.cell? ⟨p + 1 + 1, 2, none⟩ = some (.slice va j vc) ∧ w'.cell? ⟨p, 2, none⟩ = some (.slice (some ⟨b, off, none⟩) n c) ∧ w'.cell? ⟨b, off + j * 6, none⟩ = some (.int .u64 (A : Nat)) ∧ w'.cell? ⟨b, off + j * 6 + 1, none⟩ = some (.string nm) ∧ w'.cell? ⟨b, off + j * 6 + 2, none⟩ = some (.slice ka m kc) ∧ w'.cell? ⟨b, off + j * 6 + 3, none⟩ = some (.int .i64 ct) ∧ w'.cell? ⟨b, off + j * 6 + 4, none⟩ = some (.bool q) ∧ w'.cell? ⟨b, off + j * 6 + 5, none⟩ = some (.int .u64 (nx' : Nat))) := fun w' h1 h2 h3 => ⟨h1.cell (i := 2) rfl, h2.cell (i := 2) rfl, (h3 _).trans c0, (h3 _).trans c1, (h3 _).trans c2, (h3 _).trans c3, (h3 _).trans c4, (h3 _).trans c5⟩
      have hS := HSB.out w9 HY9.out HX9.out (fun _ => rfl)
      clear c0 c1 c2 c3 c4 c5
      refine wpAnyM_pick (i := 0) (some 16) (v := ?vz1) rfl rfl (by kernel_rfl) (by kernel_rfl) (by kernel_rfl) (by kernel_rfl) (fun _ _ _ h => h) (Or.inl ⟨by rfl, ?hz1⟩) hS ?rz1
      case hz1 => intro w hSw; (first | obtain ⟨hs1, hs2, hs3, hs4, hs5, hs6, hs7, hs8, hs9, hs10, hs11, hs12⟩ := hSw | obtain ⟨hs1, hs2, hs3, hs4, hs5, hs6, hs7, hs8⟩ := hSw | obtain ⟨hs1, hs2, hs3⟩ := hSw | obtain ⟨hs1, hs2⟩ := hSw | skip); go_simp; try with_reducible rfl
      try simp only [Act.put, List.setIfInBounds_toArray, List.set_cons_zero, List.set_cons_succ]
      refine wpAnyM_pick (i := 1) (some 17) (v := ?vz2) rfl rfl (by kernel_rfl) (by kernel_rfl) (by kernel_rfl) (by kernel_rfl) (fun _ _ _ h => h) (Or.inl ⟨by rfl, ?hz2⟩) hS ?rz2
      case hz2 => intro w hSw; (first | obtain ⟨hs1, hs2, hs3, hs4, hs5, hs6, hs7, hs8, hs9, hs10, hs11, hs12⟩ := hSw | obtain ⟨hs1, hs2, hs3, hs4, hs5, hs6, hs7, hs8⟩ := hSw | obtain ⟨hs1, hs2, hs3⟩ := hSw | obtain ⟨hs1, hs2⟩ := hSw | skip); go_simp; try with_reducible rfl
      try simp only [Act.put, List.setIfInBounds_toArray, List.set_cons_zero, List.set_cons_succ]
      refine wpAnyM_pick (i := 2) (some 18) (v := ?vz3) rfl rfl (by kernel_rfl) (by kernel_rfl) (by kernel_rfl) (by kernel_rfl) (fun _ _ _ h => h) (Or.inl ⟨by rfl, ?hz3⟩) hS ?rz3
      case hz3 => intro w hSw; (first | obtain ⟨hs1, hs2, hs3, hs4, hs5, hs6, hs7, hs8, hs9, hs10, hs11, hs12⟩ := hSw | obtain ⟨hs1, hs2, hs3, hs4, hs5, hs6, hs7, hs8⟩ := hSw | obtain ⟨hs1, hs2, hs3⟩ := hSw | obtain ⟨hs1, hs2⟩ := hSw | skip); go_simp; try with_reducible rfl
      try simp only [Act.put, List.setIfInBounds_toArray, List.set_cons_zero, List.set_cons_succ]
      refine wpAnyM_pick (i := 3) (some 19) (v := ?vz4) rfl rfl (by kernel_rfl) (by kernel_rfl) (by kernel_rfl) (by kernel_rfl) (fun _ _ _ h => h) (Or.inl ⟨by rfl, ?hz4⟩) hS ?rz4
      case hz4 => intro w hSw; (first | obtain ⟨hs1, hs2, hs3, hs4, hs5, hs6, hs7, hs8, hs9, hs10, hs11, hs12⟩ := hSw | obtain ⟨hs1, hs2, hs3, hs4, hs5, hs6, hs7, hs8⟩ := hSw | obtain ⟨hs1, hs2, hs3⟩ := hSw | obtain ⟨hs1, hs2⟩ := hSw | skip); go_simp; try with_reducible rfl
      try simp only [Act.put, List.setIfInBounds_toArray, List.set_cons_zero, List.set_cons_succ]
      refine wpAnyM_pick (i := 4) (some 20) (v := ?vz5) rfl rfl (by kernel_rfl) (by kernel_rfl) (by kernel_rfl) (by kernel_rfl) (fun _ _ _ h => h) (Or.inl ⟨by rfl, ?hz5⟩) hS ?rz5
      case hz5 => intro w hSw; (first | obtain ⟨hs1, hs2, hs3, hs4, hs5, hs6, hs7, hs8, hs9, hs10, hs11, hs12⟩ := hSw | obtain ⟨hs1, hs2, hs3, hs4, hs5, hs6, hs7, hs8⟩ := hSw | obtain ⟨hs1, hs2, hs3⟩ := hSw | obtain ⟨hs1, hs2⟩ := hSw | skip); go_simp; try with_reducible rfl
      try simp only [Act.put, List.setIfInBounds_toArray, List.set_cons_zero, List.set_cons_succ]
      refine wpAnyM_pick (i := 5) (some 21) (v := ?vz6) rfl rfl (by kernel_rfl) (by kernel_rfl) (by kernel_rfl) (by kernel_rfl) (fun _ _ _ h => h) (Or.inl ⟨by rfl, ?hz6⟩) hS ?rz6
      case hz6 => intro w hSw; (first | obtain ⟨hs1, hs2, hs3, hs4, hs5, hs6, hs7, hs8, hs9, hs10, hs11, hs12⟩ := hSw | obtain ⟨hs1, hs2, hs3, hs4, hs5, hs6, hs7, hs8⟩ := hSw | obtain ⟨hs1, hs2, hs3⟩ := hSw | obtain ⟨hs1, hs2⟩ := hSw | skip); go_simp; try with_reducible rfl
      try simp only [Act.put, List.setIfInBounds_toArray, List.set_cons_zero, List.set_cons_succ]
      refine wpAnyM_pick (i := 6) (some 22) (v := ?vz7) rfl rfl (by kernel_rfl) (by kernel_rfl) (by kernel_rfl) (by kernel_rfl) (fun _ _ _ h => h) (Or.inl ⟨by rfl, ?hz7⟩) hS ?rz7
      case hz7 => intro w hSw; (first | obtain ⟨hs1, hs2, hs3, hs4, hs5, hs6, hs7, hs8, hs9, hs10, hs11, hs12⟩ := hSw | obtain ⟨hs1, hs2, hs3, hs4, hs5, hs6, hs7, hs8⟩ := hSw | obtain ⟨hs1, hs2, hs3⟩ := hSw | obtain ⟨hs1, hs2⟩ := hSw | skip); go_simp; try with_reducible rfl
      try simp only [Act.put, List.setIfInBounds_toArray, List.set_cons_zero, List.set_cons_succ]
      refine wpAnyM_one (i := 7) (by kernel_rfl) rfl (fun K hK => ?_)
      go_simp
      go_at_call 31
      refine (HC.out _ (Below.refl _ _)).mono ?_
      clear HC
      rintro e w10 ⟨kv2, rfl, hrk, hb10⟩
      have HRK := hid hrk
      have HX10 := hid (HX9.out.on hb10 HX9.out.lt)
      have HR10 := hid (HR9.out.on hb10 HR9.out.lt)
      have HY10 := hid (HY9.out.on hb10 HY9.out.lt)
      have HO10 := hid (HO9.out.on hb10)
      have HPS := hid (Nat.le_of_lt HX9.out.lt)
      have HB10 := hid (HB9.out.trans (hb10.mono HPS.out))
      have HC10 : Hid (∀ k, w10.cell? ⟨b, k, none⟩ = w9.cell? ⟨b, k, none⟩) := fun k => hb10.cell (p := ⟨b, k, none⟩) hbl
      have HBL10 : Hid (b < w10.heap.size) := Nat.lt_of_lt_of_le hbl hb10.size
      clear hrk hb10 HX9 HR9 HY9 HO9 HB9 hS hbl
      have hS := HSB.out w10 HY10.out HX10.out HC10.out
      go_wp2_with fail
      refine hK.out _ _ (fun _ => hS) ?_
      clear hK K
      try simp only [Act.put, List.setIfInBounds_toArray, List.set_cons_zero, List.set_cons_succ]
      obtain ⟨ka2, kc2, rfl⟩ := HRK.out.form
      obtain ⟨kn, hkn⟩ : ∃ kn, y.kids.length = kn := ⟨_, rfl⟩
      have HAL := hid ((Below.refl w10.heap.size w10).alloc (Nat.le_refl _) (.cells (cellsN y (.slice ka2 kn kc2)) 57))
      have HCB := hid (Blk.made w10 (cellsN y (.slice ka2 kn kc2)) 57)
      simp only [hkn, cellsN]
      refine wpAnyM_one (i := 8) (by kernel_rfl) rfl (fun K hK => ?_)
      go_simp
      have hk11 := own_base (HRK.out.on HAL.out) HPS.out
      rw [hkn] at hk11
      have HK11 := hid hk11
      have HKN := hid hkn
      have HX11 := hid (HX10.out.on HAL.out HX10.out.lt)
      have HR11 := hid (HR10.out.on HAL.out HR10.out.lt)
      have HY11 := hid (HY10.out.on HAL.out HY10.out.lt)
      have HO11 := hid (HO10.out.on HAL.out)
      have HSZ10 := hid (Nat.le_of_lt HX10.out.lt)
      have HB11 := hid (HB10.out.trans (HAL.out.mono HSZ10.out))
      have HSZ11 := hid (Nat.le_trans HSZ10.out HAL.out.size)
      have HC11 : Hid (∀ k, (w10.alloc (.cells (cellsN y (.slice ka2 kn kc2)) 57)).cell? ⟨b, k, none⟩ = w9.cell? ⟨b, k, none⟩) := fun k => (HAL.out.cell (p := ⟨b, k, none⟩) HBL10.out).trans (HC10.out k)
      simp only [cellsN] at HCB HX11 HR11 HY11 HO11 HK11 HB11 HSZ11 HC11
      obtain ⟨sq, hsq⟩ : ∃ sq, w10.heap.size = sq := ⟨_, rfl⟩
      rw [hsq] at HCB
      try rw [hsq]
      generalize w10.alloc (Obj.cells #[.int .u64 (y.at' : Nat), .string y.name, .slice ka2 kn kc2, .int .i64 y.count, .bool y.queued, .int .u64 (y.next : Nat)] 57) = w11 at *
      clear hk11 HAL HX10 HR10 HY10 HO10 HB10 HRK hS hsq HC10
      have hS := HSB.out w11 HY11.out HX11.out HC11.out
      refine hK.out _ _ (fun _ => hS) ?_
      clear hK K
      try simp only [Act.put, List.setIfInBounds_toArray, List.set_cons_zero, List.set_cons_succ]
      refine wpAnyM_one (i := 9) (by kernel_rfl) rfl (fun K hK => ?_)
      refine wp_nd w11 (.tmp 17) (.tmp 24) rfl p (.slice va j vc) M j HML.out rfl HO11.out.row HSZ11.out sq y ka2 kn kc2 rfl HCB.out (by omega) ?_
      intro va2 vc2 w12 hr12 hg12
      have hnb : ∀ g, (Value.slice va j vc).ownBlock = some g → g ≠ p + 1 ∧ g ≠ p ∧ g ≠ p + 1 + 1 ∧ p ≤ g := fun g hg => ⟨Blk.ne HR11.out HO11.out.row (by decide) hg, Blk.ne HX11.out HO11.out.row (by decide) hg, Blk.ne HY11.out HO11.out.row (by decide) hg, (World.ownsRow.lt HO11.out.row g hg).1⟩
      have hk12 : Keep (fun j' => (Value.slice va j vc).ownBlock = some j') w11 w12 := Keep.grown hg12 (fun k hk => hk)
      have HX12 := hid (hk12.blk HX11.out (fun h => (hnb _ h).2.1 rfl))
      have HR12 := hid (hk12.blk HR11.out (fun h => (hnb _ h).1 rfl))
      have HY12 := hid (hk12.blk HY11.out (fun h => (hnb _ h).2.2.1 rfl))
      have HC12 : Hid (∀ k, w12.cell? ⟨b, k, none⟩ = w9.cell? ⟨b, k, none⟩) := fun k => (cell_heap (hk12.block b (Nat.lt_of_lt_of_le HBP.out HSZ11.out) (fun h => by have := (hnb _ h).2.2.2; have := HBP.out; omega))).trans (HC11.out k)
      have HO12 : Hid (OwnN w12 p (.slice va2 (j + 1) vc2) (M ++ [(y, .slice ka2 kn kc2)])) := by
        refine ⟨by rw [List.length_append, HML.out]; exact hr12, fun z hz => ?_⟩
        rcases List.mem_append.1 hz with h | h
        · exact hk12.row (HO11.out.kids z h) (fun g hg e => rows_ne (HO11.out.kids z h) HO11.out.row (by decide) hg e)
        · simp at h
          subst h
          have h9 := hk12.row HK11.out (fun g hg e => rows_ne HK11.out HO11.out.row (by decide) hg e)
          show World.ownsRow _ _ _ _ _ y.kids.length _
          rw [HKN.out]
          exact h9
      have HB12 := hid (HB11.out.trans (hk12.below (fun j' hj' => (hnb _ hj').2.2.2) HSZ11.out))
      clear hr12 hg12 hnb hk12 HX11 HR11 HY11 HO11 HK11 HB11 HCB hS HC11
      have hS := HSB.out w12 HY12.out HX12.out HC12.out
      refine hK.out _ _ (fun _ => hS) ?_
      clear hK K
      try simp only [Act.put, List.setIfInBounds_toArray, List.set_cons_zero, List.set_cons_succ]
      refine wpAnyM_pick (i := 10) (some 26) (v := ?vz8) rfl rfl (by kernel_rfl) (by kernel_rfl) (by kernel_rfl) (by kernel_rfl) (fun _ _ _ h => h) (Or.inl ⟨by rfl, ?hz8⟩) hS ?rz8
      case hz8 => intro w hSw; (first | obtain ⟨hs1, hs2, hs3, hs4, hs5, hs6, hs7, hs8, hs9, hs10, hs11, hs12⟩ := hSw | obtain ⟨hs1, hs2, hs3, hs4, hs5, hs6, hs7, hs8⟩ := hSw | obtain ⟨hs1, hs2, hs3⟩ := hSw | obtain ⟨hs1, hs2⟩ := hSw | skip); go_simp; try with_reducible rfl
      try simp only [Act.put, List.setIfInBounds_toArray, List.set_cons_zero, List.set_cons_succ]
      have hf2 := HY12.out.free 2
      have hk13 := Keep.set (S := fun j' => j' = p + 1 + 1) w12 rfl 2 (.slice va2 (j + 1) vc2)
      have HY13 : Hid (Blk (w12.setCell ⟨p + 1 + 1, 2, none⟩ (.slice va2 (j + 1) vc2)) (p + 1 + 1) #[.int .i64 d, .int .i64 nx, .slice va2 (j + 1) vc2] 42) := HY12.out.set 2 _
      have HR13 := hid (hk13.blk HR12.out (by omega))
      have HX13 := hid (hk13.blk HX12.out (by omega))
      have HO13 := hid (HO12.out.keep HY12.out hk13)
      have HB13 := hid (HB12.out.trans (hk13.below (fun j' hj' => by rw [hj']; omega) (Nat.le_of_lt HX12.out.lt)))
      have hcell := hS.1
      clear hk13
      refine wpAnyM_one (i := 11) (by kernel_rfl) rfl (fun K hK => ?_)
      go_simp
      refine hK.out _ _ (fun h => absurd h (by decide)) ?_
      clear hK K hcell
      generalize w12.setCell ⟨p + 1 + 1, 2, none⟩ (.slice va2 (j + 1) vc2) = w13 at *
      try simp only [Act.put, List.setIfInBounds_toArray, List.set_cons_zero, List.set_cons_succ]
      refine wpAnyM_done (by kernel_rfl) ?_ _
      clear hS hf2 HX12 HR12 HY12 HO12 HB12 HC12
      go_wp2_with fail
      go_roundw
      case rel => exact ⟨j + 1, va2, vc2, M ++ [(y, .slice ka2 kn kc2)], by omega, by go_num, by show _ = _; rw [List.length_append, HML.out]; rfl, by show _ = _; rw [HTK.out, List.map_append, HMM.out]; rfl, HO13, HX13, HR13, HY13, HB13⟩
      case measure => simp [intOf]; omega
    · have hji : ¬ (j : Int) < (n : Int) := by omega
      obtain rfl : j = n := by omega
      have c0 := HY.out.cell (i := 0) rfl
      have c1 := HY.out.cell (i := 1) rfl
      have c2 := HY.out.cell (i := 2) rfl
      rw [HT.out] at HMM
      go_wp2_with (refine wpList_st 42 rfl (.tmp 2) (.tmp 28) rfl (p + 1) _ #[.int .i64 d, .int .i64 nx, .slice va j vc] rfl rfl HR.out info42 rfl HONE.out ?_; intro w7 hb7 hk7)
      have HO7 := hid (HO.out.keep HR.out hk7)
      refine bodyPost_ret (results_cell_row rfl _ w7 (p + 1) 42 _ (0, 0) _ rfl hb7 Try.underlying42 rfl info42) rfl ⟨_, M, rfl, HMM.out, by rw [HP.out]; exact HO7.out, ?_⟩
      rw [HP.out]
      exact HB.out.trans (hk7.below (fun j hj => by rw [hj]; omega) (Nat.le_of_lt HX.out.lt))
end Go.Proofs.Ythohopbolalpcaa

