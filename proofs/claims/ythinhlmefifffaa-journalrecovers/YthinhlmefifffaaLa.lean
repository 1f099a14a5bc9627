/-
  What the law's laid answers: two disks on which blocks are laid.
-/
import Derived.Test.YthinhlmefifffaaCp
namespace Go.Proofs.Ythinhlmefifffaa
open Go.RowKit Go.Shelf
set_option linter.unusedVariables false
set_option linter.unusedSimpArgs false
set_option maxRecDepth 100000

/-- two disks side by side, made since w0 -/
def Tw (w0 w : World) (k k' : Nat) (d e : Ds) : Prop :=
  ∃ S R, Dk w S k d ∧ Rk w R k' e ∧ (∀ j, S j → ¬ R j) ∧ (∀ j, S j → w0.heap.size ≤ j) ∧ (∀ j, R j → w0.heap.size ≤ j) ∧ Below w0.heap.size w0 w
theorem Tw.dw {w0 w : World} {k k' : Nat} {d e : Ds} (h : Tw w0 w k k' d e) : Dw w0 w k d := by
  obtain ⟨S, R, h1, h2, h3, h4, h5, h6⟩ := h
  exact ⟨S, h1, h4, h6⟩
/-- where a thing is laid -/
def layAt (n : Nat) (pl : Int) : Nat := (IntKind.u64.wrap pl % (n : Int)).toNat
theorem layAt_lt {n : Nat} (h : 0 < n) (pl : Int) : layAt n pl < n := by
  unfold layAt
  have h1 := Int.emod_nonneg (IntKind.u64.wrap pl) (show (n : Int) ≠ 0 by omega)
  have h2 := Int.emod_lt_of_pos (IntKind.u64.wrap pl) (show (0 : Int) < n by omega)
  omega
def layK (n : Nat) (Y : List Pg) : List ByteArray := Y.foldl (fun b p => b.set (layAt n p.pl) (blk p.data)) (List.replicate n Z)
theorem layK_snoc (n : Nat) (Y : List Pg) (p : Pg) : layK n (Y ++ [p]) = (layK n Y).set (layAt n p.pl) (blk p.data) := by
  unfold layK
  rw [List.foldl_append]
  rfl
theorem foldl_len (n : Nat) : ∀ (Y : List Pg) (b : List ByteArray), (Y.foldl (fun b p => b.set (layAt n p.pl) (blk p.data)) b).length = b.length
  | [], b => rfl
  | p :: Y, b => by rw [List.foldl_cons, foldl_len n Y]; simp
theorem layK_len (n : Nat) (Y : List Pg) : (layK n Y).length = n := by unfold layK; rw [foldl_len]; simp
theorem foldl_size (n : Nat) : ∀ (Y : List Pg) (b : List ByteArray), (∀ s ∈ b, s.size = 256) → ∀ s ∈ Y.foldl (fun b p => b.set (layAt n p.pl) (blk p.data)) b, s.size = 256
  | [], b, h, s, hs => h s hs
  | p :: Y, b, h, s, hs => foldl_size n Y _ (fun t ht => by
      rcases List.mem_or_eq_of_mem_set ht with h' | h'
      · exact h t h'
      · rw [h']; exact blk_size _) s hs
theorem layK_size {n : Nat} {Y : List Pg} {s : ByteArray} (h : s ∈ layK n Y) : s.size = 256 := foldl_size n Y _ (fun s hs => by rw [(List.mem_replicate.1 hs).2]; exact Z_size) s h
/-- a disk's blocks, one of them turned -/
theorem Rk.put {w : World} {R : Nat → Prop} {k' : Nat} {d : Ds} (h : Rk w R k' d) {g n c i : Nat} (hc : w.cell? ⟨k', 0, none⟩ = some (.slice (some ⟨g, 0, none⟩) n c)) (s : ByteArray) (hs : s.size = 256) (hi : i < d.bs.length) : Rk (w.setCell ⟨g, i, none⟩ (.string s)) R k' { d with bs := d.bs.set i s } := by
  obtain ⟨ok, h2, h3, bv, lv, told, left, h4, t1, t2, h5, h6, h7, h8⟩ := h
  rw [show w.cell? ⟨k', 0, none⟩ = some bv from h4.cell rfl] at hc
  cases hc
  have e1 : g ≠ k' := h4.ne h5 (by decide) rfl
  have hg := set_grown w g i (.string s)
  have hn : d.bs.length = n := by
    obtain ⟨a, cap, e, _⟩ := own_cells h5
    injection e with _ e2 _
    exact e2.symm
  refine ⟨⟨?_, ?_, ?_, ?_, ok.lf⟩, fun j hj => by simpa [World.setCell] using h2 j hj, h3, .slice (some ⟨g, 0, none⟩) n c, lv, told, left, h4.other (fun e => e1 e.symm) _, t1, t2, RowS.set h5 hn s, ?_, h7, h8⟩
  · show 64 ≤ (d.bs.set i s).length; rw [List.length_set]; exact ok.lo
  · show (d.bs.set i s).length ≤ 2048; rw [List.length_set]; exact ok.hi
  · intro t ht
    rcases List.mem_or_eq_of_mem_set ht with h' | h'
    · exact ok.bs t h'
    · rw [h']; exact hs
  · intro p hp
    show p.data.size = 256 ∧ 0 ≤ p.pl ∧ p.pl < (d.bs.set i s).length
    rw [List.length_set]
    exact ok.lg p hp
  · refine World.ownsRow.kept h6 hg ?_
    cases e : lv.ownBlock with
    | none => exact .inl rfl
    | some g2 => exact .inr (fun x => rows_ne h6 h5 (by decide) e (by rw [← Option.some.inj x]; rfl))

set_option maxHeartbeats 8000000 in
theorem laid_any (n : Int) (v : Value) (Y : List Pg) (w : World) (hl : LiesO w (fun _ => False) v Y) :
    Calls Try.prog 14 #[.int .i64 n, v] w fun e w' => ∃ k k', e = .returned (.tuple #[.pointer (some ⟨k, 0, none⟩), .pointer (some ⟨k', 0, none⟩)]) ∧ Tw w w' k k' ⟨layK (szN n) Y, [], -1, false⟩ ⟨layK (szN n) Y, [], -1, false⟩ := by
  obtain ⟨i0, hi, hz0, hz1, hz2⟩ := info_parts info9
  have hsz := size_any n w
  have l1 := szN_lo n
  have l2 := szN_hi n
  have hnw := rNew_any (szN n) l1 (by omega) w
  obtain ⟨a, c, e1⟩ := hl.form
  subst e1
  have HL := hid hl
  have hlen := hl.len
  unfold maxLen at hlen
  obtain ⟨M, hM⟩ : ∃ M, Y.length = M := ⟨_, rfl⟩
  have HM := hid hM
  obtain ⟨N, hN⟩ : ∃ N, szN n = N := ⟨_, rfl⟩
  rw [hN] at hsz hnw l1 l2 ⊢
  rw [hM] at hlen ⊢
  clear hl hM hN
  go_enter Try.func14, Try.ntmps14
  go_wp2_with (first
    | (go_at_call 37; refine hsz.mono ?_; clear hsz; rintro e w1 ⟨rfl, rfl⟩)
    | (go_at_call 36; refine hnw.mono ?_; clear hnw; rintro e w1 ⟨k', rfl, hr1, hb1⟩; have HB1 := hid hb1; have HR1 : Hid (Rk w1 (Bt w.heap.size w1.heap.size) k' ⟨layK N [], [], -1, false⟩) := hr1; clear hr1 hb1))
  go_loopw [15] (fun i wr => ∃ j : Nat, j ≤ M ∧ i = .int .i64 (j : Nat) ∧ Hid (Rk wr (Bt w.heap.size w1.heap.size) k' ⟨layK N (Y.take j), [], -1, false⟩) ∧ Hid (Below w.heap.size w wr)) (fun i _ => M - (intOf i).toNat)
  case atStart => exact ⟨0, Nat.zero_le _, rfl, HR1, HB1⟩
  case round =>
    obtain ⟨j, hj, rfl, HR, HB⟩ := hrel
    clear HR1
    by_cases hlt : j < M
    · have hji : (j : Int) < (M : Int) := by omega
      obtain ⟨p, hp⟩ : ∃ p, Y[j]? = some p := ⟨_, List.getElem?_eq_getElem (by rw [HM.out]; exact hlt)⟩
      have HSN : Hid (layK N (Y.take (j + 1)) = (layK N (Y.take j)).set (layAt N p.pl) (blk p.data)) := by
        show _ = _
        rw [take_snoc hp, layK_snoc]
      have HLK := hid (layK_len N (Y.take j))
      obtain ⟨b, off, hab, hblt, _, cp0, cp1, hpl, hpd⟩ := HL.out.at hp
      subst hab
      have hqN := layAt_lt (show 0 < N by omega) p.pl
      have hqe : IntKind.u64.wrap p.pl % (N : Int) = ((layAt N p.pl : Nat) : Int) := by
        unfold layAt
        have h1 := Int.emod_nonneg (IntKind.u64.wrap p.pl) (show (N : Int) ≠ 0 by omega)
        omega
      have hu0 : 0 ≤ IntKind.u64.wrap p.pl := by rw [IntKind.wrap_u64]; omega
      have hqt : (IntKind.u64.wrap p.pl).tmod (N : Int) = ((layAt N p.pl : Nat) : Int) := by rw [Int.tmod_eq_emod_of_nonneg hu0]; exact hqe
      have hbk : ∀ w5, _ := fun w5 => lBlock_any p.data hpd w5
      have HBZ := hid (blk_size p.data)
      obtain ⟨pl, data⟩ := p
      simp only at cp0 cp1 hqN hqe hqt hu0 hbk HSN HBZ
      obtain ⟨q, hq⟩ : ∃ q, layAt N pl = q := ⟨_, rfl⟩
      rw [hq] at hqN hqe hqt HSN
      obtain ⟨t, ht⟩ : ∃ t, blk data = t := ⟨_, rfl⟩
      rw [ht] at hbk HSN HBZ
      obtain ⟨u, hu⟩ : ∃ u, IntKind.u64.wrap pl = u := ⟨_, rfl⟩
      rw [hu] at hqe hqt hu0
      have hNw : IntKind.u64.wrap (N : Int) = (N : Int) := by rw [IntKind.wrap_u64]; omega
      have hqw : IntKind.u64.wrap (q : Int) = (q : Int) := by rw [IntKind.wrap_u64]; omega
      have hqi : IntKind.i64.wrap (q : Int) = (q : Int) := by rw [IntKind.wrap_i64]; omega
      have hqNi : (q : Int) < (N : Int) := by omega
      have hN0 : ¬ N = 0 := by omega
      have HR0 := hid (HR.out.on (Below.drew (Below.refl _ wr)))
      have HB0 := hid (HB.out.drew)
      have HF : Hid (∀ w5, Rk w5 (Bt w.heap.size w1.heap.size) k' ⟨layK N (Y.take j), [], -1, false⟩ → Below w.heap.size w w5 → ∃ g bc, w5.cell? ⟨k', 0, none⟩ = some (.slice (some ⟨g, 0, none⟩) N bc) ∧ w.heap.size ≤ g ∧ (∃ s, w5.cell? ⟨g, q, none⟩ = some (.string s)) ∧ w5.frozen? ⟨g, q, none⟩ = false) := fun w5 h hb => by
        obtain ⟨ok, _, _, bv, lv, told, left, h4, _, _, h5, _, h7, _⟩ := h
        obtain ⟨g, cap, hv, hc1, _, _, _⟩ := own_some h5 (by rw [HLK.out]; omega)
        subst hv
        refine ⟨g, cap, ?_, (h7 g rfl).1, ?_, ?_⟩
        · have := h4.cell (i := 0) (v := .slice (some ⟨g, 0, none⟩) (layK N (Y.take j)).length cap) rfl
          rw [HLK.out] at this
          exact this
        · exact ⟨_, (h5.at (i := q) (List.getElem?_eq_getElem (by rw [HLK.out]; exact hqN))).1⟩
        · exact (h5.at (i := q) (List.getElem?_eq_getElem (by rw [HLK.out]; exact hqN))).2
      obtain ⟨g, bc, cg, hwg, _, _⟩ := HF.out _ HR0.out HB0.out
      have HCP : Hid (∀ w5, Below w.heap.size w w5 → w5.cell? ⟨b, off + j * 2, none⟩ = some (.int .i64 pl) ∧ w5.cell? ⟨b, off + j * 2 + 1, none⟩ = some (.string data)) := fun w5 hb => ⟨(hb.cell (p := ⟨b, off + j * 2, none⟩) hblt).trans cp0, (hb.cell (p := ⟨b, off + j * 2 + 1, none⟩) hblt).trans cp1⟩
      have HSW : wr.drew.cell? ⟨k', 0, none⟩ = some (.slice (some ⟨g, 0, none⟩) N bc) ∧ wr.drew.cell? ⟨b, off + j * 2, none⟩ = some (.int .i64 pl) ∧ wr.drew.cell? ⟨b, off + j * 2 + 1, none⟩ = some (.string data) := ⟨cg, HCP.out _ HB0.out⟩
      have hkk : k' < w1.heap.size := (HR.out.2.2.1).2
      clear hp hq ht HR HB cp0 cp1 cg hwg
      go_wp2_with fail
      refine wp_region_m (fun w' => w'.cell? ⟨k', 0, none⟩ = some (.slice (some ⟨g, 0, none⟩) N bc) ∧ w'.cell? ⟨b, off + j * 2, none⟩ = some (.int .i64 pl) ∧ w'.cell? ⟨b, off + j * 2 + 1, none⟩ = some (.string data)) 25 (by kernel_rfl) ?_
      refine wpAnyM_pick (i := 0) (some 18) (v := ?vz1) rfl rfl (by kernel_rfl) (by kernel_rfl) (by kernel_rfl) (by kernel_rfl) (fun _ _ _ h => h) (Or.inl ⟨by rfl, ?hz1⟩) HSW ?rz1
      case hz1 => intro w hSw; go_simp; try with_reducible rfl
      try simp only [Act.put, List.setIfInBounds_toArray, List.set_cons_zero, List.set_cons_succ]
      refine wpAnyM_pick (i := 1) (some 19) (v := ?vz2) rfl rfl (by kernel_rfl) (by kernel_rfl) (by kernel_rfl) (by kernel_rfl) (fun _ _ _ h => h) (Or.inl ⟨by rfl, ?hz2⟩) HSW ?rz2
      case hz2 => intro w hSw; go_simp; try with_reducible rfl
      try simp only [Act.put, List.setIfInBounds_toArray, List.set_cons_zero, List.set_cons_succ]
      refine wpAnyM_pick (i := 2) (some 20) (v := ?vz3) rfl rfl (by kernel_rfl) (by kernel_rfl) (by kernel_rfl) (by kernel_rfl) (fun _ _ _ h => h) (Or.inl ⟨by rfl, ?hz3⟩) HSW ?rz3
      case hz3 => intro w hSw; go_simp; try with_reducible rfl
      try simp only [Act.put, List.setIfInBounds_toArray, List.set_cons_zero, List.set_cons_succ]
      refine wpAnyM_pick (i := 3) (some 21) (v := ?vz4) rfl rfl (by kernel_rfl) (by kernel_rfl) (by kernel_rfl) (by kernel_rfl) (fun _ _ _ h => h) (Or.inl ⟨by rfl, ?hz4⟩) HSW ?rz4
      case hz4 => intro w hSw; go_simp; try with_reducible rfl
      try simp only [Act.put, List.setIfInBounds_toArray, List.set_cons_zero, List.set_cons_succ]
      refine wpAnyM_pick (i := 4) (some 22) (v := ?vz5) rfl rfl (by kernel_rfl) (by kernel_rfl) (by kernel_rfl) (by kernel_rfl) (fun _ _ _ h => h) (Or.inl ⟨by rfl, ?hz5⟩) HSW ?rz5
      case hz5 => intro w hSw; go_simp; try with_reducible rfl
      try simp only [Act.put, List.setIfInBounds_toArray, List.set_cons_zero, List.set_cons_succ]
      refine wpAnyM_pick (i := 5) (some 23) (v := ?vz6) rfl rfl (by kernel_rfl) (by kernel_rfl) (by kernel_rfl) (by kernel_rfl) (fun _ _ _ h => h) (Or.inl ⟨by rfl, ?hz6⟩) HSW ?rz6
      case hz6 => intro w hSw; go_simp; try with_reducible rfl
      try simp only [Act.put, List.setIfInBounds_toArray, List.set_cons_zero, List.set_cons_succ]
      refine wpAnyM_pick (i := 6) (some 24) (v := ?vz7) rfl rfl (by kernel_rfl) (by kernel_rfl) (by kernel_rfl) (by kernel_rfl) (fun _ _ _ h => h) (Or.inl ⟨by rfl, ?hz7⟩) HSW ?rz7
      case hz7 => intro w hSw; go_simp; try with_reducible rfl
      try simp only [Act.put, List.setIfInBounds_toArray, List.set_cons_zero, List.set_cons_succ]
      refine wpAnyM_pick (i := 7) (some 25) (v := ?vz8) rfl rfl (by kernel_rfl) (by kernel_rfl) (by kernel_rfl) (by kernel_rfl) (fun _ _ _ h => h) (Or.inl ⟨by rfl, ?hz8⟩) HSW ?rz8
      case hz8 => intro w hSw; go_simp; try with_reducible rfl
      try simp only [Act.put, List.setIfInBounds_toArray, List.set_cons_zero, List.set_cons_succ]
      refine wpAnyM_pick (i := 8) (some 26) (v := ?vz9) rfl rfl (by kernel_rfl) (by kernel_rfl) (by kernel_rfl) (by kernel_rfl) (fun _ _ _ h => h) (Or.inl ⟨by rfl, ?hz9⟩) HSW ?rz9
      case hz9 => intro w hSw; go_simp; try with_reducible rfl
      try simp only [Act.put, List.setIfInBounds_toArray, List.set_cons_zero, List.set_cons_succ]
      refine wpAnyM_pick (i := 9) (some 27) (v := ?vz10) rfl rfl (by kernel_rfl) (by kernel_rfl) (by kernel_rfl) (by kernel_rfl) (fun _ _ _ h => h) (Or.inl ⟨by rfl, ?hz10⟩) HSW ?rz10
      case hz10 => intro w hSw; go_simp; try with_reducible rfl
      try simp only [Act.put, List.setIfInBounds_toArray, List.set_cons_zero, List.set_cons_succ]
      refine wpAnyM_pick (i := 10) (some 28) (v := ?vz11) rfl rfl (by kernel_rfl) (by kernel_rfl) (by kernel_rfl) (by kernel_rfl) (fun _ _ _ h => h) (Or.inl ⟨by rfl, ?hz11⟩) HSW ?rz11
      case hz11 => intro w hSw; go_simp; try with_reducible rfl
      try simp only [Act.put, List.setIfInBounds_toArray, List.set_cons_zero, List.set_cons_succ]
      refine wpAnyM_pick (i := 11) (some 29) (v := ?vz12) rfl rfl (by kernel_rfl) (by kernel_rfl) (by kernel_rfl) (by kernel_rfl) (fun _ _ _ h => h) (Or.inl ⟨by rfl, ?hz12⟩) HSW ?rz12
      case hz12 => intro w hSw; go_simp; try with_reducible rfl
      try simp only [Act.put, List.setIfInBounds_toArray, List.set_cons_zero, List.set_cons_succ]
      refine wpAnyM_pick (i := 12) (some 30) (v := ?vz13) rfl rfl (by kernel_rfl) (by kernel_rfl) (by kernel_rfl) (by kernel_rfl) (fun _ _ _ h => h) (Or.inl ⟨by rfl, ?hz13⟩) HSW ?rz13
      case hz13 => intro w hSw; go_simp; try with_reducible rfl
      try simp only [Act.put, List.setIfInBounds_toArray, List.set_cons_zero, List.set_cons_succ]
      refine wpAnyM_pick (i := 13) (some 31) (v := ?vz14) rfl rfl (by kernel_rfl) (by kernel_rfl) (by kernel_rfl) (by kernel_rfl) (fun _ _ _ h => h) (Or.inl ⟨by rfl, ?hz14⟩) HSW ?rz14
      case hz14 => intro w hSw; go_simp; try with_reducible rfl
      try simp only [Act.put, List.setIfInBounds_toArray, List.set_cons_zero, List.set_cons_succ]
      refine wpAnyM_pick (i := 14) (some 32) (v := ?vz15) rfl rfl (by kernel_rfl) (by kernel_rfl) (by kernel_rfl) (by kernel_rfl) (fun _ _ _ h => h) (Or.inl ⟨by rfl, ?hz15⟩) HSW ?rz15
      case hz15 => intro w hSw; go_simp; try with_reducible rfl
      try simp only [Act.put, List.setIfInBounds_toArray, List.set_cons_zero, List.set_cons_succ]
      refine wpAnyM_pick (i := 15) (some 33) (v := ?vz16) rfl rfl (by kernel_rfl) (by kernel_rfl) (by kernel_rfl) (by kernel_rfl) (fun _ _ _ h => h) (Or.inl ⟨by rfl, ?hz16⟩) HSW ?rz16
      case hz16 => intro w hSw; go_simp; try with_reducible rfl
      try simp only [Act.put, List.setIfInBounds_toArray, List.set_cons_zero, List.set_cons_succ]
      refine wpAnyM_pick (i := 16) (some 34) (v := ?vz17) rfl rfl (by kernel_rfl) (by kernel_rfl) (by kernel_rfl) (by kernel_rfl) (fun _ _ _ h => h) (Or.inl ⟨by rfl, ?hz17⟩) HSW ?rz17
      case hz17 => intro w hSw; go_simp; try with_reducible rfl
      try simp only [Act.put, List.setIfInBounds_toArray, List.set_cons_zero, List.set_cons_succ]
      refine wpAnyM_pick (i := 17) (some 35) (v := ?vz18) rfl rfl (by kernel_rfl) (by kernel_rfl) (by kernel_rfl) (by kernel_rfl) (fun _ _ _ h => h) (Or.inl ⟨by rfl, ?hz18⟩) HSW ?rz18
      case hz18 => intro w hSw; go_simp; try with_reducible rfl
      try simp only [Act.put, List.setIfInBounds_toArray, List.set_cons_zero, List.set_cons_succ]
      refine wpAnyM_pick (i := 18) (some 36) (v := ?vz19) rfl rfl (by kernel_rfl) (by kernel_rfl) (by kernel_rfl) (by kernel_rfl) (fun _ _ _ h => h) (Or.inl ⟨by rfl, ?hz19⟩) HSW ?rz19
      case hz19 => intro w hSw; go_simp; try with_reducible rfl
      try simp only [Act.put, List.setIfInBounds_toArray, List.set_cons_zero, List.set_cons_succ]
      refine wpAnyM_pick (i := 19) (some 37) (v := ?vz20) rfl rfl (by kernel_rfl) (by kernel_rfl) (by kernel_rfl) (by kernel_rfl) (fun _ _ _ h => h) (Or.inl ⟨by rfl, ?hz20⟩) HSW ?rz20
      case hz20 => intro w hSw; go_simp; try with_reducible rfl
      try simp only [Act.put, List.setIfInBounds_toArray, List.set_cons_zero, List.set_cons_succ]
      refine wpAnyM_pick (i := 20) (some 38) (v := ?vz21) rfl rfl (by kernel_rfl) (by kernel_rfl) (by kernel_rfl) (by kernel_rfl) (fun _ _ _ h => h) (Or.inl ⟨by rfl, ?hz21⟩) HSW ?rz21
      case hz21 => intro w hSw; go_simp; try with_reducible rfl
      try simp only [Act.put, List.setIfInBounds_toArray, List.set_cons_zero, List.set_cons_succ]
      refine wpAnyM_pick (i := 21) (some 39) (v := ?vz22) rfl rfl (by kernel_rfl) (by kernel_rfl) (by kernel_rfl) (by kernel_rfl) (fun _ _ _ h => h) (Or.inl ⟨by rfl, ?hz22⟩) HSW ?rz22
      case hz22 => intro w hSw; go_simp; try with_reducible rfl
      try simp only [Act.put, List.setIfInBounds_toArray, List.set_cons_zero, List.set_cons_succ]
      refine wpAnyM_pick (i := 22) (some 40) (v := ?vz23) rfl rfl (by kernel_rfl) (by kernel_rfl) (by kernel_rfl) (by kernel_rfl) (fun _ _ _ h => h) (Or.inl ⟨by rfl, ?hz23⟩) HSW ?rz23
      case hz23 => intro w hSw; go_simp; try with_reducible rfl
      try simp only [Act.put, List.setIfInBounds_toArray, List.set_cons_zero, List.set_cons_succ]
      refine wpAnyM_one (i := 23) (by kernel_rfl) rfl (fun K hK => ?_)
      go_simp
      go_at_call 32
      refine (hbk _).mono ?_
      clear hbk
      rintro e w2 ⟨rfl, hb2⟩
      have HR2 := hid (HR0.out.on hb2)
      have HB2 := hid (HB0.out.trans (hb2.mono HB0.out.size))
      have hkd : w2.cell? ⟨k', 0, none⟩ = some (.slice (some ⟨g, 0, none⟩) N bc) := (hb2.cell (p := ⟨k', 0, none⟩) (HR0.out.2.1 k' HR0.out.2.2.1)).trans HSW.1
      obtain ⟨g2, bc2, cg2, hwg, ⟨s0, cs0⟩, fs0⟩ := HF.out _ HR2.out HB2.out
      obtain ⟨rfl, rfl⟩ : g = g2 ∧ bc = bc2 := by rw [hkd] at cg2; simpa using cg2
      have HSW2 : w2.cell? ⟨k', 0, none⟩ = some (.slice (some ⟨g, 0, none⟩) N bc) ∧ w2.cell? ⟨b, off + j * 2, none⟩ = some (.int .i64 pl) ∧ w2.cell? ⟨b, off + j * 2 + 1, none⟩ = some (.string data) := ⟨hkd, HCP.out _ HB2.out⟩
      clear HSW HR0 HB0 hb2 cg2
      go_wp2_with fail
      refine hK.out _ _ (fun _ => HSW2) ?_
      clear hK K
      try simp only [Act.put, List.setIfInBounds_toArray, List.set_cons_zero, List.set_cons_succ]
      refine wpAnyM_pick (i := 24) (some 42) (v := ?vz24) rfl rfl (by kernel_rfl) (by kernel_rfl) (by kernel_rfl) (by kernel_rfl) (fun _ _ _ h => h) (Or.inl ⟨by rfl, ?hz24⟩) HSW2 ?rz24
      case hz24 => intro w hSw; go_simp; try with_reducible rfl
      try simp only [Act.put, List.setIfInBounds_toArray, List.set_cons_zero, List.set_cons_succ]
      refine wpAnyM_one (i := 25) (by kernel_rfl) rfl (fun K hK => ?_)
      go_simp
      have HR3 : Hid (Rk (w2.setCell ⟨g, q, none⟩ (.string t)) (Bt w.heap.size w1.heap.size) k' ⟨layK N (Y.take (j + 1)), [], -1, false⟩) := by
        have := HR2.out.put hkd t HBZ.out (i := q) (by show q < (layK N (Y.take j)).length; rw [HLK.out]; exact hqN)
        rw [HSN.out]
        exact this
      have HB3 := hid (HB2.out.setCell (p := ⟨g, q, none⟩) hwg (.string t))
      refine hK.out _ _ (fun h => absurd h (by decide)) ?_
      clear hK K
      refine wpAnyM_done (by kernel_rfl) ?_ _
      try simp only [Act.put, List.setIfInBounds_toArray, List.set_cons_zero, List.set_cons_succ]
      clear HSW2 HR2 HB2 hkd cs0 fs0 HF HCP
      go_wp2_with fail
      go_roundw
      case rel => exact ⟨j + 1, by omega, by go_num, HR3, HB3⟩
      case measure => simp [intOf]; omega
    · have hji : ¬ (j : Int) < (M : Int) := by omega
      obtain rfl : j = M := by omega
      have HT : Hid (Y.take j = Y) := List.take_of_length_le (by rw [HM.out]; omega)
      rw [HT.out] at HR
      have HLK := hid (layK_len N Y)
      have HLS : Hid (∀ s ∈ layK N Y, s.size = 256) := fun s hs => layK_size hs
      obtain ⟨g, bc, cg, hgl, HRW⟩ : ∃ g bc, wr.cell? ⟨k', 0, none⟩ = some (.slice (some ⟨g, 0, none⟩) N bc) ∧ g < wr.heap.size ∧ Hid (RowS wr 0 (.slice (some ⟨g, 0, none⟩) N bc) (layK N Y)) := by
        obtain ⟨ok, _, _, bv, lv, told, left, h4, _, _, h5, _⟩ := HR.out
        obtain ⟨g, cap, hv, _, _, _, hlt⟩ := own_some h5 (by rw [HLK.out]; omega)
        subst hv
        have h6 := h4.cell (i := 0) (v := .slice (some ⟨g, 0, none⟩) (layK N Y).length cap) rfl
        rw [HLK.out] at h6 h5
        exact ⟨g, cap, h6, hlt, h5⟩
      have hkl : k' < wr.heap.size := HR.out.2.1 k' HR.out.2.2.1
      have cg2 : (wr.alloc (.cells #[] 9)).cell? ⟨k', 0, none⟩ = some (.slice (some ⟨g, 0, none⟩) N bc) := ((Below.refl _ wr).alloc (Nat.le_refl _) _ |>.cell (p := ⟨k', 0, none⟩) hkl).trans cg
      have HSR : Hid (∀ j u, (flatS (layK N Y))[j]? = some u → (wr.alloc (.cells #[] 9)).cell? ((⟨g, 0, none⟩ : Addr).add j) = some u) := fun j u hj => by
        have h1 := World.ownsRow.cells HRW.out (g := g) rfl j u hj
        rw [add_plain] at h1 ⊢
        exact ((Below.refl _ wr).alloc (Nat.le_refl _) _ |>.cell (p := ⟨g, 0 + j, none⟩) hgl).trans h1
      have hll : (flatS (layK N Y)).length = N * 1 := by rw [flatS_length, HLK.out]
      have HOF : Hid (∀ w1 B v, RowS w1 B v (layK N Y) → Calls Try.prog 38 #[v] w1 fun e w' => ∃ k, e = .returned (.tuple #[.pointer (some ⟨k, 0, none⟩), .int .i64 0]) ∧ Dk w' (Bt w1.heap.size w'.heap.size) k ⟨layK N Y, [], -1, false⟩ ∧ Below w1.heap.size w1 w') := fun w1 B v hv => by
        refine (of_any w1 B v (layK N Y) hv (by rw [HLK.out]; omega) (fun s hs => by rw [HLS.out s hs]; decide)).mono fun e w' hp => ?_
        obtain ⟨hb, hp⟩ := hp
        have h0 : ofE (layK N Y) = 0 := by
          unfold ofE
          rw [if_neg (by rw [HLK.out]; omega), if_pos (List.all_eq_true.2 fun s hs => by simpa using HLS.out s hs)]
        obtain ⟨_, k, he, hd⟩ := hp.resolve_left (fun h => h.1 h0)
        exact ⟨k, he, hd, hb⟩
      clear cg
      go_wp2_with (first
        | (at_builtin; refine wpList_append_blk _ rfl (.tmp 45) (.tmp 49) 37 rfl wr.heap.size 9 i0 (.string ⟨#[]⟩) 1 16 Try.underlying37 hi hz0 hz1 hz2 rfl (by decide) _ 0 [] rfl (World.ownsRow_lit (base := wr.heap.size) (e := 9) (size := 1) wr #[] 0 (Nat.le_refl _) (by decide) rfl) ⟨g, 0, none⟩ N bc (flatS (layK N Y)) rfl hll HSR.out (flatS_one _) ?c2 ?c3 ?c4 ?c5 ?_))
      case c2 => omega
      case c3 => unfold maxLen; omega
      case c4 => omega

      intro v' w2 hown' hgrow hmv
      have HB2 : Hid (Below wr.heap.size wr w2) := ((Below.refl _ wr).alloc (Nat.le_refl _) _).grown hgrow (by simp) (fun g hg => by simp [Value.ownBlock] at hg; omega)
      have HR2 : Hid (RowS w2 wr.heap.size v' (layK N Y)) := by
        refine hid ?_
        unfold RowS
        rw [HLK.out]
        simpa using hown'
      obtain ⟨va, vc, hv'⟩ := own_form hown'
      subst hv'
      clear hown' hgrow hmv cg2
      go_wp2_with (go_at_call 38; refine (HOF.out _ _ _ HR2.out).mono ?_; clear HOF; rintro e w3 ⟨k, rfl, hd3, hb3⟩; have H3 := hid hd3; have HB3 := hid hb3; clear hd3 hb3)
      go_ret2
      have hbw : Below wr.heap.size wr w3 := HB2.out.trans (HB3.out.mono HB2.out.size)
      refine ⟨k, k', rfl, Bt w2.heap.size w3.heap.size, Bt w.heap.size w1.heap.size, H3.out, HR.out.on hbw, fun j hs hr => ?_, fun j hs => ?_, fun j hr => hr.1, HB.out.trans (hbw.mono HB.out.size)⟩
      · have a1 := hs.1
        have a2 := HR.out.2.1 j hr
        have a3 := HB2.out.size
        omega
      · have a1 := hs.1
        have a3 := HB2.out.size
        have a4 := HB.out.size
        omega

end Go.Proofs.Ythinhlmefifffaa
