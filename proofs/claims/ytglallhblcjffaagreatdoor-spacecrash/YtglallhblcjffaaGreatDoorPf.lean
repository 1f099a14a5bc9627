/-
  What change and Store do.
-/
import Derived.Test.YtglallhblcjffaaGreatDoorPe
import Derived.Test.YtglallhblcjffaaGreatDoorRi
namespace Go.Proofs.YtglallhblcjffaaGreatDoor
open Go.RowKit
set_option linter.unusedVariables false
set_option linter.unusedSimpArgs false
set_option maxRecDepth 100000

theorem flatP_set : ∀ (L : List Pg) (i : Nat) (c : Pg), ((flatP L).set (i * 2) (.int .i64 c.pl)).set (i * 2 + 1) (.string c.data) = flatP (L.set i c)
  | [], i, c => by simp [flatP]
  | x :: r, 0, c => rfl
  | x :: r, i + 1, c => by
    rw [show (i + 1) * 2 = i * 2 + 1 + 1 by omega]
    simp only [flatP, List.set_cons_succ]
    rw [flatP_set r i c]
section
variable {w : World} {S : Nat → Prop} {k q : Nat} {p : Pp}

/-- the changed pages turned: a row and the pager's cell for it -/
theorem Su.chg {T : Nat → Prop} {room rd : Nat} {U : List Int} {hs : List Hp} {ch ch' : List Pg} {w w' : World} (h : Su w T k q room rd U hs ch) {cv c' : Value} (hu : w.cell? ⟨q, 1, none⟩ = some cv) (hg : w.grownBy w' cv.ownBlock) (hr : RowP w' 0 c' ch') (hm : Moved w cv c') :
    ∃ T', Su (w'.setCell ⟨q, 1, none⟩ c') T' k q room rd U hs ch' ∧ Grows T T' w ∧ Keep T w (w'.setCell ⟨q, 1, none⟩ c') := by
  obtain ⟨h1, h2, cv', uv, m, h3, h4, h5, h6, h7, h8, h9⟩ := h
  have e : some cv' = some cv := (h3.cell (i := 1) rfl).symm.trans hu
  cases e
  have hk : Keep (fun j => cv.ownBlock = some j) w w' := Keep.grown hg (fun j e => e)
  have b3 := hk.blk h3 (fun e => (h3.ne h4 (by decide) e) rfl)
  have k2 : Keep (fun j => j = q) w' (w'.setCell ⟨q, 1, none⟩ c') := Keep.set (S := fun j => j = q) w' rfl 1 c'
  have r5 := hk.row h5 (fun g e e2 => rows_ne h5 h4 (by decide) e e2)
  have m6 := hk.imap h6 (fun e => h6.ne_row h4 e rfl)
  have hsz : (w'.setCell ⟨q, 1, none⟩ c').heap.size = w'.heap.size := by simp [World.setCell]
  refine ⟨fun j => T j ∨ (c'.ownBlock = some j ∧ w.heap.size ≤ j), ⟨fun j hj => ?_, .inl h2, c', uv, m, b3.set 1 c', k2.row hr (fun g e => b3.ne hr (by decide) e), k2.row r5 (fun g e => b3.ne r5 (by decide) e), k2.imap m6 (fun e => (m6.ne_blk b3) e.symm), fun g e => ?_, fun g e => .inl (h8 g e), .inl h9⟩, fun j hj => ?_, ?_⟩
  · rw [hsz]
    rcases hj with hj | ⟨hj, _⟩
    · exact Nat.lt_of_lt_of_le (h1 j hj) hg.size
    · exact (World.ownsRow.lt hr j hj).2
  · rcases hm g e with e1 | e1
    · exact .inl (h7 g e1)
    · exact .inr ⟨e, e1⟩
  · rcases hj with hj | hj
    · exact .inl hj
    · exact .inr hj.2
  · exact (hk.mono (fun j _ e => h7 j e)).trans (k2.mono (fun j _ e => by subst e; exact h2)) (fun _ _ h => h)

set_option maxHeartbeats 2000000 in
theorem change_any (a : Int) (s : ByteArray) (hs : s.size = 256) (N : Nat) (hok : p.Ok N) (hlen : p.ch.length ≤ 1500) (h : Pk w S k q p) :
    Calls Tryz.prog 91 #[.pointer (some ⟨q, 0, none⟩), .agg #[.int .i64 a, .string s]] w fun e w' => e = .returned (.tuple #[]) ∧ Pm w S k q { p with ch := insC p.ch a s } w' := by
  obtain ⟨A, M, B, hc, hA, hB, hM⟩ := hok.srt.cut a
  have hins : insC p.ch a s = A ++ ⟨a, s⟩ :: B := by rw [hc]; exact insC_cut hA hB hM s
  rw [hins]
  obtain ⟨W0, hW0⟩ : ∃ W0, w.alloc (.cells #[.int .i64 a, .string s] 101) = W0 := ⟨_, rfl⟩
  have hb0 : Below w.heap.size w W0 := by rw [← hW0]; exact (Below.refl _ _).alloc (Nat.le_refl _) _
  have hbk : Blk W0 w.heap.size #[.int .i64 a, .string s] 101 := by rw [← hW0]; exact Blk.made _ _ _
  have hsz0 : W0.heap.size = w.heap.size + 1 := by rw [← hW0]; exact size_alloc _ _
  have h0 := h.on hb0
  have hfi := find_any a hc (by omega) hA hB hM h0
  have x0 := hbk.cell (i := 0) rfl
  rcases hM with rfl | ⟨c, rfl, hca⟩
  · -- it is put in
    rw [List.append_nil] at hc
    have HX : Hid (∀ w2, Below W0.heap.size W0 w2 → ∃ va vc, w2.drew.cell? ⟨q, 1, none⟩ = some (.slice va p.ch.length vc) ∧ RowP w2.drew 0 (.slice va p.ch.length vc) p.ch ∧ (∀ g, (Value.slice va p.ch.length vc).ownBlock = some g → g < w.heap.size) ∧ Blk w2.drew w.heap.size #[.int .i64 a, .string s] 101 ∧ (∃ cs, Blk w2.drew q cs 109)) := fun w2 hb => by
      obtain ⟨D, T, s1, s2, s3, s4⟩ := h
      have hb2 : Below w.heap.size w w2.drew := (hb0.trans (hb.mono hb0.size)).drew
      have s5 := s4.on hb2
      have t1 := s4.1
      obtain ⟨_, _, cv0, _, _, hb30, _, _, _, t7, _⟩ := s4
      obtain ⟨_, _, cv, uv, m, hb3, hr, _⟩ := s5
      obtain ⟨va, vc, e1⟩ := own_form hr
      subst e1
      have c1 : w2.drew.cell? ⟨q, 1, none⟩ = some (.slice va p.ch.length vc) := hb3.cell (i := 1) rfl
      have e2 : some cv0 = some (.slice va p.ch.length vc) := ((hb30.cell (i := 1) rfl).symm.trans (hb2.cell (p := ⟨q, 1, none⟩) hb30.lt).symm).trans c1
      cases e2
      refine ⟨va, vc, c1, hr, fun g e => t1 g (t7 g e), ?_, _, hb3⟩
      exact (hbk.on hb.drew hbk.lt)
    have HW : Hid (∀ w2, Below W0.heap.size W0 w2 → ∀ (va : Option Addr) (vc : Nat) (w3 w4 : World) (v4 : Value), w2.drew.cell? ⟨q, 1, none⟩ = some (.slice va p.ch.length vc) → Below w2.drew.heap.size w2.drew w3 → RowP w4 0 v4 (A ++ ⟨a, s⟩ :: B) → w3.grownBy w4 (Value.slice va p.ch.length vc).ownBlock → Moved w3 (.slice va p.ch.length vc) v4 → Pm w S k q { p with ch := A ++ ⟨a, s⟩ :: B } (w4.setCell ⟨q, 1, none⟩ v4)) := fun w2 hb va vc w3 w4 v4 c1 hb3 r4 g4 m4 => by
      obtain ⟨D, T, s1, s2, s3, s4⟩ := h
      have hb2 : Below w.heap.size w w2.drew := (hb0.trans (hb.mono hb0.size)).drew
      have hb5 : Below w.heap.size w w3 := hb2.trans (hb3.mono hb2.size)
      have hlt : q < w2.drew.heap.size := by obtain ⟨_, _, _, _, _, hb30, _⟩ := s4; exact Nat.lt_of_lt_of_le hb30.lt hb2.size
      obtain ⟨T', t1, t2, t3⟩ := Su.chg (ch' := A ++ ⟨a, s⟩ :: B) (c' := v4) (s4.on hb5) ((hb3.cell (p := ⟨q, 1, none⟩) hlt).trans c1) g4 r4 m4
      exact Pm.shelf (p := p) s1 s2 s3 (Sm.base ⟨⟨T', t1, t2⟩, t3⟩ hb5 s4.1)
    have hsp : p.ch.take A.length = A ∧ p.ch.drop A.length = B := by rw [hc]; simp
    have hAl : A.length ≤ p.ch.length := by rw [hc]; simp
    have HIN0 : Hid (∀ (w3 : World) (va : Option Addr) (vc : Nat) (vb : Nat), RowP w3 0 (.slice va p.ch.length vc) p.ch → Blk w3 vb #[.int .i64 a, .string s] 101 → (∀ g, (Value.slice va p.ch.length vc).ownBlock = some g → vb ≠ g) → Calls Tryz.prog 131 #[.slice va p.ch.length vc, .int .i64 (A.length : Nat), .slice (some ⟨vb, 0, none⟩) 1 1] w3 fun e w' => ∃ v', e = .returned v' ∧ RowP w' 0 v' (A ++ ⟨a, s⟩ :: B) ∧ w3.grownBy w' (Value.slice va p.ch.length vc).ownBlock ∧ Moved w3 (.slice va p.ch.length vc) v') := fun w3 va vc vb r b n => by
      have := insert_any (c := ⟨a, s⟩) r rfl hAl (by omega) b n
      rw [hsp.1, hsp.2] at this
      exact this
    have HRC := hid h
    clear h h0 hc hA hB hins hsp hok hs hbk hb0
    generalize p.ch.length = n at *
    generalize A.length = i at *
    have HSZ := hid hsz0
    clear hsz0
    go_enter Tryz.func91, Tryz.ntmps91
    go_wp2_with fail
    clear hW0 x0
    refine hfi.mono ?_
    clear hfi
    rintro e w2 ⟨rfl, hb2⟩
    have HB2 := hid hb2
    clear hb2
    go_wp2_with fail
    obtain ⟨va, vc, c1, hrow, hgl, hb9, cs9, hq9⟩ := HX.out w2 HB2.out
    have hw0 : w.heap.size < w2.drew.heap.size := hb9.lt
    obtain ⟨W3, hW3⟩ : ∃ W3, w2.drew.alloc (.cells #[.int .i64 a, .string s] 101) = W3 := ⟨_, rfl⟩
    have hb3 : Below w2.drew.heap.size w2.drew W3 := by rw [← hW3]; exact (Below.refl _ _).alloc (Nat.le_refl _) _
    have hbv : Blk W3 w2.drew.heap.size #[.int .i64 a, .string s] 101 := by rw [← hW3]; exact Blk.made _ _ _
    have HS0 : w2.drew.cell? ⟨q, 1, none⟩ = some (.slice va n vc) ∧ w2.drew.cell? ⟨w.heap.size, 0, none⟩ = some (.int .i64 a) ∧ w2.drew.cell? ⟨w.heap.size, 1, none⟩ = some (.string s) := ⟨c1, hb9.cell (i := 0) rfl, hb9.cell (i := 1) rfl⟩
    have HS1 : W3.cell? ⟨q, 1, none⟩ = some (.slice va n vc) ∧ W3.cell? ⟨w.heap.size, 0, none⟩ = some (.int .i64 a) ∧ W3.cell? ⟨w.heap.size, 1, none⟩ = some (.string s) := ⟨(hb3.cell (p := ⟨q, 1, none⟩) hq9.lt).trans HS0.1, (hb3.cell (p := ⟨w.heap.size, 0, none⟩) hw0).trans HS0.2.1, (hb3.cell (p := ⟨w.heap.size, 1, none⟩) hw0).trans HS0.2.2⟩
    have HIN := hid (HIN0.out W3 va vc w2.drew.heap.size (hrow.on hb3) hbv (fun g e e2 => by have := hgl g e; omega))
    have HF : Hid (∀ (w4 : World) (v4 : Value), RowP w4 0 v4 (A ++ ⟨a, s⟩ :: B) → W3.grownBy w4 (Value.slice va n vc).ownBlock → Moved W3 (.slice va n vc) v4 → Pm w S k q { p with ch := A ++ ⟨a, s⟩ :: B } (w4.setCell ⟨q, 1, none⟩ v4)) := fun w4 v4 r4 g4 m4 => HW.out w2 HB2.out va vc W3 w4 v4 c1 hb3 r4 g4 m4
    have HK4 : Hid (∀ w4, W3.grownBy w4 (Value.slice va n vc).ownBlock → (w4.cell? ⟨q, 1, none⟩ = some (.slice va n vc) ∧ w4.cell? ⟨w.heap.size, 0, none⟩ = some (.int .i64 a) ∧ w4.cell? ⟨w.heap.size, 1, none⟩ = some (.string s)) ∧ w4.frozen? ⟨q, 1, none⟩ = false) := fun w4 g4 => by
      have bq := (hq9.on hb3 hq9.lt).kept g4 (fun e => hq9.ne hrow (by decide) e.symm rfl)
      have bx := (hb9.on hb3 hb9.lt).kept g4 (fun e => by have := hgl _ e.symm; omega)
      refine ⟨⟨?_, bx.cell (i := 0) rfl, bx.cell (i := 1) rfl⟩, bq.free 1⟩
      have e1 : cs9[1]? = some (.slice va n vc) := by
        have := HS0.1
        unfold Blk at hq9
        simp only [World.cell?, hq9] at this
        simpa using this
      exact bq.cell e1
    clear hrow hgl hb9 hq9 hw0 hb3 hbv HIN0 HW HX c1
    subst hW3
    refine wp_region_m (fun w' => w'.cell? ⟨q, 1, none⟩ = some (.slice va n vc) ∧ w'.cell? ⟨w.heap.size, 0, none⟩ = some (.int .i64 a) ∧ w'.cell? ⟨w.heap.size, 1, none⟩ = some (.string s)) 11 (by kernel_rfl) ?_
    refine wpAnyM_pick (i := 0) (some 21) (v := ?vz1) rfl rfl (by kernel_rfl) (by kernel_rfl) (by kernel_rfl) (by kernel_rfl) (fun _ _ _ h => h) (Or.inl ⟨by rfl, ?hz1⟩) HS0 ?rz1
    case hz1 => intro w hSw; go_simp; try with_reducible rfl
    try simp only [Act.put, List.setIfInBounds_toArray, List.set_cons_zero, List.set_cons_succ]
    refine wpAnyM_pick (i := 1) (some 22) (v := ?vz2) rfl rfl (by kernel_rfl) (by kernel_rfl) (by kernel_rfl) (by kernel_rfl) (fun _ _ _ h => h) (Or.inl ⟨by rfl, ?hz2⟩) HS0 ?rz2
    case hz2 => intro w hSw; go_simp; try with_reducible rfl
    try simp only [Act.put, List.setIfInBounds_toArray, List.set_cons_zero, List.set_cons_succ]
    refine wpAnyM_pick (i := 2) (some 23) (v := ?vz3) rfl rfl (by kernel_rfl) (by kernel_rfl) (by kernel_rfl) (by kernel_rfl) (fun _ _ _ h => h) (Or.inl ⟨by rfl, ?hz3⟩) HS0 ?rz3
    case hz3 => intro w hSw; go_simp; try with_reducible rfl
    try simp only [Act.put, List.setIfInBounds_toArray, List.set_cons_zero, List.set_cons_succ]
    refine wpAnyM_pick (i := 3) (some 24) (v := ?vz4) rfl rfl (by kernel_rfl) (by kernel_rfl) (by kernel_rfl) (by kernel_rfl) (fun _ _ _ h => h) (Or.inl ⟨by rfl, ?hz4⟩) HS0 ?rz4
    case hz4 => intro w hSw; go_simp; try with_reducible rfl
    try simp only [Act.put, List.setIfInBounds_toArray, List.set_cons_zero, List.set_cons_succ]
    refine wpAnyM_pick (i := 4) (some 25) (v := ?vz5) rfl rfl (by kernel_rfl) (by kernel_rfl) (by kernel_rfl) (by kernel_rfl) (fun _ _ _ h => h) (Or.inl ⟨by rfl, ?hz5⟩) HS0 ?rz5
    case hz5 => intro w hSw; go_simp; try with_reducible rfl
    try simp only [Act.put, List.setIfInBounds_toArray, List.set_cons_zero, List.set_cons_succ]
    refine wpAnyM_pick (i := 5) (some 26) (v := ?vz6) rfl rfl (by kernel_rfl) (by kernel_rfl) (by kernel_rfl) (by kernel_rfl) (fun _ _ _ h => h) (Or.inl ⟨by rfl, ?hz6⟩) HS0 ?rz6
    case hz6 => intro w hSw; go_simp; try with_reducible rfl
    try simp only [Act.put, List.setIfInBounds_toArray, List.set_cons_zero, List.set_cons_succ]
    refine wpAnyM_pick (i := 6) (some 27) (v := ?vz7) rfl rfl (by kernel_rfl) (by kernel_rfl) (by kernel_rfl) (by kernel_rfl) (fun _ _ _ h => h) (Or.inl ⟨by rfl, ?hz7⟩) HS0 ?rz7
    case hz7 => intro w hSw; go_simp; try with_reducible rfl
    try simp only [Act.put, List.setIfInBounds_toArray, List.set_cons_zero, List.set_cons_succ]
    refine wpAnyM_one (i := 7) (by kernel_rfl) rfl (fun K hK => ?_)
    go_simp
    refine hK.out _ _ (fun _ => HS1) ?_
    clear hK K
    try simp only [Act.put, List.setIfInBounds_toArray, List.set_cons_zero, List.set_cons_succ]
    refine wpAnyM_one (i := 8) (by kernel_rfl) rfl (fun K hK => ?_)
    go_simp
    go_at_call 131
    refine HIN.out.mono ?_
    clear HIN
    rintro e w4 ⟨v4, rfl, hr4, hg4, hm4⟩
    have HS4 := HK4.out w4 hg4
    have HF4 := hid (HF.out w4 v4 hr4 hg4 hm4)
    obtain ⟨va, vc, hv4⟩ := own_form hr4
    subst hv4
    clear hr4 hg4 hm4 HK4 HF
    try go_simp
    refine hK.out _ _ (fun _ => HS4.1) ?_
    clear hK K
    try simp only [Act.put, List.setIfInBounds_toArray, List.set_cons_zero, List.set_cons_succ]
    refine wpAnyM_one (i := 9) (by kernel_rfl) rfl (fun K hK => ?_)
    go_simp
    refine hK.out _ _ (fun _ => HS4.1) ?_
    clear hK K
    try simp only [Act.put, List.setIfInBounds_toArray, List.set_cons_zero, List.set_cons_succ]
    refine wpAnyM_one (i := 10) (by kernel_rfl) rfl (fun K hK => ?_)
    go_simp
    refine hK.out _ _ (fun _ => HS4.1) ?_
    clear hK K
    try simp only [Act.put, List.setIfInBounds_toArray, List.set_cons_zero, List.set_cons_succ]
    obtain ⟨⟨c41, _, _⟩, f41⟩ := HS4
    refine wpAnyM_one (i := 11) (by kernel_rfl) rfl (fun K hK => ?_)
    go_simp
    refine hK.out _ _ (fun h => absurd h (by decide)) ?_
    clear hK K
    refine wpAnyM_done (by kernel_rfl) ?_ _
    try simp only [Act.put, List.setIfInBounds_toArray, List.set_cons_zero, List.set_cons_succ]
    go_wp2_with fail
    go_end0
    have HF5 := HF4.out
    rw [List.length_append, List.length_cons] at HF5
    exact ⟨rfl, HF5⟩
  · -- it is there
    have hi : p.ch[A.length]? = some c := by rw [hc]; simp
    have hset : p.ch.set A.length ⟨a, s⟩ = A ++ ⟨a, s⟩ :: B := by rw [hc]; simp
    have HX : Hid (∀ w2, Below W0.heap.size W0 w2 → ∃ g vc, w2.drew.cell? ⟨q, 1, none⟩ = some (.slice (some ⟨g, 0, none⟩) p.ch.length vc) ∧ (w2.drew.cell? ⟨g, A.length * 2, none⟩ = some (.int .i64 c.pl) ∧ w2.drew.frozen? ⟨g, A.length * 2, none⟩ = false) ∧ (w2.drew.cell? ⟨g, A.length * 2 + 1, none⟩ = some (.string c.data) ∧ w2.drew.frozen? ⟨g, A.length * 2 + 1, none⟩ = false) ∧ (w2.drew.cell? ⟨w.heap.size, 0, none⟩ = some (.int .i64 a) ∧ w2.drew.cell? ⟨w.heap.size, 1, none⟩ = some (.string s)) ∧ Pm w S k q { p with ch := A ++ ⟨a, s⟩ :: B } ((w2.drew.setCell ⟨g, A.length * 2, none⟩ (.int .i64 a)).setCell ⟨g, A.length * 2 + 1, none⟩ (.string s))) := fun w2 hb => by
      obtain ⟨D, T, s1, s2, s3, s4⟩ := h
      have hb2 : Below w.heap.size w w2.drew := (hb0.trans (hb.mono hb0.size)).drew
      have s5 := s4.on hb2
      have t1 := s4.1
      have s6 := s5
      obtain ⟨y1, y2, cv, uv, m, hb3, hr, y5, y6, y7, y8, y9⟩ := s5
      obtain ⟨g, vc, e1, v1, v2, _, hgl⟩ := own_some hr (by have := (List.getElem?_eq_some_iff.1 hi).1; omega)
      subst e1
      obtain ⟨_, _, e4, _, _, hcc⟩ := own_cells hr
      cases e4
      obtain ⟨_, e5, _, _, c1, f1⟩ := hcc (A.length * 2) (.int .i64 c.pl) (by rw [flatP_even, hi]; rfl)
      cases e5
      obtain ⟨_, e5, _, _, c2, f2⟩ := hcc (A.length * 2 + 1) (.string c.data) (by rw [flatP_odd, hi]; rfl)
      cases e5
      have hb9 : Blk w2.drew w.heap.size #[.int .i64 a, .string s] 101 := hbk.on hb.drew hbk.lt
      have r1 := own_set (own_set hr (A.length * 2) (.int .i64 a)) (A.length * 2 + 1) (.string s)
      have e6 : ((flatP p.ch).set (A.length * 2) (.int .i64 a)).set (A.length * 2 + 1) (.string s) = flatP (A ++ ⟨a, s⟩ :: B) := by rw [← hset]; exact flatP_set p.ch A.length ⟨a, s⟩
      rw [e6] at r1
      have el : (A ++ (⟨a, s⟩ : Pg) :: B).length = p.ch.length := by rw [← hset, List.length_set]
      have k1 : Keep (fun j => j = g) w2.drew ((w2.drew.setCell ⟨g, A.length * 2, none⟩ (.int .i64 a)).setCell ⟨g, A.length * 2 + 1, none⟩ (.string s)) := (Keep.set (S := fun j => j = g) w2.drew rfl _ _).trans (Keep.set (S := fun j => j = g) _ rfl _ _) (fun _ _ h => h)
      refine ⟨g, vc, hb3.cell (i := 1) rfl, ⟨c1, f1⟩, ⟨c2, f2⟩, ⟨hb9.cell (i := 0) rfl, hb9.cell (i := 1) rfl⟩, Pm.shelf (p := p) s1 s2 s3 (Sm.base (W := w2.drew) ⟨⟨T, ⟨fun j hj => Nat.lt_of_lt_of_le (y1 j hj) k1.size, y2, .slice (some ⟨g, 0, none⟩) p.ch.length vc, uv, m, k1.blk hb3 (fun e => hb3.ne hr (by decide) rfl e.symm), ?_, k1.row y5 (fun j e e2 => rows_ne y5 hr (by decide) e (by subst e2; rfl)), k1.imap y6 (fun e => y6.ne_row hr rfl e.symm), y7, y8, y9⟩, Grows.refl _ _⟩, k1.mono (fun j _ e => by subst e; exact y7 _ rfl)⟩ hb2 t1)⟩
      unfold RowP
      rw [el]
      exact r1
    have hlt : A.length < p.ch.length := (List.getElem?_eq_some_iff.1 hi).1
    clear h h0 hc hA hB hins hok hs hbk hb0 hi hset
    generalize p.ch.length = n at *
    generalize A.length = i at *
    have hini : (i : Int) < (n : Int) := by omega
    go_enter Tryz.func91, Tryz.ntmps91
    go_wp2_with fail
    clear hW0 x0
    refine hfi.mono ?_
    clear hfi
    rintro e w2 ⟨rfl, hb2⟩
    have HB2 := hid hb2
    clear hb2
    go_wp2_with fail
    obtain ⟨g, vc, c1, ⟨c2, f2⟩, ⟨c3, f3⟩, ⟨c4, c5⟩, hpm⟩ := HX.out w2 HB2.out
    have HPM := hid hpm
    clear hpm HX
    have c3b : w2.cell? ⟨g, i * 2 + 1, none⟩ = some (.string c.data) := c3
    have f3b : w2.frozen? ⟨g, i * 2 + 1, none⟩ = false := f3
    go_region
    go_wp2_with fail
    (try simp only [Exit.inBlock, Exit.then])
    refine bodyPost_ret (results_none rfl _ _ _) rfl ?_
    exact ⟨rfl, HPM.out⟩
end

end Go.Proofs.YtglallhblcjffaaGreatDoor
