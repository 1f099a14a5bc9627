/-
  What the reader's readName does.
-/
import Derived.Test.YtjpmlnigjbdnnaaDoorRdr
import Derived.Test.YtjpmlnigjbdnnaaDoorShelf
namespace Go.Proofs.YtjpmlnigjbdnnaaDoor
open Go.RowKit
set_option linter.unusedVariables false
set_option maxRecDepth 100000

theorem clone_any (s : ByteArray) (w : World) (hs : s.size ≤ 281474976710656) :
    Calls Tryd.prog 40 #[.string s] w fun e w' => e = .returned (.string s) ∧ Below w.heap.size w w' := by
  go_enter Tryd.func40, Tryd.ntmps40
  go_wp2_with (go_at_call 70; refine (Tryd.stringslite_Clone s _ hs).mono ?_; rintro e w1 ⟨rfl, hb1⟩)
  go_ret
  exact ⟨rfl, hb1⟩

/-- append to a list of the call's own, as a step of a region that draws its order -/
theorem step_append_own {P : Program} {ops : Array Oper} {o : Oper} {a : Act} {w : World} {K : Act → World → Prop} {Q : Exit → Act → World → Prop} {E : Prop}
    (hg : o.guard = none) (s x : Operand) (t : TypeId) (hop : o.op = Op.call { callee := Callee.builtin Builtin.append, args := #[s, x], argTypes := #[t, t] })
    (base : Nat) (e : TypeId) (i : TypeInfo) (z : Value) (size bytes : Nat) (ht : P.underlying t = some (.slice e)) (hi : P.info? e = some i) (hz : i.zero = some z)
    (hsize : i.size = size) (hby : i.bytes = bytes) (hzs : z.cells.size = size) (hsz : 0 < size)
    (v : Value) (n : Nat) (xs : List Value) (hs : a.eval s = v) (hown : w.ownsRow base e size v n xs)
    (ad : Addr) (m c : Nat) (news : List Value) (hx : a.eval x = .slice (some ad) m c) (hl : news.length = m * size) (hnews : ∀ j u, news[j]? = some u → w.cell? (ad.add j) = some u) (h1 : ∀ u ∈ news, u.oneCell' = true)
    (h63 : n + m ≤ maxLen) (hbytes : (n + m) * bytes ≤ 140737488355328) (hbase : base ≤ w.heap.size)
    (h : ∀ v' w', w'.ownsRow base e size v' (n + m) (xs ++ news) → w.grownBy w' v.ownBlock → K (a.put o.dst v') w') :
    if Region.wanted o (yielded ops a.tmps) = true then Oper.wp P o a w K Q else E := by
  have hw : Region.wanted o (yielded ops a.tmps) = true := by simp [Region.wanted, hg]
  rw [if_pos hw]
  exact wp_append_own w s x t hop base e i z size bytes ht hi hz hsize hby hzs hsz v n xs hs hown ad m c news hx hl hnews h1 h63 hbytes hbase fun v' w' h2 h3 _ => h v' w' h2 h3

/-- two cells in a new block -/
theorem two_cells (W : World) (x y : Value) (t : TypeId) : ∀ j u, [x, y][j]? = some u → (W.alloc (.cells #[x, y] t)).cell? ((⟨W.heap.size, 0, none⟩ : Addr).add j) = some u := by
  intro j u hj
  match j, hj with
  | 0, hj => simp at hj; subst hj; simp [Addr.add]
  | 1, hj => simp at hj; subst hj; simp [Addr.add]

/-- one cell more -/
theorem more_own {w1 w3 : World} {b k : Nat} {s nm : ByteArray} {v v' : Value} {L : List Cl} (h : Rdr w1 b s k v L) (hn : nm.size ≤ 140737488355328)
    (hown : w3.ownsRow (b + 1) 33 2 v' (L.length + 1) (flatC L ++ [.string nm, .int .i64 0])) (hgrow : (w1.alloc (.cells #[.string nm, .int .i64 0] 33)).grownBy w3 v.ownBlock) :
    Rdr (w3.setCell ⟨b, 2, none⟩ v') b s k v' (L ++ [⟨nm, 0⟩]) ∧ w3.cell? ⟨b, 2, none⟩ = some v ∧ w3.frozen? ⟨b, 2, none⟩ = false ∧ Below b w1 (w3.setCell ⟨b, 2, none⟩ v') ∧ Below b w1 w3 := by
  have hlt := h.lt
  have hb3 : Below (b + 1) w1 w3 := ((Below.refl (b + 1) w1).alloc hlt _).grown hgrow (by simp; omega) (fun j hj => (h.own.lt j hj).1)
  have hblk : w3.heap[b]? = some (.cells #[.string s, .int .i64 (k : Nat), v] 92 (0, 0)) := (hb3.block b (by omega)).trans h.blk
  refine ⟨⟨?_, ?_, ?_⟩, ?_, ?_, ?_, hb3.mono (by omega)⟩
  · have := World.setCell
    simp only [World.setCell, Array.getElem?_modify, hblk, if_true]
    rfl
  · show World.ownsRow _ _ _ _ _ _ _
    refine ownsRow_setCell_below ?_ (by show b < b + 1; omega) _
    rw [flatC_append, List.length_append]
    exact hown
  · intro c hc
    rcases List.mem_append.1 hc with hc | hc
    · exact h.fine c hc
    · simp at hc; subst hc; exact ⟨by show nm.size ≤ _; omega, by show _ ≤ (0 : Int); omega, by show (0 : Int) ≤ _; omega⟩
  · rw [Lib.cell_of_heap hblk]; rfl
  · exact Lib.frozen_of_heap hblk 2
  · exact (hb3.mono (by omega : b ≤ b + 1)).setCell (Nat.le_refl _) _

theorem Rdr.moveTo {w : World} {b : Nat} {s : ByteArray} {k : Nat} {v : Value} {L : List Cl} (h : Rdr w b s k v L) (j : Nat) : Rdr (w.setCell ⟨b, 1, none⟩ (.int .i64 (j : Nat))) b s j v L := by
  refine ⟨?_, ?_, h.fine⟩
  · simp only [World.setCell, Array.getElem?_modify, h.blk, if_true]
    rfl
  · show World.ownsRow _ _ _ _ _ _ _
    exact ownsRow_setCell_below h.own (by show b < b + 1; omega) _

/-- what the reader does with a name -/
def nameErr (s : ByteArray) (k : Nat) (L : List Cl) : Option Nat :=
  if endw s.data.toList k = k then some 3
  else if kind (s.extract k (endw s.data.toList k)).data.toList = 0 then some 4
  else if L.length = 64 then some 6 else none

set_option maxHeartbeats 2000000 in
theorem readName_any (w : World) (b : Nat) (s : ByteArray) (k : Nat) (v : Value) (L : List Cl) (h : Rdr w b s k v L) (hs : s.size ≤ 1024) (hk : k ≤ s.size) (hL : L.length ≤ 64) :
    Calls Tryd.prog 89 #[.pointer (some ⟨b, 0, none⟩)] w fun x w' => (∃ e, nameErr s k L = some e ∧ x = .panicked (fl k e) ∧ Below b w w') ∨
      (nameErr s k L = none ∧ x = .returned (.tuple #[]) ∧ Below b w w' ∧ ∃ v', Rdr w' b s (endw s.data.toList k) v' (L ++ [⟨s.extract k (endw s.data.toList k), 0⟩])) := by
  have c0 := h.c0
  have c1 := h.c1
  have c2 := h.c2
  have hlt := h.lt
  obtain ⟨i0, hi, hz0, hz1, hz2⟩ := info_parts info59
  have hge := endw_ge s.data.toList k
  have hle := endw_le s.data.toList k (by rw [size_list]; exact hk)
  rw [size_list] at hle
  obtain ⟨to, hto⟩ : ∃ to, endw s.data.toList k = to := ⟨_, rfl⟩
  have HTO : Hid (endw s.data.toList k = to) := hto
  rw [hto] at hge hle ⊢
  have HG : ∀ w1 e, Below w.heap.size w w1 → _ := fun w1 e hb => giveUp_any w1 b s k v L e (h.on hb)
  have hin := fun c w => inName_any c w
  have HH : Hid (Rdr w b s k v L) := h
  have HERR : Hid (nameErr s k L = if to = k then some 3 else if kind (s.extract k to).data.toList = 0 then some 4 else if L.length = 64 then some 6 else none) := by
    show _ = _
    unfold nameErr
    rw [hto]
  obtain ⟨al, capv, hvv, _⟩ := own_cells h.own
  subst hvv
  generalize hNE : nameErr s k L = NE at HERR ⊢
  clear hto h hNE
  go_enter Tryd.func89, Tryd.ntmps89
  go_wp2_with fail
  go_loop [2] (fun i => ∃ j : Nat, k ≤ j ∧ j ≤ to ∧ Hid (endw s.data.toList j = to) ∧ i = .int .i64 j) (fun i => s.size - (intOf i).toNat)
  case atStart => exact ⟨k, Nat.le_refl _, hge, HTO, rfl⟩
  case round =>
    obtain ⟨j, hj1, hj2, HJ, rfl⟩ := hrel
    by_cases hjs : j < s.size
    · have hji : (j : Int) < (s.size : Int) := by omega
      have hget := get_data s j hjs
      have HGJ : Hid (s.data.toList[j]? = some s[j]) := hget
      clear hget
      by_cases hS : isS s[j] = true
      · have HJ2 : Hid (endw s.data.toList (j + 1) = to) := by show _ = _; rw [← endw_hit HGJ.out hS]; exact HJ.out
        have hj3 : j + 1 ≤ to := by rw [← HJ2.out]; exact endw_ge _ _
        have hcall := inName_any s[j]
        rw [hS] at hcall
        clear HJ HGJ hS
        go_wp2_with (go_at_call 100; refine (hcall _).mono ?_; rintro e w1 ⟨rfl, rfl⟩)
        go_wp2_with fail
        go_round
        case rel => exact ⟨j + 1, by omega, hj3, HJ2, by go_num⟩
        case measure => simp [intOf]; omega
      · have hS' : isS s[j] = false := by simpa using hS
        have hjt : j = to := by rw [← HJ.out]; exact (endw_miss HGJ.out hS').symm
        subst hjt
        have hcall := inName_any s[j]
        rw [hS'] at hcall
        clear HJ HGJ hS hS'
        go_wp2_with (go_at_call 100; refine (hcall _).mono ?_; rintro e w1 ⟨rfl, rfl⟩)
        go_quiet (fail)
        have hnsz : (s.extract k j).size ≤ 1024 := by rw [ByteArray.size_extract]; omega
        have hnsz0 : (s.extract k j).size = j - k := by rw [ByteArray.size_extract]; omega
        generalize hnm : s.extract k j = nm at HERR hnsz hnsz0 ⊢
        have HN : Hid (s.extract k j = nm) := hnm
        have hb0 := below_drewN w nq
        have hz0' : (w.drewN nq).heap.size = w.heap.size := rfl
        generalize hw0 : w.drewN nq = w0 at hb0 hz0' ⊢
        have R0 := HH.out.on hb0
        have d0 := R0.c0
        have d1 := R0.c1
        have d2 := R0.c2
        have hG2 := fun e => HG w0 e hb0
        have HHb : Hid (Below b w w0) := hb0.mono (by omega)
        have HR0 : Hid (Rdr w0 b s k (.slice al L.length capv) L) := R0
        clear hnm hw0 R0 HG hcall hin c0 c1 c2 HH
        by_cases hjk : j = k
        · have HE2 : Hid (NE = some 3) := by show _ = _; rw [HERR.out, if_pos hjk]
          have hemp : nm = ⟨#[]⟩ := empty_of nm (by omega)
          clear HERR
          subst hemp
          have hG3 := hG2 3
          go_wp2_with (go_at_call 91; refine hG3.mono ?_; rintro e w3 ⟨rfl, rfl⟩)
          exact ⟨rfl, .inl ⟨3, HE2.out, rfl, HHb.out⟩⟩
        · have n1 := full_list nm (by omega)
          have n2 := full_isEmpty nm (by omega)
          have hkd := kind_any nm w0 (by unfold maxLen; omega)
          have HE2 : Hid (NE = if kind nm.data.toList = 0 then some 4 else if L.length = 64 then some 6 else none) := by show _ = _; rw [HERR.out, if_neg hjk]
          clear HERR
          generalize kind nm.data.toList = q at hkd HE2
          by_cases hq : q = 0
          · subst hq
            have HE3 : Hid (NE = some 4) := HE2.out
            have hG3 := hG2 4
            clear HE2
            go_wp2_with (first | (go_at_call 33; refine hkd.mono ?_; rintro e w2 ⟨rfl, rfl⟩) | (go_at_call 91; refine hG3.mono ?_; rintro e w3 ⟨rfl, rfl⟩))
            exact ⟨rfl, .inl ⟨4, HE3.out, rfl, HHb.out⟩⟩
          · have q1 : ((q : Int) == 0) = false := by simp only [beq_eq_false_iff_ne]; omega
            have q2 : ¬ (q : Int) = 0 := by omega
            by_cases h64 : L.length = 64
            · have HE3 : Hid (NE = some 6) := by show _ = _; rw [HE2.out, if_neg hq, if_pos h64]
              have hG3 := hG2 6
              have l1 : ((L.length : Int) == 64) = true := by simp; omega
              have l2 : (L.length : Int) = 64 := by omega
              clear HE2
              go_wp2_with (first | (go_at_call 33; refine hkd.mono ?_; rintro e w2 ⟨rfl, rfl⟩) | (go_at_call 91; refine hG3.mono ?_; rintro e w3 ⟨rfl, rfl⟩))
              exact ⟨rfl, .inl ⟨6, HE3.out, rfl, HHb.out⟩⟩
            · have HE3 : Hid (NE = none) := by show _ = _; rw [HE2.out, if_neg hq, if_neg h64]
              have l1 : ((L.length : Int) == 64) = false := by simp; omega
              have l2 : ¬ (L.length : Int) = 64 := by omega
              have hclone := fun w => clone_any nm w (by omega)
              clear HE2 hG2
              go_wp2_with (go_at_call 33; refine hkd.mono ?_; rintro e w2 ⟨rfl, rfl⟩)
              clear hkd
              have HR1 : Hid (Rdr w0.drew b s k (.slice al L.length capv) L) := ⟨HR0.out.blk, HR0.out.own, HR0.out.fine⟩
              have HHb1 : Hid (Below b w w0.drew) := HHb.out.drew
              have d2' : w0.drew.cell? ⟨b, 2, none⟩ = some (.slice al L.length capv) := d2
              go_region_law (first
                | (go_simp; go_at_call 40; refine (hclone _).mono ?_; rintro e w1 ⟨rfl, hb1⟩; have HR2 := HR1.out.on hb1; have HHb2 := HHb1.out.trans (hb1.mono (by have := HR1.out.lt; omega)); have k2 := HR2.c2; have k3 : (w1.alloc (.cells #[.string nm, .int .i64 0] 33)).cell? ⟨b, 2, none⟩ = some (.slice al L.length capv) := (((Below.refl w1.heap.size w1).alloc (Nat.le_refl _) _).cell (p := ⟨b, 2, none⟩) HR2.lt).trans k2)
                | (refine step_append_own rfl (.tmp 60) (.tmp 64) 23 rfl (b + 1) 33 i0 (.agg #[.string ⟨#[]⟩, .int .i64 0]) 2 24 Tryd.underlying23 hi hz0 hz1 hz2 rfl (by decide) _ L.length (flatC L) rfl (HR2.own.alloc _) ⟨w1.heap.size, 0, none⟩ 1 1 [.string nm, .int .i64 0] rfl rfl (two_cells w1 _ _ _) (by intro u hu; simp at hu; rcases hu with rfl | rfl <;> rfl) (by unfold maxLen; omega) (by omega) (by have := HR2.lt; simp; omega) ?_; intro v' w3 hown hgrow; obtain ⟨R1, R2, R3, R4, R5⟩ := more_own HR2 (by omega) hown hgrow; obtain ⟨al', cap', hv', _⟩ := own_cells hown; subst hv'; clear hown hgrow))
              all_goals
                (have R6 := HHb2.trans R4
                 generalize w3.setCell ⟨b, 2, none⟩ (.slice al' (L.length + 1) cap') = W at R1 R6 ⊢
                 have f1 := R1.c1
                 have f2 := R1.fz 1
                 have HX := R1.moveTo j
                 have HBX : Below b w (W.setCell ⟨b, 1, none⟩ (.int .i64 (j : Nat))) := R6.setCell (Nat.le_refl _) _
                 have HR9 : Hid (Rdr (W.setCell ⟨b, 1, none⟩ (.int .i64 (j : Nat))) b s j _ _) := HX
                 clear HX R1 R2 R3 R4 R5 k2 k3 HR2 HHb2 hb1
                 go_wp2
                 go_end0
                 exact .inr ⟨HE3.out, rfl, HBX, _, by rw [HN.out]; exact HR9.out⟩)
    · have hjt : j = to := by rw [← HJ.out]; exact (endw_end (by rw [size_list]; omega)).symm
      subst hjt
      have hji : ¬ (j : Int) < (s.size : Int) := by omega
      have hdi : decide ((j : Int) < (s.size : Int)) = false := decide_eq_false hji
      have hcall := hin
      clear HJ
      go_wp2_with fail
      go_quiet (fail)
      have hnsz : (s.extract k j).size ≤ 1024 := by rw [ByteArray.size_extract]; omega
      have hnsz0 : (s.extract k j).size = j - k := by rw [ByteArray.size_extract]; omega
      generalize hnm : s.extract k j = nm at HERR hnsz hnsz0 ⊢
      have HN : Hid (s.extract k j = nm) := hnm
      have hb0 := below_drewN w nq
      have hz0' : (w.drewN nq).heap.size = w.heap.size := rfl
      generalize hw0 : w.drewN nq = w0 at hb0 hz0' ⊢
      have R0 := HH.out.on hb0
      have d0 := R0.c0
      have d1 := R0.c1
      have d2 := R0.c2
      have hG2 := fun e => HG w0 e hb0
      have HHb : Hid (Below b w w0) := hb0.mono (by omega)
      have HR0 : Hid (Rdr w0 b s k (.slice al L.length capv) L) := R0
      clear hnm hw0 R0 HG hcall hin c0 c1 c2 HH
      by_cases hjk : j = k
      · have HE2 : Hid (NE = some 3) := by show _ = _; rw [HERR.out, if_pos hjk]
        have hemp : nm = ⟨#[]⟩ := empty_of nm (by omega)
        clear HERR
        subst hemp
        have hG3 := hG2 3
        go_wp2_with (go_at_call 91; refine hG3.mono ?_; rintro e w3 ⟨rfl, rfl⟩)
        exact ⟨rfl, .inl ⟨3, HE2.out, rfl, HHb.out⟩⟩
      · have n1 := full_list nm (by omega)
        have n2 := full_isEmpty nm (by omega)
        have hkd := kind_any nm w0 (by unfold maxLen; omega)
        have HE2 : Hid (NE = if kind nm.data.toList = 0 then some 4 else if L.length = 64 then some 6 else none) := by show _ = _; rw [HERR.out, if_neg hjk]
        clear HERR
        generalize kind nm.data.toList = q at hkd HE2
        by_cases hq : q = 0
        · subst hq
          have HE3 : Hid (NE = some 4) := HE2.out
          have hG3 := hG2 4
          clear HE2
          go_wp2_with (first | (go_at_call 33; refine hkd.mono ?_; rintro e w2 ⟨rfl, rfl⟩) | (go_at_call 91; refine hG3.mono ?_; rintro e w3 ⟨rfl, rfl⟩))
          exact ⟨rfl, .inl ⟨4, HE3.out, rfl, HHb.out⟩⟩
        · have q1 : ((q : Int) == 0) = false := by simp only [beq_eq_false_iff_ne]; omega
          have q2 : ¬ (q : Int) = 0 := by omega
          by_cases h64 : L.length = 64
          · have HE3 : Hid (NE = some 6) := by show _ = _; rw [HE2.out, if_neg hq, if_pos h64]
            have hG3 := hG2 6
            have l1 : ((L.length : Int) == 64) = true := by simp; omega
            have l2 : (L.length : Int) = 64 := by omega
            clear HE2
            go_wp2_with (first | (go_at_call 33; refine hkd.mono ?_; rintro e w2 ⟨rfl, rfl⟩) | (go_at_call 91; refine hG3.mono ?_; rintro e w3 ⟨rfl, rfl⟩))
            exact ⟨rfl, .inl ⟨6, HE3.out, rfl, HHb.out⟩⟩
          · have HE3 : Hid (NE = none) := by show _ = _; rw [HE2.out, if_neg hq, if_neg h64]
            have l1 : ((L.length : Int) == 64) = false := by simp; omega
            have l2 : ¬ (L.length : Int) = 64 := by omega
            have hclone := fun w => clone_any nm w (by omega)
            clear HE2 hG2
            go_wp2_with (go_at_call 33; refine hkd.mono ?_; rintro e w2 ⟨rfl, rfl⟩)
            clear hkd
            have HR1 : Hid (Rdr w0.drew b s k (.slice al L.length capv) L) := ⟨HR0.out.blk, HR0.out.own, HR0.out.fine⟩
            have HHb1 : Hid (Below b w w0.drew) := HHb.out.drew
            have d2' : w0.drew.cell? ⟨b, 2, none⟩ = some (.slice al L.length capv) := d2
            go_region_law (first
              | (go_simp; go_at_call 40; refine (hclone _).mono ?_; rintro e w1 ⟨rfl, hb1⟩; have HR2 := HR1.out.on hb1; have HHb2 := HHb1.out.trans (hb1.mono (by have := HR1.out.lt; omega)); have k2 := HR2.c2; have k3 : (w1.alloc (.cells #[.string nm, .int .i64 0] 33)).cell? ⟨b, 2, none⟩ = some (.slice al L.length capv) := (((Below.refl w1.heap.size w1).alloc (Nat.le_refl _) _).cell (p := ⟨b, 2, none⟩) HR2.lt).trans k2)
              | (refine step_append_own rfl (.tmp 60) (.tmp 64) 23 rfl (b + 1) 33 i0 (.agg #[.string ⟨#[]⟩, .int .i64 0]) 2 24 Tryd.underlying23 hi hz0 hz1 hz2 rfl (by decide) _ L.length (flatC L) rfl (HR2.own.alloc _) ⟨w1.heap.size, 0, none⟩ 1 1 [.string nm, .int .i64 0] rfl rfl (two_cells w1 _ _ _) (by intro u hu; simp at hu; rcases hu with rfl | rfl <;> rfl) (by unfold maxLen; omega) (by omega) (by have := HR2.lt; simp; omega) ?_; intro v' w3 hown hgrow; obtain ⟨R1, R2, R3, R4, R5⟩ := more_own HR2 (by omega) hown hgrow; obtain ⟨al', cap', hv', _⟩ := own_cells hown; subst hv'; clear hown hgrow))
            all_goals
              (have R6 := HHb2.trans R4
               generalize w3.setCell ⟨b, 2, none⟩ (.slice al' (L.length + 1) cap') = W at R1 R6 ⊢
               have f1 := R1.c1
               have f2 := R1.fz 1
               have HX := R1.moveTo j
               have HBX : Below b w (W.setCell ⟨b, 1, none⟩ (.int .i64 (j : Nat))) := R6.setCell (Nat.le_refl _) _
               have HR9 : Hid (Rdr (W.setCell ⟨b, 1, none⟩ (.int .i64 (j : Nat))) b s j _ _) := HX
               clear HX R1 R2 R3 R4 R5 k2 k3 HR2 HHb2 hb1
               go_wp2
               go_end0
               exact .inr ⟨HE3.out, rfl, HBX, _, by rw [HN.out]; exact HR9.out⟩)

end Go.Proofs.YtjpmlnigjbdnnaaDoor
