/-
  The document's Held and Dirty.
-/
import Derived.Test.YtoecopmbaoklkaaGreatQd
namespace Go.Proofs.YtoecopmbaoklkaaGreat
open Go.RowKit
set_option linter.unusedVariables false
set_option linter.unusedSimpArgs false
set_option maxRecDepth 100000

section
variable {w : World} {S T : Nat → Prop} {k q room rd : Nat} {hs : List Hp} {ch : List Pg} {p : Pp}
theorem flatH_set : ∀ (X Y : List Hp) (x : Hp) (m : Nat), (flatH (X ++ x :: Y)).set (X.length * 3 + 1) (.int .i64 (m : Nat)) = flatH (X ++ { x with pins := m } :: Y)
  | [], Y, x, m => rfl
  | c :: r, Y, x, m => by
    rw [List.cons_append, List.cons_append, List.length_cons, show (r.length + 1) * 3 + 1 = r.length * 3 + 1 + 1 + 1 + 1 by omega]
    simp only [flatH, List.set_cons_succ]
    rw [flatH_set r Y x m]
theorem Qh.pins {X Y : List Hp} {x : Hp} (h : Qh w T k q room rd (X ++ x :: Y) ch) : ∃ g vc, w.cell? ⟨q, 2, none⟩ = some (.slice (some ⟨g, 0, none⟩) (X ++ x :: Y).length vc) ∧ w.cell? ⟨g, X.length * 3 + 1, none⟩ = some (.int .i64 (x.pins : Nat)) ∧ w.frozen? ⟨g, X.length * 3 + 1, none⟩ = false ∧ ∀ m : Nat, Qm w T k q room rd (X ++ { x with pins := m } :: Y) ch (w.setCell ⟨g, X.length * 3 + 1, none⟩ (.int .i64 (m : Nat))) := by
  obtain ⟨h1, h2, lv, cv, h3, h4, h5, h6, h7⟩ := h
  obtain ⟨va, vc, e1⟩ := own_form h4
  subst e1
  obtain ⟨g, e1, hgl, d0, d1, d2, f1⟩ := RowH.at h4 (k := X.length) (x := x) (by simp)
  subst e1
  refine ⟨g, vc, h3.cell (i := 2) rfl, d1, f1, fun m => ?_⟩
  have k2 : Keep (fun j => j = g) w (w.setCell ⟨g, X.length * 3 + 1, none⟩ (.int .i64 (m : Nat))) := Keep.set (S := fun j => j = g) w rfl _ _
  have hsz : (w.setCell ⟨g, X.length * 3 + 1, none⟩ (.int .i64 (m : Nat))).heap.size = w.heap.size := by simp [World.setCell]
  have hr := own_set h4 (X.length * 3 + 1) (.int .i64 (m : Nat))
  rw [flatH_set, show (X ++ x :: Y).length = (X ++ { x with pins := m } :: Y).length by simp] at hr
  refine ⟨⟨T, ⟨fun j hj => by rw [hsz]; exact h1 j hj, h2, _, cv, k2.blk h3 (fun e => h3.ne h4 (by decide) (show _ = some g from rfl) e.symm), ?_, k2.row h5 (fun g' e e2 => rows_ne h5 h4 (by decide) e (by rw [e2]; rfl)), h6, h7⟩, Grows.refl _ _⟩, k2.mono (fun j _ e => by subst e; exact h6 _ rfl)⟩
  rw [show (X ++ x :: Y).length = (X ++ { x with pins := m } :: Y).length by simp]
  exact hr
theorem pinH_none {hs : List Hp} {a : Int} (m : Nat → Nat) (e : ∀ x ∈ hs, ¬ x.pl = a) : pinH hs a m = hs := by
  unfold pinH
  conv => rhs; rw [← List.map_id hs]
  exact List.map_congr_left fun x hx => by rw [if_neg (e x hx)]; rfl
theorem pinH_split {X Y : List Hp} {x : Hp} (n : NdH (X ++ x :: Y)) (m : Nat → Nat) : pinH (X ++ x :: Y) x.pl m = X ++ { x with pins := m x.pins } :: Y := by
  obtain ⟨h1, h2, _⟩ := n.split
  have e1 := pinH_none m h1
  have e2 := pinH_none m h2
  unfold pinH at *
  rw [List.map_append, List.map_cons, e1, e2, if_pos rfl]
set_option maxHeartbeats 2000000 in
theorem rUnpin_any (N : Nat) (hN : N < 4611686018427387904) (a : Int) (hok : p.Ok N) (h : Qk w S k q p) :
    Calls Tryz.prog 32 #[.pointer (some ⟨q, 0, none⟩), .int .i64 a] w fun e w' => e = .returned (.int .i64 (p.unE a : Nat)) ∧ Qn w S k q (p.un a) w' := by
  have HP := hid h
  have hsl : p.hs.length ≤ 2000 := Nat.le_trans hok.len (by have := hok.room.2; omega)
  obtain ⟨D, T, h1, h2, h3, h4⟩ := h
  cases hfh : fndH p.hs a with
  | none =>
    have e0 : pinned p.hs a = false := by unfold pinned; rw [hfh]
    have e1 : p.unE a = 8 := by unfold Pp.unE; rw [e0]; rfl
    have e2 : p.un a = p := by unfold Pp.un; rw [e0]; rfl
    rw [e1, e2]
    have hat0 := rat_none hsl hfh h4
    clear h1 h2 h3 h4 hok hfh e0 e1 e2
    go_enter Tryz.func32, Tryz.ntmps32
    go_wp2_with (first
      | (go_at_call 56; refine hat0.mono ?_; clear hat0; rintro e w1 ⟨rfl, rfl⟩))
    go_ret
    exact ⟨rfl, Qn.refl HP.out⟩
  | some x =>
    obtain ⟨A, B, hc, hA, rfl⟩ := fndH_split hfh
    have hat0 := rat_some (by rw [← hc]; exact hsl) hA (by rw [← hc]; exact h4)
    have hpb := hok.pg x (by rw [hc]; simp)
    rw [hc] at h4 hsl
    obtain ⟨g, vc, c2, c1, f1, hset⟩ := h4.pins
    have hlen : (A ++ x :: B).length = A.length + 1 + B.length := by rw [List.length_append, List.length_cons]; omega
    rw [hlen] at c2 hsl
    by_cases hz : x.pins = 0
    · have e0 : pinned p.hs x.pl = false := by unfold pinned; rw [hfh]; simp [hz]
      have e1 : p.unE x.pl = 8 := by unfold Pp.unE; rw [e0]; rfl
      have e2 : p.un x.pl = p := by unfold Pp.un; rw [e0]; rfl
      rw [e1, e2]
      rw [hz] at c1
      obtain ⟨i, hi⟩ : ∃ i, A.length = i := ⟨_, rfl⟩
      rw [hi] at hat0 c1 c2 f1 hsl
      obtain ⟨n, hn⟩ : ∃ n, i + 1 + B.length = n := ⟨_, rfl⟩
      have hin : (i : Int) < (n : Int) := by omega
      have hii : ¬ (i : Int) < 0 := by omega
      rw [hn] at c2 hsl
      clear h1 h2 h3 h4 hok hfh e0 e1 e2 hset hc hlen hi hn hpb hA
      go_enter Tryz.func32, Tryz.ntmps32
      go_wp2_with (first
        | (go_at_call 56; refine hat0.mono ?_; clear hat0; rintro e w1 ⟨rfl, rfl⟩))
      go_ret
      exact ⟨rfl, Qn.refl HP.out⟩
    · have e0 : pinned p.hs x.pl = true := by unfold pinned; rw [hfh]; simp; omega
      have e1 : p.unE x.pl = 0 := by unfold Pp.unE; rw [e0]; rfl
      have e2 : p.un x.pl = { p with hs := A ++ { x with pins := x.pins - 1 } :: B } := by
        have e9 := pinH_split (by rw [← hc]; exact hok.nd) (· - 1)
        unfold Pp.un
        rw [e0, if_pos rfl, hc, e9]
      rw [e1, e2]
      have HF := hid (Qn.shelf h1 h2 h3 (hset (x.pins - 1)))
      obtain ⟨y, hy⟩ : ∃ y, x.pins = y + 1 := ⟨x.pins - 1, by omega⟩
      rw [hy, Nat.add_sub_cancel] at HF ⊢
      rw [hy] at c1
      have hyl : y < 4611686018427387904 := by have := hpb.2.2; omega
      obtain ⟨i, hi⟩ : ∃ i, A.length = i := ⟨_, rfl⟩
      rw [hi] at hat0 c1 c2 f1 hsl HF
      obtain ⟨n, hn⟩ : ∃ n, i + 1 + B.length = n := ⟨_, rfl⟩
      have hin : (i : Int) < (n : Int) := by omega
      have hii : ¬ (i : Int) < 0 := by omega
      rw [hn] at c2 hsl
      have hyb : (((y : Int) + 1) == 0) = false := by simp; omega
      have hid0 : decide ((i : Int) < 0) = false := decide_eq_false hii
      clear h1 h2 h3 h4 hok hfh e0 e1 e2 hset hc hlen hi hn hpb hA hz hy
      go_enter Tryz.func32, Tryz.ntmps32
      go_wp2_with (first
        | (go_at_call 56; refine hat0.mono ?_; clear hat0; rintro e w1 ⟨rfl, rfl⟩))
      go_ret
      exact ⟨rfl, HF.out⟩
end

theorem wpList_intB {ops : Array Oper} {rest : List Oper} {o : Oper} {a : Act} {Q : Exit → Act → World → Prop} (W : World) (B : Nat) (hB : B ≤ W.heap.size) (hgd : o.guard = none) (s x : Operand)
    (ho : o.op = .call { callee := .builtin .append, args := #[s, x], argTypes := #[42, 42] }) (v : Value) (M : List Int) (m : Nat) (hm : M.length = m) (hs : a.eval s = v) (hown : RowI W B v M)
    (ad : Nat) (z : Int) (hx : a.eval x = .slice (some ⟨ad, 0, none⟩) 1 1) (hc : W.cell? ⟨ad, 0, none⟩ = some (.int .i64 z)) (hlen : m ≤ 100000)
    (h : ∀ va vc w', RowI w' B (.slice va (m + 1) vc) (M ++ [z]) → W.grownBy w' v.ownBlock → wpList Tryz.prog ops Q rest (a.put o.dst (.slice va (m + 1) vc)) w') : wpList Tryz.prog ops Q (o :: rest) a W := by
  obtain ⟨i0, hi, hz0, hz1, hz2⟩ := info_parts info3
  subst hm
  refine wpList_append_blk W hgd s x 42 ho B 3 i0 (.int .i64 0) 1 8 Tryz.underlying42 hi hz0 hz1 hz2 rfl (by decide) v M.length (M.map (Value.int .i64)) hs hown ⟨ad, 0, none⟩ 1 1 [.int .i64 z] hx rfl (fun j u hj => ?_) (fun u hu => by simp at hu; subst hu; rfl) (by decide) (by unfold maxLen; omega) (by omega) hB ?_
  · match j, hj with
    | 0, hj => simp at hj; subst hj; simpa [Addr.add] using hc
  · intro v' w' hown' hgrow hmv
    obtain ⟨va, vc, hv'⟩ := own_form hown'
    subst hv'
    refine h va vc w' ?_ hgrow
    unfold RowI
    rw [List.length_append, List.map_append]
    exact hown'
section
variable {w : World} {S T : Nat → Prop} {k q room rd : Nat} {hs : List Hp} {ch : List Pg} {p : Pp}
set_option maxHeartbeats 1000000 in
theorem rHeld_any (hl : p.hs.length ≤ 2000) (h : Qk w S k q p) : Calls Tryz.prog 13 #[.pointer (some ⟨q, 0, none⟩)] w fun e w' => ∃ v', e = .returned v' ∧ RowI w' w.heap.size v' (p.hs.map Hp.pl) ∧ Below w.heap.size w w' := by
  obtain ⟨D, T, _, _, _, h4⟩ := h
  obtain ⟨va, vc, c1, hr, _, hql⟩ := h4.read
  have HR := hid hr
  clear h4 hr
  generalize p.hs = L at *
  obtain ⟨n, hnn⟩ : ∃ n, L.length = n := ⟨_, rfl⟩
  have HN := hid hnn
  rw [hnn] at c1 hl
  rw [hnn] at HR
  clear hnn
  have HK : Hid (∀ w5, Below w.heap.size w w5 → w5.cell? ⟨q, 2, none⟩ = some (.slice va n vc)) := fun w5 hb => (hb.cell (p := ⟨q, 2, none⟩) hql).trans c1
  clear hql
  go_enter Tryz.func13, Tryz.ntmps13
  go_wp2_with fail
  clear c1
  go_loopw [3, 10] (fun o i wr => ∃ j : Nat, j ≤ n ∧ i = .int .i64 (j : Nat) ∧ Hid (RowI wr w.heap.size o ((L.take j).map Hp.pl)) ∧ Hid (Below w.heap.size w wr)) (fun o i _ => n - (intOf i).toNat)
  case atStart => exact ⟨0, Nat.zero_le _, rfl, World.ownsRow_nil _ _ _ _, Below.refl _ _⟩
  case round =>
    obtain ⟨j, hj, rfl, HO, HB⟩ := hrel
    by_cases hjn : j < n
    · have hji : (j : Int) < (n : Int) := by omega
      obtain ⟨c, hc⟩ : ∃ c, L[j]? = some c := ⟨_, List.getElem?_eq_getElem (by rw [HN.out]; exact hjn)⟩
      obtain ⟨g, e1, hgl, d0, _⟩ := HR.out.at hc
      subst e1
      have c0 : wr.cell? ⟨g, j * 3, none⟩ = some (.int .i64 c.pl) := (HB.out.cell (p := ⟨g, j * 3, none⟩) hgl).trans d0
      have cq := HK.out wr HB.out
      obtain ⟨W, hW⟩ : ∃ W, wr.alloc (.cells #[.int .i64 c.pl] 3) = W := ⟨_, rfl⟩
      have hbW : Below wr.heap.size wr W := by rw [← hW]; exact (Below.refl _ _).alloc (Nat.le_refl _) _
      have bW : Blk W wr.heap.size #[.int .i64 c.pl] 3 := by rw [← hW]; exact Blk.made _ _ _
      have x0 := bW.cell (i := 0) rfl
      have hOW := own_below HO.out hbW
      have hl1 : ((L.take j).map Hp.pl).length = j := by rw [List.length_map, List.length_take, HN.out]; omega
      have HL1 := hid hl1
      have HBW := hid (HB.out.trans (hbW.mono HB.out.size))
      have HOW : Hid (RowI W w.heap.size _ ((L.take j).map Hp.pl)) := hOW
      have HT : Hid ((L.take j).map Hp.pl ++ [c.pl] = (L.take (j + 1)).map Hp.pl) := by show _ = _; rw [take_snoc hc, List.map_append]; rfl
      clear hOW HO HB bW hbW d0 hc hgl hl1
      go_wp2_with (first
        | (at_builtin; refine wpList_intB _ w.heap.size HBW.out.size rfl (.tmp 13) (.tmp 22) rfl _ _ j HL1.out rfl HOW.out wr.heap.size c.pl rfl x0 (by omega) ?_; intro ua uc w5 hr5 hg5; rw [HT.out] at hr5; have HR5 := hid hr5; have HB5 := hid (HBW.out.grown hg5 HBW.out.size (fun k hk => (World.ownsRow.lt HOW.out k hk).1)); clear hr5 hg5))
      go_roundw
      case rel => exact ⟨j + 1, by omega, by go_num, HR5, HB5⟩
      case measure => simp [intOf]; omega
    · obtain rfl : j = n := by omega
      go_wp2_with fail
      go_ret
      refine ⟨_, rfl, ?_, HB.out⟩
      have h1 := HO.out
      rw [List.take_of_length_le (by rw [HN.out]; exact Nat.le_refl _)] at h1
      exact h1
set_option maxHeartbeats 1000000 in
theorem rDirty_any (hl : p.ch.length ≤ 2000) (h : Qk w S k q p) : Calls Tryz.prog 11 #[.pointer (some ⟨q, 0, none⟩)] w fun e w' => ∃ v', e = .returned v' ∧ RowI w' w.heap.size v' (p.ch.map Pg.pl) ∧ Below w.heap.size w w' := by
  obtain ⟨D, T, _, _, _, h4⟩ := h
  obtain ⟨va, vc, c1, hr, _, hql⟩ := h4.readc
  have HR := hid hr
  clear h4 hr
  generalize p.ch = L at *
  obtain ⟨n, hnn⟩ : ∃ n, L.length = n := ⟨_, rfl⟩
  have HN := hid hnn
  rw [hnn] at c1 hl
  rw [hnn] at HR
  clear hnn
  have HK : Hid (∀ w5, Below w.heap.size w w5 → w5.cell? ⟨q, 3, none⟩ = some (.slice va n vc)) := fun w5 hb => (hb.cell (p := ⟨q, 3, none⟩) hql).trans c1
  clear hql
  go_enter Tryz.func11, Tryz.ntmps11
  go_wp2_with fail
  clear c1
  go_loopw [3, 10] (fun o i wr => ∃ j : Nat, j ≤ n ∧ i = .int .i64 (j : Nat) ∧ Hid (RowI wr w.heap.size o ((L.take j).map Pg.pl)) ∧ Hid (Below w.heap.size w wr)) (fun o i _ => n - (intOf i).toNat)
  case atStart => exact ⟨0, Nat.zero_le _, rfl, World.ownsRow_nil _ _ _ _, Below.refl _ _⟩
  case round =>
    obtain ⟨j, hj, rfl, HO, HB⟩ := hrel
    by_cases hjn : j < n
    · have hji : (j : Int) < (n : Int) := by omega
      obtain ⟨c, hc⟩ : ∃ c, L[j]? = some c := ⟨_, List.getElem?_eq_getElem (by rw [HN.out]; exact hjn)⟩
      obtain ⟨g, e1, _, hgl⟩ := row_some HR.out (by rw [HN.out]; omega)
      subst e1
      obtain ⟨d0, _, _⟩ := RowP.at HR.out hc
      have c0 : wr.cell? ⟨g, j * 2, none⟩ = some (.int .i64 c.pl) := (HB.out.cell (p := ⟨g, j * 2, none⟩) hgl).trans d0
      have cq := HK.out wr HB.out
      obtain ⟨W, hW⟩ : ∃ W, wr.alloc (.cells #[.int .i64 c.pl] 3) = W := ⟨_, rfl⟩
      have hbW : Below wr.heap.size wr W := by rw [← hW]; exact (Below.refl _ _).alloc (Nat.le_refl _) _
      have bW : Blk W wr.heap.size #[.int .i64 c.pl] 3 := by rw [← hW]; exact Blk.made _ _ _
      have x0 := bW.cell (i := 0) rfl
      have hOW := own_below HO.out hbW
      have hl1 : ((L.take j).map Pg.pl).length = j := by rw [List.length_map, List.length_take, HN.out]; omega
      have HL1 := hid hl1
      have HBW := hid (HB.out.trans (hbW.mono HB.out.size))
      have HOW : Hid (RowI W w.heap.size _ ((L.take j).map Pg.pl)) := hOW
      have HT : Hid ((L.take j).map Pg.pl ++ [c.pl] = (L.take (j + 1)).map Pg.pl) := by show _ = _; rw [take_snoc hc, List.map_append]; rfl
      clear hOW HO HB bW hbW d0 hc hgl hl1
      go_wp2_with (first
        | (at_builtin; refine wpList_intB _ w.heap.size HBW.out.size rfl (.tmp 13) (.tmp 22) rfl _ _ j HL1.out rfl HOW.out wr.heap.size c.pl rfl x0 (by omega) ?_; intro ua uc w5 hr5 hg5; rw [HT.out] at hr5; have HR5 := hid hr5; have HB5 := hid (HBW.out.grown hg5 HBW.out.size (fun k hk => (World.ownsRow.lt HOW.out k hk).1)); clear hr5 hg5))
      go_roundw
      case rel => exact ⟨j + 1, by omega, by go_num, HR5, HB5⟩
      case measure => simp [intOf]; omega
    · obtain rfl : j = n := by omega
      go_wp2_with fail
      go_ret
      refine ⟨_, rfl, ?_, HB.out⟩
      have h1 := HO.out
      rw [List.take_of_length_le (by rw [HN.out]; exact Nat.le_refl _)] at h1
      exact h1
end

end Go.Proofs.YtoecopmbaoklkaaGreat
