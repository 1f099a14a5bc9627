/-
  What the shelf's cut, use, drop and hold do.
-/
import Derived.Test.YtoecopmbaoklkaaGreatSh
import Derived.Deep.RegionHeld3
import Derived.Test.YtoecopmbaoklkaaGreatApp
import Derived.Test.YtoecopmbaoklkaaGreatIm
namespace Go.Proofs.YtoecopmbaoklkaaGreat
open Go.RowKit
set_option linter.unusedVariables false
set_option linter.unusedSimpArgs false
set_option maxRecDepth 100000

/-- where a number stands -/
theorem index_any (w : World) (B : Nat) (v : Value) (A L : List Int) (a : Int) (h : RowI w B v (A ++ a :: L)) (hl : (A ++ a :: L).length ≤ 1024) (hn : ∀ x ∈ A, ¬ x = a) :
    Calls Tryz.prog 93 #[v, .int .i64 a] w fun e w' => e = .returned (.int .i64 (A.length : Nat)) ∧ w = w' := by
  obtain ⟨p, c, e1⟩ := h.form
  subst e1
  have H := hid h
  have HN := hid hn
  obtain ⟨n, hnn⟩ : ∃ n, (A ++ a :: L).length = n := ⟨_, rfl⟩
  rw [hnn] at hl ⊢
  have hlt : A.length < n := by rw [← hnn]; simp
  have HA : Hid (∀ k, k < A.length → ∃ x, (A ++ a :: L)[k]? = some x ∧ ¬ x = a) := fun k hk => ⟨A[k], by rw [List.getElem?_append_left hk, List.getElem?_eq_getElem hk], HN.out _ (List.getElem_mem _)⟩
  have HZ : Hid ((A ++ a :: L)[A.length]? = some a) := by show _ = _; simp
  obtain ⟨m, hm⟩ : ∃ m, A.length = m := ⟨_, rfl⟩
  rw [hm] at hlt HA HZ ⊢
  clear h hn hnn hm
  generalize A ++ a :: L = U at *
  go_enter Tryz.func93, Tryz.ntmps93
  go_wp2_with fail
  go_loop [8] (fun i => ∃ k : Nat, k ≤ m ∧ i = .int .i64 (k : Nat)) (fun i => n - (intOf i).toNat)
  case atStart => exact ⟨0, Nat.zero_le _, rfl⟩
  case round =>
    obtain ⟨k, hk, rfl⟩ := hrel
    have hki : (k : Int) < (n : Int) := by omega
    by_cases hkm : k < m
    · obtain ⟨x, hx, hne⟩ := HA.out k hkm
      obtain ⟨g, rfl, _, _, c1, _⟩ := H.out.at hx
      have hne2 : (a == x) = false := by simp; omega
      clear hx
      go_wp2
      go_round
      case rel => exact ⟨k + 1, by omega, by go_num⟩
      case measure => simp [intOf]; omega
    · obtain rfl : k = m := by omega
      obtain ⟨g, rfl, _, _, c1, _⟩ := H.out.at HZ.out
      go_wp2
      go_ret
      exact ⟨rfl, rfl⟩

section
variable {w : World} {T : Nat → Prop} {k q room rd : Nat} {hs : List Hp} {ch : List Pg}

/-- the shelf's question of a page's pins -/
theorem asks_any (a : Int) (ha : I64 a) (h : Sh w T k q room rd hs ch) (b : Nat) (hb : Blk w b #[.pointer (some ⟨q, 2, none⟩)] 105) :
    Calls Tryz.prog 98 #[.int .i64 a, .pointer (some ⟨b, 0, none⟩)] w fun e w' => e = .returned (.bool (!pinned hs a)) ∧ w = w' := by
  have hp := hasPins_any a ha h
  have c0 := hb.cell (i := 0) rfl
  generalize pinned hs a = z at *
  clear h hb
  go_enter Tryz.func98, Tryz.ntmps98
  go_wp2_with (go_at_call 41; refine hp.mono ?_; rintro e w1 ⟨rfl, rfl⟩)
  go_ret
  exact ⟨rfl, rfl⟩

theorem indexf_any (hn : NdH hs) (hl : hs.length ≤ 1024) (hi : ∀ x ∈ hs, I64 x.pl) (h : Sh w T k q room rd hs ch) (b : Nat) (hb : Blk w b #[.pointer (some ⟨q, 2, none⟩)] 105) (v : Value) (hv : RowI w 0 v (hs.map Hp.pl)) :
    Calls Tryz.prog 97 #[v, .func (.func 98) #[] #[.pointer (some ⟨b, 0, none⟩)]] w fun e w' => e = .returned (.int .i64 (nextI hs)) ∧ w = w' := by
  obtain ⟨p, c, e1⟩ := hv.form
  subst e1
  rw [List.length_map] at hv ⊢
  have HV := hid hv
  have HC : Hid (∀ x, x ∈ hs → Calls Tryz.prog 98 #[.int .i64 x.pl, .pointer (some ⟨b, 0, none⟩)] w fun e w' => e = .returned (.bool (decide (x.pins = 0))) ∧ w = w') := fun x hx => by
    have := asks_any x.pl (hi x hx) h b hb
    unfold pinned at this
    rw [fndH_mem hn hx] at this
    have e : (!decide (0 < x.pins)) = decide (x.pins = 0) := by
      by_cases h0 : x.pins = 0
      · simp [h0]
      · simp [h0]; omega
    simp only [e] at this
    exact this
  have HL : Hid (hs.length = hs.length) := rfl
  obtain ⟨n, hnn⟩ : ∃ n, hs.length = n := ⟨_, rfl⟩
  have HN := hid hnn
  rw [hnn] at hl ⊢
  clear hv hi h hb hnn HL hn
  go_enter Tryz.func97, Tryz.ntmps97
  go_wp2_with fail
  go_loop [8] (fun i => ∃ k : Nat, k ≤ n ∧ i = .int .i64 (k : Nat) ∧ Hid (∀ i x, i < k → hs[i]? = some x → ¬ x.pins = 0)) (fun i => n - (intOf i).toNat)
  case atStart => exact ⟨0, Nat.zero_le _, rfl, fun i x hi => by omega⟩
  case round =>
    obtain ⟨j, hj, rfl, HO⟩ := hrel
    by_cases hjn : j < n
    · have hji : (j : Int) < (n : Int) := by omega
      obtain ⟨x, hx⟩ : ∃ x, hs[j]? = some x := ⟨_, List.getElem?_eq_getElem (by rw [HN.out]; exact hjn)⟩
      have hca := HC.out x (List.mem_of_getElem? hx)
      obtain ⟨g, rfl, _, _, c1, _⟩ := HV.out.at (k := j) (x := x.pl) (by rw [List.getElem?_map, hx]; rfl)
      by_cases hz : x.pins = 0
      · rw [decide_eq_true hz] at hca
        have HE := hid (nextI_at HO.out hx hz).1
        clear hx hz
        go_wp2_with (go_at_call 98; refine hca.mono ?_; rintro e w1 ⟨rfl, rfl⟩)
        go_ret
        exact ⟨by rw [HE.out]; rfl, rfl⟩
      · rw [decide_eq_false hz] at hca
        have HO2 : Hid (∀ i y, i < j + 1 → hs[i]? = some y → ¬ y.pins = 0) := fun i y hi hy => by
          by_cases e : i = j
          · subst e
            rw [hx] at hy
            cases hy
            exact hz
          · exact HO.out i y (by omega) hy
        clear hx hz
        go_wp2_with (go_at_call 98; refine hca.mono ?_; rintro e w1 ⟨rfl, rfl⟩)
        go_round
        case rel => exact ⟨j + 1, by omega, by go_num, HO2⟩
        case measure => simp [intOf]; omega
    · obtain rfl : j = n := by omega
      have HE : Hid (nextI hs = -1) := (nextI_none (fun x hx => by
        obtain ⟨i, hi⟩ := List.mem_iff_getElem?.1 hx
        exact HO.out i x (by have := (List.getElem?_eq_some_iff.1 hi).1; rw [HN.out] at this; exact this) hi)).1
      go_wp2
      go_ret
      exact ⟨by rw [HE.out]; rfl, rfl⟩

theorem next_any (hn : NdH hs) (hl : hs.length ≤ 1024) (hi : ∀ x ∈ hs, I64 x.pl) (h : Sh w T k q room rd hs ch) :
    Calls Tryz.prog 76 #[.pointer (some ⟨q, 2, none⟩)] w fun e w' => e = .returned (.int .i64 (nextI hs)) ∧ Below w.heap.size w w' := by
  have H := hid h
  obtain ⟨_, _, cv, uv, m, hb3, _, hu, _⟩ := h
  have hlt : q < w.heap.size := hb3.lt
  obtain ⟨W, hW⟩ : ∃ W, w.alloc (.cells #[.pointer (some ⟨q, 2, none⟩)] 105) = W := ⟨_, rfl⟩
  have hbW : Below w.heap.size w W := by rw [← hW]; exact (Below.refl _ _).alloc (Nat.le_refl _) _
  have hx := indexf_any hn hl hi (H.out.on hbW) w.heap.size (by rw [← hW]; exact Blk.made _ _ _) uv (hu.on hbW)
  have c4 : W.cell? ⟨q, 4, none⟩ = some uv := (hbW.cell (p := ⟨q, 4, none⟩) hlt).trans (hb3.cell (i := 4) rfl)
  have b6 : Blk W w.heap.size #[.pointer (some ⟨q, 2, none⟩)] 105 := by rw [← hW]; exact Blk.made _ _ _
  have c60 := b6.cell (i := 0) rfl
  obtain ⟨p, c, e1⟩ := hu.form
  subst e1
  rw [List.length_map] at hx c4
  have HBW := hid hbW
  clear hb3 hu b6 hn hl hi hbW
  generalize nextI hs = z at *
  go_enter Tryz.func76, Tryz.ntmps76
  go_wp2_with fail
  clear hW c60 c4
  refine hx.mono ?_
  clear hx
  rintro e w1 ⟨rfl, rfl⟩
  go_wp2
  go_ret
  exact ⟨rfl, HBW.out⟩

theorem nextI_neg (hs : List Hp) : decide (nextI hs < 0) = (freeH hs).isNone := by
  unfold nextI
  cases freeH hs with
  | none => rfl
  | some f => simp only [Option.isNone_some]; rw [decide_eq_false]; omega

theorem full_any (hn : NdH hs) (hl : hs.length ≤ 1024) (hi : ∀ x ∈ hs, I64 x.pl) (h : Sh w T k q room rd hs ch) :
    Calls Tryz.prog 62 #[.pointer (some ⟨q, 2, none⟩)] w fun e w' => e = .returned (.bool (fullH room hs)) ∧ Below w.heap.size w w' := by
  have hnx : ∀ w1, Below w.heap.size w w1 → _ := fun w1 hb => next_any hn hl hi (h.on hb)
  obtain ⟨_, _, cv, uv, m, hb3, _, hu, _⟩ := h
  have hlt : q < w.heap.size := hb3.lt
  obtain ⟨p, c, e1⟩ := hu.form
  subst e1
  have c2 : w.cell? ⟨q, 2, none⟩ = some (.int .i64 (room : Nat)) := hb3.cell (i := 2) rfl
  have c4 : w.cell? ⟨q, 4, none⟩ = some (.slice p (hs.map Hp.pl).length c) := hb3.cell (i := 4) rfl
  rw [List.length_map] at c4
  have hz := nextI_neg hs
  clear hb3 hu hi hn
  unfold fullH
  generalize (freeH hs).isNone = y at *
  generalize nextI hs = z at *
  obtain ⟨n, hnn⟩ : ∃ n, hs.length = n := ⟨_, rfl⟩
  rw [hnn] at hl c4 ⊢
  clear hnn
  have HK : Hid (∀ w5, Below w.heap.size w w5 → w5.cell? ⟨q, 2, none⟩ = some (.int .i64 (room : Nat)) ∧ w5.cell? ⟨q, 4, none⟩ = some (.slice p n c)) := fun w5 hb => ⟨(hb.cell (p := ⟨q, 2, none⟩) hlt).trans c2, (hb.cell (p := ⟨q, 4, none⟩) hlt).trans c4⟩
  have HBd := hid ((Below.refl w.heap.size w).drew)
  have HS0 := HK.out _ HBd.out
  have HNX := hid hnx
  clear hnx
  by_cases hr : room ≤ n
  · rw [decide_eq_true hr, Bool.true_and]
    have hri : (room : Int) ≤ (n : Int) := by omega
    clear c2 c4
    go_enter Tryz.func62, Tryz.ntmps62
    go_wp2_with fail
    go_region_held3 (fun w' => w'.cell? ⟨q, 2, none⟩ = some (.int .i64 (room : Nat)) ∧ w'.cell? ⟨q, 4, none⟩ = some (.slice p n c)) (first | exact HS0 | exact HS1)
      (first | (go_at_call 76; refine (HNX.out _ HBd.out).mono ?_; clear HNX; rintro e w5 ⟨rfl, hb5⟩; have HB5 := hid (HBd.out.trans (hb5.mono HBd.out.size)); have HS1 := HK.out w5 HB5.out; clear hb5))
    go_wp2_with fail
    go_ret
    exact ⟨by rw [← hz]; rfl, HB5.out⟩
  · rw [decide_eq_false hr, Bool.false_and]
    have hri : ¬ (room : Int) ≤ (n : Int) := by omega
    have hri2 : decide (room ≤ n) = false := decide_eq_false hr
    go_enter Tryz.func62, Tryz.ntmps62
    go_wp2_with fail
    go_region
    go_wp2_with fail
    go_ret
    exact ⟨rfl, HBd.out⟩
end

theorem info3s : (Tryz.prog.info? 3).map (·.size) = some 1 := by kernel_rfl
theorem info3 : (Tryz.prog.info? 3).map (fun i => (i.zero, i.size, i.bytes)) = some (some (.int .i64 0), 1, 8) := by kernel_rfl
theorem ints_one (L : List Int) : ∀ u ∈ L.map (Value.int .i64), u.oneCell' = true := by
  intro u hu
  obtain ⟨x, _, rfl⟩ := List.mem_map.1 hu
  rfl

/-- copy(l[i:], l[i+1:]) -/
theorem run_shift {w : World} {B g n cap i : Nat} {xs : List Value} (h : w.ownsRow B 3 1 (.slice (some ⟨g, 0, none⟩) n cap) n xs) (h1 : ∀ u ∈ xs, u.oneCell' = true) (hi : i < n) :
    ∃ w2, (Builtin.copy_ #[42, 42] 3 #[.slice (some ⟨g, i, none⟩) (n - i) (cap - i), .slice (if cap = i + 1 then some ⟨g, 0, none⟩ else some ⟨g, i + 1, none⟩) (n - (i + 1)) (cap - (i + 1))]).run Tryz.prog w = .ok (goInt (n - (i + 1) : Nat)) w2 ∧ w2.ownsRow B 3 1 (.slice (some ⟨g, 0, none⟩) (n - 1) cap) (n - 1) (xs.eraseIdx i) ∧ w.grownBy w2 (some g) := by
  obtain ⟨hl, hn | ⟨g', cap', cur, hv, hB, hg, hc1, hc2, hc3, hc4⟩⟩ := h
  · cases hn.1
  cases hv
  rw [Nat.mul_one] at hl hc4
  rw [Nat.mul_one] at hc3
  have hel : (xs.eraseIdx i).length = n - 1 := by rw [List.length_eraseIdx_of_lt (by omega)]; omega
  by_cases he : i + 1 = n
  · refine ⟨w, ?_, ⟨by rw [hel]; omega, .inr ⟨g, cap, cur, rfl, hB, hg, by omega, hc2, by omega, ?_⟩⟩, ⟨rfl, rfl, rfl, Nat.le_refl _, fun _ _ _ => rfl⟩⟩
    · have e0 : n - (i + 1) = 0 := by omega
      rw [e0]
      exact run_copy_none w 42 42 3 3 _ _ _ _ _ _ Tryz.underlying42 info3s (by simp)
    · rw [Nat.mul_one, List.eraseIdx_eq_take_drop_succ, List.drop_eq_nil_of_le (by omega), List.append_nil, show n - 1 = i by omega, ← hc4, List.take_take]
      congr 1
      omega
  · rw [if_neg (by omega)]
    have hcs : (xs.drop (i + 1)).length = n - (i + 1) := by rw [List.length_drop, hl]
    have hr := run_copy_row (P := Tryz.prog) w 42 42 3 3 g i (n - i) (cap - i) ⟨g, i + 1, none⟩ (n - (i + 1)) (cap - (i + 1)) cur 3 (xs.drop (i + 1)) Tryz.underlying42 info3s hg (by rw [hcs]; exact (Nat.min_eq_left (by omega)).symm) (fun j v hj => by
      rw [add_plain, Lib.cell_of_heap hg]
      rw [List.getElem?_drop, ← hc4, List.getElem?_take] at hj
      split at hj
      · simpa using hj
      · cases hj) (by rw [hcs]; omega) (fun v hv => h1 v (List.mem_of_mem_drop hv))
    rw [hcs] at hr
    refine ⟨_, hr, ⟨by rw [hel]; omega, .inr ⟨g, cap, _, rfl, hB, setRow_heap w g _ _ 3 _ hg, by omega, hc2, ?_, ?_⟩⟩, ⟨rfl, rfl, rfl, by simp [World.setRow], fun k _ hk => setRow_other w g k _ (fun e => hk (by rw [e]))⟩⟩
    · simp only [List.size_toArray, List.length_append, List.length_take, List.length_drop, Array.length_toList]
      omega
    · rw [Nat.mul_one, List.toList_toArray, List.eraseIdx_eq_take_drop_succ]
      have e1 : cur.toList.take i = xs.take i := by rw [← hc4, List.take_take]; congr 1; omega
      rw [e1, List.take_append_of_le_length (by simp only [List.length_append, List.length_take, List.length_drop]; omega), List.take_of_length_le (by simp only [List.length_append, List.length_take, List.length_drop]; omega)]

/-- append of one number onto a row -/
theorem wpList_int {ops : Array Oper} {rest : List Oper} {o : Oper} {a : Act} {Q : Exit → Act → World → Prop} (W : World) (hgd : o.guard = none) (s x : Operand)
    (ho : o.op = .call { callee := .builtin .append, args := #[s, x], argTypes := #[42, 42] }) (v : Value) (M : List Int) (m : Nat) (hm : M.length = m) (hs : a.eval s = v) (hown : RowI W 0 v M)
    (ad : Nat) (z : Int) (hx : a.eval x = .slice (some ⟨ad, 0, none⟩) 1 1) (hc : W.cell? ⟨ad, 0, none⟩ = some (.int .i64 z)) (hlen : m ≤ 100000)
    (h : ∀ va vc w', RowI w' 0 (.slice va (m + 1) vc) (M ++ [z]) → W.grownBy w' v.ownBlock → Moved W v (.slice va (m + 1) vc) → wpList Tryz.prog ops Q rest (a.put o.dst (.slice va (m + 1) vc)) w') : wpList Tryz.prog ops Q (o :: rest) a W := by
  obtain ⟨i0, hi, hz0, hz1, hz2⟩ := info_parts info3
  subst hm
  refine wpList_append_blk W hgd s x 42 ho 0 3 i0 (.int .i64 0) 1 8 Tryz.underlying42 hi hz0 hz1 hz2 rfl (by decide) v M.length (M.map (Value.int .i64)) hs hown ⟨ad, 0, none⟩ 1 1 [.int .i64 z] hx rfl (fun j u hj => ?_) (fun u hu => by simp at hu; subst hu; rfl) (by decide) (by unfold maxLen; omega) (by omega) (Nat.zero_le _) ?_
  · match j, hj with
    | 0, hj => simp at hj; subst hj; simpa [Addr.add] using hc
  · intro v' w' hown' hgrow hmv
    obtain ⟨va, vc, hv'⟩ := own_form hown'
    subst hv'
    refine h va vc w' ?_ hgrow hmv
    unfold RowI
    rw [List.length_append, List.map_append]
    exact hown'

section
variable {w : World} {T : Nat → Prop} {k q room rd : Nat} {hs : List Hp} {ch : List Pg}

/-- the uses turned: a row and the pager's cell for it -/
theorem Su.uses {U U' : List Int} {w w' : World} (h : Su w T k q room rd U hs ch) {uv u' : Value} (hu : w.cell? ⟨q, 4, none⟩ = some uv) (hg : w.grownBy w' uv.ownBlock) (hr : RowI w' 0 u' U') (hm : Moved w uv u') :
    ∃ T', Su (w'.setCell ⟨q, 4, none⟩ u') T' k q room rd U' hs ch ∧ Grows T T' w ∧ Keep T w (w'.setCell ⟨q, 4, none⟩ u') := by
  obtain ⟨h1, h2, cv, uv', m, h3, h4, h5, h6, h7, h8, h9⟩ := h
  have e : some uv' = some uv := (h3.cell (i := 4) rfl).symm.trans hu
  cases e
  have hk : Keep (fun j => uv.ownBlock = some j) w w' := Keep.grown hg (fun j e => e)
  have b3 := hk.blk h3 (fun e => (h3.ne h5 (by decide) e) rfl)
  have k2 : Keep (fun j => j = q) w' (w'.setCell ⟨q, 4, none⟩ u') := Keep.set (S := fun j => j = q) w' rfl 4 u'
  have r4 := hk.row h4 (fun g e e2 => rows_ne h4 h5 (by decide) e e2)
  have m6 := hk.imap h6 (fun e => h6.ne_row h5 e rfl)
  have hsz : (w'.setCell ⟨q, 4, none⟩ u').heap.size = w'.heap.size := by simp [World.setCell]
  refine ⟨fun j => T j ∨ (u'.ownBlock = some j ∧ w.heap.size ≤ j), ⟨fun j hj => ?_, .inl h2, cv, u', m, b3.set 4 u', k2.row r4 (fun g e => b3.ne r4 (by decide) e), k2.row hr (fun g e => b3.ne hr (by decide) e), k2.imap m6 (fun e => (m6.ne_blk b3) e.symm), fun g e => .inl (h7 g e), fun g e => ?_, .inl h9⟩, fun j hj => ?_, ?_⟩
  · rw [hsz]
    rcases hj with hj | ⟨hj, _⟩
    · exact Nat.lt_of_lt_of_le (h1 j hj) hg.size
    · exact (World.ownsRow.lt hr j hj).2
  · rcases hm g e with e1 | e1
    · exact .inl (h8 g e1)
    · exact .inr ⟨e, e1⟩
  · rcases hj with hj | hj
    · exact .inl hj
    · exact .inr hj.2
  · exact (hk.mono (fun j _ e => h8 j e)).trans (k2.mono (fun j _ e => by subst e; exact h2)) (fun _ _ h => h)

theorem scut_any {A B : List Hp} {x : Hp} (hx : I64 x.pl) (hn : NdH (A ++ x :: B)) (hl : (A ++ x :: B).length ≤ 1024) (h : Sh w T k q room rd (A ++ x :: B) ch) :
    Calls Tryz.prog 70 #[.pointer (some ⟨q, 2, none⟩), .int .i64 x.pl] w fun e w' => e = .returned (.tuple #[]) ∧ ∃ T', Su w' T' k q room rd ((A ++ B).map Hp.pl) (A ++ x :: B) ch ∧ Grows T T' w ∧ Keep T w w' := by
  have H := hid h
  obtain ⟨_, _, cv, uv, m, hb3, _, hu, _⟩ := h
  have hix := index_any w 0 uv (A.map Hp.pl) (B.map Hp.pl) x.pl (by simpa using hu) (by simpa using hl) (fun y hy => by
    obtain ⟨z, hz, rfl⟩ := List.mem_map.1 hy
    exact hn.split.1 z hz)
  rw [List.length_map] at hix
  obtain ⟨g, cap, e1, hc1, hc2, _, hgl⟩ := own_some hu (by simp; omega)
  subst e1
  have hlen : ((A ++ x :: B).map Hp.pl).length = A.length + 1 + B.length := by simp; omega
  unfold RowI at hu
  rw [hlen] at hu hix hc1
  have hl2 : A.length + 1 + B.length ≤ 1024 := by rw [← hlen, List.length_map]; exact hl
  have hub : ¬ g = q := hb3.ne hu (by decide) rfl
  have c4 : w.cell? ⟨q, 4, none⟩ = some (.slice (some ⟨g, 0, none⟩) (A.length + 1 + B.length) cap) := by rw [← hlen]; exact hb3.cell (i := 4) rfl
  have f4 := hb3.free 4
  have hqs := hb3.lt
  have hu2 : w.drew.ownsRow 0 3 1 (.slice (some ⟨g, 0, none⟩) (A.length + 1 + B.length) cap) (A.length + 1 + B.length) (((A ++ x :: B).map Hp.pl).map (Value.int .i64)) := own_below hu ((Below.refl _ _).drew)
  obtain ⟨w2, hcp, hr2, hg2⟩ := run_shift (i := A.length) hu2 (ints_one _) (by omega)
  have b2 := (show Blk w.drew q _ _ from hb3).kept hg2 (fun e => hub (Option.some.inj e).symm)
  have c42 : w2.drew.cell? ⟨q, 4, none⟩ = some (.slice (some ⟨g, 0, none⟩) (A.length + 1 + B.length) cap) := by
    rw [← hlen]
    exact (show Blk w2.drew q _ _ from b2).cell (i := 4) rfl
  have f42 : w2.drew.frozen? ⟨q, 4, none⟩ = false := (show Blk w2.drew q _ _ from b2).free 4
  have HF : Hid (∃ T', Su (w2.drew.setCell ⟨q, 4, none⟩ (.slice (some ⟨g, 0, none⟩) (A.length + 1 + B.length - 1) cap)) T' k q room rd ((A ++ B).map Hp.pl) (A ++ x :: B) ch ∧ Grows T T' w ∧ Keep T w (w2.drew.setCell ⟨q, 4, none⟩ (.slice (some ⟨g, 0, none⟩) (A.length + 1 + B.length - 1) cap))) := by
    have hs1 : Su w.drew T k q room rd ((A ++ x :: B).map Hp.pl) (A ++ x :: B) ch := Su.on H.out ((Below.refl _ _).drew)
    have hgd : w.drew.grownBy w2.drew (some g) := ⟨hg2.os, hg2.tape, hg2.output, hg2.size, hg2.block⟩
    have e2 : ((A ++ B).map Hp.pl).length = A.length + 1 + B.length - 1 := by rw [List.length_map, List.length_append]; omega
    have e3 : (((A ++ x :: B).map Hp.pl).map (Value.int .i64)).eraseIdx A.length = ((A ++ B).map Hp.pl).map (Value.int .i64) := by
      simp [List.eraseIdx_append_of_length_le]
    have hrow : RowI w2.drew 0 (.slice (some ⟨g, 0, none⟩) (A.length + 1 + B.length - 1) cap) ((A ++ B).map Hp.pl) := by
      unfold RowI
      rw [e2, ← e3]
      exact own_below hr2 ((Below.refl _ _).drew)
    obtain ⟨T', t1, t2, t3⟩ := hs1.uses (U' := (A ++ B).map Hp.pl) (u' := .slice (some ⟨g, 0, none⟩) (A.length + 1 + B.length - 1) cap) (w' := w2.drew) (uv := .slice (some ⟨g, 0, none⟩) (A.length + 1 + B.length) cap) (show w.cell? _ = _ from c4) hgd hrow (fun j e => .inl e)
    exact ⟨T', t1, t2, (Keep.drew T w).trans t3 (fun _ _ h => h)⟩
  clear hu hu2 hr2 hg2 b2 hb3 hl hn hlen
  obtain ⟨n, hnn⟩ : ∃ n, A.length + 1 + B.length = n := ⟨_, rfl⟩
  obtain ⟨i, hii⟩ : ∃ i, A.length = i := ⟨_, rfl⟩
  have hin : i < n := by omega
  rw [hnn] at hix c4 c42 hcp HF hc1 hl2
  rw [hii] at hcp hix
  clear hnn hii
  unfold maxLen at hc2
  by_cases hcap : cap = i + 1
  · rw [if_pos hcap] at hcp
    subst hcap
    obtain rfl : n = i + 1 := by omega
    rw [show i + 1 - i = 1 by omega, show i + 1 - (i + 1) = 0 by omega] at hcp
    go_enter Tryz.func70, Tryz.ntmps70
    go_wp2_with (first | (go_at_call 93; refine hix.mono ?_; clear hix; rintro e w1 ⟨rfl, rfl⟩))
    go_region
    clear c4 f4 hcp
    go_wp2_with fail
    go_region
    go_end0
    exact ⟨rfl, HF.out⟩
  · rw [if_neg hcap] at hcp
    go_enter Tryz.func70, Tryz.ntmps70
    go_wp2_with (first | (go_at_call 93; refine hix.mono ?_; clear hix; rintro e w1 ⟨rfl, rfl⟩))
    go_region
    clear c4 f4 hcp
    go_wp2_with fail
    go_region
    go_end0
    exact ⟨rfl, HF.out⟩
end

end Go.Proofs.YtoecopmbaoklkaaGreat
