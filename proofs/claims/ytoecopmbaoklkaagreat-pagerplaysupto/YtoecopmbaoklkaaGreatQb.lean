/-
  What the document's out, use and hold do.
-/
import Derived.Test.YtoecopmbaoklkaaGreatPq
import Derived.Test.YtoecopmbaoklkaaGreatRm
namespace Go.Proofs.YtoecopmbaoklkaaGreat
open Go.RowKit
set_option linter.unusedVariables false
set_option linter.unusedSimpArgs false
set_option maxRecDepth 100000

theorem infoH : (Tryz.prog.info? 77).map (fun i => (i.zero, i.size, i.bytes)) = some (some (.agg #[.int .i64 0, .int .i64 0, .string ⟨#[]⟩]), 3, 32) := by kernel_rfl
/-- held pages, as the document keeps them -/
def flatH : List Hp → List Value
  | [] => []
  | h :: r => .int .i64 h.pl :: .int .i64 (h.pins : Nat) :: .string h.data :: flatH r
theorem flatH_length : ∀ L, (flatH L).length = L.length * 3
  | [] => rfl
  | c :: r => by simp only [flatH, List.length_cons, flatH_length r]; omega
theorem flatH_append : ∀ L M, flatH (L ++ M) = flatH L ++ flatH M
  | [], M => rfl
  | c :: r, M => by simp only [List.cons_append, flatH, flatH_append r M]
theorem flatH_at : ∀ (L : List Hp) (k : Nat) (h : Hp), L[k]? = some h → (flatH L)[k * 3]? = some (.int .i64 h.pl) ∧ (flatH L)[k * 3 + 1]? = some (.int .i64 (h.pins : Nat)) ∧ (flatH L)[k * 3 + 2]? = some (.string h.data)
  | [], k, h, e => by simp at e
  | c :: r, 0, h, e => by simp at e; subst e; exact ⟨rfl, rfl, rfl⟩
  | c :: r, k + 1, h, e => by
    rw [show (k + 1) * 3 = k * 3 + 1 + 1 + 1 by omega]
    simp only [flatH, List.getElem?_cons_succ]
    exact flatH_at r k h (by simpa using e)
theorem flatH_one : ∀ L, ∀ u ∈ flatH L, u.oneCell' = true
  | [], u, h => by simp [flatH] at h
  | c :: r, u, h => by
    simp only [flatH, List.mem_cons] at h
    rcases h with rfl | rfl | rfl | h
    · rfl
    · rfl
    · rfl
    · exact flatH_one r u h
def RowH (w : World) (B : Nat) (v : Value) (L : List Hp) : Prop := w.ownsRow B 77 3 v L.length (flatH L)
theorem RowH.on {w w' : World} {B : Nat} {v : Value} {L : List Hp} (h : RowH w B v L) (hb : Below w.heap.size w w') : RowH w' B v L := own_below h hb
theorem RowH.at {w : World} {B n c : Nat} {a : Option Addr} {L : List Hp} (h : RowH w B (.slice a n c) L) {k : Nat} {x : Hp} (hk : L[k]? = some x) : ∃ g, a = some ⟨g, 0, none⟩ ∧ g < w.heap.size ∧ w.cell? ⟨g, k * 3, none⟩ = some (.int .i64 x.pl) ∧ w.cell? ⟨g, k * 3 + 1, none⟩ = some (.int .i64 (x.pins : Nat)) ∧ w.cell? ⟨g, k * 3 + 2, none⟩ = some (.string x.data) ∧ w.frozen? ⟨g, k * 3 + 1, none⟩ = false := by
  obtain ⟨h0, h1, h2⟩ := flatH_at L k x hk
  obtain ⟨a', cap, e, _, _, hc⟩ := own_cells h
  cases e
  obtain ⟨g, e1, _, l1, c0, _⟩ := hc _ _ h0
  subst e1
  obtain ⟨g', e2, _, _, c1, f1⟩ := hc _ _ h1
  cases e2
  obtain ⟨g', e3, _, _, c2, _⟩ := hc _ _ h2
  cases e3
  exact ⟨g, rfl, l1, c0, c1, c2, f1⟩
/-- a pager of the document at block q: all of it, but for its disk at block k, lies in T -/
def Qh (w : World) (T : Nat → Prop) (k q : Nat) (room rd : Nat) (hs : List Hp) (ch : List Pg) : Prop :=
  (∀ j, T j → j < w.heap.size) ∧ T q ∧ ∃ lv cv, Blk w q #[.pointer (some ⟨k, 0, none⟩), .int .i64 (room : Nat), lv, cv, .int .i64 (rd : Nat)] 37 ∧ RowH w 0 lv hs ∧ RowP w 0 cv ch ∧ In T lv ∧ In T cv
theorem Keep.qh {S T : Nat → Prop} {w w' : World} {k q room rd : Nat} {hs : List Hp} {ch : List Pg} (h : Keep S w w') (hd : Qh w T k q room rd hs ch) (hn : ∀ j, T j → ¬ S j) : Qh w' T k q room rd hs ch := by
  obtain ⟨h1, h2, lv, cv, h3, h4, h5, h6, h7⟩ := hd
  exact ⟨fun j hj => Nat.lt_of_lt_of_le (h1 j hj) h.size, h2, lv, cv, h.blk h3 (hn q h2), h.row h4 (fun g hg => hn g (h6 g hg)), h.row h5 (fun g hg => hn g (h7 g hg)), h6, h7⟩
theorem Qh.on {T : Nat → Prop} {w w' : World} {k q room rd : Nat} {hs : List Hp} {ch : List Pg} (hd : Qh w T k q room rd hs ch) (h : Below w.heap.size w w') : Qh w' T k q room rd hs ch :=
  (Keep.of_below (S := fun _ => False) h).qh hd (fun _ _ h => h)
structure Qm (w : World) (T : Nat → Prop) (k q room rd : Nat) (hs : List Hp) (ch : List Pg) (W : World) : Prop where
  qh : ∃ T', Qh W T' k q room rd hs ch ∧ Grows T T' w
  keep : Keep T w W
theorem Qm.refl {w : World} {T : Nat → Prop} {k q room rd : Nat} {hs : List Hp} {ch : List Pg} (h : Qh w T k q room rd hs ch) : Qm w T k q room rd hs ch w := ⟨⟨T, h, Grows.refl _ _⟩, Keep.refl _ _⟩
theorem Qm.on {w W V : World} {T : Nat → Prop} {k q room rd : Nat} {hs : List Hp} {ch : List Pg} (h : Qm w T k q room rd hs ch W) (hb : Below W.heap.size W V) : Qm w T k q room rd hs ch V := by
  obtain ⟨T', h1, h2⟩ := h.qh
  exact ⟨⟨T', h1.on hb, h2⟩, h.keep.trans (Keep.of_below (S := fun _ => False) hb) (fun _ _ h => h.elim)⟩
theorem Qm.base {w W V : World} {T : Nat → Prop} {k q room rd : Nat} {hs : List Hp} {ch : List Pg} (h : Qm W T k q room rd hs ch V) (hb : Below w.heap.size w W) : Qm w T k q room rd hs ch V := by
  obtain ⟨T', h1, h2⟩ := h.qh
  refine ⟨⟨T', h1, fun j hj => ?_⟩, (Keep.of_below (S := T) hb).trans h.keep (fun _ _ h => h)⟩
  rcases h2 j hj with h' | h'
  · exact .inl h'
  · exact .inr (Nat.le_trans hb.size h')
theorem Qm.trans {w W V : World} {T T' : Nat → Prop} {k q room2 rd2 : Nat} {hs2 : List Hp} {ch2 : List Pg} (hg : Grows T T' w) (hk : Keep T w W) (h : Qm W T' k q room2 rd2 hs2 ch2 V) : Qm w T k q room2 rd2 hs2 ch2 V := by
  obtain ⟨T2, h1, h2⟩ := h.qh
  refine ⟨⟨T2, h1, hg.trans h2 hk.size⟩, hk.trans h.keep (fun j hj h' => ?_)⟩
  rcases hg j h' with h' | h'
  · exact h'
  · omega

section
variable {w : World} {T : Nat → Prop} {k q room rd : Nat} {hs : List Hp} {ch : List Pg}
theorem Qh.read (h : Qh w T k q room rd hs ch) : ∃ a c, w.cell? ⟨q, 2, none⟩ = some (.slice a hs.length c) ∧ RowH w 0 (.slice a hs.length c) hs ∧ w.frozen? ⟨q, 2, none⟩ = false ∧ q < w.heap.size := by
  obtain ⟨_, _, lv, cv, hb3, hl, _⟩ := h
  obtain ⟨a, c, e1⟩ := own_form hl
  subst e1
  exact ⟨a, c, hb3.cell (i := 2) rfl, hl, hb3.free 2, hb3.lt⟩
theorem Qh.readc (h : Qh w T k q room rd hs ch) : ∃ a c, w.cell? ⟨q, 3, none⟩ = some (.slice a ch.length c) ∧ RowP w 0 (.slice a ch.length c) ch ∧ w.frozen? ⟨q, 3, none⟩ = false ∧ q < w.heap.size := by
  obtain ⟨_, _, lv, cv, hb3, _, hl, _⟩ := h
  obtain ⟨a, c, e1⟩ := own_form hl
  subst e1
  exact ⟨a, c, hb3.cell (i := 3) rfl, hl, hb3.free 3, hb3.lt⟩

/-- where a held page stands: m, unless there is none -/
theorem rat_any (a : Int) (m : Nat) (hm : m ≤ hs.length) (hl : hs.length ≤ 2000) (h1 : ∀ i x, i < m → hs[i]? = some x → ¬ x.pl = a) (h2 : ∀ x, hs[m]? = some x → x.pl = a) (h : Qh w T k q room rd hs ch) :
    Calls Tryz.prog 56 #[.pointer (some ⟨q, 0, none⟩), .int .i64 a] w fun e w' => e = .returned (.int .i64 (if m < hs.length then (m : Int) else -1)) ∧ w = w' := by
  obtain ⟨va, vc, c2, hr, _, _⟩ := h.read
  have HR := hid hr
  have H1 := hid h1
  have H2 := hid h2
  obtain ⟨n, hn⟩ : ∃ n, hs.length = n := ⟨_, rfl⟩
  have HN := hid hn
  rw [hn] at hm hl c2 ⊢
  rw [hn] at HR
  clear h hr h1 h2 hn
  go_enter Tryz.func56, Tryz.ntmps56
  go_wp2_with fail
  go_loop [11] (fun i => ∃ j : Nat, j ≤ m ∧ i = .int .i64 (j : Nat)) (fun i => n - (intOf i).toNat)
  case atStart => exact ⟨0, Nat.zero_le _, rfl⟩
  case round =>
    obtain ⟨j, hj, rfl⟩ := hrel
    by_cases hjn : j < n
    · have hji : (j : Int) < (n : Int) := by omega
      obtain ⟨x, hx⟩ : ∃ x, hs[j]? = some x := ⟨_, List.getElem?_eq_getElem (by rw [HN.out]; exact hjn)⟩
      obtain ⟨g, e1, _, c0, _⟩ := HR.out.at hx
      subst e1
      by_cases hjm : j < m
      · have hne := H1.out j x hjm hx
        have hnb : (x.pl == a) = false := by simpa using hne
        clear hx
        go_wp2_with fail
        go_round
        case rel => exact ⟨j + 1, by omega, by go_num⟩
        case measure => simp [intOf]; omega
      · obtain rfl : j = m := by omega
        have he := H2.out x hx
        have heb : (x.pl == a) = true := by simpa using he
        clear hx
        go_wp2_with fail
        go_ret
        exact ⟨by first | rfl | (rw [if_pos hjn]; rfl), rfl⟩
    · obtain rfl : j = n := by omega
      obtain rfl : m = j := by omega
      go_wp2_with fail
      go_ret
      exact ⟨by first | rfl | (rw [if_neg hjn]; rfl), rfl⟩
theorem rchanged_any (a : Int) (m : Nat) (hm : m ≤ ch.length) (hl : ch.length ≤ 2000) (h1 : ∀ i x, i < m → ch[i]? = some x → ¬ x.pl = a) (h2 : ∀ x, ch[m]? = some x → x.pl = a) (h : Qh w T k q room rd hs ch) :
    Calls Tryz.prog 55 #[.pointer (some ⟨q, 0, none⟩), .int .i64 a] w fun e w' => e = .returned (.int .i64 (if m < ch.length then (m : Int) else -1)) ∧ w = w' := by
  obtain ⟨va, vc, c2, hr, _, _⟩ := h.readc
  have HR := hid hr
  have H1 := hid h1
  have H2 := hid h2
  obtain ⟨n, hn⟩ : ∃ n, ch.length = n := ⟨_, rfl⟩
  have HN := hid hn
  rw [hn] at hm hl c2 ⊢
  rw [hn] at HR
  clear h hr h1 h2 hn
  go_enter Tryz.func55, Tryz.ntmps55
  go_wp2_with fail
  go_loop [11] (fun i => ∃ j : Nat, j ≤ m ∧ i = .int .i64 (j : Nat)) (fun i => n - (intOf i).toNat)
  case atStart => exact ⟨0, Nat.zero_le _, rfl⟩
  case round =>
    obtain ⟨j, hj, rfl⟩ := hrel
    by_cases hjn : j < n
    · have hji : (j : Int) < (n : Int) := by omega
      obtain ⟨x, hx⟩ : ∃ x, ch[j]? = some x := ⟨_, List.getElem?_eq_getElem (by rw [HN.out]; exact hjn)⟩
      obtain ⟨g, e1, _, _⟩ := row_some HR.out (by rw [HN.out]; omega)
      subst e1
      obtain ⟨c0, _, _⟩ := RowP.at HR.out hx
      by_cases hjm : j < m
      · have hne := H1.out j x hjm hx
        have hnb : (x.pl == a) = false := by simpa using hne
        clear hx
        go_wp2_with fail
        go_round
        case rel => exact ⟨j + 1, by omega, by go_num⟩
        case measure => simp [intOf]; omega
      · obtain rfl : j = m := by omega
        have he := H2.out x hx
        have heb : (x.pl == a) = true := by simpa using he
        clear hx
        go_wp2_with fail
        go_ret
        exact ⟨by first | rfl | (rw [if_pos hjn]; rfl), rfl⟩
    · obtain rfl : j = n := by omega
      obtain rfl : m = j := by omega
      go_wp2_with fail
      go_ret
      exact ⟨by first | rfl | (rw [if_neg hjn]; rfl), rfl⟩
theorem rfree_any (m : Nat) (hm : m ≤ hs.length) (hl : hs.length ≤ 2000) (h1 : ∀ i x, i < m → hs[i]? = some x → ¬ x.pins = 0) (h2 : ∀ x, hs[m]? = some x → x.pins = 0) (h : Qh w T k q room rd hs ch) :
    Calls Tryz.prog 64 #[.pointer (some ⟨q, 0, none⟩)] w fun e w' => e = .returned (.int .i64 (if m < hs.length then (m : Int) else -1)) ∧ w = w' := by
  obtain ⟨va, vc, c2, hr, _, _⟩ := h.read
  have HR := hid hr
  have H1 := hid h1
  have H2 := hid h2
  obtain ⟨n, hn⟩ : ∃ n, hs.length = n := ⟨_, rfl⟩
  have HN := hid hn
  rw [hn] at hm hl c2 ⊢
  rw [hn] at HR
  clear h hr h1 h2 hn
  go_enter Tryz.func64, Tryz.ntmps64
  go_wp2_with fail
  go_loop [9] (fun i => ∃ j : Nat, j ≤ m ∧ i = .int .i64 (j : Nat)) (fun i => n - (intOf i).toNat)
  case atStart => exact ⟨0, Nat.zero_le _, rfl⟩
  case round =>
    obtain ⟨j, hj, rfl⟩ := hrel
    by_cases hjn : j < n
    · have hji : (j : Int) < (n : Int) := by omega
      obtain ⟨x, hx⟩ : ∃ x, hs[j]? = some x := ⟨_, List.getElem?_eq_getElem (by rw [HN.out]; exact hjn)⟩
      obtain ⟨g, e1, _, _, c0, _⟩ := HR.out.at hx
      subst e1
      by_cases hjm : j < m
      · have hne := H1.out j x hjm hx
        have hnb : ((x.pins : Int) == 0) = false := by simpa using hne
        have hnz : ¬ (x.pins : Int) = 0 := by omega
        clear hx hne
        go_wp2_with fail
        go_round
        case rel => exact ⟨j + 1, by omega, by go_num⟩
        case measure => simp [intOf]; omega
      · obtain rfl : j = m := by omega
        have he := H2.out x hx
        rw [he] at c0
        clear hx
        go_wp2_with fail
        go_ret
        exact ⟨by first | rfl | (rw [if_pos hjn]; rfl), rfl⟩
    · obtain rfl : j = n := by omega
      obtain rfl : m = j := by omega
      go_wp2_with fail
      go_ret
      exact ⟨by first | rfl | (rw [if_neg hjn]; rfl), rfl⟩

theorem run_append_empty {P : Program} (w : World) (base : Nat) (t ty e : TypeId) (i : TypeInfo) (size : Nat) (ht : P.underlying t = some (.slice e)) (hi : P.info? e = some i)
    (v : Value) (n : Nat) (xs : List Value) (hown : w.ownsRow base e size v n xs) (ad : Option Addr) (c : Nat) :
    (Builtin.append_ #[t, t] ty #[v, .slice ad 0 c]).run P w = .ok v w := by
  rcases hown.2 with ⟨rfl, rfl⟩ | ⟨g, cap, cur, rfl, _, _, hnc, _⟩
  · cases ad <;> simp [Builtin.append_, run_underlying ht, sizeOf, typeInfo, hi, Builtin.lenOf, Builtin.firstCells, loadCells, loadCellsFrom]
  · cases ad <;> simp [Builtin.append_, run_underlying ht, sizeOf, typeInfo, hi, Builtin.lenOf, Builtin.firstCells, hnc, storeCells, loadCells, loadCellsFrom]
/-- append of held pages onto a row -/
theorem wp_hs {o : Oper} {a : Act} {K : Act → World → Prop} {Q : Exit → Act → World → Prop} (W : World) (B : Nat) (s x : Operand)
    (ho : o.op = .call { callee := .builtin .append, args := #[s, x], argTypes := #[34, 34] }) (v : Value) (M : List Hp) (hs' : a.eval s = v) (hown : RowH W B v M) (hB : B ≤ W.heap.size)
    (ad : Option Addr) (N : List Hp) (m c : Nat) (hm : N.length = m) (hx : a.eval x = .slice ad m c) (hc : ∀ j u, (flatH N)[j]? = some u → ∃ b, ad = some b ∧ W.cell? (b.add j) = some u) (hlen : M.length + m ≤ 100000)
    (h : ∀ va vc w', RowH w' B (.slice va (M.length + m) vc) (M ++ N) → W.grownBy w' v.ownBlock → Moved W v (.slice va (M.length + m) vc) → K (a.put o.dst (.slice va (M.length + m) vc)) w') : o.wp Tryz.prog a W K Q := by
  obtain ⟨i0, hi, hz0, hz1, hz2⟩ := info_parts infoH
  subst hm
  by_cases h0 : N = []
  · subst h0
    have hr := run_append_empty (P := Tryz.prog) W B 34 o.type 77 i0 3 Tryz.underlying34 hi v _ _ hown ad c
    obtain ⟨va, vc, e1⟩ := own_form hown
    subst e1
    have := h va vc W (by simpa using hown) ⟨rfl, rfl, rfl, Nat.le_refl _, fun _ _ _ => rfl⟩ (fun g e => .inl e)
    unfold Oper.wp execOp
    simp only [ho, resolve, invoke, builtin, Sem.run_bind, Sem.run_pure, Result.andThen_ok, List.map_toArray, List.map_cons, List.map_nil, hs', hx, List.length_nil, hr]
    exact this
  · obtain ⟨y, hy⟩ : ∃ y, N[0]? = some y := by cases N with | nil => exact absurd rfl h0 | cons y r => exact ⟨y, rfl⟩
    obtain ⟨b, rfl, _⟩ := hc 0 _ (flatH_at N 0 y hy).1
    have hpos : 0 < N.length := (List.getElem?_eq_some_iff.1 hy).1
    refine wp_append_blk W s x 34 ho B 77 i0 _ 3 32 Tryz.underlying34 hi hz0 hz1 hz2 rfl (by decide) v M.length (flatH M) hs' hown b N.length c (flatH N) hx (flatH_length N) (fun j u hj => ?_) (flatH_one N) hpos (by unfold maxLen; omega) (by omega) hB ?_
    · obtain ⟨b', e, h'⟩ := hc j u hj
      cases e
      exact h'
    · intro v' w' hown' hgrow hmv
      obtain ⟨va, vc, hv'⟩ := own_form hown'
      subst hv'
      refine h va vc w' ?_ hgrow hmv
      unfold RowH
      rw [List.length_append, flatH_append]
      exact hown'
theorem wpList_hs {ops : Array Oper} {rest : List Oper} {o : Oper} {a : Act} {Q : Exit → Act → World → Prop} (W : World) (B : Nat) (hgd : o.guard = none) (s x : Operand)
    (ho : o.op = .call { callee := .builtin .append, args := #[s, x], argTypes := #[34, 34] }) (v : Value) (M : List Hp) (hs' : a.eval s = v) (hown : RowH W B v M) (hB : B ≤ W.heap.size)
    (ad : Option Addr) (N : List Hp) (m c : Nat) (hm : N.length = m) (hx : a.eval x = .slice ad m c) (hc : ∀ j u, (flatH N)[j]? = some u → ∃ b, ad = some b ∧ W.cell? (b.add j) = some u) (hlen : M.length + m ≤ 100000)
    (h : ∀ va vc w', RowH w' B (.slice va (M.length + m) vc) (M ++ N) → W.grownBy w' v.ownBlock → Moved W v (.slice va (M.length + m) vc) → wpList Tryz.prog ops Q rest (a.put o.dst (.slice va (M.length + m) vc)) w') : wpList Tryz.prog ops Q (o :: rest) a W :=
  wpList_plain hgd fun K hK => wp_hs W B s x ho v M hs' hown hB ad N m c hm hx hc hlen fun va vc w' h1 h2 h3 => hK _ _ (h va vc w' h1 h2 h3)
/-- the list of held pages in the pager's cell -/
theorem Qh.list {w' : World} {hs' : List Hp} {lv v' : Value} (h : Qh w T k q room rd hs ch) (hu : w.cell? ⟨q, 2, none⟩ = some lv) (hg : w.grownBy w' lv.ownBlock) (hr : RowH w' 0 v' hs') (hm : Moved w lv v') : Qm w T k q room rd hs' ch (w'.setCell ⟨q, 2, none⟩ v') := by
  obtain ⟨h1, h2, lv', cv, h3, h4, h5, h6, h7⟩ := h
  have e : some lv' = some lv := (h3.cell (i := 2) rfl).symm.trans hu
  cases e
  have hk : Keep (fun j => lv.ownBlock = some j) w w' := Keep.grown hg (fun j e => e)
  have b3 := hk.blk h3 (fun e => (h3.ne h4 (by decide) e) rfl)
  have k2 : Keep (fun j => j = q) w' (w'.setCell ⟨q, 2, none⟩ v') := Keep.set (S := fun j => j = q) w' rfl 2 v'
  have r5 := hk.row h5 (fun g e e2 => rows_ne h5 h4 (by decide) e e2)
  have hsz : (w'.setCell ⟨q, 2, none⟩ v').heap.size = w'.heap.size := by simp [World.setCell]
  refine ⟨⟨fun j => T j ∨ (v'.ownBlock = some j ∧ w.heap.size ≤ j), ⟨fun j hj => ?_, .inl h2, v', cv, b3.set 2 v', k2.row hr (fun g e => b3.ne hr (by decide) e), k2.row r5 (fun g e => b3.ne r5 (by decide) e), fun g e => ?_, fun g e => .inl (h7 g e)⟩, fun j hj => ?_⟩, ?_⟩
  · rw [hsz]
    rcases hj with hj | ⟨hj, _⟩
    · exact Nat.lt_of_lt_of_le (h1 j hj) hg.size
    · exact (World.ownsRow.lt hr j hj).2
  · rcases hm g e with e1 | e1
    · exact .inl (h6 g e1)
    · exact .inr ⟨e, e1⟩
  · rcases hj with hj | hj
    · exact .inl hj
    · exact .inr hj.2
  · exact (hk.mono (fun j _ e => h6 j e)).trans (k2.mono (fun j _ e => by subst e; exact h2)) (fun _ _ h => h)
end

section
variable {w : World} {T : Nat → Prop} {k q room rd : Nat} {hs : List Hp} {ch : List Pg}
set_option maxHeartbeats 1000000 in
theorem rout_any {X Y : List Hp} {x : Hp} (hl : (X ++ x :: Y).length ≤ 2000) (h : Qh w T k q room rd (X ++ x :: Y) ch) :
    Calls Tryz.prog 60 #[.pointer (some ⟨q, 0, none⟩), .int .i64 (X.length : Nat)] w fun e w' => e = .returned (.tuple #[]) ∧ Qm w T k q room rd (X ++ Y) ch w' := by
  have H := hid h
  obtain ⟨va, vc, c2, hr, f2, hlt⟩ := h.read
  obtain ⟨g, e1, hgl, _⟩ := hr.at (k := X.length) (x := x) (by simp)
  subst e1
  have hlen : (X ++ x :: Y).length = X.length + 1 + Y.length := by rw [List.length_append, List.length_cons]; omega
  have hcap : X.length + 1 + Y.length ≤ vc ∧ vc ≤ maxLen := by
    obtain ⟨_, _, e2, h2, h3, _⟩ := own_cells hr
    cases e2
    omega
  have hcells : ∀ j u, (flatH (X ++ x :: Y))[j]? = some u → w.cell? ⟨g, j, none⟩ = some u := fun j u hj => by
    obtain ⟨_, _, e2, _, _, hc⟩ := own_cells hr
    cases e2
    obtain ⟨_, e3, _, _, c, _⟩ := hc j u hj
    cases e3
    exact c
  have HA : Hid (∀ W, Below w.heap.size w W → ∀ j u, (flatH X)[j]? = some u → ∃ b, some (⟨g, 0, none⟩ : Addr) = some b ∧ W.cell? (b.add j) = some u) := fun W hb j u hj => by
    refine ⟨_, rfl, ?_⟩
    rw [add_plain, Nat.zero_add, hb.cell (p := ⟨g, j, none⟩) hgl]
    refine hcells j u ?_
    rw [flatH_append, List.getElem?_append_left (List.getElem?_eq_some_iff.1 hj).1]
    exact hj
  have HB : Hid (∀ W (ad : Option Addr), Below w.heap.size w W → (0 < Y.length → ad = some ⟨g, (X.length + 1) * 3, none⟩) → ∀ j u, (flatH Y)[j]? = some u → ∃ b, ad = some b ∧ W.cell? (b.add j) = some u) := fun W ad hb had j u hj => by
    have hjl := (List.getElem?_eq_some_iff.1 hj).1
    rw [flatH_length] at hjl
    refine ⟨_, had (by omega), ?_⟩
    rw [add_plain, hb.cell (p := ⟨g, (X.length + 1) * 3 + j, none⟩) hgl]
    refine hcells _ u ?_
    have e : flatH (X ++ x :: Y) = flatH (X ++ [x]) ++ flatH Y := by rw [← flatH_append]; simp
    have e2 : (flatH (X ++ [x])).length = (X.length + 1) * 3 := by rw [flatH_length, List.length_append]; rfl
    rw [e, List.getElem?_append_right (by omega), e2, Nat.add_sub_cancel_left]
    exact hj
  have HF : Hid (∀ W v', Below w.heap.size w W → RowH W w.heap.size v' (X ++ Y) → Qm w T k q room rd (X ++ Y) ch (W.setCell ⟨q, 2, none⟩ v')) := fun W v' hb hr' => by
    refine Qh.list H.out c2 ⟨hb.os, hb.tape, hb.output, hb.size, fun j hj _ => hb.block j hj⟩ (own_base hr' (Nat.zero_le _)) (fun j e => .inr (World.ownsRow.lt hr' j e).1)
  have HK : Hid (∀ W, Below w.heap.size w W → W.cell? ⟨q, 2, none⟩ = some (.slice (some ⟨g, 0, none⟩) (X.length + 1 + Y.length) vc)) := fun W hb => by rw [← hlen]; exact (hb.cell (p := ⟨q, 2, none⟩) hlt).trans c2
  have HFZ : Hid (∀ W, Below w.heap.size w W → W.frozen? ⟨q, 2, none⟩ = false) := fun W hb => by
    have h9 := H.out.on hb
    obtain ⟨_, _, _, _, b9, _⟩ := h9
    exact b9.free 2
  have c20 := HK.out w (Below.refl _ _)
  rw [hlen] at hl
  clear c2 h hr f2 hlt hcells hlen hgl
  obtain ⟨i, hi⟩ : ∃ i, X.length = i := ⟨_, rfl⟩
  obtain ⟨m, hm⟩ : ∃ m, Y.length = m := ⟨_, rfl⟩
  have HX := hid hi
  have HY := hid hm
  obtain ⟨hc1, hc2⟩ := hcap
  unfold maxLen at hc2
  rw [hi, hm] at HK c20 hl hc1
  rw [hi] at HB ⊢
  clear hi hm
  obtain ⟨n, hn⟩ : ∃ n, i + 1 + m = n := ⟨_, rfl⟩
  rw [hn] at HK c20 hl hc1
  have hnm : n - (i + 1) = m := by omega
  have hin : (i : Int) < (n : Int) := by omega
  by_cases hce : vc = i + 1
  · subst hce
    obtain rfl : m = 0 := by omega
    obtain rfl : n = i + 1 := by omega
    go_enter Tryz.func60, Tryz.ntmps60
    go_wp2_with (first
      | (at_builtin; refine wpList_hs _ w.heap.size rfl (.tmp 5) (.tmp 11) rfl (.slice none 0 0) [] rfl (World.ownsRow_nil _ _ _ _) (Nat.le_refl _) (some ⟨g, 0, none⟩) X i (i + 1) HX.out rfl (HA.out _ (Below.refl _ _)) (by simp; omega) ?_; intro a1 s1 w1 hr1 hg1 hm1; simp only [List.length_nil, Nat.zero_add, List.nil_append] at hr1 ⊢; have HR1 := hid hr1; have HB1 := hid ((Below.refl _ w).grown hg1 (Nat.le_refl _) (fun k hk => by simp [Value.ownBlock] at hk)); have c21 := HK.out _ HB1.out; clear hr1 hg1 hm1 c20)
      | (at_builtin; refine wpList_hs _ w.heap.size rfl (.tmp 13) (.tmp 20) rfl (.slice a1 i s1) X rfl HR1.out HB1.out.size (some ⟨g, 0, none⟩) Y 0 0 HY.out rfl (HB.out _ _ HB1.out (fun hp => by rw [HY.out] at hp; omega)) (by rw [HX.out]; omega) ?_; intro a2 s2 w2 hr2 hg2 hm2; rw [HX.out] at hr2 ⊢; have HR2 := hid hr2; have HB2 := hid (HB1.out.grown hg2 HB1.out.size (fun k hk => (World.ownsRow.lt HR1.out k hk).1)); have c22 := HK.out _ HB2.out; have f22 := HFZ.out _ HB2.out; clear hr2 hg2 hm2 c21))
    go_end0
    exact ⟨rfl, HF.out _ _ HB2.out HR2.out⟩
  · have hcz : ¬ (vc : Int) = (i : Int) + 1 := by omega
    have HYN : Hid (Y.length = n - (i + 1)) := by show _ = _; rw [HY.out]; omega
    clear hnm hn
    go_enter Tryz.func60, Tryz.ntmps60
    go_wp2_with (first
      | (at_builtin; refine wpList_hs _ w.heap.size rfl (.tmp 5) (.tmp 11) rfl (.slice none 0 0) [] rfl (World.ownsRow_nil _ _ _ _) (Nat.le_refl _) (some ⟨g, 0, none⟩) X i vc HX.out rfl (HA.out _ (Below.refl _ _)) (by simp; omega) ?_; intro a1 s1 w1 hr1 hg1 hm1; simp only [List.length_nil, Nat.zero_add, List.nil_append] at hr1 ⊢; have HR1 := hid hr1; have HB1 := hid ((Below.refl _ w).grown hg1 (Nat.le_refl _) (fun k hk => by simp [Value.ownBlock] at hk)); have c21 := HK.out _ HB1.out; clear hr1 hg1 hm1 c20)
      | (at_builtin; refine wpList_hs _ w.heap.size rfl (.tmp 13) (.tmp 20) rfl (.slice a1 i s1) X rfl HR1.out HB1.out.size (some ⟨g, (i + 1) * 3, none⟩) Y (n - (i + 1)) (vc - (i + 1)) HYN.out rfl (HB.out _ _ HB1.out (fun _ => rfl)) (by rw [HX.out]; omega) ?_; intro a2 s2 w2 hr2 hg2 hm2; rw [HX.out] at hr2 ⊢; have HR2 := hid hr2; have HB2 := hid (HB1.out.grown hg2 HB1.out.size (fun k hk => (World.ownsRow.lt HR1.out k hk).1)); have c22 := HK.out _ HB2.out; have f22 := HFZ.out _ HB2.out; clear hr2 hg2 hm2 c21))
    go_end0
    exact ⟨rfl, HF.out _ _ HB2.out HR2.out⟩

theorem cells_three (W : World) (x y z : Value) (t : TypeId) : ∀ j u, [x, y, z][j]? = some u → (W.alloc (.cells #[x, y, z] t)).cell? ((⟨W.heap.size, 0, none⟩ : Addr).add j) = some u := by
  intro j u hj
  rw [add_plain]
  have b := Blk.made W #[x, y, z] t
  match j, hj with
  | 0, hj => simp at hj; subst hj; exact b.cell (i := 0) rfl
  | 1, hj => simp at hj; subst hj; exact b.cell (i := 1) rfl
  | 2, hj => simp at hj; subst hj; exact b.cell (i := 2) rfl
set_option maxHeartbeats 2000000 in
theorem ruse_any {X Y : List Hp} {x : Hp} (hl : (X ++ x :: Y).length ≤ 2000) (h : Qh w T k q room rd (X ++ x :: Y) ch) :
    Calls Tryz.prog 57 #[.pointer (some ⟨q, 0, none⟩), .int .i64 (X.length : Nat)] w fun e w' => e = .returned (.tuple #[]) ∧ Qm w T k q room rd (X ++ Y ++ [x]) ch w' := by
  obtain ⟨va0, vc0, c2, hr, f2, hlt⟩ := h.read
  obtain ⟨g, e1, hgl, d0, d1, d2, _⟩ := hr.at (k := X.length) (x := x) (by simp)
  subst e1
  obtain ⟨W, hW⟩ : ∃ W, w.alloc (.cells #[.int .i64 x.pl, .int .i64 (x.pins : Nat), .string x.data] 77) = W := ⟨_, rfl⟩
  have hbW : Below w.heap.size w W := by rw [← hW]; exact (Below.refl _ _).alloc (Nat.le_refl _) _
  have bW : Blk W w.heap.size #[.int .i64 x.pl, .int .i64 (x.pins : Nat), .string x.data] 77 := by rw [← hW]; exact Blk.made _ _ _
  have hTlt := h.1
  have HOU : Hid (Calls Tryz.prog 60 #[.pointer (some ⟨q, 0, none⟩), .int .i64 (X.length : Nat)] W fun e w' => e = .returned (.tuple #[]) ∧ Qm W T k q room rd (X ++ Y) ch w' ∧ Blk w' w.heap.size #[.int .i64 x.pl, .int .i64 (x.pins : Nat), .string x.data] 77) := (rout_any hl (h.on hbW)).mono fun e w' hh => ⟨hh.1, hh.2, hh.2.keep.blk bW (fun ht => by have := hTlt _ ht; omega)⟩
  have HBW := hid hbW
  have HTL := hid hTlt
  have HWS : Hid (W.heap.size = w.heap.size + 1) := by rw [← hW]; exact Array.size_push ..
  have hlen : (X ++ x :: Y).length = X.length + 1 + Y.length := by rw [List.length_append, List.length_cons]; omega
  have hl2 : (X ++ Y).length ≤ 2000 := by rw [List.length_append]; omega
  rw [hlen] at hl c2
  clear h hr f2 hlt hgl bW hbW hTlt
  obtain ⟨i, hi⟩ : ∃ i, X.length = i := ⟨_, rfl⟩
  rw [hi] at HOU d0 d1 d2 c2 hl ⊢
  obtain ⟨n, hn⟩ : ∃ n, i + 1 + Y.length = n := ⟨_, rfl⟩
  have hin : (i : Int) < (n : Int) := by omega
  have hin2 : i < n := by omega
  rw [hn] at c2 hl
  clear hn hi hlen
  go_enter Tryz.func57, Tryz.ntmps57
  go_wp2_with fail
  clear hW c2 d0 d1 d2
  refine HOU.out.mono ?_
  clear HOU
  rintro e w2 ⟨rfl, hq2, hb6⟩
  go_wp2_with fail
  obtain ⟨T2, hqh, hg1⟩ := hq2.qh
  have hk2 : Keep T w w2 := (Keep.of_below (S := T) HBW.out).trans hq2.keep (fun _ _ h => h)
  have hg2 : Grows T T2 w := fun j hj => (hg1 j hj).imp id (Nat.le_trans HBW.out.size)
  have hno : ¬ T2 w.heap.size := fun ht => by
    have e9 := HWS.out
    rcases hg1 _ ht with h9 | h9
    · have := HTL.out _ h9; omega
    · omega
  have hqd : Qh w2.drew T2 k q room rd (X ++ Y) ch := hqh.on ((Below.refl _ _).drew)
  obtain ⟨va, vc, c2, hr, f2, hlt⟩ := hqd.read
  have hlin : In T2 (.slice va (X ++ Y).length vc) := by
    obtain ⟨_, _, lv, cv, b9, _, _, h6, _⟩ := hqd
    have e : some lv = some _ := (b9.cell (i := 2) rfl).symm.trans c2
    cases e
    exact h6
  have b6 : Blk w2.drew w.heap.size #[.int .i64 x.pl, .int .i64 (x.pins : Nat), .string x.data] 77 := hb6
  have hbq : ∃ cs, Blk w2.drew q cs 37 := by obtain ⟨_, _, _, _, b, _⟩ := hqd; exact ⟨_, b⟩
  obtain ⟨cs9, hq9⟩ := hbq
  obtain ⟨W3, hW3⟩ : ∃ W3, w2.drew.alloc (.cells #[.int .i64 x.pl, .int .i64 (x.pins : Nat), .string x.data] 77) = W3 := ⟨_, rfl⟩
  have hb3 : Below w2.drew.heap.size w2.drew W3 := by rw [← hW3]; exact (Below.refl _ _).alloc (Nat.le_refl _) _
  obtain ⟨m, hm⟩ : ∃ m, (X ++ Y).length = m := ⟨_, rfl⟩
  have HM := hid hm
  rw [hm] at c2 hr hl2 hlin
  have HS0 : w2.drew.cell? ⟨q, 2, none⟩ = some (.slice va m vc) ∧ w2.drew.cell? ⟨w.heap.size, 0, none⟩ = some (.int .i64 x.pl) ∧ w2.drew.cell? ⟨w.heap.size, 1, none⟩ = some (.int .i64 (x.pins : Nat)) ∧ w2.drew.cell? ⟨w.heap.size, 2, none⟩ = some (.string x.data) := ⟨c2, b6.cell (i := 0) rfl, b6.cell (i := 1) rfl, b6.cell (i := 2) rfl⟩
  have HS1 : W3.cell? ⟨q, 2, none⟩ = some (.slice va m vc) ∧ W3.cell? ⟨w.heap.size, 0, none⟩ = some (.int .i64 x.pl) ∧ W3.cell? ⟨w.heap.size, 1, none⟩ = some (.int .i64 (x.pins : Nat)) ∧ W3.cell? ⟨w.heap.size, 2, none⟩ = some (.string x.data) := ⟨(hb3.cell (p := ⟨q, 2, none⟩) hlt).trans c2, (hb3.cell (p := ⟨w.heap.size, 0, none⟩) b6.lt).trans HS0.2.1, (hb3.cell (p := ⟨w.heap.size, 1, none⟩) b6.lt).trans HS0.2.2.1, (hb3.cell (p := ⟨w.heap.size, 2, none⟩) b6.lt).trans HS0.2.2.2⟩
  have HR4 := hid (hr.on hb3)
  have HCE : Hid (∀ j u, (flatH [x])[j]? = some u → ∃ b, some (⟨w2.drew.heap.size, 0, none⟩ : Addr) = some b ∧ W3.cell? (b.add j) = some u) := fun j u hj => ⟨_, rfl, by rw [← hW3]; exact cells_three w2.drew _ _ _ 77 j u hj⟩
  have HF : Hid (∀ (w5 : World) (v5 : Value), RowH w5 0 v5 (X ++ Y ++ [x]) → W3.grownBy w5 (Value.slice va m vc).ownBlock → Moved W3 (.slice va m vc) v5 → Qm w T k q room rd (X ++ Y ++ [x]) ch (w5.setCell ⟨q, 2, none⟩ v5)) := fun w5 v5 r5 g5 m5 => by
    have hkd : Keep T w w2.drew := hk2.trans (Keep.drew (fun _ => False) w2) (fun _ _ h => h.elim)
    exact Qm.trans hg2 hkd (Qm.base (Qh.list (hqd.on hb3) HS1.1 g5 r5 m5) hb3)
  have HK5 : Hid (∀ w5, W3.grownBy w5 (Value.slice va m vc).ownBlock → (w5.cell? ⟨q, 2, none⟩ = some (.slice va m vc) ∧ w5.cell? ⟨w.heap.size, 0, none⟩ = some (.int .i64 x.pl) ∧ w5.cell? ⟨w.heap.size, 1, none⟩ = some (.int .i64 (x.pins : Nat)) ∧ w5.cell? ⟨w.heap.size, 2, none⟩ = some (.string x.data)) ∧ w5.frozen? ⟨q, 2, none⟩ = false) := fun w5 g5 => by
    have bq := (hq9.on hb3 hq9.lt).kept g5 (fun e => hq9.ne hr (by decide) e.symm rfl)
    have b7 := (b6.on hb3 b6.lt).kept g5 (fun e => hno (hlin _ e.symm))
    have e1 : cs9[2]? = some (.slice va m vc) := by
      have := HS0.1
      unfold Blk at hq9
      simp only [World.cell?, hq9] at this
      simpa using this
    exact ⟨⟨bq.cell e1, b7.cell (i := 0) rfl, b7.cell (i := 1) rfl, b7.cell (i := 2) rfl⟩, bq.free 2⟩
  clear hqh hg1 hno hlin hg2 hk2 hqd c2 hr f2 hlt b6 hb6 hq9 hb3 hm hq2
  subst hW3
  refine wp_region_m (fun w' => w'.cell? ⟨q, 2, none⟩ = some (.slice va m vc) ∧ w'.cell? ⟨w.heap.size, 0, none⟩ = some (.int .i64 x.pl) ∧ w'.cell? ⟨w.heap.size, 1, none⟩ = some (.int .i64 (x.pins : Nat)) ∧ w'.cell? ⟨w.heap.size, 2, none⟩ = some (.string x.data)) 10 (by kernel_rfl) ?_
  refine wpAnyM_pick (i := 0) (some 15) (v := ?vz1) rfl rfl (by kernel_rfl) (by kernel_rfl) (by kernel_rfl) (by kernel_rfl) (fun _ _ _ h => h) (Or.inl ⟨by rfl, ?hz1⟩) HS0 ?rz1
  case hz1 => intro w hSw; go_simp; try with_reducible rfl
  try simp only [Act.put, List.setIfInBounds_toArray, List.set_cons_zero, List.set_cons_succ]
  refine wpAnyM_pick (i := 1) (some 16) (v := ?vz2) rfl rfl (by kernel_rfl) (by kernel_rfl) (by kernel_rfl) (by kernel_rfl) (fun _ _ _ h => h) (Or.inl ⟨by rfl, ?hz2⟩) HS0 ?rz2
  case hz2 => intro w hSw; go_simp; try with_reducible rfl
  try simp only [Act.put, List.setIfInBounds_toArray, List.set_cons_zero, List.set_cons_succ]
  refine wpAnyM_pick (i := 2) (some 17) (v := ?vz3) rfl rfl (by kernel_rfl) (by kernel_rfl) (by kernel_rfl) (by kernel_rfl) (fun _ _ _ h => h) (Or.inl ⟨by rfl, ?hz3⟩) HS0 ?rz3
  case hz3 => intro w hSw; go_simp; try with_reducible rfl
  try simp only [Act.put, List.setIfInBounds_toArray, List.set_cons_zero, List.set_cons_succ]
  refine wpAnyM_pick (i := 3) (some 18) (v := ?vz4) rfl rfl (by kernel_rfl) (by kernel_rfl) (by kernel_rfl) (by kernel_rfl) (fun _ _ _ h => h) (Or.inl ⟨by rfl, ?hz4⟩) HS0 ?rz4
  case hz4 => intro w hSw; go_simp; try with_reducible rfl
  try simp only [Act.put, List.setIfInBounds_toArray, List.set_cons_zero, List.set_cons_succ]
  refine wpAnyM_pick (i := 4) (some 19) (v := ?vz5) rfl rfl (by kernel_rfl) (by kernel_rfl) (by kernel_rfl) (by kernel_rfl) (fun _ _ _ h => h) (Or.inl ⟨by rfl, ?hz5⟩) HS0 ?rz5
  case hz5 => intro w hSw; go_simp; try with_reducible rfl
  try simp only [Act.put, List.setIfInBounds_toArray, List.set_cons_zero, List.set_cons_succ]
  refine wpAnyM_pick (i := 5) (some 20) (v := ?vz6) rfl rfl (by kernel_rfl) (by kernel_rfl) (by kernel_rfl) (by kernel_rfl) (fun _ _ _ h => h) (Or.inl ⟨by rfl, ?hz6⟩) HS0 ?rz6
  case hz6 => intro w hSw; go_simp; try with_reducible rfl
  try simp only [Act.put, List.setIfInBounds_toArray, List.set_cons_zero, List.set_cons_succ]
  refine wpAnyM_one (i := 6) (by kernel_rfl) rfl (fun K hK => ?_)
  go_simp
  refine hK.out _ _ (fun _ => HS1) ?_
  clear hK K
  try simp only [Act.put, List.setIfInBounds_toArray, List.set_cons_zero, List.set_cons_succ]
  refine wpAnyM_one (i := 7) (by kernel_rfl) rfl (fun K hK => ?_)
  simp only [List.getElem_toArray, List.getElem_cons_succ, List.getElem_cons_zero]
  rw [if_pos (by rfl)]
  refine wp_hs _ 0 (.tmp 19) (.tmp 21) rfl (.slice va m vc) (X ++ Y) rfl HR4.out (Nat.zero_le _) (some ⟨w2.drew.heap.size, 0, none⟩) [x] 1 1 rfl rfl HCE.out (by rw [HM.out]; omega) ?_
  intro ua uc w5 hr5 hg5 hm5
  have HS5 := HK5.out w5 hg5
  have HF5 := hid (HF.out w5 _ hr5 hg5 hm5)
  clear hr5 hg5 hm5 HK5 HF
  refine hK.out _ _ (fun _ => HS5.1) ?_
  clear hK K
  try simp only [Act.put, List.setIfInBounds_toArray, List.set_cons_zero, List.set_cons_succ]
  try simp only [Act.put, List.setIfInBounds_toArray, List.set_cons_zero, List.set_cons_succ]
  refine wpAnyM_one (i := 8) (by kernel_rfl) rfl (fun K hK => ?_)
  go_simp
  refine hK.out _ _ (fun _ => HS5.1) ?_
  clear hK K
  try simp only [Act.put, List.setIfInBounds_toArray, List.set_cons_zero, List.set_cons_succ]
  try simp only [Act.put, List.setIfInBounds_toArray, List.set_cons_zero, List.set_cons_succ]
  refine wpAnyM_one (i := 9) (by kernel_rfl) rfl (fun K hK => ?_)
  go_simp
  refine hK.out _ _ (fun _ => HS5.1) ?_
  clear hK K
  try simp only [Act.put, List.setIfInBounds_toArray, List.set_cons_zero, List.set_cons_succ]
  try simp only [Act.put, List.setIfInBounds_toArray, List.set_cons_zero, List.set_cons_succ]
  obtain ⟨⟨c52, _⟩, f52⟩ := HS5
  refine wpAnyM_one (i := 10) (by kernel_rfl) rfl (fun K hK => ?_)
  go_simp
  refine hK.out _ _ (fun h => absurd h (by decide)) ?_
  clear hK K
  refine wpAnyM_done (by kernel_rfl) ?_ _
  try simp only [Act.put, List.setIfInBounds_toArray, List.set_cons_zero, List.set_cons_succ]
  go_wp2_with fail
  go_end0
  have HF6 := HF5.out
  rw [List.length_append] at HF6
  exact ⟨rfl, HF6⟩
end

end Go.Proofs.YtoecopmbaoklkaaGreat
