/-
  The document's Right, Copy, Same.
-/
import Derived.Test.YtjocbkhjbbpkjabCk
import Derived.Laws.StructEq
import Derived.Deep.QuietTactic
namespace Go.Proofs.Ytjocbkhjbbpkjab
open Go.RowKit
set_option linter.unusedVariables false
set_option linter.unusedSimpArgs false
set_option maxRecDepth 100000

theorem run_append_empty {P : Program} (w : World) (base : Nat) (t ty e : TypeId) (i : TypeInfo) (size : Nat) (ht : P.underlying t = some (.slice e)) (hi : P.info? e = some i)
    (v : Value) (n : Nat) (xs : List Value) (hown : w.ownsRow base e size v n xs) (ad : Option Addr) (c : Nat) :
    (Builtin.append_ #[t, t] ty #[v, .slice ad 0 c]).run P w = .ok v w := by
  rcases hown.2 with ⟨rfl, rfl⟩ | ⟨g, cap, cur, rfl, _, _, hnc, _⟩
  · cases ad <;> simp [Builtin.append_, run_underlying ht, sizeOf, typeInfo, hi, Builtin.lenOf, Builtin.firstCells, loadCells, loadCellsFrom]
  · cases ad <;> simp [Builtin.append_, run_underlying ht, sizeOf, typeInfo, hi, Builtin.lenOf, Builtin.firstCells, hnc, storeCells, loadCells, loadCellsFrom]
/-- append of a list that lies somewhere, to a row of the call's own -/
theorem wp_more {o : Oper} {a : Act} {K : Act → World → Prop} {Q : Exit → Act → World → Prop} (W w0 : World) (s x : Operand)
    (ho : o.op = .call { callee := .builtin .append, args := #[s, x], argTypes := #[22, 22] }) (v : Value) (M : List Ent) (m : Nat) (hm : M.length = m) (hs : a.eval s = v) (hown : RowE W w0.heap.size v M) (hB : Below w0.heap.size w0 W)
    (y : Value) (N : List Ent) (k : Nat) (hk : N.length = k) (hx : a.eval x = y) (hN : LiesE W y N) (hlen : m + k ≤ 4398046511000)
    (h : ∀ va vc w', RowE w' w0.heap.size (.slice va (m + k) vc) (M ++ N) → Below w0.heap.size w0 w' → W.grownBy w' v.ownBlock → K (a.put o.dst (.slice va (m + k) vc)) w') : o.wp Try.prog a W K Q := by
  obtain ⟨i0, hi, hz0, hz1, hz2⟩ := info_parts infoE
  obtain ⟨ad, c, e1⟩ := hN.form
  subst e1
  by_cases h0 : N = []
  · subst h0
    subst hk
    subst hm
    have hr := run_append_empty (P := Try.prog) W w0.heap.size 22 o.type 26 i0 2 Try.underlying22 hi v _ _ hown ad c
    obtain ⟨va, vc, e1⟩ := own_form hown
    subst e1
    have := h va vc W (by simpa using hown) hB ⟨rfl, rfl, rfl, Nat.le_refl _, fun _ _ _ => rfl⟩
    unfold Oper.wp execOp
    simp only [ho, resolve, invoke, builtin, Sem.run_bind, Sem.run_pure, Result.andThen_ok, List.map_toArray, List.map_cons, List.map_nil, hs, hx, List.length_nil, hr]
    exact this
  · obtain ⟨y, hy⟩ : ∃ y, N[0]? = some y := by cases N with | nil => exact absurd rfl h0 | cons y r => exact ⟨y, rfl⟩
    obtain ⟨b, off, rfl, _⟩ := hN.at hy
    have hpos : 0 < N.length := (List.getElem?_eq_some_iff.1 hy).1
    exact wp_ents W w0 s x ho v M m hm hs hown hB ⟨b, off, none⟩ N k c hk (by omega) (by rw [hx, hk]) hN.flat hlen h
theorem wpList_more {ops : Array Oper} {rest : List Oper} {o : Oper} {a : Act} {Q : Exit → Act → World → Prop} (W w0 : World) (hgd : o.guard = none) (s x : Operand)
    (ho : o.op = .call { callee := .builtin .append, args := #[s, x], argTypes := #[22, 22] }) (v : Value) (M : List Ent) (m : Nat) (hm : M.length = m) (hs : a.eval s = v) (hown : RowE W w0.heap.size v M) (hB : Below w0.heap.size w0 W)
    (y : Value) (N : List Ent) (k : Nat) (hk : N.length = k) (hx : a.eval x = y) (hN : LiesE W y N) (hlen : m + k ≤ 4398046511000)
    (h : ∀ va vc w', RowE w' w0.heap.size (.slice va (m + k) vc) (M ++ N) → Below w0.heap.size w0 w' → W.grownBy w' v.ownBlock → wpList Try.prog ops Q rest (a.put o.dst (.slice va (m + k) vc)) w') : wpList Try.prog ops Q (o :: rest) a W :=
  wpList_plain hgd fun K hK => wp_more W w0 s x ho v M m hm hs hown hB y N k hk hx hN hlen fun va vc w' h1 h2 h3 => hK _ _ (h va vc w' h1 h2 h3)
theorem LiesE.one (w : World) (x : Ent) (h1 : Sml x.k) (h2 : Sml x.v) : LiesE (w.alloc (.cells #[.string x.k, .string x.v] 26)) (.slice (some ⟨w.heap.size, 0, none⟩) 1 1) [x] := by
  refine ⟨_, 1, rfl, Nat.le_refl _, by unfold maxLen; decide, fun k y hk => ?_⟩
  have hk0 : k = 0 := by
    have := (List.getElem?_eq_some_iff.1 hk).1
    simp at this
    exact this
  subst hk0
  simp at hk
  subst hk
  have hb := Blk.made w #[.string x.k, .string x.v] 26
  exact ⟨_, 0, rfl, hb.lt, hb.cell (i := 0) rfl, hb.cell (i := 1) rfl, h1, h2⟩

theorem copy_any (w : World) (v : Value) (L : List Ent) (hl : LiesE w v L) (hz : L.length ≤ 4398046510976) :
    Calls Try.prog 5 #[v] w fun e w' => ∃ a c, e = .returned (.slice a L.length c) ∧ RowE w' w.heap.size (.slice a L.length c) L ∧ Below w.heap.size w w' := by
  have HL := hid hl
  obtain ⟨a, c, e1⟩ := hl.form
  subst e1
  obtain ⟨n, hn⟩ : ∃ n, L.length = n := ⟨_, rfl⟩
  have HN := hid hn
  rw [hn] at HL hz ⊢
  clear hl hn
  go_enter Try.func5, Try.ntmps5
  go_wp2_with (at_builtin; refine wpList_more _ w rfl (.tmp 4) (.tmp 5) rfl (.slice none 0 0) [] 0 rfl rfl (RowE.nil _ _) (Below.refl _ _) (.slice a n c) L n HN.out rfl HL.out (by omega) ?_; intro va vc w5 hr5 hb5 _; rw [Nat.zero_add] at hr5 ⊢; rw [List.nil_append] at hr5; have HR5 := hid hr5; have HB5 := hid hb5; clear hr5 hb5)
  go_ret
  exact ⟨_, _, rfl, HR5.out, HB5.out⟩

theorem neqE (a b c d : ByteArray) (w : World) : (binOp .neq 26 (.agg #[.string a, .string b]) (.agg #[.string c, .string d])).run Try.prog w = .ok (.bool (!(decide (a = c ∧ b = d)))) w := by
  have u9 := Try.underlying9
  have a9 := Try.isAgg9
  have z9 := Try.sizeOf9
  have hS : Try.prog.underlying 26 = some (.struct (Try.prog.fieldsOf 26)) := by kernel_rfl
  have hp : Try.prog.stoodInHeld 26 = false := by kernel_rfl
  have e1 := eq_iff a c
  have e2 := eq_iff b d
  rw [run_neq_struct, show (10000 : Nat) = 9999 + 1 from rfl, run_equalIn_agg w 9999 26 _ _ hS hp]
  simp only [Program.fieldsOf, Try.underlying26]
  by_cases h1 : a = c
  · by_cases h2 : b = d
    · rw [decide_eq_true h1] at e1
      rw [decide_eq_true h2] at e2
      rw [decide_eq_true ⟨h1, h2⟩]
      clear h1 h2
      go_simp
    · rw [decide_eq_true h1] at e1
      rw [decide_eq_false h2] at e2
      rw [decide_eq_false (fun h => h2 h.2)]
      clear h1 h2
      go_simp
  · rw [decide_eq_false h1] at e1
    rw [decide_eq_false (fun h => h1 h.1)]
    clear h1
    go_simp
end Go.Proofs.Ytjocbkhjbbpkjab

