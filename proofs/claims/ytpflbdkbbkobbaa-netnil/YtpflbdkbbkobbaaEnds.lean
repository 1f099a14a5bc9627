/-
  A net's tree in memory: one place more at a branch; what lies in a net's memory beside it.
-/
import Derived.Test.YtpflbdkbbkobbaaTree
namespace Go.Proofs.Ytpflbdkbbkobbaa
open Go.RowKit Go.Maps
set_option linter.unusedVariables false
set_option maxRecDepth 100000
set_option linter.unusedSimpArgs false

def updE (E : List Cl → List Nat) (p : List Cl) (l : List Nat) (q : List Cl) : List Nat := if q = p then l else E q
theorem intsV_append (l m : List Nat) : intsV (l ++ m) = intsV l ++ intsV m := by simp [intsV]
theorem intsV_len (l : List Nat) : (intsV l).length = l.length := by simp [intsV]

/-- one place more at a branch -/
theorem Tre.ended {w w2 : World} {B nb mx : Nat} {sv v' : Value} {T : List Cl → Option Nd} {E : List Cl → List Nat} (h : Tre w B nb sv mx T E) {p : List Cl} {d : Nd} (hp : T p = some d) (l : List Nat)
    (ho : w2.ownsRow B 3 1 v' l.length (intsV l)) (hg : w.grownBy w2 d.e.ownBlock) (hf : v'.ownBlock = none ∨ v'.ownBlock = d.e.ownBlock ∨ ∃ g, v'.ownBlock = some g ∧ w.heap.size ≤ g) :
    Tre (w2.setCell ⟨d.a, ofs p + 1, none⟩ v') B nb sv mx (updT T p { d with e := v' }) (updE E p l) := by
  have hat := h.at' p d hp
  have hlt := hat.blk.lt
  have hA : Blk w2 d.a (csP sv p d) (tyP p) := (hg.block d.a hlt (fun e => (hat.ne_blk (q := p) hat.blk).2 d.a e.symm rfl)).trans hat.blk
  have hold : ∀ g, g < w.heap.size → g ≠ d.a → d.e.ownBlock ≠ some g → (w2.setCell ⟨d.a, ofs p + 1, none⟩ v').heap[g]? = w.heap[g]? := fun g hg' hne h2 =>
    (Below.heap_setCell _ _ _ _ hne).trans (hg.block g hg' (fun e => h2 e.symm))
  refine ⟨?_, ?_, ?_, ?_, ?_⟩
  · obtain ⟨r, h1, h2⟩ := h.root
    by_cases e : p = []
    · subst e
      rw [hp] at h1; cases h1
      exact ⟨_, updT_self _ _ _, h2⟩
    · exact ⟨r, by rw [updT_ne _ (Ne.symm e)]; exact h1, h2⟩
  · intro q x hq
    rw [kids_upd hp (d' := { d with e := v' }) rfl]
    by_cases e : q = p
    · subst e
      rw [updT_self] at hq; cases hq
      refine ⟨?_, hat.hi, hat.no, fun m hm2 => ?_, ?_⟩
      · have := hA.set (ofs q + 1) v'
        rw [csP_ends] at this
        exact this
      · obtain ⟨h1, n, h2, h3⟩ := hat.mp m hm2
        obtain ⟨es, c, h4⟩ := h3.at
        exact ⟨h1, n, h2, h3.same (hold m h3.lt (fun e => (hat.ne_map h4).1 e.symm) (fun e => (hat.ne_map h4).2 m e rfl))⟩
      · have : updE E q l q = l := by simp [updE]
        rw [this]
        refine row_same ho fun g hg' => Below.heap_setCell _ _ _ _ ?_
        intro (e : g = d.a)
        obtain ⟨_, cur, h4⟩ := row_at ho hg'
        unfold Blk at hA
        rw [e, hA] at h4
        simp only [Option.some.injEq, Obj.cells.injEq] at h4
        exact tyP_ne q h4.2.1
    · rw [updT_ne _ e] at hq
      have hx := h.at' q x hq
      have hap := h.apart q p x d hq hp e
      have : updE E p l q = E q := by simp [updE, e]
      rw [this]
      refine hx.same (hold _ hx.blk.lt hap.1 (fun e => (hat.ne_blk (q := q) hx.blk).2 _ e rfl)) (fun g hg' => ?_) (fun g hg' => hold g (lt_of_block (row_at hx.ends hg').2.choose_spec) ((hx.ne_blk (q := p) hat.blk).2 g hg') (fun e => hap.2.2 g hg' e))
      obtain ⟨h1, n, h2, h3⟩ := hx.mp g hg'
      obtain ⟨es, c, h4⟩ := h3.at
      exact hold g h3.lt (fun e => (hat.ne_map h4).1 e.symm) (fun e => (hat.ne_map h4).2 g e rfl)
  · intro q hq
    by_cases e : q = p
    · subst e; rw [updT_self] at hq; cases hq
    · have : updE E p l q = E q := by simp [updE, e]
      rw [this]
      exact h.gone q (by rwa [updT_ne _ e] at hq)
  · intro q x hq
    have hq' : T q = none := by
      by_cases e : q = p
      · subst e; rw [updT_self] at hq; cases hq
      · rwa [updT_ne _ e] at hq
    have h2 := h.pre q x hq'
    rw [updT_ne _ (fun e => by rw [e, hp] at h2; cases h2)]
    exact h2
  · have key : ∀ r y, T r = some y → r ≠ p → ∀ g, v'.ownBlock = some g → y.e.ownBlock ≠ some g := by
      intro r y hr hne g hv hy
      rcases hf with h1 | h1 | ⟨g', h1, h2⟩
      · rw [hv] at h1; cases h1
      · rw [hv] at h1; exact (h.apart r p y d hr hp hne).2.2 g hy h1.symm
      · rw [hv] at h1; cases h1
        exact absurd (lt_of_block (row_at (h.at' r y hr).ends hy).2.choose_spec) (by omega)
    intro q r x y hq hr hne
    by_cases e : q = p
    · subst e
      rw [updT_self] at hq; cases hq
      rw [updT_ne _ (Ne.symm hne)] at hr
      obtain ⟨a1, a2, a3⟩ := h.apart q r d y hp hr hne
      exact ⟨a1, a2, fun g hg' => key r y hr (Ne.symm hne) g hg'⟩
    · rw [updT_ne _ e] at hq
      by_cases e2 : r = p
      · subst e2
        rw [updT_self] at hr; cases hr
        obtain ⟨a1, a2, a3⟩ := h.apart q r x d hq hp hne
        exact ⟨a1, a2, fun g hg' hy => key q x hq e g hy hg'⟩
      · rw [updT_ne _ e2] at hr
        exact h.apart q r x y hq hr hne

/-- where a list stands that one more was put to -/
theorem app_block {w : World} {B : Nat} {v v' : Value} {w' : World} {n : Nat} {xs : List Value} {i0 : TypeInfo} {ty : TypeId} (hi : Try.prog.info? 3 = some i0) (hz0 : i0.zero = some (.int .i64 0)) (hz1 : i0.size = 1) (hz2 : i0.bytes = 8) (ho : w.ownsRow B 3 1 v n xs) (hn : n ≤ 1000000)
    {ad : Addr} {u : Value} (hc : ∀ j x, [u][j]? = some x → w.cell? (ad.add j) = some x) (h1 : ∀ x ∈ [u], x.oneCell' = true) (hr : (Builtin.append_ #[43, 43] ty #[v, .slice (some ad) 1 1]).run Try.prog w = .ok v' w') :
    v'.ownBlock = v.ownBlock ∨ ∃ g, v'.ownBlock = some g ∧ w.heap.size ≤ g := by
  rcases ho.2 with ⟨rfl, rfl⟩ | ⟨g, cap, cur, rfl, hbg, hg, hnc, hcm, hcs, htake⟩
  · have := run_append_nil (P := Try.prog) w 43 ty 3 i0 (.int .i64 0) Try.underlying43 hi hz0 ad 1 1 [u] (by rw [hz1]; rfl) hc (by omega) (by omega) (by rw [hz2]; decide)
    rw [hr] at this
    cases this
    exact .inr ⟨_, rfl, Nat.le_refl _⟩
  · by_cases hroom : n + 1 ≤ cap
    · have := run_append_room (P := Try.prog) w 43 ty 3 i0 Try.underlying43 hi g n cap cur hg ad 1 1 [u] (by rw [hz1]; rfl) hc h1 hroom (by rw [hz1, hcs]; simp; omega)
      rw [hr] at this
      cases this
      exact .inl rfl
    · have holds : ∀ j u, xs[j]? = some u → w.cell? ((⟨g, 0, none⟩ : Addr).add j) = some u := ho.cells (g := g) rfl
      have := run_append_grow (P := Try.prog) w 43 ty 3 i0 (.int .i64 0) Try.underlying43 hi hz0 ⟨g, 0, none⟩ n cap xs (by rw [hz1]; exact ho.1) holds ad 1 1 [u] (by rw [hz1]; rfl) hc (by omega) (by omega) (growslice_fits (by omega) (by rw [hz2]; omega))
      rw [hr] at this
      cases this
      exact .inr ⟨_, rfl, Nat.le_refl _⟩

theorem info3 : (Try.prog.info? 3).map (fun i => (i.zero, i.size, i.bytes)) = some (some (.int .i64 0), 1, 8) := by kernel_rfl
/-- b.ends = append(b.ends, i): the list -/
theorem wpList_more (w : World) {ops : Array Oper} {rest : List Oper} {o : Oper} {a : Act} {Q : Exit → Act → World → Prop} (hgd : o.guard = none) (s x : Operand)
    (ho : o.op = .call { callee := .builtin .append, args := #[s, x], argTypes := #[43, 43] }) (B : Nat) (v : Value) (l : List Nat) (i : Nat) (hs : a.eval s = v) (hown : w.ownsRow B 3 1 v l.length (intsV l)) (hn : l.length ≤ 1000) (hB : B ≤ w.heap.size)
    (ad : Addr) (hx : a.eval x = .slice (some ad) 1 1) (hc : w.cell? ad = some (.int .i64 (i : Nat))) (had : ad = ⟨ad.block, ad.off, none⟩)
    (h : ∀ v' w', w'.ownsRow B 3 1 v' (l ++ [i]).length (intsV (l ++ [i])) → w.grownBy w' v.ownBlock → (v'.ownBlock = v.ownBlock ∨ ∃ g, v'.ownBlock = some g ∧ w.heap.size ≤ g) → wpList Try.prog ops Q rest (a.put o.dst v') w') : wpList Try.prog ops Q (o :: rest) a w := by
  obtain ⟨i0, hi, hz0, hz1, hz2⟩ := info_parts info3
  have hnews : ∀ j x, [Value.int .i64 (i : Nat)][j]? = some x → w.cell? (ad.add j) = some x := by
    intro j x hj
    match j, hj with
    | 0, hj =>
      simp at hj; subst hj
      rw [had, add_plain]
      rw [had] at hc
      exact hc
  have h1 : ∀ x ∈ [Value.int .i64 (i : Nat)], x.oneCell' = true := by simp [Value.oneCell']
  refine wpList_plain hgd fun K hK => ?_
  obtain ⟨v', w', hr, h2, h3, h4⟩ := run_append_own (P := Try.prog) w B 43 o.type 3 i0 (.int .i64 0) 1 8 Try.underlying43 hi hz0 hz1 hz2 rfl (by decide) v l.length (intsV l) hown ad 1 1 [.int .i64 (i : Nat)] rfl hnews h1 (by unfold maxLen; omega) (by omega) hB
  have hb := app_block hi hz0 hz1 hz2 hown (by omega) hnews h1 hr
  unfold Oper.wp execOp
  simp only [ho, resolve, invoke, builtin, Sem.run_bind, Sem.run_pure, Result.andThen_ok, List.map_toArray, List.map_cons, List.map_nil, hs, hx, hr]
  refine hK _ _ (h v' w' ?_ h3 hb)
  rw [intsV_append, List.length_append]
  exact h2

/-- what a net's growing leaves alone: blocks below B, and those of terms and of sides -/
structure Kq (B : Nat) (w w' : World) : Prop where
  below : Below B w w'
  keeps : ∀ (g : Nat) (cur : Array Value) (t : TypeId), t = 51 ∨ t = 64 → w.heap[g]? = some (.cells cur t (0, 0)) → w'.heap[g]? = some (.cells cur t (0, 0))
theorem Kq.refl (B : Nat) (w : World) : Kq B w w := ⟨Below.refl _ _, fun _ _ _ _ h => h⟩
theorem Kq.trans {B : Nat} {a b c : World} (h : Kq B a b) (k : Kq B b c) : Kq B a c := ⟨h.below.trans k.below, fun g cur t ht hg => k.keeps g cur t ht (h.keeps g cur t ht hg)⟩
theorem Kq.of_below {B : Nat} {w w' : World} (hb : Below w.heap.size w w') (hB : B ≤ w.heap.size) : Kq B w w' := ⟨hb.mono hB, fun g cur t _ hg => (hb.block g (lt_of_block hg)).trans hg⟩
theorem Kq.grown {B x : Nat} {w w' : World} (hg : w.grownBy w' (some x)) (hB : B ≤ w.heap.size) (hx : B ≤ x) (hk : ∀ cur t, t = 51 ∨ t = 64 → w.heap[x]? ≠ some (.cells cur t (0, 0))) : Kq B w w' :=
  ⟨(Below.refl _ w).grown hg hB (fun k hk => by cases hk; exact hx), fun g cur t ht h => (hg.block g (lt_of_block h) (fun e => by cases e; exact hk cur t ht h)).trans h⟩
theorem Kq.row {w w' : World} {B B' : Nat} {e : TypeId} {size : Nat} {v : Value} {n : Nat} {xs : List Value} (h : w.ownsRow B' e size v n xs) (hk : Kq B w w') (he : e = 51 ∨ e = 64) : w'.ownsRow B' e size v n xs :=
  row_same h fun g hg => by obtain ⟨_, cur, h2⟩ := row_at h hg; rw [h2]; exact hk.keeps g cur e he h2

end Go.Proofs.Ytpflbdkbbkobbaa
