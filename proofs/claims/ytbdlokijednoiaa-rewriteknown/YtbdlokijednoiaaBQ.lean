/-
  One round of the document's Inner, as plain facts.
-/
import Derived.Test.YtbdlokijednoiaaBA
import Derived.Test.YtbdlokijednoiaaM9
import Derived.Test.YtbdlokijednoiaaRMatch
import Derived.Test.YtbdlokijednoiaaBD
namespace Go.Proofs.Ytbdlokijednoiaa
open Go.RowKit
set_option linter.unusedVariables false
set_option linter.unusedSimpArgs false
set_option maxRecDepth 100000

/-- ops that leave these values, and so much fuel -/
def EvS (rs : List Rl) (A : List Opr) (f : Int) (Vs : List (List Cl)) (f' : Int) : Prop :=
  ∀ stk vals n S, ∃ k n' S', ns rs noTb k ⟨A ++ stk, vals, n, S, f⟩ = some ⟨stk, vals ++ Vs, n', S', f'⟩
/-- ops of which one can't be done -/
def EvE (rs : List Rl) (A : List Opr) (f : Int) (e : Nat) : Prop :=
  ∀ stk vals n S, ∃ k c, ns rs noTb k ⟨A ++ stk, vals, n, S, f⟩ = some c ∧ halt rs noTb c = some e ∧ c.fuel ≤ f ∧ e ≠ 0
theorem EvS.nil (rs : List Rl) (f : Int) : EvS rs [] f [] f := fun stk vals n S => ⟨0, n, S, by simp [ns]⟩
theorem EvS.app {rs : List Rl} {A B : List Opr} {f f' f'' : Int} {V W : List (List Cl)} (h : EvS rs A f V f') (k : EvS rs B f' W f'') : EvS rs (A ++ B) f (V ++ W) f'' := by
  intro stk vals n S
  obtain ⟨a, n1, S1, h1⟩ := h (B ++ stk) vals n S
  obtain ⟨b, n2, S2, h2⟩ := k stk (vals ++ V) n1 S1
  refine ⟨a + b, n2, S2, ?_⟩
  rw [List.append_assoc, ← List.append_assoc vals]
  exact ns_trans h1 h2
theorem EvS.err {rs : List Rl} {A B : List Opr} {f f' : Int} {V : List (List Cl)} {e : Nat} (h : EvS rs A f V f') (k : EvE rs B f' e) : EvE rs (A ++ B) f e := by
  intro stk vals n S
  obtain ⟨a, n1, S1, h1⟩ := h (B ++ stk) vals n S
  obtain ⟨b, c, h2, h3, h4, h5⟩ := k stk (vals ++ V) n1 S1
  refine ⟨a + b, c, ?_, h3, ?_, h5⟩
  · rw [List.append_assoc]; exact ns_trans h1 h2
  · have := (ns_fuel _ h1).1; simp only at this; omega
theorem EvE.app {rs : List Rl} {A : List Opr} {f : Int} {e : Nat} (h : EvE rs A f e) (B : List Opr) : EvE rs (A ++ B) f e := by
  intro stk vals n S
  obtain ⟨a, c, h1⟩ := h (B ++ stk) vals n S
  exact ⟨a, c, by rw [List.append_assoc]; exact h1⟩
theorem EvS.fuel {rs : List Rl} {A : List Opr} {f f' : Int} {V : List (List Cl)} (h : EvS rs A f V f') : f' ≤ f ∧ (f' = f ∨ 0 ≤ f') := by
  obtain ⟨a, n1, S1, h1⟩ := h [] [] 0 []
  have := ns_fuel _ h1
  exact this
theorem node_app {c : Cl} {V Vs : List (List Cl)} (h : Vs.length = c.ar.toNat) : node c (V ++ Vs) = c :: Vs.flatten ∧ left c (V ++ Vs) = V := by
  unfold node left
  have e : (V ++ Vs).length - c.ar.toNat = V.length := by rw [List.length_append]; omega
  rw [e, List.drop_left, List.take_left]
  exact ⟨rfl, rfl⟩
section
variable {rs : List Rl} {A : List Opr} {f f' : Int} {Vs : List (List Cl)} {c : Cl}
theorem one_make (h : Vs.length = c.ar.toNat) (stk : List Opr) (V : List (List Cl)) (n : Int) (S : List ByteArray) (g : Int) : one rs noTb ⟨1, c, []⟩ ⟨stk, V ++ Vs, n, S, g⟩ =
    if 64 < (c :: Vs.flatten).length then .stop 6 else match firstR rs (c :: Vs.flatten) with
      | none => .go ⟨stk, V ++ [c :: Vs.flatten], n, jn1 S c.nm, g⟩
      | some p => if g ≤ 0 then .stop 14 else .go ⟨todo p.2 p.1 ++ stk, V, inc n, jn1 S c.nm, g - 1⟩ := by
  obtain ⟨e1, e2⟩ := node_app (V := V) h
  unfold one
  simp only [e1, e2, noTb]
  rw [if_neg (by decide)]
  rfl
theorem EvS.big (h : EvS rs A f Vs f') (hl : Vs.length = c.ar.toNat) (hb : 64 < (c :: Vs.flatten).length) : EvE rs (A ++ [⟨1, c, []⟩]) f 6 := by
  intro stk vals n S
  obtain ⟨a, n1, S1, h1⟩ := h (⟨1, c, []⟩ :: stk) vals n S
  have hf := h.fuel.1
  refine ⟨a, _, by rw [List.append_assoc]; exact h1, ?_, hf, by decide⟩
  unfold halt
  simp only
  rw [one_make hl, if_pos hb]
theorem EvS.norm (h : EvS rs A f Vs f') (hl : Vs.length = c.ar.toNat) (hb : (c :: Vs.flatten).length ≤ 64) (hn : firstR rs (c :: Vs.flatten) = none) : EvS rs (A ++ [⟨1, c, []⟩]) f [c :: Vs.flatten] f' := by
  intro stk vals n S
  obtain ⟨a, n1, S1, h1⟩ := h (⟨1, c, []⟩ :: stk) vals n S
  refine ⟨a + 1, n1, jn1 S1 c.nm, ?_⟩
  rw [List.append_assoc]
  refine ns_trans h1 (ns_one (nx_cons ?_))
  rw [one_make hl, if_neg (by omega), hn]
theorem EvS.dry (h : EvS rs A f Vs f') (hl : Vs.length = c.ar.toNat) (hb : (c :: Vs.flatten).length ≤ 64) {p : List Cl × List Bd} (hn : firstR rs (c :: Vs.flatten) = some p) (hf0 : f' ≤ 0) : EvE rs (A ++ [⟨1, c, []⟩]) f 14 := by
  intro stk vals n S
  obtain ⟨a, n1, S1, h1⟩ := h (⟨1, c, []⟩ :: stk) vals n S
  have hf := h.fuel.1
  refine ⟨a, _, by rw [List.append_assoc]; exact h1, ?_, hf, by decide⟩
  unfold halt
  simp only
  rw [one_make hl, if_neg (by omega), hn]
  simp only
  rw [if_pos hf0]
theorem EvS.fire (h : EvS rs A f Vs f') (hl : Vs.length = c.ar.toNat) (hb : (c :: Vs.flatten).length ≤ 64) {p : List Cl × List Bd} (hn : firstR rs (c :: Vs.flatten) = some p) (hf0 : 0 < f') {X : List (List Cl)} {g : Int} (k : EvS rs (todo p.2 p.1) (f' - 1) X g) : EvS rs (A ++ [⟨1, c, []⟩]) f X g := by
  intro stk vals n S
  obtain ⟨a, n1, S1, h1⟩ := h (⟨1, c, []⟩ :: stk) vals n S
  obtain ⟨b, n2, S2, h2⟩ := k stk vals (inc n1) (jn1 S1 c.nm)
  refine ⟨a + (1 + b), n2, S2, ?_⟩
  rw [List.append_assoc]
  refine ns_trans h1 (ns_trans (ns_one (nx_cons ?_)) h2)
  rw [one_make hl, if_neg (by omega), hn]
  simp only
  rw [if_neg (by omega)]
theorem EvS.fireE (h : EvS rs A f Vs f') (hl : Vs.length = c.ar.toNat) (hb : (c :: Vs.flatten).length ≤ 64) {p : List Cl × List Bd} (hn : firstR rs (c :: Vs.flatten) = some p) (hf0 : 0 < f') {e : Nat} (k : EvE rs (todo p.2 p.1) (f' - 1) e) : EvE rs (A ++ [⟨1, c, []⟩]) f e := by
  intro stk vals n S
  obtain ⟨a, n1, S1, h1⟩ := h (⟨1, c, []⟩ :: stk) vals n S
  obtain ⟨b, d, h2, h3, h4, h5⟩ := k stk vals (inc n1) (jn1 S1 c.nm)
  have hf := h.fuel.1
  refine ⟨a + (1 + b), d, ?_, h3, by omega, h5⟩
  rw [List.append_assoc]
  refine ns_trans h1 (ns_trans (ns_one (nx_cons ?_)) h2)
  rw [one_make hl, if_neg (by omega), hn]
  simp only
  rw [if_neg (by omega)]
end
theorem EvS.have_ (rs : List Rl) (v : List Cl) (f : Int) : EvS rs [⟨2, noCl, v⟩] f [v] f := fun stk vals n S => ⟨1, n, S, ns_one (nx_cons (by unfold one; rw [if_pos rfl]; rfl))⟩

/-- no rule fits in any part -/
def nfF (rs : List Rl) : Fo → Prop
  | .nil => True
  | .cons nm k r => firstR rs (Fo.cons nm k .nil).flat = none ∧ nfF rs k ∧ nfF rs r
/-- a normal form: right, ground, and no rule fits in any part of it -/
def NFt (rs : List Rl) (T : List Cl) : Prop := grd T = true ∧ ∃ nm k, T = (Fo.cons nm k .nil).flat ∧ nfF rs (.cons nm k .nil)
theorem flat_one (nm : ByteArray) (k : Fo) : (Fo.cons nm k .nil).flat = ⟨nm, (k.len : Nat)⟩ :: k.flat := by simp [Fo.flat]
theorem flat_inj : ∀ f g : Fo, f.flat = g.flat → f = g
  | .nil, .nil, _ => rfl
  | .nil, .cons _ _ _, h => by simp [Fo.flat] at h
  | .cons _ _ _, .nil, h => by simp [Fo.flat] at h
  | .cons nm k r, .cons nm' k' r', h => by
    simp only [Fo.flat, List.cons.injEq, Cl.mk.injEq] at h
    obtain ⟨⟨h1, h2⟩, h3⟩ := h
    have hl : k.len = k'.len := by omega
    have a := fo_flat k r.flat
    have b := fo_flat k' r'.flat
    rw [h3, hl, b] at a
    have hr : r.flat = r'.flat := (Option.some.inj a).symm
    rw [hr] at h3
    rw [h1, flat_inj k k' (List.append_cancel_right h3), flat_inj r r' hr]
theorem one_inj {nm nm' : ByteArray} {k k' : Fo} (h : (Fo.cons nm k .nil).flat = (Fo.cons nm' k' .nil).flat) : nm = nm' ∧ k = k' := by
  have := flat_inj _ _ h
  cases this
  exact ⟨rfl, rfl⟩
theorem nf_ev (rs : List Rl) (g : Int) : ∀ f : Fo, nfF rs f → f.size ≤ 64 → EvS rs (f.todos []).flatten g f.trees g
  | .nil, _, _ => EvS.nil rs g
  | .cons nm k r, h, hs => by
    simp only [Fo.size] at hs
    have h1 := nf_ev rs g k h.2.1 (by omega)
    have h2 := nf_ev rs g r h.2.2 (by omega)
    have hl : k.trees.length = (⟨nm, (k.len : Nat)⟩ : Cl).ar.toNat := by rw [Fo.trees_length]; simp
    have h0 := h.1
    rw [flat_one, ← Fo.trees_flatten k] at h0
    have h3 := h1.norm hl (by rw [Fo.trees_flatten, List.length_cons, Fo.flat_length]; omega) h0
    simp only [Fo.todos, Fo.trees, List.flatten_cons]
    rw [opC_none (b := []) rfl]
    rw [Fo.trees_flatten] at h3
    exact h3.app h2
theorem NFt.size {rs : List Rl} {T : List Cl} (h : NFt rs T) : T.length ≤ 64 := (check_zero (grd_iff.1 h.1).1).1
theorem NFt.ev {rs : List Rl} {T : List Cl} (h : NFt rs T) (g : Int) : EvS rs (todo [] T) g [T] g := by
  have hs := h.size
  obtain ⟨_, nm, k, rfl, hn⟩ := h
  rw [Fo.flat_length] at hs
  have := nf_ev rs g _ hn hs
  rw [todo_flat]
  simp only [Fo.trees] at this
  rw [flat_one]
  exact this
theorem stk_nil_nx {rs : List Rl} {tb : Tb} {V : List (List Cl)} {n : Int} {S : List ByteArray} {f : Int} : nx rs tb ⟨[], V, n, S, f⟩ = none := rfl
theorem EvS.det {rs : List Rl} {A : List Opr} {f f1 f2 : Int} {V W : List (List Cl)} (h : EvS rs A f V f1) (k : EvS rs A f W f2) : V = W ∧ f1 = f2 := by
  obtain ⟨a, n1, S1, h1⟩ := h [] [] 0 []
  obtain ⟨b, n2, S2, h2⟩ := k [] [] 0 []
  have := ns_det h1 stk_nil_nx h2 stk_nil_nx
  simp only [Cf.mk.injEq, List.nil_append] at this
  exact ⟨this.2.1, this.2.2.2.2⟩
theorem EvS.not {rs : List Rl} {A : List Opr} {f f1 : Int} {V : List (List Cl)} {e : Nat} (h : EvS rs A f V f1) (k : EvE rs A f e) : False := by
  obtain ⟨a, n1, S1, h1⟩ := h [] [] 0 []
  obtain ⟨b, c, h2, h3, _, h5⟩ := k [] [] 0 []
  have := ns_det h1 stk_nil_nx h2 (halt_nx h3)
  subst this
  simp only [halt, Option.some.injEq] at h3
  exact h5 h3.symm

/-- ops that stand for a forest: a name for itself, or a variable for a normal form -/
def RepF (rs : List Rl) (b : List Bd) : Fo → Fo → Prop
  | .nil, .nil => True
  | .cons nm k r, .cons nm' k' r' => ((k = .nil ∧ look b nm = some (Fo.cons nm' k' .nil).flat ∧ NFt rs (Fo.cons nm' k' .nil).flat) ∨ (look b nm = none ∧ nm = nm' ∧ k.len = k'.len ∧ RepF rs b k k')) ∧ RepF rs b r r'
  | _, _ => False
theorem rep_self (rs : List Rl) : ∀ f : Fo, RepF rs [] f f
  | .nil => trivial
  | .cons nm k r => ⟨.inr ⟨rfl, rfl, rfl, rep_self rs k⟩, rep_self rs r⟩
theorem rep_len {rs : List Rl} {b : List Bd} : ∀ g h : Fo, RepF rs b g h → g.len = h.len
  | .nil, .nil, _ => rfl
  | .nil, .cons _ _ _, h => h.elim
  | .cons _ _ _, .nil, h => h.elim
  | .cons _ _ r, .cons _ _ r', h => by simp only [Fo.len, rep_len r r' h.2]
theorem rep_at {rs : List Rl} {b : List Bd} : ∀ (g h : Fo) (j : Nat) (l : List Cl), RepF rs b g h → h.trees[j]? = some l → ∃ nm k gj, l = (Fo.cons nm k .nil).flat ∧ RepF rs b gj (.cons nm k .nil) ∧ (g.todos b)[j]? = some (gj.todos b).flatten
  | .nil, .nil, j, l, _, hl => by simp [Fo.trees] at hl
  | .nil, .cons _ _ _, j, l, h, _ => h.elim
  | .cons _ _ _, .nil, j, l, h, _ => h.elim
  | .cons nm k r, .cons nm' k' r', 0, l, h, hl => by
    simp only [Fo.trees, List.getElem?_cons_zero, Option.some.injEq] at hl
    exact ⟨nm', k', .cons nm k .nil, by rw [flat_one]; exact hl.symm, ⟨h.1, trivial⟩, by simp [Fo.todos]⟩
  | .cons nm k r, .cons nm' k' r', j + 1, l, h, hl => by
    simp only [Fo.trees, List.getElem?_cons_succ] at hl
    obtain ⟨n1, k1, gj, q1, q2, q3⟩ := rep_at r r' j l h.2 hl
    exact ⟨n1, k1, gj, q1, q2, by simp only [Fo.todos, List.getElem?_cons_succ]; exact q3⟩

def InnOk (rs : List Rl) (h : Fo) (f : Int) (V : List (List Cl)) (f' : Int) : Prop := ∀ b g, RepF rs b g h → EvS rs (g.todos b).flatten f V f'
def InnErr (rs : List Rl) (h : Fo) (f : Int) (e : Nat) : Prop := ∀ b g, RepF rs b g h → EvE rs (g.todos b).flatten f e
/-- the same for a term whose ops begin with no value -/
def RootOk (rs : List Rl) (nm : ByteArray) (kd : Fo) (f : Int) (V : List Cl) (f' : Int) : Prop := ∀ b k, look b nm = none → k.len = kd.len → RepF rs b k kd → EvS rs ((k.todos b).flatten ++ [⟨1, ⟨nm, (kd.len : Nat)⟩, []⟩]) f [V] f'
def RootErr (rs : List Rl) (nm : ByteArray) (kd : Fo) (f : Int) (e : Nat) : Prop := ∀ b k, look b nm = none → k.len = kd.len → RepF rs b k kd → EvE rs ((k.todos b).flatten ++ [⟨1, ⟨nm, (kd.len : Nat)⟩, []⟩]) f e
theorem todos_root {b : List Bd} {nm : ByteArray} {k : Fo} (h : look b nm = none) : ((Fo.cons nm k .nil).todos b).flatten = (k.todos b).flatten ++ [⟨1, ⟨nm, (k.len : Nat)⟩, []⟩] := by
  simp only [Fo.todos, List.flatten_cons, List.flatten_nil, List.append_nil]
  rw [opC_none h]
theorem todos_var {b : List Bd} {nm : ByteArray} {v : List Cl} (h : look b nm = some v) : ((Fo.cons nm .nil .nil).todos b).flatten = [⟨2, noCl, v⟩] := by
  simp only [Fo.todos, List.flatten_cons, List.flatten_nil, List.append_nil, List.nil_append]
  rw [opC_some h]
theorem RootOk.ok {rs : List Rl} {nm : ByteArray} {kd : Fo} {f f' : Int} {V : List Cl} (h : RootOk rs nm kd f V f') : InnOk rs (.cons nm kd .nil) f [V] f' := by
  intro b g hg
  cases g with
  | nil => exact hg.elim
  | cons x k r =>
    obtain ⟨h1, h2⟩ := hg
    cases r with
    | cons _ _ _ => exact h2.elim
    | nil =>
      rcases h1 with ⟨rfl, h3, h4⟩ | ⟨h3, h5, h6, h4⟩
      · rw [todos_var h3]
        have a := h [] kd rfl rfl (rep_self rs kd)
        have c := h4.ev f
        rw [todo_flat, todos_root rfl] at c
        obtain ⟨e1, e2⟩ := a.det c
        rw [e1, e2]
        exact EvS.have_ rs _ f
      · subst h5
        rw [todos_root h3, h6]
        exact h b k h3 h6 h4
theorem RootErr.err {rs : List Rl} {nm : ByteArray} {kd : Fo} {f : Int} {e : Nat} (h : RootErr rs nm kd f e) : InnErr rs (.cons nm kd .nil) f e := by
  intro b g hg
  cases g with
  | nil => exact hg.elim
  | cons x k r =>
    obtain ⟨h1, h2⟩ := hg
    cases r with
    | cons _ _ _ => exact h2.elim
    | nil =>
      rcases h1 with ⟨rfl, h3, h4⟩ | ⟨h3, h5, h6, h4⟩
      · exfalso
        have a := h [] kd rfl rfl (rep_self rs kd)
        have c := h4.ev f
        rw [todo_flat, todos_root rfl] at c
        exact c.not a
      · subst h5
        rw [todos_root h3, h6]
        exact h b k h3 h6 h4

/-- kids that came to values -/
def KidsOk (rs : List Rl) (kd : Fo) (j : Nat) (f : Int) (Vs : List (List Cl)) (f' : Int) : Prop := ∀ b k, RepF rs b k kd → EvS rs ((k.todos b).take j).flatten f Vs f'
theorem KidsOk.zero (rs : List Rl) (kd : Fo) (f : Int) : KidsOk rs kd 0 f [] f := fun b k _ => by rw [List.take_zero]; exact EvS.nil rs f
theorem KidsOk.more {rs : List Rl} {kd : Fo} {j : Nat} {f f1 f2 : Int} {Vs : List (List Cl)} {nm : ByteArray} {k : Fo} {V : List Cl} (h : KidsOk rs kd j f Vs f1) (hl : kd.trees[j]? = some (Fo.cons nm k .nil).flat) (hi : InnOk rs (.cons nm k .nil) f1 [V] f2) : KidsOk rs kd (j + 1) f (Vs ++ [V]) f2 := by
  intro b g hg
  obtain ⟨n1, k1, gj, q1, q2, q3⟩ := rep_at g kd j _ hg hl
  obtain ⟨rfl, rfl⟩ := one_inj q1
  rw [List.take_add_one, q3]
  simp only [Option.toList, List.flatten_append, List.flatten_cons, List.flatten_nil, List.append_nil]
  exact (h b g hg).app (hi b gj q2)
theorem KidsOk.err {rs : List Rl} {kd : Fo} {j : Nat} {f f1 : Int} {Vs : List (List Cl)} {nm nm0 : ByteArray} {k : Fo} {e : Nat} (h : KidsOk rs kd j f Vs f1) (hl : kd.trees[j]? = some (Fo.cons nm k .nil).flat) (hi : InnErr rs (.cons nm k .nil) f1 e) : RootErr rs nm0 kd f e := by
  intro b g h0 h1 hg
  obtain ⟨n1, k1, gj, q1, q2, q3⟩ := rep_at g kd j _ hg hl
  obtain ⟨rfl, rfl⟩ := one_inj q1
  have e2 : (g.todos b).flatten = ((g.todos b).take j).flatten ++ ((gj.todos b).flatten ++ ((g.todos b).drop (j + 1)).flatten) := by
    rw [← List.flatten_cons, ← List.flatten_append]
    have hj := (List.getElem?_eq_some_iff.1 q3)
    have : (g.todos b).drop j = (gj.todos b).flatten :: (g.todos b).drop (j + 1) := by rw [List.drop_eq_getElem_cons hj.1, hj.2]
    rw [← this, List.take_append_drop]
  rw [e2]
  exact EvE.app ((h b g hg).err (EvE.app (hi b gj q2) _)) _
theorem KidsOk.all {rs : List Rl} {kd : Fo} {f f1 : Int} {Vs : List (List Cl)} (h : KidsOk rs kd kd.len f Vs f1) : ∀ b k, RepF rs b k kd → EvS rs (k.todos b).flatten f Vs f1 := by
  intro b k hk
  have := h b k hk
  rw [List.take_of_length_le (by rw [todos_len, rep_len _ _ hk]; exact Nat.le_refl _)] at this
  exact this

/-- every cell is right, and a symbol's -/
def GrdF (t : Fo) : Prop := ∀ c ∈ t.flat, cellErr c = 0 ∧ isV c = false
theorem GrdF.parts {nm : ByteArray} {k r : Fo} (h : GrdF (.cons nm k r)) : GrdF (.cons nm k .nil) ∧ GrdF k ∧ GrdF r := by
  refine ⟨fun c hc => h c ?_, fun c hc => h c ?_, fun c hc => h c ?_⟩
  · rw [flat_one] at hc
    simp only [Fo.flat, List.mem_cons, List.mem_append] at hc ⊢
    rcases hc with hc | hc
    · exact .inl hc
    · exact .inr (.inl hc)
  · simp only [Fo.flat, List.mem_cons, List.mem_append]; exact .inr (.inl hc)
  · simp only [Fo.flat, List.mem_cons, List.mem_append]; exact .inr (.inr hc)
theorem grd_of {nm : ByteArray} {k : Fo} (hg : GrdF (.cons nm k .nil)) (hs : k.size + 1 ≤ 64) : grd (Fo.cons nm k .nil).flat = true := by
  refine grd_iff.2 ⟨check_of rfl (by simp only [Fo.size]; omega) (cellsErr_zero.2 fun c hc => (hg c hc).1), fun c hc => (hg c hc).2⟩
theorem GrdF.of {nm : ByteArray} {k : Fo} (h : grd (Fo.cons nm k .nil).flat = true) : GrdF (.cons nm k .nil) := by
  obtain ⟨h1, h2⟩ := grd_iff.1 h
  exact fun c hc => ⟨cellsErr_zero.1 (check_zero h1).2.1 c hc, h2 c hc⟩
theorem nft_of {rs : List Rl} {nm : ByteArray} {k r : Fo} (h : nfF rs (.cons nm k r)) (hg : GrdF (.cons nm k r)) (hs : k.size + 1 ≤ 64) : NFt rs (Fo.cons nm k .nil).flat :=
  ⟨grd_of hg.parts.1 hs, nm, k, rfl, h.1, h.2.1, trivial⟩
theorem fitF_nft (rs : List Rl) : ∀ (p t : Fo) (acc acc' : List Bd), fitF p t acc = some acc' → nfF rs t → GrdF t → t.size ≤ 64 → (∀ x ∈ acc, NFt rs x.val) → ∀ x ∈ acc', NFt rs x.val
  | .nil, .nil, acc, acc', h, _, _, _, ha => by
    simp only [fitF, Option.some.injEq] at h
    subst h
    exact ha
  | .nil, .cons _ _ _, acc, acc', h, _, _, _, ha => by simp [fitF] at h
  | .cons _ _ _, .nil, acc, acc', h, _, _, _, ha => by simp [fitF] at h
  | .cons nm k r, .cons nm' k' r', acc, acc', h, hn, hg, hs, ha => by
    simp only [Fo.size] at hs
    unfold fitF at h
    by_cases hv : kind nm.data.toList = 2
    · rw [if_pos hv] at h
      cases hl : look acc nm with
      | none =>
        rw [hl] at h
        refine fitF_nft rs r r' _ acc' h hn.2.2 hg.parts.2.2 (by omega) (fun x hx => ?_)
        rcases List.mem_append.1 hx with hx | hx
        · exact ha x hx
        · simp only [List.mem_singleton] at hx
          subst hx
          exact nft_of hn hg (by omega)
      | some v =>
        rw [hl] at h
        simp only at h
        split at h
        · exact fitF_nft rs r r' acc acc' h hn.2.2 hg.parts.2.2 (by omega) ha
        · cases h
    · rw [if_neg hv] at h
      split at h
      · cases h1 : fitF k k' acc with
        | none => rw [h1] at h; cases h
        | some m =>
          rw [h1] at h
          exact fitF_nft rs r r' m acc' h hn.2.2 hg.parts.2.2 (by omega) (fitF_nft rs k k' acc m h1 hn.2.1 hg.parts.2.1 (by omega) ha)
      · cases h
/-- what a left side's variables stand for in a term whose arguments are normal forms -/
theorem mt_nft {rs : List Rl} {L : List Cl} {nm : ByteArray} {k : Fo} {bs : List Bd} (hL : kind (hd L).data.toList ≠ 2) (h : mt L (Fo.cons nm k .nil).flat = some bs) (hn : nfF rs k) (hg : GrdF k) : ∀ x ∈ bs, NFt rs x.val := by
  obtain ⟨h1, h2, h3⟩ := mt_some h
  have hs := (check_zero h2).1
  rw [Fo.flat_length] at hs
  simp only [Fo.size] at hs
  obtain ⟨n0, k0, e⟩ := check_term h1
  subst e
  rw [fit_same h1] at h3
  have hk : ¬ kind n0.data.toList = 2 := by simpa [hd, Fo.flat] using hL
  unfold fitF at h3
  rw [if_neg hk] at h3
  split at h3
  · cases h4 : fitF k0 k [] with
    | none => rw [h4] at h3; cases h3
    | some m =>
      rw [h4] at h3
      simp only [Option.bind_some, fitF, Option.some.injEq] at h3
      subst h3
      exact fitF_nft rs k0 k [] m h4 hn hg (by omega) (fun x hx => by cases hx)
  · cases h3

theorem vals_forest (rs : List Rl) : ∀ Vs : List (List Cl), (∀ v ∈ Vs, NFt rs v) → ∃ k : Fo, k.trees = Vs ∧ nfF rs k ∧ GrdF k ∧ k.len = Vs.length
  | [], _ => ⟨.nil, rfl, trivial, (fun c hc => by simp [Fo.flat] at hc), rfl⟩
  | v :: r, h => by
    obtain ⟨q, q1, q2, q3, q4⟩ := vals_forest rs r (fun x hx => h x (by simp [hx]))
    obtain ⟨hg, nm, k, e, hn⟩ := h v (by simp)
    subst e
    have hG := GrdF.of hg
    refine ⟨.cons nm k q, by simp only [Fo.trees, q1, flat_one], ⟨hn.1, hn.2.1, q2⟩, fun c hc => ?_, by simp [Fo.len, q4]⟩
    simp only [Fo.flat, List.mem_cons, List.mem_append] at hc
    rcases hc with hc | hc | hc
    · exact hG c (by rw [flat_one]; simp [hc])
    · exact hG c (by rw [flat_one]; simp [hc])
    · exact q3 c hc
theorem sub_app (s : ByteArray → List Cl) (p q : List Cl) : sub s (p ++ q) = sub s p ++ sub s q := by unfold sub; rw [List.flatMap_append]
theorem sub_len {s : ByteArray → List Cl} : ∀ p : List Cl, (∀ c ∈ p, isV c = true → (s c.nm).length ≤ 64) → (sub s p).length ≤ 64 * p.length
  | [], _ => Nat.le_refl _
  | c :: r, h => by
    have ih := sub_len r (fun d hd => h d (by simp [hd]))
    rw [sub_cons, List.length_append, List.length_cons]
    by_cases hv : isV c = true
    · rw [if_pos hv]
      have := h c (by simp) hv
      omega
    · rw [if_neg hv]
      simp only [List.length_cons, List.length_nil]
      omega
/-- what each variable stands for is a normal form, a symbol stands for itself -/
def LooksN (rs : List Rl) (b : List Bd) (L : List Cl) : Prop := ∀ c ∈ L, (isV c = true → ∃ v, look b c.nm = some v ∧ NFt rs v) ∧ (isV c = false → look b c.nm = none)
theorem rep_put {rs : List Rl} {b : List Bd} : ∀ g : Fo, LooksN rs b g.flat → (∀ c ∈ g.flat, cellErr c = 0) → ∃ h, h.flat = sub (at_ b) g.flat ∧ RepF rs b g h ∧ h.len = g.len ∧ GrdF h
  | .nil, _, _ => ⟨.nil, rfl, trivial, rfl, fun c hc => by simp [Fo.flat] at hc⟩
  | .cons nm k r, hl, hc => by
    have m1 : ∀ c ∈ k.flat, c ∈ (Fo.cons nm k r).flat := fun c h => by simp [Fo.flat, h]
    have m2 : ∀ c ∈ r.flat, c ∈ (Fo.cons nm k r).flat := fun c h => by simp [Fo.flat, h]
    have m0 : (⟨nm, (k.len : Nat)⟩ : Cl) ∈ (Fo.cons nm k r).flat := by simp [Fo.flat]
    obtain ⟨hr, r1, r2, r3, r4⟩ := rep_put r (fun c h => hl c (m2 c h)) (fun c h => hc c (m2 c h))
    obtain ⟨hk, k1, k2, k3, k4⟩ := rep_put k (fun c h => hl c (m1 c h)) (fun c h => hc c (m1 c h))
    have hpl := (plainly_of (.cons nm k r) hc).1
    obtain ⟨l1, l2⟩ := hl _ m0
    simp only at l1 l2
    cases hv : isV ⟨nm, (k.len : Nat)⟩ with
    | true =>
      obtain ⟨v, h1, h2⟩ := l1 hv
      have hk0 : k = .nil := hpl (isV_kind.1 hv)
      subst hk0
      obtain ⟨n1, k1', e, hn⟩ := h2.2
      subst e
      have hG := GrdF.of h2.1
      refine ⟨.cons n1 k1' hr, ?_, ⟨.inl ⟨rfl, h1, h2⟩, r2⟩, by simp [Fo.len, r3], fun c hcc => ?_⟩
      · simp only [Fo.flat, List.nil_append]
        rw [sub_cons]
        have : isV ⟨nm, (Fo.nil.len : Nat)⟩ = true := hv
        rw [if_pos this]
        have ea : at_ b nm = (Fo.cons n1 k1' .nil).flat := by unfold at_; rw [h1]; rfl
        show _ = at_ b nm ++ _
        rw [ea, ← r1]
        simp [Fo.flat]
      · simp only [Fo.flat, List.mem_cons, List.mem_append] at hcc
        rcases hcc with h | h | h
        · exact hG c (by rw [flat_one]; simp [h])
        · exact hG c (by rw [flat_one]; simp [h])
        · exact r4 c h
    | false =>
      refine ⟨.cons nm hk hr, ?_, ⟨.inr ⟨l2 hv, rfl, k3.symm, k2⟩, r2⟩, by simp [Fo.len, r3], fun c hcc => ?_⟩
      · simp only [Fo.flat]
        rw [sub_cons, if_neg (by rw [hv]; decide), sub_app, k1, r1, k3]
        rfl
      · simp only [Fo.flat, List.mem_cons, List.mem_append] at hcc
        rcases hcc with h | h | h
        · subst h
          rw [k3]
          exact ⟨hc _ m0, hv⟩
        · exact k4 c h
        · exact r4 c h

/-- the node that some values make: a term whose arguments are normal forms -/
theorem node_forest {rs : List Rl} {nm : ByteArray} {n : Nat} {Vs : List (List Cl)} (hV : ∀ v ∈ Vs, NFt rs v) (hn : Vs.length = n) (hk : kind nm.data.toList = 1) (h4 : n ≤ 4) (hl : ((⟨nm, (n : Nat)⟩ : Cl) :: Vs.flatten).length ≤ 64) : ∃ k : Fo, (⟨nm, (n : Nat)⟩ : Cl) :: Vs.flatten = (Fo.cons nm k .nil).flat ∧ nfF rs k ∧ GrdF k ∧ grd ((⟨nm, (n : Nat)⟩ : Cl) :: Vs.flatten) = true := by
  obtain ⟨k, k1, k2, k3, k4⟩ := vals_forest rs Vs hV
  have e : (⟨nm, (n : Nat)⟩ : Cl) :: Vs.flatten = (Fo.cons nm k .nil).flat := by
    rw [flat_one, ← k1, Fo.trees_flatten, k4, hn]
  have hs := hl
  rw [e, Fo.flat_length] at hs
  simp only [Fo.size] at hs
  refine ⟨k, e, k2, k3, ?_⟩
  rw [e]
  refine grd_of (fun c hc => ?_) (by omega)
  rw [flat_one] at hc
  rcases List.mem_cons.1 hc with rfl | hc
  · rw [k4, hn]
    refine ⟨?_, by unfold isV; simp [hk]⟩
    rw [cellErr_parts, if_neg (by simp only; omega), if_neg (by simp only; omega)]
  · exact k3 c hc
theorem NFt.of_node {rs : List Rl} {T : List Cl} {nm : ByteArray} {k : Fo} (e : T = (Fo.cons nm k .nil).flat) (hn : nfF rs k) (hg : grd T = true) (hf : firstR rs T = none) : NFt rs T := by
  subst e
  exact ⟨hg, nm, k, rfl, hf, hn, trivial⟩
theorem firstI_some : ∀ {rs : List Rl} {T : List Cl} {i : Nat} {bs : List Bd}, firstI rs T = some (i, bs) → ∃ r, rs[i]? = some r ∧ mt r.l T = some bs
  | [], T, i, bs, h => by cases h
  | r0 :: rest, T, i, bs, h => by
    unfold firstI at h
    cases hm : mt r0.l T with
    | some b =>
      rw [hm] at h
      simp only [Option.some.injEq, Prod.mk.injEq] at h
      obtain ⟨h1, h2⟩ := h
      subst h1 h2
      exact ⟨r0, rfl, hm⟩
    | none =>
      rw [hm] at h
      simp only at h
      cases hq : firstI rest T with
      | none => rw [hq] at h; cases h
      | some p =>
        rw [hq] at h
        simp only [Option.map_some, Option.some.injEq, Prod.mk.injEq] at h
        obtain ⟨h1, h2⟩ := h
        obtain ⟨r, e1, e2⟩ := firstI_some (i := p.1) (bs := bs) (by rw [hq, ← h2])
        exact ⟨r, by rw [← h1, List.getElem?_cons_succ]; exact e1, e2⟩
theorem firstI_none {rs : List Rl} {T : List Cl} (h : firstI rs T = none) : firstR rs T = none := by rw [firstI_R, h]; rfl
/-- a rule that fits such a node -/
theorem fire_looks {rs : List Rl} (hr : RsOk rs) {T : List Cl} {nm : ByteArray} {k : Fo} (e : T = (Fo.cons nm k .nil).flat) (hn : nfF rs k) (hgk : GrdF k) (hg : grd T = true) {i : Nat} {bs : List Bd} (hf : firstI rs T = some (i, bs)) : ∃ r, rs[i]? = some r ∧ firstR rs T = some (r.r, bs) ∧ mt r.l T = some bs ∧ chk r.id r.l r.r = 0 ∧ LooksN rs bs r.r ∧ (∀ x ∈ bs, NFt rs x.val) := by
  have hfR := firstI_R rs T
  rw [hf] at hfR
  obtain ⟨r, hri, hmt⟩ := firstI_some hf
  have hrm := List.mem_of_getElem? hri
  have hck := hr r hrm
  obtain ⟨_, hcl, hcr, h8, hhd, hu⟩ := chk_zero hck
  have hb : ∀ x ∈ bs, NFt rs x.val := by
    rw [e] at hmt
    exact mt_nft hhd hmt hn hgk
  refine ⟨r, hri, ?_, hmt, hck, fun c hc => ?_, hb⟩
  · rw [hfR]; simp only [Option.bind_some, hri, Option.map_some]
  · obtain ⟨a1, a2⟩ := rule_looks hck hmt hg c hc
    refine ⟨fun hv => ?_, a2⟩
    obtain ⟨v, v1, _⟩ := a1 hv
    exact ⟨v, v1, hb _ (look_mem v1)⟩

/-- what becomes of the one becomes of the other -/
def Tr (rs : List Rl) (h' : Fo) (f' : Int) (h : Fo) (f : Int) : Prop := (∀ V g, InnOk rs h' f' [V] g → InnOk rs h f [V] g) ∧ ∀ k, InnErr rs h' f' k → InnErr rs h f k
theorem Tr.refl (rs : List Rl) (h : Fo) (f : Int) : Tr rs h f h f := ⟨fun _ _ x => x, fun _ x => x⟩
theorem Tr.trans {rs : List Rl} {a b c : Fo} {f g k : Int} (h1 : Tr rs a f b g) (h2 : Tr rs b g c k) : Tr rs a f c k := ⟨fun V x y => h2.1 V x (h1.1 V x y), fun e y => h2.2 e (h1.2 e y)⟩
section
variable {rs : List Rl} {nm : ByteArray} {kd : Fo} {f g : Int} {Vs : List (List Cl)}
theorem round_big (hk : KidsOk rs kd kd.len f Vs g) (hl : Vs.length = kd.len) (hb : 64 < ((⟨nm, (kd.len : Nat)⟩ : Cl) :: Vs.flatten).length) : InnErr rs (.cons nm kd .nil) f 6 :=
  RootErr.err fun b k _ _ hr => (hk.all b k hr).big (by simpa using hl) hb
theorem round_norm (hk : KidsOk rs kd kd.len f Vs g) (hl : Vs.length = kd.len) (hV : ∀ v ∈ Vs, NFt rs v) (hkd : kind nm.data.toList = 1) (h4 : kd.len ≤ 4) (hb : ((⟨nm, (kd.len : Nat)⟩ : Cl) :: Vs.flatten).length ≤ 64) (hf : firstI rs ((⟨nm, (kd.len : Nat)⟩ : Cl) :: Vs.flatten) = none) : NFt rs ((⟨nm, (kd.len : Nat)⟩ : Cl) :: Vs.flatten) ∧ InnOk rs (.cons nm kd .nil) f [(⟨nm, (kd.len : Nat)⟩ : Cl) :: Vs.flatten] g := by
  obtain ⟨k, e, h1, h2, h3⟩ := node_forest hV hl hkd h4 hb
  have hn := firstI_none hf
  exact ⟨NFt.of_node e h1 h3 hn, RootOk.ok fun b k _ _ hr => (hk.all b k hr).norm (by simpa using hl) hb hn⟩
theorem round_dry (hok : RsOk rs) (hk : KidsOk rs kd kd.len f Vs g) (hl : Vs.length = kd.len) (hV : ∀ v ∈ Vs, NFt rs v) (hkd : kind nm.data.toList = 1) (h4 : kd.len ≤ 4) (hb : ((⟨nm, (kd.len : Nat)⟩ : Cl) :: Vs.flatten).length ≤ 64) {i : Nat} {bs : List Bd} (hf : firstI rs ((⟨nm, (kd.len : Nat)⟩ : Cl) :: Vs.flatten) = some (i, bs)) (hg : g ≤ 0) : InnErr rs (.cons nm kd .nil) f 14 := by
  obtain ⟨k, e, h1, h2, h3⟩ := node_forest hV hl hkd h4 hb
  obtain ⟨r, _, hR, _⟩ := fire_looks hok e h1 h2 h3 hf
  exact RootErr.err fun b k _ _ hr => (hk.all b k hr).dry (by simpa using hl) hb hR hg
theorem round_var (hok : RsOk rs) (hk : KidsOk rs kd kd.len f Vs g) (hl : Vs.length = kd.len) (hV : ∀ v ∈ Vs, NFt rs v) (hkd : kind nm.data.toList = 1) (h4 : kd.len ≤ 4) (hb : ((⟨nm, (kd.len : Nat)⟩ : Cl) :: Vs.flatten).length ≤ 64) {i : Nat} {bs : List Bd} (hf : firstI rs ((⟨nm, (kd.len : Nat)⟩ : Cl) :: Vs.flatten) = some (i, bs)) (hg : 0 < g) {r : Rl} (hr : rs[i]? = some r) {nr : ByteArray} {kr : Fo} (he : r.r = (Fo.cons nr kr .nil).flat) (hv : kind nr.data.toList = 2) : ∃ v, look bs nr = some v ∧ NFt rs v ∧ InnOk rs (.cons nm kd .nil) f [v] (g - 1) := by
  obtain ⟨k, e, h1, h2, h3⟩ := node_forest hV hl hkd h4 hb
  obtain ⟨r', hr', hR, hmt, hck, hlk, hbn⟩ := fire_looks hok e h1 h2 h3 hf
  rw [hr] at hr'
  cases hr'
  obtain ⟨v, hv1, hv2⟩ := (hlk ⟨nr, (kr.len : Nat)⟩ (by rw [he]; simp [Fo.flat])).1 (isV_kind.2 hv)
  simp only at hv1
  have hk0 : kr = .nil := by
    obtain ⟨_, _, hcr, _⟩ := chk_zero hck
    rw [he] at hcr
    exact (plainly_of _ (cellsErr_zero.1 (check_zero hcr).2.1)).1 hv
  refine ⟨v, hv1, hv2, RootOk.ok fun b k _ _ hr => (hk.all b k hr).fire (by simpa using hl) hb hR hg ?_⟩
  subst hk0
  show EvS rs (todo bs r.r) (g - 1) [v] (g - 1)
  rw [he, todo_flat, todos_var hv1]
  exact EvS.have_ rs v _
theorem round_next (hok : RsOk rs) (hk : KidsOk rs kd kd.len f Vs g) (hl : Vs.length = kd.len) (hV : ∀ v ∈ Vs, NFt rs v) (hkd : kind nm.data.toList = 1) (h4 : kd.len ≤ 4) (hb : ((⟨nm, (kd.len : Nat)⟩ : Cl) :: Vs.flatten).length ≤ 64) {i : Nat} {bs : List Bd} (hf : firstI rs ((⟨nm, (kd.len : Nat)⟩ : Cl) :: Vs.flatten) = some (i, bs)) (hg : 0 < g) {r : Rl} (hr : rs[i]? = some r) : gatherE [] bs = 0 ∧ told r.r bs = true ∧ check r.r = 0 ∧ ∃ nm2 kd2, sub (at_ bs) r.r = (Fo.cons nm2 kd2 .nil).flat ∧ GrdF (.cons nm2 kd2 .nil) ∧ kd2.size ≤ 600 ∧ Tr rs (.cons nm2 kd2 .nil) (g - 1) (.cons nm kd .nil) f := by
  obtain ⟨k, e, h1, h2, h3⟩ := node_forest hV hl hkd h4 hb
  obtain ⟨r', hr', hR, hmt, hck, hlk, hbn⟩ := fire_looks hok e h1 h2 h3 hf
  rw [hr] at hr'
  cases hr'
  obtain ⟨_, hcl, hcr, h8, _, _⟩ := chk_zero hck
  obtain ⟨n1, n2, n3, n4⟩ := mt_facts hmt
  refine ⟨gather_zero bs [] n2 (by rw [List.nil_append, n1]; exact vars_nodup _ _ List.nodup_nil), told_iff.2 (fun c hc hv => by obtain ⟨v, hv1, _⟩ := (hlk c hc).1 hv; rw [hv1]; rfl), hcr, ?_⟩
  obtain ⟨nr, kr, er⟩ := check_term hcr
  have hlk' : LooksN rs bs (Fo.cons nr kr .nil).flat := by rw [← er]; exact hlk
  obtain ⟨h, p1, p2, p3, p4⟩ := rep_put (.cons nr kr .nil) hlk' (by rw [← er]; exact cellsErr_zero.1 (check_zero hcr).2.1)
  cases h with
  | nil => simp [Fo.len] at p3
  | cons nm2 kd2 q =>
    have hq : q = .nil := Fo.len_zero (by simp [Fo.len] at p3; exact p3)
    subst hq
    refine ⟨nm2, kd2, by rw [er, p1], p4, ?_, fun V x hi => ?_, fun k hi => ?_⟩
    · have hs := sub_len (s := at_ bs) r.r (fun c hc hv => by
        obtain ⟨v, v1, v2⟩ := (hlk c hc).1 hv
        unfold at_
        rw [v1]
        exact v2.size)
      rw [er, ← p1, Fo.flat_length, Fo.flat_length] at hs
      have h8' := h8.2
      rw [er, Fo.flat_length] at h8'
      simp only [Fo.size] at hs h8'
      omega
    · refine RootOk.ok fun b k _ _ hr => (hk.all b k hr).fire (by simpa using hl) hb hR hg ?_
      show EvS rs (todo bs r.r) (g - 1) [V] x
      rw [er, todo_flat]
      exact hi bs _ p2
    · refine RootErr.err fun b k' _ _ hr => (hk.all b k' hr).fireE (by simpa using hl) hb hR hg ?_
      show EvE rs (todo bs r.r) (g - 1) k
      rw [er, todo_flat]
      exact hi bs _ p2
end
/-- what Inner answers -/
def InnPost (rs : List Rl) (h : Fo) (f : Int) (B : Nat) (e : Ending) (w' : World) : Prop :=
  (∃ (V : List Cl) (g : Int) (v : Value), e = .returned (.tuple #[v, .int .i64 g, .int .i64 0]) ∧ Owns w' B v V ∧ NFt rs V ∧ 0 ≤ g ∧ g ≤ f ∧ InnOk rs h f [V] g) ∨
  (∃ k : Nat, e = .returned (.tuple #[.slice none 0 0, .int .i64 0, .int .i64 (k : Nat)]) ∧ k ≠ 0 ∧ InnErr rs h f k)
theorem trees_grd {kd : Fo} (h : GrdF kd) : ∀ l ∈ kd.trees, ∃ nm k, l = (Fo.cons nm k .nil).flat ∧ GrdF (.cons nm k .nil) ∧ k.size + 1 ≤ kd.size := by
  intro l hl
  obtain ⟨nm, k, e, hs⟩ := trees_get kd l hl
  refine ⟨nm, k, e, fun c hc => h c ?_, hs⟩
  rw [← Fo.trees_flatten]
  exact List.mem_flatten.2 ⟨l, hl, by rw [e]; exact hc⟩

end Go.Proofs.Ytbdlokijednoiaa
