/-
  A net's tree in memory: its branches, their maps and their lists of places; how it grows.
-/
import Derived.Test.YtpflbdkbbkobbaaCMap
namespace Go.Proofs.Ytpflbdkbbkobbaa
open Go.RowKit Go.Maps
set_option linter.unusedVariables false
set_option maxRecDepth 100000
set_option linter.unusedSimpArgs false

/-- a branch: its block, its map's block, its list of places -/
structure Nd where
  a : Nat
  m : Option Nat
  e : Value
def ptr (a : Nat) : Value := .pointer (some ⟨a, 0, none⟩)
/-- where a branch stands in its block: the root within the net's -/
def ofs (p : List Cl) : Nat := if p = [] then 1 else 0
def csP (sv : Value) (p : List Cl) (d : Nd) : Array Value := if p = [] then #[sv, .map d.m, d.e] else #[.map d.m, d.e]
def tyP (p : List Cl) : TypeId := if p = [] then 62 else 60
def intsV (l : List Nat) : List Value := l.map fun i => Value.int .i64 (i : Nat)
/-- a branch, as it lies in memory -/
structure At (w : World) (B : Nat) (sv : Value) (mx : Nat) (p : List Cl) (d : Nd) (es : List Nat) (kids : Cl → Option Value) : Prop where
  blk : Blk w d.a (csP sv p d) (tyP p)
  hi : B ≤ d.a
  no : d.m = none → ∀ k, kids k = none
  mp : ∀ m, d.m = some m → B ≤ m ∧ ∃ n, n ≤ mx ∧ CMap w m n kids
  ends : w.ownsRow B 3 1 d.e es.length (intsV es)

theorem row_same {w w' : World} {B : Nat} {e : TypeId} {size : Nat} {v : Value} {n : Nat} {xs : List Value} (h : w.ownsRow B e size v n xs) (hs : ∀ g, v.ownBlock = some g → w'.heap[g]? = w.heap[g]?) : w'.ownsRow B e size v n xs := by
  refine ⟨h.1, ?_⟩
  rcases h.2 with hn | ⟨g, cap, cur, hv, hB, hg, rest⟩
  · exact .inl hn
  · exact .inr ⟨g, cap, cur, hv, hB, (hs g (by rw [hv]; rfl)).trans hg, rest⟩
theorem row_at {w : World} {B : Nat} {e : TypeId} {size : Nat} {v : Value} {n : Nat} {xs : List Value} (h : w.ownsRow B e size v n xs) {g : Nat} (hg : v.ownBlock = some g) : B ≤ g ∧ ∃ cur, w.heap[g]? = some (.cells cur e (0, 0)) := by
  rcases h.2 with ⟨rfl, _⟩ | ⟨g', cap, cur, rfl, hB, hb, rest⟩
  · cases hg
  · cases hg; exact ⟨hB, cur, hb⟩
theorem CMap.at {w : World} {b n : Nat} {f : Cl → Option Value} (h : CMap w b n f) : ∃ es c, w.heap[b]? = some (.map es c) := by
  obtain ⟨D, ⟨es, c, h1, _⟩, _⟩ := h
  exact ⟨es, c, h1⟩

theorem At.same {w w' : World} {B mx : Nat} {sv : Value} {p : List Cl} {d : Nd} {es : List Nat} {kids : Cl → Option Value} (h : At w B sv mx p d es kids) (h1 : w'.heap[d.a]? = w.heap[d.a]?) (h2 : ∀ g, d.m = some g → w'.heap[g]? = w.heap[g]?) (h3 : ∀ g, d.e.ownBlock = some g → w'.heap[g]? = w.heap[g]?) : At w' B sv mx p d es kids :=
  ⟨h1.trans h.blk, h.hi, h.no, fun m hm => ⟨(h.mp m hm).1, by obtain ⟨n, h5, h6⟩ := (h.mp m hm).2; exact ⟨n, h5, h6.same (h2 m hm)⟩⟩, row_same h.ends h3⟩
theorem At.hi' {w w' : World} {B mx : Nat} {sv : Value} {p : List Cl} {d : Nd} {es : List Nat} {kids : Cl → Option Value} (h : At w B sv mx p d es kids) (hs : ∀ g, B ≤ g → g < w.heap.size → w'.heap[g]? = w.heap[g]?) : At w' B sv mx p d es kids :=
  h.same (hs _ h.hi h.blk.lt) (fun g hg => by obtain ⟨h1, n, _, h2⟩ := h.mp g hg; exact hs g h1 h2.lt) (fun g hg => by obtain ⟨h1, c, h2⟩ := row_at h.ends hg; exact hs g h1 (lt_of_block h2))
theorem At.mono {w : World} {B mx mx' : Nat} {sv : Value} {p : List Cl} {d : Nd} {es : List Nat} {kids : Cl → Option Value} (h : At w B sv mx p d es kids) (hm : mx ≤ mx') : At w B sv mx' p d es kids :=
  ⟨h.blk, h.hi, h.no, fun m hm' => ⟨(h.mp m hm').1, by obtain ⟨n, h5, h6⟩ := (h.mp m hm').2; exact ⟨n, Nat.le_trans h5 hm, h6⟩⟩, h.ends⟩

theorem tyP_ne (p : List Cl) : tyP p ≠ 3 := by unfold tyP; split <;> decide
/-- a branch's own block is of no other kind -/
theorem At.ne_map {w : World} {B mx : Nat} {sv : Value} {p : List Cl} {d : Nd} {es : List Nat} {kids : Cl → Option Value} (h : At w B sv mx p d es kids) {m : Nat} {es' : Array MapEntry} {c : Nat} (hm : w.heap[m]? = some (.map es' c)) : d.a ≠ m ∧ ∀ g, d.e.ownBlock = some g → g ≠ m := by
  constructor
  · rintro rfl
    have := h.blk
    unfold Blk at this
    rw [hm] at this
    cases this
  · rintro g hg rfl
    obtain ⟨_, cur, h2⟩ := row_at h.ends hg
    rw [hm] at h2
    cases h2
theorem At.ne_blk {w : World} {B mx : Nat} {sv : Value} {p q : List Cl} {d : Nd} {es : List Nat} {kids : Cl → Option Value} (h : At w B sv mx p d es kids) {a : Nat} {cs : Array Value} (hm : Blk w a cs (tyP q)) : (∀ g, d.m = some g → g ≠ a) ∧ ∀ g, d.e.ownBlock = some g → g ≠ a := by
  constructor
  · rintro g hg rfl
    obtain ⟨_, n, _, h2⟩ := h.mp g hg
    obtain ⟨es', c, h3⟩ := h2.at
    unfold Blk at hm
    rw [hm] at h3
    cases h3
  · rintro g hg rfl
    obtain ⟨_, cur, h2⟩ := row_at h.ends hg
    unfold Blk at hm
    rw [hm] at h2
    simp only [Option.some.injEq, Obj.cells.injEq] at h2
    exact tyP_ne q h2.2.1
theorem At.ne_row {w : World} {B mx : Nat} {sv : Value} {p : List Cl} {d : Nd} {es : List Nat} {kids : Cl → Option Value} (h : At w B sv mx p d es kids) {a : Nat} {cur : Array Value} (hm : w.heap[a]? = some (.cells cur 3 (0, 0))) : d.a ≠ a ∧ ∀ g, d.m = some g → g ≠ a := by
  constructor
  · rintro rfl
    have := h.blk
    unfold Blk at this
    rw [hm] at this
    simp only [Option.some.injEq, Obj.cells.injEq] at this
    exact tyP_ne p this.2.1.symm
  · rintro g hg rfl
    obtain ⟨_, n, _, h2⟩ := h.mp g hg
    obtain ⟨es', c, h3⟩ := h2.at
    rw [hm] at h3
    cases h3

def kidsT (T : List Cl → Option Nd) (p : List Cl) (k : Cl) : Option Value := (T (p ++ [k])).map fun x => ptr x.a
/-- the tree -/
structure Tre (w : World) (B nb : Nat) (sv : Value) (mx : Nat) (T : List Cl → Option Nd) (E : List Cl → List Nat) : Prop where
  root : ∃ d, T [] = some d ∧ d.a = nb
  at' : ∀ p d, T p = some d → At w B sv mx p d (E p) (kidsT T p)
  gone : ∀ p, T p = none → E p = []
  pre : ∀ p k, T p = none → T (p ++ [k]) = none
  apart : ∀ p q d x, T p = some d → T q = some x → p ≠ q → d.a ≠ x.a ∧ (∀ g, d.m = some g → x.m ≠ some g) ∧ ∀ g, d.e.ownBlock = some g → x.e.ownBlock ≠ some g

theorem Tre.hi' {w w' : World} {B nb mx : Nat} {sv : Value} {T : List Cl → Option Nd} {E : List Cl → List Nat} (h : Tre w B nb sv mx T E) (hs : ∀ g, B ≤ g → g < w.heap.size → w'.heap[g]? = w.heap[g]?) : Tre w' B nb sv mx T E :=
  ⟨h.root, fun p d hp => (h.at' p d hp).hi' hs, h.gone, h.pre, h.apart⟩
theorem Tre.alloc {w : World} {B nb mx : Nat} {sv : Value} {T : List Cl → Option Nd} {E : List Cl → List Nat} (h : Tre w B nb sv mx T E) (o : Obj) : Tre (w.alloc o) B nb sv mx T E := h.hi' fun g _ hg => Below.heap_alloc w o g hg
theorem Tre.drewN {w : World} {B nb mx : Nat} {sv : Value} {T : List Cl → Option Nd} {E : List Cl → List Nat} (h : Tre w B nb sv mx T E) (n : Nat) : Tre (w.drewN n) B nb sv mx T E := h.hi' fun g _ hg => rfl
theorem Tre.mono {w : World} {B nb mx mx' : Nat} {sv : Value} {T : List Cl → Option Nd} {E : List Cl → List Nat} (h : Tre w B nb sv mx T E) (hm : mx ≤ mx') : Tre w B nb sv mx' T E := ⟨h.root, fun p d hp => (h.at' p d hp).mono hm, h.gone, h.pre, h.apart⟩

def updT (T : List Cl → Option Nd) (p : List Cl) (d : Nd) (q : List Cl) : Option Nd := if q = p then some d else T q
theorem updT_self (T : List Cl → Option Nd) (p : List Cl) (d : Nd) : updT T p d p = some d := by simp [updT]
theorem updT_ne {T : List Cl → Option Nd} {p q : List Cl} (d : Nd) (h : q ≠ p) : updT T p d q = T q := by simp [updT, h]
theorem snoc_ne (p : List Cl) (k : Cl) : p ++ [k] ≠ p := by intro h; have := congrArg List.length h; simp at this
theorem kids_upd {T : List Cl → Option Nd} {p : List Cl} {d d' : Nd} (hp : T p = some d) (ha : d'.a = d.a) (q : List Cl) : kidsT (updT T p d') q = kidsT T q := by
  funext k
  unfold kidsT
  by_cases h : q ++ [k] = p
  · rw [h, updT_self, hp]; simp [ha]
  · rw [updT_ne _ h]
theorem csP_map (sv : Value) (p : List Cl) (d : Nd) (x : Option Nat) : (csP sv p d).setIfInBounds (ofs p) (.map x) = csP sv p { d with m := x } := by
  unfold csP ofs; split <;> rfl
theorem csP_ends (sv : Value) (p : List Cl) (d : Nd) (x : Value) : (csP sv p d).setIfInBounds (ofs p + 1) x = csP sv p { d with e := x } := by
  unfold csP ofs; split <;> rfl
theorem csP_at (sv : Value) (p : List Cl) (d : Nd) : (csP sv p d)[ofs p]? = some (.map d.m) ∧ (csP sv p d)[ofs p + 1]? = some d.e := by
  unfold csP ofs; split <;> exact ⟨rfl, rfl⟩
theorem At.cells {w : World} {B mx : Nat} {sv : Value} {p : List Cl} {d : Nd} {es : List Nat} {kids : Cl → Option Value} (h : At w B sv mx p d es kids) :
    w.cell? ⟨d.a, ofs p, none⟩ = some (.map d.m) ∧ w.cell? ⟨d.a, ofs p + 1, none⟩ = some d.e ∧ w.frozen? ⟨d.a, ofs p, none⟩ = false ∧ w.frozen? ⟨d.a, ofs p + 1, none⟩ = false :=
  ⟨h.blk.cell (csP_at sv p d).1, h.blk.cell (csP_at sv p d).2, h.blk.free _, h.blk.free _⟩

/-- a branch gets its map -/
theorem Tre.made {w : World} {B nb mx : Nat} {sv : Value} {T : List Cl → Option Nd} {E : List Cl → List Nat} (h : Tre w B nb sv mx T E) {p : List Cl} {d : Nd} (hp : T p = some d) (hm : d.m = none) (hB : B ≤ w.heap.size) :
    Tre ((w.alloc (.map #[] 0)).setCell ⟨d.a, ofs p, none⟩ (.map (some w.heap.size))) B nb sv mx (updT T p { d with m := some w.heap.size }) E := by
  have hat := h.at' p d hp
  have hA := hat.blk.alloc (.map #[] 0)
  have hlt := hat.blk.lt
  have hold : ∀ g, g < w.heap.size → g ≠ d.a → ((w.alloc (.map #[] 0)).setCell ⟨d.a, ofs p, none⟩ (.map (some w.heap.size))).heap[g]? = w.heap[g]? := fun g hg hne =>
    (Below.heap_setCell _ _ _ _ hne).trans (Below.heap_alloc w _ g hg)
  have hnew : CMap ((w.alloc (.map #[] 0)).setCell ⟨d.a, ofs p, none⟩ (.map (some w.heap.size))) w.heap.size 0 fun _ => none := (CMap.made w).same (Below.heap_setCell _ _ _ _ (Nat.ne_of_gt hlt))
  refine ⟨?_, ?_, ?_, ?_, ?_⟩
  · obtain ⟨r, h1, h2⟩ := h.root
    by_cases e : p = []
    · subst e
      rw [hp] at h1; cases h1
      exact ⟨_, updT_self _ _ _, h2⟩
    · exact ⟨r, by rw [updT_ne _ (Ne.symm e)]; exact h1, h2⟩
  · intro q x hq
    rw [kids_upd hp (d' := { d with m := some w.heap.size }) rfl]
    by_cases e : q = p
    · subst e
      rw [updT_self] at hq; cases hq
      refine ⟨?_, hat.hi, fun h => (by cases h), fun m hm2 => ?_, ?_⟩
      · have := hA.set (ofs q) (.map (some w.heap.size))
        rw [csP_map] at this
        exact this
      · cases hm2
        refine ⟨hB, 0, Nat.zero_le _, ?_⟩
        have e2 : kidsT T q = fun _ => none := funext (hat.no hm)
        rw [e2]; exact hnew
      · exact row_same hat.ends fun g hg => hold g (lt_of_block (row_at hat.ends hg).2.choose_spec) ((hat.ne_blk (q := q) hat.blk).2 g hg)
    · rw [updT_ne _ e] at hq
      have hx := h.at' q x hq
      have hap := h.apart q p x d hq hp e
      exact hx.same (hold _ hx.blk.lt hap.1) (fun g hg => hold g (by obtain ⟨_, n, _, h2⟩ := hx.mp g hg; exact h2.lt) ((hx.ne_blk (q := p) hat.blk).1 g hg)) (fun g hg => hold g (lt_of_block (row_at hx.ends hg).2.choose_spec) ((hx.ne_blk (q := p) hat.blk).2 g hg))
  · intro q hq
    apply h.gone
    by_cases e : q = p
    · subst e; rw [updT_self] at hq; cases hq
    · rwa [updT_ne _ e] at hq
  · intro q x hq
    have hq' : T q = none := by
      by_cases e : q = p
      · subst e; rw [updT_self] at hq; cases hq
      · rwa [updT_ne _ e] at hq
    have h2 := h.pre q x hq'
    rw [updT_ne _ (fun e => by rw [e, hp] at h2; cases h2)]
    exact h2
  · intro q r x y hq hr hne
    by_cases e : q = p
    · subst e
      rw [updT_self] at hq; cases hq
      rw [updT_ne _ (Ne.symm hne)] at hr
      obtain ⟨a1, a2, a3⟩ := h.apart q r d y hp hr hne
      refine ⟨a1, fun g hg hy => ?_, a3⟩
      cases hg
      obtain ⟨_, n, _, h2⟩ := (h.at' r y hr).mp _ hy
      exact absurd h2.lt (Nat.lt_irrefl _)
    · rw [updT_ne _ e] at hq
      by_cases e2 : r = p
      · subst e2
        rw [updT_self] at hr; cases hr
        obtain ⟨a1, a2, a3⟩ := h.apart q r x d hq hp hne
        refine ⟨a1, fun g hg hy => ?_, a3⟩
        cases hy
        obtain ⟨_, n, _, h2⟩ := (h.at' q x hq).mp _ hg
        exact absurd h2.lt (Nat.lt_irrefl _)
      · rw [updT_ne _ e2] at hr
        exact h.apart q r x y hq hr hne

/-- a branch gets one more that goes on from it -/
theorem Tre.grown {w w' : World} {B nb mx : Nat} {sv : Value} {T : List Cl → Option Nd} {E : List Cl → List Nat} (h : Tre w B nb sv mx T E) {p : List Cl} {d : Nd} (hp : T p = some d) {m : Nat} (hm : d.m = some m) {k : Cl} (hk : T (p ++ [k]) = none) (hB : B ≤ w.heap.size)
    (hc : ∀ n f, CMap (w.alloc (.cells #[.map none, .slice none 0 0] 60)) m n f → n ≤ mx → CMap w' m (n + 1) (fun x => if x = k then some (ptr w.heap.size) else f x)) (hg : (w.alloc (.cells #[.map none, .slice none 0 0] 60)).grownBy w' (some m)) :
    Tre w' B nb sv (mx + 1) (updT T (p ++ [k]) ⟨w.heap.size, none, .slice none 0 0⟩) E := by
  have hat := h.at' p d hp
  obtain ⟨hmB, n0, hn0, hM⟩ := hat.mp m hm
  have hml := hM.lt
  obtain ⟨mes, mc, hMk⟩ := hM.at
  have hold : ∀ g, g < w.heap.size → g ≠ m → w'.heap[g]? = w.heap[g]? := fun g hg' hne => (hg.block g (by simp; omega) (fun e => hne (Option.some.inj e))).trans (Below.heap_alloc w _ g hg')
  have hnew : Blk w' w.heap.size #[.map none, .slice none 0 0] 60 := (hg.block w.heap.size (by simp) (fun e => by have := Option.some.inj e; omega)).trans (Blk.made w _ _)
  have hun : ∀ q, T q ≠ none → q ≠ p ++ [k] := fun q h1 e => h1 (e ▸ hk)
  have hkid : ∀ q, q ≠ p → kidsT (updT T (p ++ [k]) ⟨w.heap.size, none, .slice none 0 0⟩) q = kidsT T q := by
    intro q hq
    funext x
    unfold kidsT
    rw [updT_ne]
    intro e
    exact hq (List.append_inj_left' e rfl)
  have hkid2 : kidsT (updT T (p ++ [k]) ⟨w.heap.size, none, .slice none 0 0⟩) p = fun x => if x = k then some (ptr w.heap.size) else kidsT T p x := by
    funext x
    unfold kidsT
    by_cases e : x = k
    · subst e; rw [updT_self, if_pos rfl]; rfl
    · rw [updT_ne, if_neg e]
      intro e2
      exact e (by simpa using e2)
  have gone' : ∀ q, T (p ++ [k] ++ [q]) = none := fun q => h.pre _ q hk
  refine ⟨?_, ?_, ?_, ?_, ?_⟩
  · obtain ⟨r, h1, h2⟩ := h.root
    exact ⟨r, by rw [updT_ne _ (hun [] (by rw [h1]; simp))]; exact h1, h2⟩
  · intro q x hq
    by_cases e : q = p ++ [k]
    · subst e
      rw [updT_self] at hq; cases hq
      have hcs : csP sv (p ++ [k]) ⟨w.heap.size, none, .slice none 0 0⟩ = #[.map none, .slice none 0 0] := by unfold csP; rw [if_neg (by simp)]
      have hty : tyP (p ++ [k]) = 60 := by unfold tyP; rw [if_neg (by simp)]
      refine ⟨by rw [hcs, hty]; exact hnew, hB, fun _ x => ?_, fun _ h => (by cases h), ?_⟩
      · rw [hkid _ (snoc_ne p k)]
        unfold kidsT
        rw [gone' x]; rfl
      · rw [h.gone _ hk]; exact World.ownsRow_nil _ _ _ _
    · rw [updT_ne _ e] at hq
      have hx := h.at' q x hq
      have b1 := hold _ hx.blk.lt (hx.ne_map hMk).1
      have b3 : ∀ g, x.e.ownBlock = some g → w'.heap[g]? = w.heap[g]? := fun g hg' => hold g (lt_of_block (row_at hx.ends hg').2.choose_spec) ((hx.ne_map hMk).2 g hg')
      by_cases e2 : q = p
      · subst e2
        rw [hp] at hq; cases hq
        refine ⟨b1.trans hx.blk, hx.hi, fun h => (by rw [hm] at h; cases h), fun m' hm' => ?_, row_same hx.ends b3⟩
        rw [hm] at hm'; cases hm'
        refine ⟨hmB, n0 + 1, by omega, ?_⟩
        rw [hkid2]
        exact hc n0 _ (hM.same (Below.heap_alloc w _ m hml)) hn0
      · rw [hkid q e2]
        refine (hx.same b1 (fun g hg' => hold g (by obtain ⟨_, n, _, h2⟩ := hx.mp g hg'; exact h2.lt) ?_) b3).mono (by omega)
        rintro rfl
        exact (h.apart q p x d hq hp e2).2.1 g hg' hm
  · intro q hq
    apply h.gone
    by_cases e : q = p ++ [k]
    · rw [e]; exact hk
    · rwa [updT_ne _ e] at hq
  · intro q x hq
    have hq' : T q = none := by
      by_cases e : q = p ++ [k]
      · rw [e]; exact hk
      · rwa [updT_ne _ e] at hq
    rw [updT_ne _ (fun e => by rw [List.append_inj_left' e rfl, hp] at hq'; cases hq')]
    exact h.pre q x hq'
  · intro q r x y hq hr hne
    by_cases e : q = p ++ [k]
    · subst e
      rw [updT_self] at hq; cases hq
      rw [updT_ne _ (Ne.symm hne)] at hr
      refine ⟨fun e2 => ?_, fun g hg' => (by cases hg'), fun g hg' => (by cases hg')⟩
      exact absurd (e2 ▸ (h.at' r y hr).blk.lt) (Nat.lt_irrefl _)
    · rw [updT_ne _ e] at hq
      by_cases e2 : r = p ++ [k]
      · subst e2
        rw [updT_self] at hr; cases hr
        refine ⟨fun e2 => ?_, fun g hg' h2 => (by cases h2), fun g hg' h2 => (by cases h2)⟩
        exact absurd (e2 ▸ (h.at' q x hq).blk.lt) (Nat.lt_irrefl _)
      · rw [updT_ne _ e2] at hr
        exact h.apart q r x y hq hr hne

end Go.Proofs.Ytpflbdkbbkobbaa
