/-
  Runs of the machine, op by op, as plain functions: how fuel may be shifted, and that a run is what its ops say.
-/
import Derived.Test.YtbdlokijednoiaaOrd
import Derived.Test.YtbdlokijednoiaaWakes
import Derived.Test.YtbdlokijednoiaaCheck
import Derived.Test.YtbdlokijednoiaaRFill
namespace Go.Proofs.Ytbdlokijednoiaa
open Go.RowKit
set_option linter.unusedVariables false
set_option linter.unusedSimpArgs false
set_option maxRecDepth 100000

/-- right, and without variables -/
def grd (L : List Cl) : Bool := decide (check L = 0 ∧ varsOf L = [])
theorem vars_none {L : List Cl} : varsOf L = [] ↔ ∀ c ∈ L, isV c = false := by
  constructor
  · intro h c hc
    cases hv : isV c with
    | false => rfl
    | true =>
      have := vars_has L [] c.nm (.inr ⟨c, hc, hv, rfl⟩)
      change c.nm ∈ varsOf L at this
      rw [h] at this
      cases this
  · intro h
    cases hv : varsOf L with
    | nil => rfl
    | cons x r =>
      have hx : x ∈ L.foldl varStep [] := by change x ∈ varsOf L; rw [hv]; simp
      rcases vars_mem L [] x hx with h1 | ⟨c, hc, h1, _⟩
      · cases h1
      · rw [h c hc] at h1; cases h1
theorem grd_iff {L : List Cl} : grd L = true ↔ check L = 0 ∧ ∀ c ∈ L, isV c = false := by
  unfold grd
  rw [decide_eq_true_eq, vars_none]
theorem isV_kind {c : Cl} : isV c = true ↔ kind c.nm.data.toList = 2 := by unfold isV; simp
theorem sym_kind {c : Cl} (h : cellErr c = 0) (hv : isV c = false) : kind c.nm.data.toList = 1 := by
  have h1 := cellErr_kind h
  have h2 : kind c.nm.data.toList ≠ 2 := fun e => by rw [isV_kind.2 e] at hv; cases hv
  have h3 : kind c.nm.data.toList ≤ 2 := by unfold kind; (repeat' split) <;> omega
  omega

structure Opr where
  k : Int
  c : Cl
  v : List Cl
deriving DecidableEq
structure Rl where
  id : Int
  l : List Cl
  r : List Cl
deriving DecidableEq
/-- how far a run has come: what is to be done, the next one first; values; steps; heads; fuel -/
structure Cf where
  stk : List Opr
  vals : List (List Cl)
  steps : Int
  heads : List ByteArray
  fuel : Int
/-- a table: what it tells of a term -/
abbrev Tb := List Cl → Option (List Cl × List ByteArray)

def opC (b : List Bd) (c : Cl) : Opr := match look b c.nm with | some v => ⟨2, noCl, v⟩ | none => ⟨1, c, []⟩
theorem opC_some {b : List Bd} {c : Cl} {v : List Cl} (h : look b c.nm = some v) : opC b c = ⟨2, noCl, v⟩ := by unfold opC; rw [h]
theorem opC_none {b : List Bd} {c : Cl} (h : look b c.nm = none) : opC b c = ⟨1, c, []⟩ := by unfold opC; rw [h]
/-- the ops of terms one behind the other, those of each apart -/
def post (b : List Bd) : List Cl → List (List Opr)
  | [] => []
  | c :: r => (((post b r).take c.ar.toNat).flatten ++ [opC b c]) :: (post b r).drop c.ar.toNat
/-- what is to be done for a term, the next op first -/
def todo (b : List Bd) (L : List Cl) : List Opr := (post b L).flatten
theorem post_len (b : List Bd) : ∀ L : List Cl, (post b L).flatten.length = L.length
  | [] => rfl
  | c :: r => by
    have ih := post_len b r
    have h : ((post b r).take c.ar.toNat ++ (post b r).drop c.ar.toNat).flatten = (post b r).flatten := by rw [List.take_append_drop]
    rw [List.flatten_append] at h
    have h2 := congrArg List.length h
    simp only [List.length_append] at h2
    simp only [post, List.flatten_cons, List.length_append, List.length_cons, List.length_nil]
    omega
theorem todo_len (b : List Bd) (L : List Cl) : (todo b L).length = L.length := post_len b L
theorem post_mem (b : List Bd) : ∀ (L : List Cl) (o : Opr), o ∈ (post b L).flatten → ∃ c ∈ L, o = opC b c
  | [], o, h => by simp [post] at h
  | c :: r, o, h => by
    simp only [post, List.flatten_cons, List.mem_append, List.mem_singleton] at h
    rcases h with (h | h) | h
    · obtain ⟨l, hl, ho⟩ := List.mem_flatten.1 h
      obtain ⟨d, hd, e⟩ := post_mem b r o (List.mem_flatten.2 ⟨l, List.mem_of_mem_take hl, ho⟩)
      exact ⟨d, by simp [hd], e⟩
    · exact ⟨c, by simp, h⟩
    · obtain ⟨l, hl, ho⟩ := List.mem_flatten.1 h
      obtain ⟨d, hd, e⟩ := post_mem b r o (List.mem_flatten.2 ⟨l, List.mem_of_mem_drop hl, ho⟩)
      exact ⟨d, by simp [hd], e⟩
def Fo.todos (b : List Bd) : Fo → List (List Opr)
  | .nil => []
  | .cons nm k r => ((k.todos b).flatten ++ [opC b ⟨nm, (k.len : Nat)⟩]) :: r.todos b
theorem todos_len (b : List Bd) : ∀ f : Fo, (f.todos b).length = f.len
  | .nil => rfl
  | .cons nm k r => by simp [Fo.todos, Fo.len, todos_len b r]
theorem post_flat (b : List Bd) : ∀ (f : Fo) (R : List Cl), post b (f.flat ++ R) = f.todos b ++ post b R
  | .nil, R => rfl
  | .cons nm k r, R => by
    have e : (Fo.cons nm k r).flat ++ R = ⟨nm, (k.len : Nat)⟩ :: (k.flat ++ (r.flat ++ R)) := by simp [Fo.flat]
    rw [e, post, post_flat b k, post_flat b r]
    simp only [Int.toNat_natCast]
    have h1 : (k.todos b ++ (r.todos b ++ post b R)).take k.len = k.todos b := by rw [← todos_len b k]; exact List.take_left
    have h2 : (k.todos b ++ (r.todos b ++ post b R)).drop k.len = r.todos b ++ post b R := by rw [← todos_len b k]; exact List.drop_left
    rw [h1, h2]
    rfl
theorem todo_flat (b : List Bd) (f : Fo) : todo b f.flat = (f.todos b).flatten := by
  have := post_flat b f []
  rw [List.append_nil] at this
  unfold todo
  rw [this]
  simp [post]

def cnt : List Opr → Nat → Option Nat
  | [], n => some n
  | o :: r, n => if o.c.ar.toNat ≤ n then cnt r (n - o.c.ar.toNat + 1) else none
theorem cnt_app : ∀ (a b : List Opr) (n : Nat), cnt (a ++ b) n = (cnt a n).bind (cnt b)
  | [], b, n => rfl
  | o :: r, b, n => by
    simp only [List.cons_append, cnt]
    split
    · exact cnt_app r b _
    · rfl
/-- names that stand for something have no arguments -/
def Cal (b : List Bd) : Fo → Prop
  | .nil => True
  | .cons nm k r => (look b nm ≠ none → k = .nil) ∧ Cal b k ∧ Cal b r
theorem cal_of {b : List Bd} (hb : ∀ x ∈ b, kind x.nm.data.toList = 2) : ∀ f : Fo, Plainly f → Cal b f
  | .nil, _ => trivial
  | .cons nm k r, h => ⟨fun hn => by
      cases hl : look b nm with
      | none => exact absurd hl hn
      | some v => exact h.1 (hb _ (look_mem hl)), cal_of hb k h.2.1, cal_of hb r h.2.2⟩
theorem cnt_todos (b : List Bd) : ∀ (f : Fo) (n : Nat), Cal b f → cnt (f.todos b).flatten n = some (n + f.len)
  | .nil, n, _ => rfl
  | .cons nm k r, n, h => by
    simp only [Fo.todos, List.flatten_cons, List.append_assoc]
    rw [cnt_app, cnt_todos b k n h.2.1]
    simp only [Option.bind_some, List.singleton_append]
    cases hl : look b nm with
    | none =>
      rw [opC_none hl]
      simp only [cnt, Int.toNat_natCast, Fo.len]
      rw [if_pos (by omega), cnt_todos b r _ h.2.2]
      congr 1; omega
    | some v =>
      have := h.1 (by rw [hl]; simp)
      subst this
      rw [opC_some hl, cnt]
      refine (if_pos (Nat.zero_le _)).trans ?_
      show cnt _ (n + 0 - 0 + 1) = _
      rw [cnt_todos b r _ h.2.2]
      simp only [Fo.len]
      congr 1; omega

inductive Out where
  | go (c : Cf)
  | stop (e : Nat)
def node (c : Cl) (V : List (List Cl)) : List Cl := c :: (V.drop (V.length - c.ar.toNat)).flatten
def left (c : Cl) (V : List (List Cl)) : List (List Cl) := V.take (V.length - c.ar.toNat)
/-- the first rule that fits, and how -/
def firstR : List Rl → List Cl → Option (List Cl × List Bd)
  | [], _ => none
  | r :: rs, t => match mt r.l t with
    | some b => some (r.r, b)
    | none => firstR rs t
def inc (x : Int) : Int := wrap64 (x + 1)
/-- one op -/
def one (rs : List Rl) (tb : Tb) (o : Opr) (c : Cf) : Out :=
  if o.k = 2 then .go ⟨c.stk, c.vals ++ [o.v], c.steps, c.heads, c.fuel⟩
  else if 64 < (node o.c c.vals).length then .stop 6
  else match tb (node o.c c.vals) with
    | some p => .go ⟨c.stk, left o.c c.vals ++ [p.1], c.steps, jn c.heads p.2, c.fuel⟩
    | none => match firstR rs (node o.c c.vals) with
      | none => .go ⟨c.stk, left o.c c.vals ++ [node o.c c.vals], c.steps, jn1 c.heads o.c.nm, c.fuel⟩
      | some p => if c.fuel ≤ 0 then .stop 14 else .go ⟨todo p.2 p.1 ++ c.stk, left o.c c.vals, inc c.steps, jn1 c.heads o.c.nm, c.fuel - 1⟩
def runN (rs : List Rl) (tb : Tb) : Nat → Cf → Cf × Nat
  | 0, c => (c, 0)
  | n + 1, c => match c.stk with
    | [] => (c, 0)
    | o :: r => match one rs tb o ⟨r, c.vals, c.steps, c.heads, c.fuel⟩ with
      | .go c' => runN rs tb n c'
      | .stop e => (c, e)
def mu (c : Cf) : Nat := 9 * c.fuel.toNat + c.stk.length
/-- what a run comes to -/
def fin (rs : List Rl) (tb : Tb) (c : Cf) : Cf × Nat := runN rs tb (mu c + 1) c

def RsOk (rs : List Rl) : Prop := ∀ r ∈ rs, chk r.id r.l r.r = 0
def TbOk (tb : Tb) : Prop := ∀ t p, tb t = some p → grd p.1 = true ∧ ∀ x ∈ p.2, kind x.data.toList = 1
def opOk (o : Opr) : Prop := (o.k = 1 ∧ kind o.c.nm.data.toList = 1 ∧ 0 ≤ o.c.ar ∧ o.c.ar ≤ 4 ∧ o.v = []) ∨ (o.k = 2 ∧ grd o.v = true ∧ o.c = noCl)
structure Rt (c : Cf) : Prop where
  ops : ∀ o ∈ c.stk, opOk o
  vals : ∀ v ∈ c.vals, grd v = true
  one : cnt c.stk c.vals.length = some 1
  hds : Hds c.heads
  lim : c.stk.length + 8 * c.fuel.toNat ≤ 2513169500000

theorem firstR_some : ∀ {rs : List Rl} {t : List Cl} {p : List Cl × List Bd}, firstR rs t = some p → ∃ r ∈ rs, r.r = p.1 ∧ mt r.l t = some p.2
  | [], t, p, h => by cases h
  | r :: rs, t, p, h => by
    unfold firstR at h
    cases hm : mt r.l t with
    | some b => rw [hm] at h; cases h; exact ⟨r, by simp, rfl, hm⟩
    | none =>
      rw [hm] at h
      obtain ⟨q, hq, h1, h2⟩ := firstR_some h
      exact ⟨q, by simp [hq], h1, h2⟩
theorem firstR_none : ∀ {rs : List Rl} {t : List Cl}, firstR rs t = none ↔ ∀ r ∈ rs, mt r.l t = none
  | [], t => by simp [firstR]
  | r :: rs, t => by
    unfold firstR
    cases hm : mt r.l t with
    | some b => simp [hm]
    | none => simp [hm, firstR_none]
theorem fo_flatten : ∀ K : List (List Cl), (∀ l ∈ K, fo 1 l = some []) → fo K.length K.flatten = some []
  | [], _ => rfl
  | l :: r, h => by
    rw [List.length_cons, List.flatten_cons, show r.length + 1 = 1 + r.length by omega, fo_add, fo_app l 1 [] _ (h l (by simp))]
    simp only [List.nil_append, Option.bind_some]
    exact fo_flatten r (fun m hm => h m (by simp [hm]))
theorem node_grd {c : Cl} {V : List (List Cl)} (hk : kind c.nm.data.toList = 1) (h0 : 0 ≤ c.ar) (h4 : c.ar ≤ 4) (hV : ∀ v ∈ V, grd v = true) (hn : c.ar.toNat ≤ V.length) (h64 : (node c V).length ≤ 64) : grd (node c V) = true := by
  have hm : ∀ v ∈ V.drop (V.length - c.ar.toNat), grd v = true := fun v hv => hV v (List.mem_of_mem_drop hv)
  have hce : cellErr c = 0 := by rw [cellErr_parts, if_neg (by omega), if_neg (by omega)]
  rw [grd_iff]
  refine ⟨check_ok h64 (cellsErr_zero.2 fun d hd => ?_) ?_, fun d hd => ?_⟩
  · rcases List.mem_cons.1 hd with rfl | hd
    · exact hce
    · obtain ⟨l, hl, hdl⟩ := List.mem_flatten.1 hd
      exact cellsErr_zero.1 (check_zero (grd_iff.1 (hm l hl)).1).2.1 d hdl
  · unfold node
    rw [fo_cons, Nat.add_zero]
    have := fo_flatten (V.drop (V.length - c.ar.toNat)) (fun l hl => (check_zero (grd_iff.1 (hm l hl)).1).2.2)
    rw [List.length_drop, show V.length - (V.length - c.ar.toNat) = c.ar.toNat by omega] at this
    exact this
  · rcases List.mem_cons.1 hd with rfl | hd
    · unfold isV; simp [hk]
    · obtain ⟨l, hl, hdl⟩ := List.mem_flatten.1 hd
      exact (grd_iff.1 (hm l hl)).2 d hdl
theorem bind_grd {L T : List Cl} {acc : List Bd} (h : mt L T = some acc) (hT : grd T = true) : ∀ b ∈ acc, grd b.val = true ∧ kind b.nm.data.toList = 2 := by
  intro b hb
  obtain ⟨n1, n2, n3, n4⟩ := mt_facts h
  obtain ⟨h1, h2⟩ := n2 b hb
  refine ⟨grd_iff.2 ⟨h1, fun d hd => ?_⟩, h2⟩
  have hin : b.nm ∈ L.foldl varStep [] := by
    change b.nm ∈ varsOf L
    rw [← n1]; exact List.mem_map.2 ⟨b, hb, rfl⟩
  rcases vars_mem L [] b.nm hin with h3 | ⟨c, hc, hv, he⟩
  · cases h3
  · obtain ⟨i, hi⟩ := List.getElem?_of_mem hb
    have hl := look_at (by rw [n1]; exact vars_nodup L [] (by simp)) hi
    have : d ∈ T := by
      rw [n3]
      refine sub_mem hc hv ?_
      unfold at_
      rw [he, hl]
      exact hd
    exact (grd_iff.1 hT).2 d this
theorem rule_looks {r : Rl} {T : List Cl} {acc : List Bd} (hr : chk r.id r.l r.r = 0) (h : mt r.l T = some acc) (hT : grd T = true) : ∀ c ∈ r.r, (isV c = true → ∃ v, look acc c.nm = some v ∧ grd v = true) ∧ (isV c = false → look acc c.nm = none) := by
  intro c hc
  obtain ⟨_, _, _, _, _, hu⟩ := chk_zero hr
  obtain ⟨n1, n2, n3, n4⟩ := mt_facts h
  constructor
  · intro hv
    have h1 : c.nm ∈ varsOf r.r := vars_has r.r [] c.nm (.inr ⟨c, hc, hv, rfl⟩)
    have h2 : inS c.nm (varsOf r.l) = true := by
      unfold unb at hu
      have := List.any_eq_false.1 hu c.nm h1
      simpa using this
    cases hl : look acc c.nm with
    | none => rw [look_none, n1, h2] at hl; cases hl
    | some v => exact ⟨v, rfl, (bind_grd h hT _ (look_mem hl)).1⟩
  · intro hv
    cases hl : look acc c.nm with
    | none => rfl
    | some v =>
      have := (n2 _ (look_mem hl)).2
      rw [isV_kind.2 this] at hv
      cases hv
theorem todo_ok {r : Rl} {T : List Cl} {acc : List Bd} (hr : chk r.id r.l r.r = 0) (h : mt r.l T = some acc) (hT : grd T = true) : (∀ o ∈ todo acc r.r, opOk o) ∧ (todo acc r.r).length ≤ 8 ∧ ∀ n, cnt (todo acc r.r) n = some (n + 1) := by
  obtain ⟨_, hL, hR, h8, _, hu⟩ := chk_zero hr
  refine ⟨fun o ho => ?_, by rw [todo_len]; exact h8.2, fun n => ?_⟩
  · obtain ⟨c, hc, rfl⟩ := post_mem acc r.r o ho
    have hce := cellsErr_zero.1 (check_zero hR).2.1 c hc
    obtain ⟨q1, q2⟩ := rule_looks hr h hT c hc
    cases hv : isV c with
    | true =>
      obtain ⟨v, hl, hg⟩ := q1 hv
      right
      unfold opC
      rw [hl]
      exact ⟨rfl, hg, rfl⟩
    | false =>
      left
      unfold opC
      rw [q2 hv]
      have := cellErr_ar hce
      exact ⟨rfl, sym_kind hce hv, this.1, this.2, rfl⟩
  · obtain ⟨nm, k, e⟩ := check_term hR
    rw [e, todo_flat]
    refine cnt_todos acc _ n (cal_of (fun x hx => (bind_grd h hT x hx).2) _ (plainly_of _ ?_))
    rw [← e]
    exact cellsErr_zero.1 (check_zero hR).2.1
theorem cnt_le : ∀ (s : List Opr) (n : Nat), (∀ o ∈ s, opOk o) → cnt s n = some 1 → n ≤ 3 * s.length + 1
  | [], n, _, h => by simp [cnt] at h; simp [h]
  | o :: r, n, ho, h => by
    unfold cnt at h
    split at h
    · have := cnt_le r _ (fun x hx => ho x (by simp [hx])) h
      have h4 : o.c.ar.toNat ≤ 4 := by
        rcases ho o (by simp) with ⟨_, _, h1, h2, _⟩ | ⟨_, _, h3⟩
        · omega
        · rw [h3]; simp [noCl]
      simp only [List.length_cons]
      omega
    · cases h
theorem cnt_ar {o : Opr} {s : List Opr} {n m : Nat} (h : cnt (o :: s) n = some m) : o.c.ar.toNat ≤ n ∧ cnt s (n - o.c.ar.toNat + 1) = some m := by
  unfold cnt at h
  split at h
  · rename_i h1; exact ⟨h1, h⟩
  · cases h
theorem left_len {c : Cl} {V : List (List Cl)} : (left c V).length = V.length - c.ar.toNat := by
  unfold left
  rw [List.length_take]
  omega
theorem one_rt {rs : List Rl} {tb : Tb} (hr : RsOk rs) (ht : TbOk tb) {o : Opr} {c c' : Cf} (h : Rt ⟨o :: c.stk, c.vals, c.steps, c.heads, c.fuel⟩) (h1 : one rs tb o c = .go c') : Rt c' ∧ mu c' < mu c + 1 := by
  obtain ⟨g1, g2, g3, g4, g5⟩ := h
  simp only at g1 g2 g3 g4 g5
  obtain ⟨n1, n2⟩ := cnt_ar g3
  have hop := g1 o (by simp)
  have g1' : ∀ x ∈ c.stk, opOk x := fun x hx => g1 x (by simp [hx])
  have hlv : ∀ v ∈ left o.c c.vals, grd v = true := fun v hv => g2 v (List.mem_of_mem_take hv)
  simp only [List.length_cons] at g5
  unfold one at h1
  by_cases hk : o.k = 2
  · rw [if_pos hk] at h1
    cases h1
    rcases hop with ⟨h2, _⟩ | ⟨_, hg, hc⟩
    · omega
    · rw [hc] at n2
      simp only [noCl, Int.toNat_zero, Nat.sub_zero] at n2
      refine ⟨⟨g1', ?_, by simpa using n2, g4, by simp only; omega⟩, by simp only [mu]; omega⟩
      intro v hv
      simp only [List.mem_append, List.mem_singleton] at hv
      rcases hv with hv | rfl
      · exact g2 v hv
      · exact hg
  · rw [if_neg hk] at h1
    rcases hop with ⟨_, hkd, h0, h4, _⟩ | ⟨h2, _⟩
    rotate_left
    · exact absurd h2 hk
    split at h1
    · cases h1
    · rename_i h64
      have hnd := node_grd hkd h0 h4 g2 n1 (by omega)
      cases htb : tb (node o.c c.vals) with
      | some p =>
        rw [htb] at h1
        cases h1
        obtain ⟨t1, t2⟩ := ht _ _ htb
        refine ⟨⟨g1', ?_, ?_, g4.many t2, by simp only; omega⟩, by simp only [mu]; omega⟩
        · intro v hv
          simp only [List.mem_append, List.mem_singleton] at hv
          rcases hv with hv | rfl
          · exact hlv v hv
          · exact t1
        · simp only [List.length_append, left_len, List.length_cons, List.length_nil]
          exact n2
      | none =>
        rw [htb] at h1
        simp only at h1
        cases hf : firstR rs (node o.c c.vals) with
        | none =>
          rw [hf] at h1
          cases h1
          refine ⟨⟨g1', ?_, ?_, g4.more hkd, by simp only; omega⟩, by simp only [mu]; omega⟩
          · intro v hv
            simp only [List.mem_append, List.mem_singleton] at hv
            rcases hv with hv | rfl
            · exact hlv v hv
            · exact hnd
          · simp only [List.length_append, left_len, List.length_cons, List.length_nil]
            exact n2
        | some p =>
          rw [hf] at h1
          simp only at h1
          split at h1
          · cases h1
          · rename_i hfu
            cases h1
            obtain ⟨r, hrm, hre, hmt⟩ := firstR_some hf
            obtain ⟨k1, k2, k3⟩ := todo_ok (hr r hrm) hmt hnd
            rw [hre] at k1 k2 k3
            refine ⟨⟨?_, hlv, ?_, g4.more hkd, ?_⟩, ?_⟩
            · intro x hx
              rcases List.mem_append.1 hx with hx | hx
              · exact k1 x hx
              · exact g1' x hx
            · simp only [left_len]
              rw [cnt_app, k3]
              exact n2
            · simp only [List.length_append]
              omega
            · simp only [mu, List.length_append]
              omega
theorem runN_enough {rs : List Rl} {tb : Tb} (hr : RsOk rs) (ht : TbOk tb) : ∀ (n m : Nat) (c : Cf), Rt c → mu c < n → mu c < m → runN rs tb n c = runN rs tb m c
  | 0, _, c, _, h, _ => by omega
  | _ + 1, 0, c, _, _, h => by omega
  | n + 1, m + 1, c, hc, h1, h2 => by
    obtain ⟨stk, vals, steps, heads, fuel⟩ := c
    unfold runN
    cases stk with
    | nil => rfl
    | cons o r =>
      simp only
      cases ho : one rs tb o ⟨r, vals, steps, heads, fuel⟩ with
      | stop e => rfl
      | go c' =>
        simp only
        obtain ⟨q1, q2⟩ := one_rt hr ht (c := ⟨r, vals, steps, heads, fuel⟩) hc ho
        simp only [mu, List.length_cons] at h1 h2 q2
        exact runN_enough hr ht n m c' q1 (by simp only [mu]; omega) (by simp only [mu]; omega)
theorem fin_nil (rs : List Rl) (tb : Tb) {V : List (List Cl)} {n : Int} {S : List ByteArray} {f : Int} : fin rs tb ⟨[], V, n, S, f⟩ = (⟨[], V, n, S, f⟩, 0) := rfl
theorem fin_go {rs : List Rl} {tb : Tb} (hr : RsOk rs) (ht : TbOk tb) {o : Opr} {r : List Opr} {V : List (List Cl)} {n : Int} {S : List ByteArray} {f : Int} {c' : Cf} (hc : Rt ⟨o :: r, V, n, S, f⟩) (h : one rs tb o ⟨r, V, n, S, f⟩ = .go c') : fin rs tb ⟨o :: r, V, n, S, f⟩ = fin rs tb c' ∧ Rt c' ∧ mu c' < mu ⟨o :: r, V, n, S, f⟩ := by
  obtain ⟨q1, q2⟩ := one_rt hr ht (c := ⟨r, V, n, S, f⟩) hc h
  simp only [mu] at q2
  refine ⟨?_, q1, by simp only [mu, List.length_cons]; omega⟩
  unfold fin
  rw [runN]
  simp only [h]
  exact runN_enough hr ht _ _ c' q1 (by simp only [mu, List.length_cons]; omega) (by omega)
theorem fin_stop {rs : List Rl} {tb : Tb} {o : Opr} {r : List Opr} {V : List (List Cl)} {n : Int} {S : List ByteArray} {f : Int} {e : Nat} (h : one rs tb o ⟨r, V, n, S, f⟩ = .stop e) : fin rs tb ⟨o :: r, V, n, S, f⟩ = (⟨o :: r, V, n, S, f⟩, e) := by
  unfold fin
  rw [runN]
  simp only [h]

def nx (rs : List Rl) (tb : Tb) (c : Cf) : Option Cf := match c.stk with
  | [] => none
  | o :: r => match one rs tb o ⟨r, c.vals, c.steps, c.heads, c.fuel⟩ with
    | .go d => some d
    | .stop _ => none
def ns (rs : List Rl) (tb : Tb) : Nat → Cf → Option Cf
  | 0, c => some c
  | n + 1, c => (nx rs tb c).bind (ns rs tb n)
/-- is there no next op, or can it not be done, and why -/
def halt (rs : List Rl) (tb : Tb) (c : Cf) : Option Nat := match c.stk with
  | [] => some 0
  | o :: r => match one rs tb o ⟨r, c.vals, c.steps, c.heads, c.fuel⟩ with
    | .go _ => none
    | .stop e => some e
theorem nx_cons {rs : List Rl} {tb : Tb} {o : Opr} {r : List Opr} {V : List (List Cl)} {n : Int} {S : List ByteArray} {f : Int} {d : Cf} (h : one rs tb o ⟨r, V, n, S, f⟩ = .go d) : nx rs tb ⟨o :: r, V, n, S, f⟩ = some d := by
  unfold nx; simp only [h]
theorem nx_inv {rs : List Rl} {tb : Tb} {c d : Cf} (h : nx rs tb c = some d) : ∃ o r, c.stk = o :: r ∧ one rs tb o ⟨r, c.vals, c.steps, c.heads, c.fuel⟩ = .go d := by
  unfold nx at h
  cases hs : c.stk with
  | nil => rw [hs] at h; cases h
  | cons o r =>
    rw [hs] at h
    simp only at h
    cases h1 : one rs tb o ⟨r, c.vals, c.steps, c.heads, c.fuel⟩ with
    | go x => rw [h1] at h; cases h; exact ⟨o, r, rfl, h1⟩
    | stop e => rw [h1] at h; cases h
theorem halt_nx {rs : List Rl} {tb : Tb} {c : Cf} {e : Nat} (h : halt rs tb c = some e) : nx rs tb c = none := by
  unfold halt at h
  unfold nx
  cases hs : c.stk with
  | nil => rfl
  | cons o r =>
    rw [hs] at h
    simp only at h ⊢
    cases h1 : one rs tb o ⟨r, c.vals, c.steps, c.heads, c.fuel⟩ with
    | go x => rw [h1] at h; cases h
    | stop e => rfl
theorem nx_halt {rs : List Rl} {tb : Tb} {c : Cf} (h : nx rs tb c = none) : ∃ e, halt rs tb c = some e := by
  unfold nx at h
  unfold halt
  cases hs : c.stk with
  | nil => exact ⟨0, rfl⟩
  | cons o r =>
    rw [hs] at h
    simp only at h ⊢
    cases h1 : one rs tb o ⟨r, c.vals, c.steps, c.heads, c.fuel⟩ with
    | go x => rw [h1] at h; cases h
    | stop e => exact ⟨e, rfl⟩
theorem ns_add {rs : List Rl} {tb : Tb} (n : Nat) : ∀ (m : Nat) (c : Cf), ns rs tb (m + n) c = (ns rs tb m c).bind (ns rs tb n)
  | 0, c => by rw [Nat.zero_add]; rfl
  | m + 1, c => by
    rw [show m + 1 + n = (m + n) + 1 by omega]
    simp only [ns]
    cases nx rs tb c with
    | none => rfl
    | some d => simp only [Option.bind_some]; exact ns_add n m d
theorem ns_trans {rs : List Rl} {tb : Tb} {m n : Nat} {a b c : Cf} (h : ns rs tb m a = some b) (k : ns rs tb n b = some c) : ns rs tb (m + n) a = some c := by
  rw [ns_add, h]; exact k
theorem ns_one {rs : List Rl} {tb : Tb} {a b : Cf} (h : nx rs tb a = some b) : ns rs tb 1 a = some b := by
  simp only [ns, h, Option.bind_some]
theorem ns_stuck {rs : List Rl} {tb : Tb} {n : Nat} {a b : Cf} (h : nx rs tb a = none) (k : ns rs tb n a = some b) : n = 0 ∧ b = a := by
  cases n with
  | zero => simp only [ns, Option.some.injEq] at k; exact ⟨rfl, k.symm⟩
  | succ n => simp only [ns, h] at k; cases k
/-- what a run passes, it goes on from -/
theorem ns_meet {rs : List Rl} {tb : Tb} {m n : Nat} {a b c : Cf} (h : ns rs tb m a = some b) (hb : nx rs tb b = none) (k : ns rs tb n a = some c) : n ≤ m ∧ ns rs tb (m - n) c = some b := by
  rcases Nat.lt_or_ge m n with hlt | hge
  · have e : n = m + (n - m) := by omega
    rw [e, ns_add, h] at k
    have := (ns_stuck hb k).1
    omega
  · refine ⟨hge, ?_⟩
    have e : m = n + (m - n) := by omega
    rw [e, ns_add, k] at h
    exact h
theorem ns_det {rs : List Rl} {tb : Tb} {m n : Nat} {a b c : Cf} (h : ns rs tb m a = some b) (hb : nx rs tb b = none) (k : ns rs tb n a = some c) (hc : nx rs tb c = none) : b = c := by
  obtain ⟨_, h2⟩ := ns_meet h hb k
  exact (ns_stuck hc h2).2
theorem fin_ns {rs : List Rl} {tb : Tb} (hr : RsOk rs) (ht : TbOk tb) : ∀ (n : Nat) {c d : Cf}, Rt c → ns rs tb n c = some d → fin rs tb c = fin rs tb d ∧ Rt d
  | 0, c, d, hc, h => by simp only [ns, Option.some.injEq] at h; subst h; exact ⟨rfl, hc⟩
  | n + 1, ⟨stk, V, m, S, f⟩, d, hc, h => by
    simp only [ns] at h
    cases h1 : nx rs tb ⟨stk, V, m, S, f⟩ with
    | none => rw [h1] at h; cases h
    | some x =>
      rw [h1] at h
      obtain ⟨o, r, e, h2⟩ := nx_inv h1
      simp only at e h2
      subst e
      obtain ⟨q1, q2, _⟩ := fin_go hr ht hc h2
      obtain ⟨p1, p2⟩ := fin_ns hr ht n q2 h
      exact ⟨q1.trans p1, p2⟩
theorem fin_halt {rs : List Rl} {tb : Tb} {c : Cf} {e : Nat} (h : halt rs tb c = some e) : fin rs tb c = (c, e) := by
  obtain ⟨stk, V, m, S, f⟩ := c
  unfold halt at h
  cases stk with
  | nil => simp only [Option.some.injEq] at h; subst h; exact fin_nil rs tb
  | cons o r =>
    simp only at h
    cases h1 : one rs tb o ⟨r, V, m, S, f⟩ with
    | go x => rw [h1] at h; cases h
    | stop e' => rw [h1] at h; cases h; exact fin_stop h1
theorem fin_ex {rs : List Rl} {tb : Tb} (hr : RsOk rs) (ht : TbOk tb) : ∀ (k : Nat) (c : Cf), mu c < k → Rt c → ∃ n d e, ns rs tb n c = some d ∧ halt rs tb d = some e ∧ fin rs tb c = (d, e) ∧ Rt d
  | 0, c, h, _ => by omega
  | k + 1, c, h, hc => by
    cases h1 : nx rs tb c with
    | none =>
      obtain ⟨e, he⟩ := nx_halt h1
      exact ⟨0, c, e, rfl, he, fin_halt he, hc⟩
    | some x =>
      obtain ⟨stk, V, m, S, f⟩ := c
      obtain ⟨o, r, e, h2⟩ := nx_inv h1
      simp only at e h2
      subst e
      obtain ⟨q1, q2, q3⟩ := fin_go hr ht hc h2
      obtain ⟨n, d, e, p1, p2, p3, p4⟩ := fin_ex hr ht k x (by omega) q2
      exact ⟨n + 1, d, e, by simp only [ns, h1, Option.bind_some]; exact p1, p2, q1.trans p3, p4⟩

/-- with so much fuel more -/
def Cf.sh (x : Int) (c : Cf) : Cf := ⟨c.stk, c.vals, c.steps, c.heads, c.fuel + x⟩
theorem one_sh {rs : List Rl} {tb : Tb} {o : Opr} {k : List Opr} {V : List (List Cl)} {n : Int} {S : List ByteArray} {f : Int} {d : Cf} (h : one rs tb o ⟨k, V, n, S, f⟩ = .go d) : ((d.fuel = f ∧ d.steps = n) ∨ (0 < f ∧ d.fuel = f - 1 ∧ d.steps = inc n)) ∧ ∀ x, (d.fuel = f ∨ 0 ≤ d.fuel + x) → one rs tb o ⟨k, V, n, S, f + x⟩ = .go ⟨d.stk, d.vals, d.steps, d.heads, d.fuel + x⟩ := by
  unfold one at h
  simp only at h
  by_cases hk : o.k = 2
  · rw [if_pos hk] at h
    cases h
    refine ⟨.inl ⟨rfl, rfl⟩, fun x _ => ?_⟩
    unfold one
    rw [if_pos hk]
  · rw [if_neg hk] at h
    by_cases h64 : 64 < (node o.c V).length
    · rw [if_pos h64] at h; cases h
    · rw [if_neg h64] at h
      cases ht : tb (node o.c V) with
      | some p =>
        rw [ht] at h
        cases h
        refine ⟨.inl ⟨rfl, rfl⟩, fun x _ => ?_⟩
        unfold one
        simp only
        rw [if_neg hk, if_neg h64, ht]
      | none =>
        rw [ht] at h
        simp only at h
        cases hf : firstR rs (node o.c V) with
        | none =>
          rw [hf] at h
          cases h
          refine ⟨.inl ⟨rfl, rfl⟩, fun x _ => ?_⟩
          unfold one
          simp only
          rw [if_neg hk, if_neg h64, ht]
          simp only [hf]
        | some p =>
          rw [hf] at h
          simp only at h
          by_cases hfu : f ≤ 0
          · rw [if_pos hfu] at h; cases h
          · rw [if_neg hfu] at h
            cases h
            refine ⟨.inr ⟨by omega, rfl, rfl⟩, fun x hx => ?_⟩
            simp only at hx
            unfold one
            simp only
            rw [if_neg hk, if_neg h64, ht]
            simp only [hf]
            rw [if_neg (by omega)]
            congr 2
            omega
theorem nx_sh {rs : List Rl} {tb : Tb} {c d : Cf} (h : nx rs tb c = some d) : ((d.fuel = c.fuel ∧ d.steps = c.steps) ∨ (0 < c.fuel ∧ d.fuel = c.fuel - 1 ∧ d.steps = inc c.steps)) ∧ ∀ x, (d.fuel = c.fuel ∨ 0 ≤ d.fuel + x) → nx rs tb (c.sh x) = some (d.sh x) := by
  obtain ⟨o, r, e, h1⟩ := nx_inv h
  obtain ⟨q1, q2⟩ := one_sh h1
  refine ⟨q1, fun x hx => ?_⟩
  have := q2 x hx
  unfold nx
  simp only [Cf.sh] at this ⊢
  simp only [e, this]
theorem ns_fuel {rs : List Rl} {tb : Tb} : ∀ (n : Nat) {c d : Cf}, ns rs tb n c = some d → d.fuel ≤ c.fuel ∧ (d.fuel = c.fuel ∨ 0 ≤ d.fuel)
  | 0, c, d, h => by simp only [ns, Option.some.injEq] at h; subst h; exact ⟨Int.le_refl _, .inl rfl⟩
  | n + 1, c, d, h => by
    simp only [ns] at h
    cases h1 : nx rs tb c with
    | none => rw [h1] at h; cases h
    | some x =>
      rw [h1] at h
      obtain ⟨q1, q2⟩ := ns_fuel n h
      rcases (nx_sh h1).1 with ⟨a, _⟩ | ⟨a, b, _⟩
      · omega
      · omega
theorem ns_sh {rs : List Rl} {tb : Tb} (x : Int) : ∀ (n : Nat) {c d : Cf}, ns rs tb n c = some d → (d.fuel = c.fuel ∨ 0 ≤ d.fuel + x) → ns rs tb n (c.sh x) = some (d.sh x)
  | 0, c, d, h, _ => by simp only [ns, Option.some.injEq] at h; subst h; rfl
  | n + 1, c, d, h, hx => by
    simp only [ns] at h
    cases h1 : nx rs tb c with
    | none => rw [h1] at h; cases h
    | some y =>
      rw [h1] at h
      obtain ⟨q1, q2⟩ := nx_sh h1
      obtain ⟨p1, _⟩ := ns_fuel n h
      have := q2 x (by rcases q1 with ⟨a, _⟩ | ⟨a, b, _⟩ <;> omega)
      simp only [ns, this, Option.bind_some]
      exact ns_sh x n h (by rcases q1 with ⟨a, _⟩ | ⟨a, b, _⟩ <;> omega)
theorem ns_steps {rs : List Rl} {tb : Tb} : ∀ (n : Nat) {c d : Cf}, ns rs tb n c = some d → 0 ≤ c.steps → c.steps + (c.fuel - d.fuel) ≤ 9223372036854775807 → d.steps = c.steps + (c.fuel - d.fuel)
  | 0, c, d, h, _, _ => by simp only [ns, Option.some.injEq] at h; subst h; omega
  | n + 1, c, d, h, h0, hl => by
    simp only [ns] at h
    cases h1 : nx rs tb c with
    | none => rw [h1] at h; cases h
    | some y =>
      rw [h1] at h
      obtain ⟨p1, _⟩ := ns_fuel n h
      rcases (nx_sh h1).1 with ⟨a, b⟩ | ⟨a, b, e⟩
      · have := ns_steps n h (by omega) (by omega)
        omega
      · have e2 : inc c.steps = c.steps + 1 := by unfold inc wrap64; omega
        have := ns_steps n h (by omega) (by omega)
        omega
theorem halt_sh {rs : List Rl} {tb : Tb} {c : Cf} {e : Nat} (h : halt rs tb c = some e) : (e = 0 ∧ c.stk = [] ∨ e = 6 ∨ e = 14 ∧ c.fuel ≤ 0) ∧ ∀ x, (e = 14 → c.fuel + x ≤ 0) → halt rs tb (c.sh x) = some e := by
  obtain ⟨stk, V, n, S, f⟩ := c
  show _ ∧ ∀ x, _ → halt rs tb ⟨stk, V, n, S, f + x⟩ = some e
  cases stk with
  | nil => cases h; exact ⟨.inl ⟨rfl, rfl⟩, fun x _ => rfl⟩
  | cons o r =>
    unfold halt at h ⊢
    simp only at h ⊢
    unfold one at h ⊢
    simp only at h ⊢
    by_cases hk : o.k = 2
    · rw [if_pos hk] at h; cases h
    · rw [if_neg hk] at h
      by_cases h64 : 64 < (node o.c V).length
      · rw [if_pos h64] at h
        cases h
        exact ⟨.inr (.inl rfl), fun x _ => by rw [if_neg hk, if_pos h64]⟩
      · rw [if_neg h64] at h
        cases ht : tb (node o.c V) with
        | some p => rw [ht] at h; cases h
        | none =>
          rw [ht] at h
          simp only at h
          cases hf : firstR rs (node o.c V) with
          | none => rw [hf] at h; cases h
          | some p =>
            rw [hf] at h
            simp only at h
            by_cases hfu : f ≤ 0
            · rw [if_pos hfu] at h
              cases h
              refine ⟨.inr (.inr ⟨rfl, hfu⟩), fun x hx => ?_⟩
              have := hx rfl
              rw [if_neg hk, if_neg h64]
              simp only
              rw [if_pos this]
            · rw [if_neg hfu] at h; cases h

end Go.Proofs.Ytbdlokijednoiaa
