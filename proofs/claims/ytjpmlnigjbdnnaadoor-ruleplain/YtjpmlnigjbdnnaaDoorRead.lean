/-
  The reader as a plain function; and what it makes of a text.
-/
import Derived.Test.YtjpmlnigjbdnnaaDoorPlain
namespace Go.Proofs.YtjpmlnigjbdnnaaDoor
open Go.Lib
set_option linter.unusedVariables false
set_option maxRecDepth 100000

/-- a letter or a digit -/
def isS (c : UInt8) : Bool := sg c != 0
/-- where the piece of letters and digits ends -/
def endw (l : List UInt8) (k : Nat) : Nat := k + ((l.drop k).takeWhile isS).length
/-- what is read: a fault and its place, or cells and the place behind -/
inductive R where
  | bad (k e : Nat)
  | ok (L : List Cl) (k : Nat)
def setA (L : List Cl) (i : Nat) (a : Int) : List Cl := L.modify i fun c => ⟨c.nm, a⟩
/-- the arguments: at most m more, the first one behind the place k -/
def args (f : Nat → List Cl → R) (l : List UInt8) (own : Nat) : Nat → Nat → List Cl → R
  | 0, k, L => .bad k 5
  | m + 1, k, L => match f (k + 1) L with
    | .bad j e => .bad j e
    | .ok M j =>
      if l[j]? = some 41 then .ok (setA M own ((4 - m : Nat) : Int)) (j + 1)
      else if l[j]? = some 44 then (if m = 0 then .bad j 5 else args f l own m j (setA M own ((4 - m : Nat) : Int)))
      else .bad j 3
/-- a term, behind the cells L -/
def rd (s : ByteArray) : Nat → Nat → List Cl → R
  | 0, k, L => .bad k 6
  | f + 1, k, L =>
    if endw s.data.toList k = k then .bad k 3
    else if kind (s.extract k (endw s.data.toList k)).data.toList = 0 then .bad k 4
    else if L.length = 64 then .bad k 6
    else if s.data.toList[endw s.data.toList k]? = some 40 then
      (if kind (s.extract k (endw s.data.toList k)).data.toList = 2 then .bad (endw s.data.toList k) 5
       else args (rd s f) s.data.toList L.length 4 (endw s.data.toList k) (L ++ [⟨s.extract k (endw s.data.toList k), 0⟩]))
    else .ok (L ++ [⟨s.extract k (endw s.data.toList k), 0⟩]) (endw s.data.toList k)

theorem endw_ge (l : List UInt8) (k : Nat) : k ≤ endw l k := by unfold endw; omega
theorem endw_le (l : List UInt8) (k : Nat) (h : k ≤ l.length) : endw l k ≤ l.length := by
  unfold endw
  have h1 := (List.takeWhile_prefix isS (l := l.drop k)).length_le
  rw [List.length_drop] at h1
  omega
theorem endw_hit {l : List UInt8} {k : Nat} {c : UInt8} (h : l[k]? = some c) (hc : isS c = true) : endw l k = endw l (k + 1) := by
  obtain ⟨hk, rfl⟩ := List.getElem?_eq_some_iff.1 h
  unfold endw
  rw [List.drop_eq_getElem_cons hk, List.takeWhile_cons, if_pos hc, List.length_cons]
  omega
theorem endw_miss {l : List UInt8} {k : Nat} {c : UInt8} (h : l[k]? = some c) (hc : isS c = false) : endw l k = k := by
  obtain ⟨hk, rfl⟩ := List.getElem?_eq_some_iff.1 h
  unfold endw
  rw [List.drop_eq_getElem_cons hk, List.takeWhile_cons, if_neg (by rw [hc]; decide)]
  rfl
theorem endw_end {l : List UInt8} {k : Nat} (h : l.length ≤ k) : endw l k = k := by
  unfold endw
  rw [List.drop_eq_nil_of_le h]
  rfl
theorem piece_data (s : ByteArray) (k : Nat) : (s.extract k (endw s.data.toList k)).data.toList = (s.data.toList.drop k).takeWhile isS := by
  rw [extract_data]
  unfold endw
  rw [show k + ((s.data.toList.drop k).takeWhile isS).length - k = ((s.data.toList.drop k).takeWhile isS).length by omega]
  have := List.takeWhile_prefix isS (l := s.data.toList.drop k)
  exact (List.prefix_iff_eq_take.1 this).symm
theorem drop_tw (p : UInt8 → Bool) : ∀ x : List UInt8, x.drop (x.takeWhile p).length = x.dropWhile p
  | [] => rfl
  | c :: r => by
    rw [List.takeWhile_cons, List.dropWhile_cons]
    split
    · rw [List.length_cons, List.drop_succ_cons]; exact drop_tw p r
    · rfl
theorem piece_drop (s : ByteArray) (k : Nat) : s.data.toList.drop k = (s.extract k (endw s.data.toList k)).data.toList ++ s.data.toList.drop (endw s.data.toList k) := by
  rw [piece_data]
  unfold endw
  rw [← List.drop_drop, drop_tw, List.takeWhile_append_dropWhile]
theorem drop_at {l : List UInt8} {k : Nat} {c : UInt8} (h : l[k]? = some c) : l.drop k = c :: l.drop (k + 1) := by
  obtain ⟨hk, rfl⟩ := List.getElem?_eq_some_iff.1 h
  exact List.drop_eq_getElem_cons hk

theorem setA_at (nm : ByteArray) (a b : Int) (X : List Cl) : ∀ P : List Cl, setA (P ++ ⟨nm, a⟩ :: X) P.length b = P ++ ⟨nm, b⟩ :: X
  | [] => rfl
  | c :: P => by
    have := setA_at nm a b X P
    unfold setA at this ⊢
    rw [List.cons_append, List.length_cons, List.modify_succ_cons, this]
    rfl
theorem setA_length (L : List Cl) (i : Nat) (b : Int) : (setA L i b).length = L.length := by unfold setA; simp

/-- what a term that was read is: text and cells of one tree -/
structure Got (l : List UInt8) (k : Nat) (L : List Cl) (M : List Cl) (j : Nat) (t : Fo) : Prop where
  one : t.len = 1
  cells : M = L ++ t.flat
  fine : ∀ c ∈ t.flat, cellErr c = 0
  lt : k < j
  le : j ≤ l.length
  text : l.drop k = t.text ++ l.drop j
  small : M.length ≤ 64

theorem lt_of_get {l : List UInt8} {k : Nat} {c : UInt8} (h : l[k]? = some c) : k < l.length := (List.getElem?_eq_some_iff.1 h).1
theorem one_cons {t : Fo} (h : t.len = 1) : ∃ nm k, t = .cons nm k .nil := by
  cases t with
  | nil => cases h
  | cons nm k r => exact ⟨nm, k, by rw [Fo.len_zero (f := r) (by simp [Fo.len] at h; omega)]⟩

theorem args_ok (s : ByteArray) (f : Nat) (ih : ∀ k L M j, rd s f k L = .ok M j → k ≤ s.data.toList.length → L.length ≤ 64 → ∃ t, Got s.data.toList k L M j t) :
    ∀ (m k : Nat) (P : List Cl) (nm : ByteArray) (a : Int) (X M : List Cl) (j : Nat), args (rd s f) s.data.toList P.length m k (P ++ ⟨nm, a⟩ :: X) = .ok M j → m ≤ 4 → k < s.data.toList.length → (P ++ ⟨nm, a⟩ :: X).length ≤ 64 →
      ∃ E : Fo, 1 ≤ E.len ∧ E.len ≤ m ∧ M = P ++ ⟨nm, ((4 - m + E.len : Nat) : Int)⟩ :: (X ++ E.flat) ∧ (∀ c ∈ E.flat, cellErr c = 0) ∧ k + 1 < j ∧ j ≤ s.data.toList.length ∧ s.data.toList.drop (k + 1) = E.text ++ 41 :: s.data.toList.drop j ∧ M.length ≤ 64 := by
  intro m
  induction m with
  | zero => intro k P nm a X M j h; cases h
  | succ m im =>
    intro k P nm a X M j h hm hk hX
    rw [args] at h
    cases h1 : rd s f (k + 1) (P ++ ⟨nm, a⟩ :: X) with
    | bad j1 e1 => rw [h1] at h; cases h
    | ok M1 j1 =>
      rw [h1] at h
      simp only at h
      obtain ⟨t, g⟩ := ih _ _ _ _ h1 (by omega) hX
      have hcells : M1 = P ++ ⟨nm, a⟩ :: (X ++ t.flat) := by rw [g.cells]; simp
      have hset : setA M1 P.length ((4 - m : Nat) : Int) = P ++ ⟨nm, ((4 - m : Nat) : Int)⟩ :: (X ++ t.flat) := by rw [hcells, setA_at]
      have hlen : (P ++ (⟨nm, ((4 - m : Nat) : Int)⟩ : Cl) :: (X ++ t.flat)).length ≤ 64 := by
        have := g.small
        rw [hcells] at this
        simpa using this
      rw [hset] at h
      by_cases h41 : s.data.toList[j1]? = some 41
      · rw [if_pos h41] at h
        cases h
        have hj := lt_of_get h41
        have g1 := g.lt
        refine ⟨t, by rw [g.one]; exact Nat.le_refl _, by rw [g.one]; omega, ?_, g.fine, by omega, by omega, ?_, hlen⟩
        · rw [g.one, show 4 - (m + 1) + 1 = 4 - m by omega]
        · rw [g.text, drop_at h41]
      · rw [if_neg h41] at h
        by_cases h44 : s.data.toList[j1]? = some 44
        · rw [if_pos h44] at h
          by_cases hm0 : m = 0
          · rw [if_pos hm0] at h; cases h
          · rw [if_neg hm0] at h
            have hj := lt_of_get h44
            obtain ⟨E, e1, e2, e3, e4, e5, e6, e7, e8⟩ := im _ P nm _ (X ++ t.flat) M j h (by omega) hj hlen
            obtain ⟨n1, k1, rfl⟩ := one_cons g.one
            have g1 := g.lt
            refine ⟨.cons n1 k1 E, by simp [Fo.len], by simp [Fo.len]; omega, ?_, ?_, by omega, e6, ?_, e8⟩
            · rw [e3]
              simp only [Fo.len, Fo.flat, List.append_nil, List.append_assoc, List.cons_append]
              rw [show 4 - (m + 1) + (E.len + 1) = 4 - m + E.len by omega]
            · intro c hc
              simp only [Fo.flat, List.mem_cons, List.mem_append] at hc
              rcases hc with rfl | hc | hc
              · exact g.fine _ (by simp [Fo.flat])
              · exact g.fine _ (by simp [Fo.flat, hc])
              · exact e4 c hc
            · rw [g.text, drop_at h44, e7]
              simp only [Fo.text, Fo.len, moreC, ↓reduceIte, List.append_nil]
              rw [if_neg (show ¬ E.len = 0 by omega)]
              simp
        · rw [if_neg h44] at h; cases h

theorem rd_ok (s : ByteArray) : ∀ (f k : Nat) (L M : List Cl) (j : Nat), rd s f k L = .ok M j → k ≤ s.data.toList.length → L.length ≤ 64 → ∃ t, Got s.data.toList k L M j t := by
  intro f
  induction f with
  | zero => intro k L M j h; cases h
  | succ f ih =>
    intro k L M j h hk hL
    rw [rd] at h
    have ge := endw_ge s.data.toList k
    have le := endw_le s.data.toList k hk
    have hd := piece_drop s k
    generalize hw : endw s.data.toList k = to at h ge le hd
    generalize hn : s.extract k to = nm at h hd
    by_cases h1 : to = k
    · rw [if_pos h1] at h; cases h
    rw [if_neg h1] at h
    by_cases h2 : kind nm.data.toList = 0
    · rw [if_pos h2] at h; cases h
    rw [if_neg h2] at h
    by_cases h3 : L.length = 64
    · rw [if_pos h3] at h; cases h
    rw [if_neg h3] at h
    by_cases h4 : s.data.toList[to]? = some 40
    · rw [if_pos h4] at h
      by_cases h5 : kind nm.data.toList = 2
      · rw [if_pos h5] at h; cases h
      rw [if_neg h5] at h
      obtain ⟨E, e1, e2, e3, e4, e5, e6, e7, e8⟩ := args_ok s f ih 4 to L nm 0 [] M j h (Nat.le_refl _) (lt_of_get h4) (by simp; omega)
      refine ⟨.cons nm E .nil, ⟨rfl, ?_, ?_, by omega, e6, ?_, e8⟩⟩
      · rw [e3]; simp [Fo.flat]
      · intro c hc
        simp only [Fo.flat, List.append_nil, List.mem_cons] at hc
        rcases hc with rfl | hc
        · unfold cellErr
          rw [if_neg h2, if_neg]
          simp only [if_neg h5]
          omega
        · exact e4 c hc
      · rw [hd, drop_at h4, e7]
        simp only [Fo.text, Fo.len, wrapP, moreC, ↓reduceIte, List.append_nil]
        rw [if_neg (show ¬ E.len = 0 by omega)]
        simp
    · rw [if_neg h4] at h
      cases h
      refine ⟨.cons nm .nil .nil, ⟨rfl, rfl, ?_, by omega, le, ?_, by simp; omega⟩⟩
      · intro c hc
        simp only [Fo.flat, List.append_nil, List.mem_cons, List.not_mem_nil, or_false] at hc
        subst hc
        unfold cellErr
        rw [if_neg h2, if_neg]
        simp only [Fo.len]
        split <;> omega
      · rw [hd]
        simp [Fo.text, Fo.len, wrapP, moreC]

theorem args_bad (s : ByteArray) (f : Nat) (ih : ∀ k L j e, rd s f k L = .bad j e → k ≤ s.data.toList.length → L.length ≤ 64 → j ≤ s.data.toList.length ∧ 0 < e ∧ e ≤ 6) :
    ∀ (m k : Nat) (own : Nat) (L : List Cl) (j e : Nat), args (rd s f) s.data.toList own m k L = .bad j e → k < s.data.toList.length → L.length ≤ 64 → j ≤ s.data.toList.length ∧ 0 < e ∧ e ≤ 6 := by
  intro m
  induction m with
  | zero => intro k own L j e h hk hL; cases h; omega
  | succ m im =>
    intro k own L j e h hk hL
    rw [args] at h
    cases h1 : rd s f (k + 1) L with
    | bad j1 e1 => rw [h1] at h; cases h; exact ih _ _ _ _ h1 (by omega) hL
    | ok M1 j1 =>
      rw [h1] at h
      simp only at h
      obtain ⟨t, g⟩ := rd_ok s f _ _ _ _ h1 (by omega) hL
      by_cases h41 : s.data.toList[j1]? = some 41
      · rw [if_pos h41] at h; cases h
      · rw [if_neg h41] at h
        have := g.le
        by_cases h44 : s.data.toList[j1]? = some 44
        · rw [if_pos h44] at h
          by_cases hm0 : m = 0
          · rw [if_pos hm0] at h; cases h; omega
          · rw [if_neg hm0] at h
            exact im _ _ _ _ _ h (lt_of_get h44) (by rw [setA_length]; exact g.small)
        · rw [if_neg h44] at h; cases h; omega
theorem rd_bad (s : ByteArray) : ∀ (f k : Nat) (L : List Cl) (j e : Nat), rd s f k L = .bad j e → k ≤ s.data.toList.length → L.length ≤ 64 → j ≤ s.data.toList.length ∧ 0 < e ∧ e ≤ 6 := by
  intro f
  induction f with
  | zero => intro k L j e h hk hL; cases h; omega
  | succ f ih =>
    intro k L j e h hk hL
    rw [rd] at h
    have ge := endw_ge s.data.toList k
    have le := endw_le s.data.toList k hk
    generalize hw : endw s.data.toList k = to at h ge le
    generalize hn : s.extract k to = nm at h
    by_cases h1 : to = k
    · rw [if_pos h1] at h; cases h; omega
    rw [if_neg h1] at h
    by_cases h2 : kind nm.data.toList = 0
    · rw [if_pos h2] at h; cases h; omega
    rw [if_neg h2] at h
    by_cases h3 : L.length = 64
    · rw [if_pos h3] at h; cases h; omega
    rw [if_neg h3] at h
    by_cases h4 : s.data.toList[to]? = some 40
    · rw [if_pos h4] at h
      by_cases h5 : kind nm.data.toList = 2
      · rw [if_pos h5] at h; cases h; omega
      rw [if_neg h5] at h
      exact args_bad s f ih 4 to _ _ _ _ h (lt_of_get h4) (by simp; omega)
    · rw [if_neg h4] at h; cases h

/-- what Parse answers: a fault (its place, its error), or cells -/
def parse (s : ByteArray) : R :=
  if 1024 < s.size then .bad 0 2
  else match rd s 65 0 [] with
    | .bad j e => .bad j e
    | .ok M j => if j < s.size then .bad j 3 else .ok M 0

end Go.Proofs.YtjpmlnigjbdnnaaDoor
