/-
  Layer 5 as plain functions of lists: where a pattern fits, what it becomes, and what is known of both.
-/
import Derived.Test.YtjpmlnigjbdnnaaDoorVars
import Derived.Test.YtjpmlnigjbdnnaaDoorKids
namespace Go.Proofs.YtjpmlnigjbdnnaaDoor
open Go.RowKit
set_option linter.unusedVariables false
set_option maxRecDepth 100000
set_option linter.unusedSimpArgs false

/-- a bind -/
structure Bd where
  nm : ByteArray
  val : List Cl
deriving DecidableEq
def look : List Bd → ByteArray → Option (List Cl)
  | [], _ => none
  | b :: r, nm => if b.nm = nm then some b.val else look r nm
def isV (c : Cl) : Bool := decide (kind c.nm.data.toList = 2)
/-- the rest of a pattern against the rest of a term, with what its variables stand for so far -/
def fitL : List Cl → List Cl → List Bd → Option (List Bd)
  | [], [], acc => some acc
  | [], _ :: _, acc => none
  | c :: p, t, acc =>
    if isV c then
      match fo 1 t with
      | none => none
      | some r => match look acc c.nm with
        | none => fitL p r (acc ++ [⟨c.nm, t.take (t.length - r.length)⟩])
        | some v => if v = t.take (t.length - r.length) then fitL p r acc else none
    else match t with
      | [] => none
      | d :: t' => if d = c then fitL p t' acc else none
/-- what a pattern becomes -/
def sub (s : ByteArray → List Cl) (p : List Cl) : List Cl := p.flatMap fun c => if isV c then s c.nm else [c]
def at_ (l : List Bd) (nm : ByteArray) : List Cl := (look l nm).getD []

theorem sub_cons (s : ByteArray → List Cl) (c : Cl) (p : List Cl) : sub s (c :: p) = (if isV c then s c.nm else [c]) ++ sub s p := rfl
theorem look_append (l m : List Bd) (nm : ByteArray) : look (l ++ m) nm = match look l nm with | some v => some v | none => look m nm := by
  induction l with
  | nil => rfl
  | cons b r ih =>
    simp only [List.cons_append, look]
    split
    · rfl
    · exact ih
theorem look_none {l : List Bd} {nm : ByteArray} : look l nm = none ↔ inS nm (l.map (·.nm)) = false := by
  induction l with
  | nil => simp [look, inS]
  | cons b r ih =>
    simp only [look, List.map_cons]
    by_cases h : b.nm = nm
    · simp [h, inS]
    · rw [if_neg h, ih]; simp [inS, h]
theorem look_mem {l : List Bd} {nm : ByteArray} {v : List Cl} (h : look l nm = some v) : (⟨nm, v⟩ : Bd) ∈ l := by
  induction l with
  | nil => cases h
  | cons b r ih =>
    simp only [look] at h
    by_cases e : b.nm = nm
    · rw [if_pos e] at h; cases h; subst e; exact List.mem_cons_self
    · rw [if_neg e] at h; exact List.mem_cons_of_mem _ (ih h)
theorem piece_of {t r : List Cl} (h : fo 1 t = some r) : t = t.take (t.length - r.length) ++ r ∧ fo 1 (t.take (t.length - r.length)) = some [] := by
  obtain ⟨a, rfl, h2, _⟩ := fo_suffix _ _ _ h
  have e : (a ++ r).take ((a ++ r).length - r.length) = a := by
    rw [List.length_append, Nat.add_sub_cancel, List.take_left]
  rw [e]
  exact ⟨rfl, h2⟩

/-- what is told makes the pattern to the term -/
theorem fit_sound : ∀ (p t : List Cl) (acc acc' : List Bd), fitL p t acc = some acc' → (∀ nm v, look acc nm = some v → look acc' nm = some v) ∧ t = sub (at_ acc') p ∧ (∀ c ∈ p, isV c = true → (look acc' c.nm).isSome = true) ∧ acc'.map (·.nm) = p.foldl varStep (acc.map (·.nm))
  | [], [], acc, acc', h => by cases h; exact ⟨fun _ _ h => h, rfl, by simp, rfl⟩
  | [], _ :: _, acc, acc', h => by cases h
  | c :: p, t, acc, acc', h => by
    rw [fitL.eq_def] at h
    simp only at h
    by_cases hv : isV c = true
    · rw [if_pos hv] at h
      cases h1 : fo 1 t with
      | none => rw [h1] at h; cases h
      | some r =>
        rw [h1] at h
        simp only at h
        obtain ⟨ht, _⟩ := piece_of h1
        generalize t.take (t.length - r.length) = x at h ht
        have hk : kind c.nm.data.toList = 2 := by unfold isV at hv; simpa using hv
        cases h2 : look acc c.nm with
        | none =>
          rw [h2] at h
          obtain ⟨e1, e2, e3, e4⟩ := fit_sound p r _ acc' h
          have hl : look acc' c.nm = some x := e1 c.nm x (by rw [look_append, h2]; simp [look])
          refine ⟨fun nm v hn => e1 nm v (by rw [look_append, hn]), ?_, ?_, ?_⟩
          · rw [sub_cons, if_pos hv, ← e2, ht]; unfold at_; rw [hl]; rfl
          · intro d hd hd2
            rcases List.mem_cons.1 hd with rfl | hd
            · rw [hl]; rfl
            · exact e3 d hd hd2
          · rw [e4, List.foldl_cons, List.map_append]
            congr 1
            unfold varStep
            rw [if_pos ⟨hk, look_none.1 h2⟩]
            rfl
        | some v =>
          rw [h2] at h
          simp only at h
          by_cases hx : v = x
          · rw [if_pos hx] at h
            subst hx
            obtain ⟨e1, e2, e3, e4⟩ := fit_sound p r _ acc' h
            have hl := e1 c.nm v h2
            refine ⟨e1, ?_, ?_, ?_⟩
            · rw [sub_cons, if_pos hv, ← e2, ht]; unfold at_; rw [hl]; rfl
            · intro d hd hd2
              rcases List.mem_cons.1 hd with rfl | hd
              · rw [hl]; rfl
              · exact e3 d hd hd2
            · rw [e4, List.foldl_cons]
              congr 1
              unfold varStep
              rw [if_neg]
              rintro ⟨_, hn⟩
              rw [← look_none, h2] at hn
              cases hn
          · rw [if_neg hx] at h; cases h
    · rw [if_neg hv] at h
      cases t with
      | nil => cases h
      | cons d t =>
        simp only at h
        by_cases hd : d = c
        · rw [if_pos hd] at h
          subst hd
          obtain ⟨e1, e2, e3, e4⟩ := fit_sound p t _ acc' h
          refine ⟨e1, ?_, ?_, ?_⟩
          · rw [sub_cons, if_neg hv, ← e2]; rfl
          · intro x hx hx2
            rcases List.mem_cons.1 hx with rfl | hx
            · exact absurd hx2 hv
            · exact e3 x hx hx2
          · rw [e4, List.foldl_cons]
            congr 1
            unfold varStep
            rw [if_neg]
            rintro ⟨hk, _⟩
            exact hv (by unfold isV; simpa using hk)
        · rw [if_neg hd] at h; cases h
/-- what is told are right terms -/
theorem fit_right : ∀ (p t : List Cl) (acc acc' : List Bd), fitL p t acc = some acc' → (∀ c ∈ t, cellErr c = 0) → t.length ≤ 64 → (∀ b ∈ acc, check b.val = 0 ∧ kind b.nm.data.toList = 2) → ∀ b ∈ acc', check b.val = 0 ∧ kind b.nm.data.toList = 2
  | [], [], acc, acc', h, _, _, ha => by cases h; exact ha
  | [], _ :: _, acc, acc', h, _, _, _ => by cases h
  | c :: p, t, acc, acc', h, hc, hl, ha => by
    rw [fitL.eq_def] at h
    simp only at h
    by_cases hv : isV c = true
    · rw [if_pos hv] at h
      cases h1 : fo 1 t with
      | none => rw [h1] at h; cases h
      | some r =>
        rw [h1] at h
        simp only at h
        obtain ⟨ht, hf⟩ := piece_of h1
        generalize t.take (t.length - r.length) = x at h ht hf
        have hk : kind c.nm.data.toList = 2 := by unfold isV at hv; simpa using hv
        have hr1 : ∀ d ∈ r, cellErr d = 0 := fun d hd => hc d (by rw [ht]; simp [hd])
        have hlen := congrArg List.length ht
        rw [List.length_append] at hlen
        have hx1 : check x = 0 := check_ok (by omega) (cellsErr_zero.2 fun d hd => hc d (by rw [ht]; simp [hd])) hf
        cases h2 : look acc c.nm with
        | none =>
          rw [h2] at h
          refine fit_right p r _ acc' h hr1 (by omega) ?_
          intro b hb
          rcases List.mem_append.1 hb with hb | hb
          · exact ha b hb
          · simp at hb; subst hb; exact ⟨hx1, hk⟩
        | some v =>
          rw [h2] at h
          simp only at h
          split at h
          · exact fit_right p r _ acc' h hr1 (by omega) ha
          · cases h
    · rw [if_neg hv] at h
      cases t with
      | nil => cases h
      | cons d t =>
        simp only at h
        split at h
        · exact fit_right p t _ acc' h (fun e he => hc e (by simp [he])) (by simp at hl; omega) ha
        · cases h
/-- a pattern fits whatever it becomes -/
theorem fit_complete (s : ByteArray → List Cl) : ∀ (p : List Cl) (acc : List Bd), (∀ c ∈ p, isV c = true → fo 1 (s c.nm) = some []) → (∀ nm v, look acc nm = some v → v = s nm) → ∃ acc', fitL p (sub s p) acc = some acc' ∧ ∀ nm v, look acc' nm = some v → v = s nm
  | [], acc, _, ha => ⟨acc, rfl, ha⟩
  | c :: p, acc, hs, ha => by
    rw [sub_cons]
    by_cases hv : isV c = true
    · have h1 : fo 1 (s c.nm ++ sub s p) = some (sub s p) := by have := fo_app _ _ _ (sub s p) (hs c (by simp) hv); simpa using this
      rw [if_pos hv]
      have e : (s c.nm ++ sub s p).take ((s c.nm ++ sub s p).length - (sub s p).length) = s c.nm := by rw [List.length_append, Nat.add_sub_cancel, List.take_left]
      rw [fitL.eq_def]
      simp only [hv, if_true, h1, e]
      cases h2 : look acc c.nm with
      | none =>
        simp only
        refine fit_complete s p _ (fun d hd => hs d (by simp [hd])) ?_
        intro nm v hn
        rw [look_append] at hn
        cases h3 : look acc nm with
        | some u => rw [h3] at hn; cases hn; exact ha nm _ h3
        | none =>
          rw [h3] at hn
          simp only [look] at hn
          by_cases e2 : c.nm = nm
          · rw [if_pos e2] at hn; cases hn; rw [e2]
          · rw [if_neg e2] at hn; cases hn
      | some v =>
        simp only
        rw [if_pos (ha _ _ h2)]
        exact fit_complete s p _ (fun d hd => hs d (by simp [hd])) ha
    · rw [if_neg hv, fitL.eq_def]
      simp only [hv, List.cons_append, List.nil_append, if_true]
      exact fit_complete s p _ (fun d hd => hs d (by simp [hd])) ha
/-- what becomes of terms one behind the other -/
theorem fo_sub (s : ByteArray → List Cl) : ∀ (p : List Cl) (n : Nat) (r : List Cl), fo n p = some r → (∀ c ∈ p, isV c = true → c.ar = 0 ∧ fo 1 (s c.nm) = some []) → fo n (sub s p) = some (sub s r)
  | p, 0, r, h, _ => by rw [fo_zero] at h ⊢; cases h; rfl
  | [], n + 1, r, h, _ => by cases h
  | c :: p, n + 1, r, h, hs => by
    rw [fo_cons] at h
    rw [sub_cons]
    by_cases hv : isV c = true
    · obtain ⟨h0, h1⟩ := hs c (by simp) hv
      rw [h0] at h
      simp only [Int.toNat_zero, Nat.zero_add] at h
      rw [if_pos hv, show n + 1 = 1 + n by omega, fo_add, fo_app _ _ _ (sub s p) h1]
      simp only [List.nil_append, Option.bind_some]
      exact fo_sub s p n r h (fun d hd => hs d (by simp [hd]))
    · rw [if_neg hv, List.cons_append, List.nil_append, fo_cons]
      exact fo_sub s p _ r h (fun d hd => hs d (by simp [hd]))

/-- the document's way: terms one beside the other -/
def fitF : Fo → Fo → List Bd → Option (List Bd)
  | .nil, .nil, acc => some acc
  | .cons nm k r, .cons nm' k' r', acc =>
    if kind nm.data.toList = 2 then
      match look acc nm with
      | none => fitF r r' (acc ++ [⟨nm, (Fo.cons nm' k' .nil).flat⟩])
      | some v => if v = (Fo.cons nm' k' .nil).flat then fitF r r' acc else none
    else if nm' = nm ∧ k'.len = k.len then (fitF k k' acc).bind (fitF r r') else none
  | _, _, _ => none
/-- variables have no arguments -/
def Plainly : Fo → Prop
  | .nil => True
  | .cons nm k r => (kind nm.data.toList = 2 → k = .nil) ∧ Plainly k ∧ Plainly r
theorem plainly_of : ∀ f : Fo, (∀ c ∈ f.flat, cellErr c = 0) → Plainly f
  | .nil, _ => trivial
  | .cons nm k r, h => by
    refine ⟨fun hk => ?_, plainly_of k (fun c hc => h c (by simp [Fo.flat, hc])), plainly_of r (fun c hc => h c (by simp [Fo.flat, hc]))⟩
    have h1 := h ⟨nm, (k.len : Nat)⟩ (by simp [Fo.flat])
    rw [cellErr_parts] at h1
    rw [if_neg (by show ¬ kind nm.data.toList = 0; omega)] at h1
    by_cases hz : k.len = 0
    · exact Fo.len_zero hz
    · rw [if_pos (.inr (.inr ⟨hk, by show ((k.len : Nat) : Int) ≠ 0; omega⟩))] at h1
      cases h1
theorem fit_flat : ∀ (f g : Fo) (P T : List Cl) (acc : List Bd), f.len = g.len → Plainly f → fitL (f.flat ++ P) (g.flat ++ T) acc = (fitF f g acc).bind (fitL P T)
  | .nil, .nil, P, T, acc, _, _ => rfl
  | .nil, .cons _ _ _, P, T, acc, h, _ => by simp [Fo.len] at h
  | .cons _ _ _, .nil, P, T, acc, h, _ => by simp [Fo.len] at h
  | .cons nm k r, .cons nm' k' r', P, T, acc, h, hp => by
    obtain ⟨p1, p2, p3⟩ := hp
    have hr : r.len = r'.len := by simp [Fo.len] at h; exact h
    rw [fitF]
    by_cases hk : kind nm.data.toList = 2
    · have e := p1 hk
      subst e
      have hv : isV ⟨nm, ((Fo.nil.len : Nat) : Int)⟩ = true := by unfold isV; simpa using hk
      rw [if_pos hk]
      have h1 : fo 1 ((Fo.cons nm' k' r').flat ++ T) = some (r'.flat ++ T) := by
        have := fo_flat (.cons nm' k' .nil) (r'.flat ++ T)
        rw [Fo.flat_cons, List.append_assoc]; exact this
      have h2 : ((Fo.cons nm' k' r').flat ++ T).take (((Fo.cons nm' k' r').flat ++ T).length - (r'.flat ++ T).length) = (Fo.cons nm' k' .nil).flat := by
        rw [Fo.flat_cons, List.append_assoc, List.length_append, Nat.add_sub_cancel, List.take_left]
      have h0 : (Fo.cons nm .nil r).flat ++ P = ⟨nm, ((Fo.nil.len : Nat) : Int)⟩ :: (r.flat ++ P) := by simp [Fo.flat]
      rw [h0, fitL.eq_def]
      simp only [hv, if_true, h1, h2]
      cases h3 : look acc nm with
      | none => exact fit_flat r r' P T _ hr p3
      | some v =>
        simp only
        split
        · exact fit_flat r r' P T _ hr p3
        · rfl
    · have hv : isV ⟨nm, ((k.len : Nat) : Int)⟩ = false := by unfold isV; simpa using hk
      rw [if_neg hk]
      have h0 : (Fo.cons nm k r).flat ++ P = ⟨nm, ((k.len : Nat) : Int)⟩ :: (k.flat ++ (r.flat ++ P)) := by simp [Fo.flat]
      have h00 : (Fo.cons nm' k' r').flat ++ T = ⟨nm', ((k'.len : Nat) : Int)⟩ :: (k'.flat ++ (r'.flat ++ T)) := by simp [Fo.flat]
      rw [h0, h00, fitL.eq_def]
      simp only [hv]
      by_cases hd : nm' = nm ∧ k'.len = k.len
      · have hd2 : (⟨nm', ((k'.len : Nat) : Int)⟩ : Cl) = ⟨nm, ((k.len : Nat) : Int)⟩ := by rw [hd.1, hd.2]
        rw [if_pos hd]
        simp only [hd2, if_true]
        rw [if_neg (by simp)]
        rw [fit_flat k k' _ _ acc hd.2.symm p2]
        cases fitF k k' acc with
        | none => rfl
        | some a => exact fit_flat r r' P T a hr p3
      · have hd2 : ¬ (⟨nm', ((k'.len : Nat) : Int)⟩ : Cl) = ⟨nm, ((k.len : Nat) : Int)⟩ := by
          intro e
          injection e with e1 e2
          exact hd ⟨e1, by omega⟩
        rw [if_neg hd]
        simp [hd2]

end Go.Proofs.YtjpmlnigjbdnnaaDoor
