/-
  Plain forms as plain functions: variables called anew by their places; what is known of it.
-/
import Derived.Test.YtjpmlnigjbdnnabDoorPb
import Derived.Test.YtjpmlnigjbdnnabDoorRFill
namespace Go.Proofs.YtjpmlnigjbdnnabDoor
open Go.RowKit
set_option linter.unusedVariables false
set_option linter.unusedSimpArgs false
set_option maxRecDepth 100000

/-- the place of a name in a list -/
def ix : List ByteArray → ByteArray → Option Nat
  | [], _ => none
  | a :: r, x => if a = x then some 0 else (ix r x).map (· + 1)
theorem ix_none : ∀ {V : List ByteArray} {x : ByteArray}, ix V x = none ↔ x ∉ V
  | [], x => by simp [ix]
  | a :: r, x => by
    unfold ix
    by_cases h : a = x
    · rw [if_pos h]; simp [h]
    · rw [if_neg h, Option.map_eq_none_iff, ix_none (V := r)]
      simp only [List.mem_cons, not_or]
      exact ⟨fun h2 => ⟨fun e => h e.symm, h2⟩, fun h2 => h2.2⟩
theorem ix_some : ∀ {V : List ByteArray} {x : ByteArray} {k : Nat}, ix V x = some k → V[k]? = some x
  | [], x, k, h => by simp [ix] at h
  | a :: r, x, k, h => by
    unfold ix at h
    by_cases e : a = x
    · rw [if_pos e] at h; cases h; simp [e]
    · rw [if_neg e, Option.map_eq_some_iff] at h
      obtain ⟨j, h1, rfl⟩ := h
      rw [List.getElem?_cons_succ]
      exact ix_some h1
theorem ix_lt {V : List ByteArray} {x : ByteArray} {k : Nat} (h : ix V x = some k) : k < V.length := (List.getElem?_eq_some_iff.1 (ix_some h)).1
theorem ix_mem {V : List ByteArray} {x : ByteArray} (h : x ∈ V) : ∃ k, ix V x = some k := by
  cases e : ix V x with
  | none => exact absurd h (ix_none.1 e)
  | some k => exact ⟨k, rfl⟩
theorem ix_at : ∀ {V : List ByteArray} {x : ByteArray} {k : Nat}, V.Nodup → V[k]? = some x → ix V x = some k
  | [], x, k, _, h => by simp at h
  | a :: r, x, 0, _, h => by simp at h; unfold ix; rw [if_pos h]
  | a :: r, x, k + 1, hn, h => by
    rw [List.nodup_cons] at hn
    rw [List.getElem?_cons_succ] at h
    unfold ix
    rw [if_neg (fun e => hn.1 (by rw [e]; exact List.mem_of_getElem? h)), ix_at hn.2 h]
    rfl

theorem look_from (o : Nat) : ∀ (V : List ByteArray) (x : ByteArray), look (V.mapIdx fun i v => pbd (i + o) v) x = (ix V x).map fun k => [⟨xn (k + o), 0⟩]
  | [], x => rfl
  | a :: r, x => by
    rw [List.mapIdx_cons]
    unfold look ix
    by_cases h : a = x
    · rw [if_pos h, if_pos (by exact h)]
      simp [pbd]
    · rw [if_neg h, if_neg (by exact h)]
      have := look_from (o + 1) r x
      simp only [Nat.add_assoc, Nat.add_comm 1 o] at this ⊢
      rw [this]
      cases ix r x with
      | none => rfl
      | some k => simp only [Option.map_some]; rw [show k + 1 + o = k + (o + 1) by omega]
theorem look_pbs (V : List ByteArray) (x : ByteArray) : look (pbs V) x = (ix V x).map fun k => [⟨xn k, 0⟩] := look_from 0 V x
theorem pbs_names (V : List ByteArray) : (pbs V).map (·.nm) = V := by
  unfold pbs
  apply List.ext_getElem?
  intro i
  rw [List.getElem?_map, List.getElem?_mapIdx]
  cases V[i]? with
  | none => rfl
  | some v => rfl

/-- a name, called anew -/
def rn (V : List ByteArray) (x : ByteArray) : ByteArray := match ix V x with | some k => xn k | none => x
/-- a cell, its name called anew -/
def ren (V : List ByteArray) (c : Cl) : Cl := ⟨rn V c.nm, c.ar⟩
theorem rn_some {V : List ByteArray} {x : ByteArray} {k : Nat} (h : ix V x = some k) : rn V x = xn k := by unfold rn; rw [h]
theorem rn_none {V : List ByteArray} {x : ByteArray} (h : x ∉ V) : rn V x = x := by unfold rn; rw [ix_none.2 h]
theorem ren_none {V : List ByteArray} {c : Cl} (h : c.nm ∉ V) : ren V c = c := by unfold ren; rw [rn_none h]
theorem isV_iff {c : Cl} : isV c = true ↔ kind c.nm.data.toList = 2 := by unfold isV; exact decide_eq_true_iff

theorem xn_inj : ∀ i, i < 8 → ∀ j, j < 8 → xn i = xn j → i = j := by decide +kernel

/-- names that may be called anew: variables, each once, at most eight -/
structure Vs (V : List ByteArray) : Prop where
  var : ∀ x ∈ V, kind x.data.toList = 2
  once : V.Nodup
  few : V.length ≤ 8
theorem vs_of {L : List Cl} (h8 : L.length ≤ 8) : Vs (varsOf L) := by
  refine ⟨fun x hx => ?_, vars_nodup L [] List.nodup_nil, ?_⟩
  · obtain h | ⟨c, hc, hk, rfl⟩ := vars_mem L [] x hx
    · cases h
    · exact isV_iff.1 hk
  · have := varsOf_len L L.length
    rw [List.take_length] at this
    omega
theorem Vs.rn {V : List ByteArray} (h : Vs V) {x : ByteArray} (hx : x ∈ V) : ∃ k, k < 8 ∧ ix V x = some k ∧ rn V x = xn k := by
  obtain ⟨k, hk⟩ := ix_mem hx
  exact ⟨k, Nat.lt_of_lt_of_le (ix_lt hk) h.few, hk, rn_some hk⟩
theorem Vs.inj {V : List ByteArray} (h : Vs V) {x y : ByteArray} (hx : x ∈ V) (hy : y ∈ V) (e : Go.Proofs.YtjpmlnigjbdnnabDoor.rn V x = Go.Proofs.YtjpmlnigjbdnnabDoor.rn V y) : x = y := by
  obtain ⟨i, i8, i1, i2⟩ := h.rn hx
  obtain ⟨j, j8, j1, j2⟩ := h.rn hy
  rw [i2, j2] at e
  have := xn_inj i i8 j j8 e
  subst this
  have a := ix_some i1
  have b := ix_some j1
  rw [a] at b
  exact Option.some.inj b
theorem Vs.kind {V : List ByteArray} (h : Vs V) {x : ByteArray} (hx : x ∈ V) : Go.Proofs.YtjpmlnigjbdnnabDoor.kind (Go.Proofs.YtjpmlnigjbdnnabDoor.rn V x).data.toList = 2 := by
  obtain ⟨i, i8, i1, i2⟩ := h.rn hx
  rw [i2]
  exact xn_kind i (by omega)
theorem Vs.isV {V : List ByteArray} (h : Vs V) (c : Cl) : Go.Proofs.YtjpmlnigjbdnnabDoor.isV (ren V c) = Go.Proofs.YtjpmlnigjbdnnabDoor.isV c := by
  by_cases hc : c.nm ∈ V
  · have a := isV_iff.2 (h.var _ hc)
    have b := isV_iff (c := ren V c).2 (h.kind hc)
    rw [a, b]
  · rw [ren_none hc]
theorem Vs.names {V : List ByteArray} (h : Vs V) : V.map (Go.Proofs.YtjpmlnigjbdnnabDoor.rn V) = (List.range V.length).map xn := by
  apply List.ext_getElem?
  intro i
  rw [List.getElem?_map, List.getElem?_map]
  by_cases hi : i < V.length
  · rw [List.getElem?_range hi, List.getElem?_eq_getElem hi]
    simp only [Option.map_some]
    rw [rn_some (ix_at h.once (List.getElem?_eq_getElem hi))]
  · rw [List.getElem?_eq_none (by omega), List.getElem?_eq_none (by simp; omega)]
    rfl

theorem Vs.nodup {V : List ByteArray} (h : Vs V) : (V.map (Go.Proofs.YtjpmlnigjbdnnabDoor.rn V)).Nodup := by
  unfold List.Nodup
  rw [List.pairwise_map]
  exact h.once.imp_of_mem fun ha hb hne e => hne (h.inj ha hb e)

/-- filled with the plain names, a side is the side called anew -/
theorem sub_plain {V : List ByteArray} (h : Vs V) : ∀ (P : List Cl), (∀ c ∈ P, cellErr c = 0) → (∀ c ∈ P, Go.Proofs.YtjpmlnigjbdnnabDoor.isV c = true → c.nm ∈ V) → sub (at_ (pbs V)) P = P.map (ren V)
  | [], _, _ => rfl
  | c :: r, h1, h2 => by
    rw [sub_cons, List.map_cons, sub_plain h r (fun c hc => h1 c (by simp [hc])) (fun c hc => h2 c (by simp [hc]))]
    by_cases hv : Go.Proofs.YtjpmlnigjbdnnabDoor.isV c = true
    · rw [if_pos hv]
      obtain ⟨k, _, hk, hr⟩ := h.rn (h2 c (by simp) hv)
      have ha := var_ar (h1 c (by simp)) hv
      unfold at_
      rw [look_pbs, hk]
      unfold ren
      rw [hr, ha]
      rfl
    · rw [if_neg hv]
      have : c.nm ∉ V := fun hm => hv (isV_iff.2 (h.var _ hm))
      rw [ren_none this]
      rfl

theorem fillE_of {P : List Cl} {l : List Bd} (h1 : check P = 0) (h2 : gatherE [] l = 0) (h3 : told P l = true) (h4 : (sub (at_ l) P).length ≤ 64) : fillE P l = 0 := by
  unfold fillE
  rw [if_pos h1, if_pos h2, if_pos h3, if_pos h4]
theorem gather_pbs {V : List ByteArray} (h : Vs V) : gatherE [] (pbs V) = 0 := by
  refine gather_zero (pbs V) [] (fun b hb => ?_) (by rw [pbs_names]; exact h.once)
  obtain ⟨i, hi⟩ := List.getElem?_of_mem hb
  unfold pbs at hi
  rw [List.getElem?_mapIdx, Option.map_eq_some_iff] at hi
  obtain ⟨v, hv, rfl⟩ := hi
  have hl := (List.getElem?_eq_some_iff.1 hv).1
  have := h.few
  exact ⟨xn_check i (by omega), h.var v (List.mem_of_getElem? hv)⟩
theorem fill_plain {V : List ByteArray} (h : Vs V) {P : List Cl} (hP : check P = 0) (h2 : ∀ c ∈ P, Go.Proofs.YtjpmlnigjbdnnabDoor.isV c = true → c.nm ∈ V) : fillE P (pbs V) = 0 ∧ fillM P (pbs V) = P.map (ren V) := by
  have hc := cellsErr_zero.1 (check_zero hP).2.1
  have hs := sub_plain h P hc h2
  have h0 : fillE P (pbs V) = 0 := fillE_of hP (gather_pbs h) (told_iff.2 fun c hc hv => by
    obtain ⟨k, hk⟩ := ix_mem (h2 c hc hv)
    rw [look_pbs, hk]; rfl) (by rw [hs, List.length_map]; exact (check_zero hP).1)
  refine ⟨h0, ?_⟩
  unfold fillM
  rw [if_pos h0]
  exact hs

theorem unb_false {L R : List Cl} (h : unb L R = false) : ∀ c ∈ R, Go.Proofs.YtjpmlnigjbdnnabDoor.isV c = true → c.nm ∈ varsOf L := by
  intro c hc hv
  unfold unb at h
  rw [List.any_eq_false] at h
  have := h c.nm (vars_has R [] c.nm (.inr ⟨c, hc, hv, rfl⟩))
  apply inS_iff.1
  simpa using this
theorem vars_self {L : List Cl} : ∀ c ∈ L, Go.Proofs.YtjpmlnigjbdnnabDoor.isV c = true → c.nm ∈ varsOf L := fun c hc hv => vars_has L [] c.nm (.inr ⟨c, hc, hv, rfl⟩)

/-! ## What is called anew is the same, but for names -/

theorem step_ren {V : List ByteArray} (h : Vs V) {acc : List ByteArray} {c : Cl} (ha : ∀ x ∈ acc, x ∈ V) (hc : Go.Proofs.YtjpmlnigjbdnnabDoor.isV c = true → c.nm ∈ V) :
    varStep (acc.map (Go.Proofs.YtjpmlnigjbdnnabDoor.rn V)) (ren V c) = (varStep acc c).map (Go.Proofs.YtjpmlnigjbdnnabDoor.rn V) := by
  have hv := h.isV c
  unfold Go.Proofs.YtjpmlnigjbdnnabDoor.isV at hv hc
  by_cases hk : Go.Proofs.YtjpmlnigjbdnnabDoor.kind c.nm.data.toList = 2
  · have hm := hc (decide_eq_true hk)
    have hk2 : Go.Proofs.YtjpmlnigjbdnnabDoor.kind (ren V c).nm.data.toList = 2 := h.kind hm
    have hin : inS (ren V c).nm (acc.map (Go.Proofs.YtjpmlnigjbdnnabDoor.rn V)) = inS c.nm acc := by
      rw [Bool.eq_iff_iff, inS_iff, inS_iff, List.mem_map]
      constructor
      · rintro ⟨x, hx, e⟩
        rw [← h.inj (ha x hx) hm e]; exact hx
      · intro hx; exact ⟨_, hx, rfl⟩
    unfold varStep
    rw [hin]
    by_cases hi : inS c.nm acc = false
    · rw [if_pos ⟨hk2, hi⟩, if_pos ⟨hk, hi⟩, List.map_append]; rfl
    · rw [if_neg (fun h => hi h.2), if_neg (fun h => hi h.2)]
  · have hk2 : ¬ Go.Proofs.YtjpmlnigjbdnnabDoor.kind (ren V c).nm.data.toList = 2 := by
      rw [decide_eq_false hk] at hv
      exact of_decide_eq_false hv
    unfold varStep
    rw [if_neg (fun h => hk2 h.1), if_neg (fun h => hk h.1)]
theorem fold_ren {V : List ByteArray} (h : Vs V) : ∀ (P : List Cl) (acc : List ByteArray), (∀ x ∈ acc, x ∈ V) → (∀ c ∈ P, Go.Proofs.YtjpmlnigjbdnnabDoor.isV c = true → c.nm ∈ V) →
    (P.map (ren V)).foldl varStep (acc.map (Go.Proofs.YtjpmlnigjbdnnabDoor.rn V)) = (P.foldl varStep acc).map (Go.Proofs.YtjpmlnigjbdnnabDoor.rn V)
  | [], acc, _, _ => rfl
  | c :: r, acc, ha, hc => by
    rw [List.map_cons, List.foldl_cons, List.foldl_cons, step_ren h ha (hc c (by simp))]
    refine fold_ren h r _ ?_ (fun d hd => hc d (by simp [hd]))
    intro x hx
    unfold varStep at hx
    split at hx
    · rename_i h2
      rcases List.mem_append.1 hx with hx | hx
      · exact ha x hx
      · simp at hx; subst hx
        exact hc c (by simp) (isV_iff.2 h2.1)
    · exact ha x hx
theorem vars_ren {V : List ByteArray} (h : Vs V) {P : List Cl} (hc : ∀ c ∈ P, Go.Proofs.YtjpmlnigjbdnnabDoor.isV c = true → c.nm ∈ V) : varsOf (P.map (ren V)) = (varsOf P).map (Go.Proofs.YtjpmlnigjbdnnabDoor.rn V) :=
  fold_ren h P [] (by simp) hc

/-- the plain form of a right rule is right -/
theorem chk_plain {id : Int} {L R : List Cl} (h : chk id L R = 0) : chk id (L.map (ren (varsOf L))) (R.map (ren (varsOf L))) = 0 := by
  obtain ⟨h1, h2, h3, h4, h5, h6⟩ := chk_zero h
  have hV := vs_of h4.1
  have fL := fill_plain hV h2 vars_self
  have fR := fill_plain hV h3 (unb_false h6)
  have c2 := (filled fL.1).1
  have c3 := (filled fR.1).1
  rw [fL.2] at c2
  rw [fR.2] at c3
  have e4 : hd (L.map (ren (varsOf L))) = hd L := by
    cases L with
    | nil => rfl
    | cons c r =>
      show (ren _ c).nm = c.nm
      rw [ren_none (c := c) (fun hm => h5 (hV.var _ hm))]
  have e6 : unb (L.map (ren (varsOf L))) (R.map (ren (varsOf L))) = false := by
    unfold unb
    rw [vars_ren hV vars_self, vars_ren hV (unb_false h6), List.any_eq_false]
    intro x hx
    obtain ⟨y, hy, rfl⟩ := List.mem_map.1 hx
    obtain h7 | ⟨c, hc, hk, rfl⟩ := vars_mem R [] y hy
    · cases h7
    · have : inS (Go.Proofs.YtjpmlnigjbdnnabDoor.rn (varsOf L) c.nm) ((varsOf L).map (Go.Proofs.YtjpmlnigjbdnnabDoor.rn (varsOf L))) = true := inS_iff.2 (List.mem_map.2 ⟨_, unb_false h6 c hc hk, rfl⟩)
      rw [this]; simp
  refine fst_all _ _ _ (fun j _ hj => ?_)
  revert hj
  rw [Nat.zero_add]
  revert j
  refine fun j hj0 hj => ?_
  clear hj0
  refine six (P := fun j => cks id (L.map (ren (varsOf L))) (R.map (ren (varsOf L))) j = 0) ?_ c2 c3 ?_ ?_ ?_ j hj
  · simp only [cks]; rw [if_neg (by omega)]
  · simp only [cks]; rw [List.length_map, List.length_map, if_neg (by omega)]
  · simp only [cks]; rw [e4, if_neg h5]
  · simp only [cks]; rw [e6]; rfl

/-- the plain form of a plain form is itself -/
theorem plain_twice {V : List ByteArray} (h : Vs V) {P : List Cl} (hc : ∀ c ∈ P, Go.Proofs.YtjpmlnigjbdnnabDoor.isV c = true → c.nm ∈ V) : (P.map (ren V)).map (ren (V.map (Go.Proofs.YtjpmlnigjbdnnabDoor.rn V))) = P.map (ren V) := by
  rw [List.map_map]
  refine List.map_congr_left fun c hcm => ?_
  show ren _ (ren V c) = ren V c
  by_cases hv : Go.Proofs.YtjpmlnigjbdnnabDoor.isV c = true
  · obtain ⟨k, k8, hk, hr⟩ := h.rn (hc c hcm hv)
    have hnd := h.nodup
    have : ix (V.map (Go.Proofs.YtjpmlnigjbdnnabDoor.rn V)) (xn k) = some k := ix_at hnd (by
      rw [List.getElem?_map, ix_some hk]
      show some (Go.Proofs.YtjpmlnigjbdnnabDoor.rn V c.nm) = _
      rw [hr])
    unfold ren
    simp only
    rw [hr, rn_some this]
  · refine ren_none (fun hm => ?_)
    obtain ⟨y, hy, e⟩ := List.mem_map.1 hm
    have h1 := h.kind hy
    rw [e] at h1
    have h2 := h.isV c
    unfold Go.Proofs.YtjpmlnigjbdnnabDoor.isV at h2 hv
    rw [decide_eq_true h1] at h2
    exact hv h2.symm

/-- a bind, its name called anew -/
def renB (V : List ByteArray) (b : Bd) : Bd := ⟨Go.Proofs.YtjpmlnigjbdnnabDoor.rn V b.nm, b.val⟩
theorem look_ren {V : List ByteArray} (h : Vs V) {x : ByteArray} (hx : x ∈ V) : ∀ (l : List Bd), (∀ b ∈ l, b.nm ∈ V) → look (l.map (renB V)) (Go.Proofs.YtjpmlnigjbdnnabDoor.rn V x) = look l x
  | [], _ => rfl
  | b :: r, hl => by
    rw [List.map_cons]
    unfold look
    by_cases e : b.nm = x
    · rw [if_pos e, if_pos (by show Go.Proofs.YtjpmlnigjbdnnabDoor.rn V b.nm = _; rw [e])]; rfl
    · have e3 : ¬ (renB V b).nm = Go.Proofs.YtjpmlnigjbdnnabDoor.rn V x := fun e2 => e (h.inj (hl b (by simp)) hx e2)
      rw [if_neg e, if_neg e3]
      exact look_ren h hx r (fun b hb => hl b (by simp [hb]))
/-- a pattern called anew fits just what it fitted -/
theorem fit_ren {V : List ByteArray} (h : Vs V) : ∀ (p t : List Cl) (acc : List Bd), (∀ c ∈ p, Go.Proofs.YtjpmlnigjbdnnabDoor.isV c = true → c.nm ∈ V) → (∀ b ∈ acc, b.nm ∈ V) →
    fitL (p.map (ren V)) t (acc.map (renB V)) = (fitL p t acc).map (List.map (renB V))
  | [], [], acc, _, _ => rfl
  | [], _ :: _, acc, _, _ => rfl
  | c :: p, t, acc, hp, ha => by
    rw [List.map_cons]
    have hv := h.isV c
    unfold fitL
    rw [hv]
    by_cases hc : Go.Proofs.YtjpmlnigjbdnnabDoor.isV c = true
    · rw [if_pos hc, if_pos hc]
      have hm := hp c (by simp) hc
      cases hf : fo 1 t with
      | none => rfl
      | some r =>
        simp only
        have hlk : look (acc.map (renB V)) (ren V c).nm = look acc c.nm := look_ren h hm acc ha
        rw [hlk]
        cases hl : look acc c.nm with
        | none =>
          simp only
          have := fit_ren h p r (acc ++ [⟨c.nm, t.take (t.length - r.length)⟩]) (fun d hd => hp d (by simp [hd])) (fun b hb => by
            rcases List.mem_append.1 hb with hb | hb
            · exact ha b hb
            · simp at hb; subst hb; exact hm)
          rw [List.map_append] at this
          exact this
        | some v =>
          simp only
          by_cases hq : v = t.take (t.length - r.length)
          · rw [if_pos hq, if_pos hq]
            exact fit_ren h p r acc (fun d hd => hp d (by simp [hd])) ha
          · rw [if_neg hq, if_neg hq]; rfl
    · rw [if_neg hc, if_neg hc]
      have hn : c.nm ∉ V := fun hm => hc (isV_iff.2 (h.var _ hm))
      rw [ren_none hn]
      cases t with
      | nil => rfl
      | cons d t' =>
        simp only
        by_cases hq : d = c
        · rw [if_pos hq, if_pos hq]
          exact fit_ren h p t' acc (fun d hd => hp d (by simp [hd])) ha
        · rw [if_neg hq, if_neg hq]; rfl
theorem sub_ren {V : List ByteArray} (h : Vs V) {l : List Bd} (hl : ∀ b ∈ l, b.nm ∈ V) : ∀ (P : List Cl), (∀ c ∈ P, Go.Proofs.YtjpmlnigjbdnnabDoor.isV c = true → c.nm ∈ V) → sub (at_ (l.map (renB V))) (P.map (ren V)) = sub (at_ l) P
  | [], _ => rfl
  | c :: r, hc => by
    rw [List.map_cons, sub_cons, sub_cons, sub_ren h hl r (fun d hd => hc d (by simp [hd])), h.isV c]
    by_cases hv : Go.Proofs.YtjpmlnigjbdnnabDoor.isV c = true
    · rw [if_pos hv, if_pos hv]
      unfold at_
      have : look (l.map (renB V)) (ren V c).nm = look l c.nm := look_ren h (hc c (by simp) hv) l hl
      rw [this]
    · rw [if_neg hv, if_neg hv, ren_none (fun hm => hv (isV_iff.2 (h.var _ hm)))]

/-- a rule's plain form does the same as the rule -/
theorem same_plain {id : Int} {L R T : List Cl} (h : chk id L R = 0) :
    ce (L.map (ren (varsOf L))) T = ce L T ∧ mt (L.map (ren (varsOf L))) T = (mt L T).map (List.map (renB (varsOf L))) ∧
      ∀ acc, mt L T = some acc → fillE (R.map (ren (varsOf L))) (acc.map (renB (varsOf L))) = fillE R acc ∧ fillM (R.map (ren (varsOf L))) (acc.map (renB (varsOf L))) = fillM R acc := by
  obtain ⟨h1, h2, h3, h4, h5, h6⟩ := chk_zero h
  obtain ⟨_, g2, g3, _, _, _⟩ := chk_zero (chk_plain h)
  have hV := vs_of h4.1
  have ec : ce (L.map (ren (varsOf L))) T = ce L T := by unfold ce; rw [if_pos g2, if_pos h2]
  refine ⟨ec, ?_, ?_⟩
  · unfold mt
    rw [ec]
    by_cases hc : ce L T = 0
    · rw [if_pos hc, if_pos hc]
      exact fit_ren hV L T [] vars_self (by simp)
    · rw [if_neg hc, if_neg hc]; rfl
  · intro acc ha
    obtain ⟨a1, a2, a3, a4⟩ := mt_facts ha
    have hl : ∀ b ∈ acc, b.nm ∈ varsOf L := fun b hb => by rw [← a1]; exact List.mem_map.2 ⟨b, hb, rfl⟩
    have hs := sub_ren hV hl R (unb_false h6)
    have hg : gatherE [] acc = 0 := gather_zero acc [] a2 (by rw [a1]; exact hV.once)
    have hg2 : gatherE [] (acc.map (renB (varsOf L))) = 0 := by
      refine gather_zero _ [] (fun b hb => ?_) ?_
      · obtain ⟨b0, hb0, rfl⟩ := List.mem_map.1 hb
        exact ⟨(a2 b0 hb0).1, hV.kind (hl b0 hb0)⟩
      · have : (acc.map (renB (varsOf L))).map (·.nm) = (varsOf L).map (Go.Proofs.YtjpmlnigjbdnnabDoor.rn (varsOf L)) := by
          rw [← a1, List.map_map, List.map_map]
          rw [a1]
          rfl
        rw [this]
        exact hV.nodup
    have ht : ∀ nm ∈ varsOf L, (look acc nm).isSome = true := fun nm hn => by
      obtain h7 | ⟨c, hc, hk, rfl⟩ := vars_mem L [] nm hn
      · cases h7
      · exact a4 c hc hk
    have ht1 : told R acc = true := told_iff.2 fun c hc hv => ht _ (unb_false h6 c hc hv)
    have ht2 : told (R.map (ren (varsOf L))) (acc.map (renB (varsOf L))) = true := told_iff.2 fun c hc hv => by
      obtain ⟨c0, hc0, rfl⟩ := List.mem_map.1 hc
      rw [hV.isV] at hv
      have : look (acc.map (renB (varsOf L))) (ren (varsOf L) c0).nm = look acc c0.nm := look_ren hV (unb_false h6 c0 hc0 hv) acc hl
      rw [this]
      exact ht _ (unb_false h6 c0 hc0 hv)
    have e1 : fillE (R.map (ren (varsOf L))) (acc.map (renB (varsOf L))) = fillE R acc := by
      unfold fillE
      rw [if_pos g3, if_pos h3, if_pos hg, if_pos hg2, if_pos ht1, if_pos ht2, hs]
    refine ⟨e1, ?_⟩
    unfold fillM
    rw [e1, hs]

end Go.Proofs.YtjpmlnigjbdnnabDoor
