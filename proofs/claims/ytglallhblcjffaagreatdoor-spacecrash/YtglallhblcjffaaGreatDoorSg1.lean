/-
  What a Commit writes, seen page by page.
-/
import Derived.Test.YtglallhblcjffaaGreatDoorP11
import Derived.Test.YtglallhblcjffaaGreatDoorSx
namespace Go.Proofs.YtglallhblcjffaaGreatDoor
open Go.RowKit
set_option linter.unusedVariables false
set_option linter.unusedSimpArgs false
set_option maxRecDepth 100000

/-- a page as it lies on the disk -/
def onD (d : Ds) (a : Int) : ByteArray := d.bs.getD a.toNat ⟨#[]⟩
def vw (p : Pp) (a : Int) : ByteArray := match fndC p.ch a with | some c => c.data | none => onD p.d a
/-- a pager with the power on, whose held pages lie on the disk, without pins -/
structure SpG (p : Pp) (N : Nat) : Prop where
  ok : p.Ok N
  on : p.d.dn = false
  vs : ∀ h ∈ p.hs, h.data = onD p.d h.pl
  np : ∀ h ∈ p.hs, h.pins = 0
theorem SpG.mono {p : Pp} {N M : Nat} (h : SpG p N) (hm : N ≤ M) : SpG p M := ⟨h.ok.mono hm, h.on, h.vs, h.np⟩
theorem page_in {n : Nat} (hn : 64 ≤ n) {a : Int} (h : isPg n a) : 0 ≤ a ∧ a < n := isPg_lt hn h
theorem rd_page {d : Ds} (hd : d.Ok) (hn : d.dn = false) {a : Int} (h : isPg d.bs.length a) : d.rdE a = 0 ∧ d.rdS a = onD d a := by
  have h1 := page_in hd.lo h
  have e : d.rdE a = 0 := Ds.rdE_in hn (by unfold Ds.out; omega)
  refine ⟨e, ?_⟩
  unfold Ds.rdS onD
  rw [if_pos e]
theorem onD_size {d : Ds} (hd : d.Ok) {a : Int} (h : isPg d.bs.length a) : (onD d a).size = 256 := by
  have h1 := page_in hd.lo h
  unfold onD
  rw [List.getD_eq_getElem?_getD, List.getElem?_eq_getElem (by omega)]
  exact hd.bs _ (List.getElem_mem _)
theorem vw_size {p : Pp} {N : Nat} (h : SpG p N) {a : Int} (ha : isPg p.d.bs.length a) : (vw p a).size = 256 := by
  unfold vw
  cases e : fndC p.ch a with
  | none => exact onD_size h.ok.d ha
  | some c => exact (h.ok.cg c (fndC_some e).1).2
theorem vw_ch {p p' : Pp} (h1 : p'.ch = p.ch) (h2 : p'.d = p.d) (b : Int) : vw p' b = vw p b := by unfold vw; rw [h1, h2]

theorem ld_view {p : Pp} {N : Nat} (h : SpG p N) {a : Int} (ha : isPg p.d.bs.length a) : p.ldE a = 0 ∧ p.ldS a = vw p a ∧ SpG (p.ld a) (N + 1) ∧ (p.ld a).d = p.d ∧ ∀ b, vw (p.ld a) b = vw p b := by
  have hok := h.ok.ld a
  obtain ⟨r1, r2⟩ := rd_page h.ok.d h.on ha
  cases e : fndC p.ch a with
  | some c =>
    have e1 : p.ldE a = 0 := by unfold Pp.ldE; rw [if_neg (fun x => x ha), e]; rfl
    have e2 : p.ldS a = c.data := by unfold Pp.ldS; rw [if_neg (fun x => x ha), e]
    have e3 : p.ld a = p := by unfold Pp.ld; rw [if_neg (fun x => x ha), e]
    have e4 : vw p a = c.data := by unfold vw; rw [e]
    rw [e3] at hok ⊢
    exact ⟨e1, e2.trans e4.symm, ⟨hok, h.on, h.vs, h.np⟩, rfl, fun b => rfl⟩
  | none =>
    have e4 : vw p a = onD p.d a := by unfold vw; rw [e]
    cases e5 : fndH p.hs a with
    | some x =>
      have e1 : p.ldE a = 0 := by unfold Pp.ldE; rw [if_neg (fun x => x ha), e, e5]; rfl
      have e2 : p.ldS a = x.data := by unfold Pp.ldS; rw [if_neg (fun x => x ha), e, e5]
      have e3 : p.ld a = { p with hs := remH p.hs a ++ [x] } := by unfold Pp.ld; rw [if_neg (fun x => x ha), e, e5]
      have hx := fndH_some e5
      have hm : ∀ y ∈ remH p.hs a ++ [x], y ∈ p.hs := fun y hy => by
        rcases List.mem_append.1 hy with hy | hy
        · exact (remH_mem hy).1
        · simp at hy; subst hy; exact hx.1
      rw [e3] at hok ⊢
      refine ⟨e1, ?_, ⟨hok, h.on, fun y hy => h.vs y (hm y hy), fun y hy => h.np y (hm y hy)⟩, rfl, fun b => rfl⟩
      rw [e2, e4, h.vs x hx.1, hx.2]
    | none =>
      have e1 : p.ldE a = 0 := by unfold Pp.ldE; rw [if_neg (fun x => x ha), e, e5]; exact r1
      have e2 : p.ldS a = p.d.rdS a := by unfold Pp.ldS; rw [if_neg (fun x => x ha), e, e5]
      have e3 : p.ld a = { p with rd := p.rd + 1, hs := holdH p.room p.hs a (p.d.rdS a) } := by unfold Pp.ld; rw [if_neg (fun x => x ha), e, e5]; simp only [r1, if_true]
      rw [e3] at hok ⊢
      refine ⟨e1, by rw [e2, e4, r2], ⟨hok, h.on, fun y hy => ?_, fun y hy => ?_⟩, rfl, fun b => rfl⟩
      · rcases holdH_mem hy with rfl | hy
        · exact r2
        · exact h.vs y hy
      · rcases holdH_mem hy with rfl | hy
        · rfl
        · exact h.np y hy
theorem fndC_ins (ch : List Pg) (a : Int) (s : ByteArray) (b : Int) : fndC (insC ch a s) b = if b = a then some ⟨a, s⟩ else fndC ch b := by
  unfold fndC insC
  rw [List.find?_append, List.find?_cons, List.find?_filter, List.find?_filter]
  by_cases h : b = a
  · subst h
    rw [if_pos rfl]
    have e1 : ch.find? (fun c => decide (decide (c.pl < b) = true ∧ decide (c.pl = b) = true)) = none := by
      rw [List.find?_eq_none]
      intro c hc
      simp
      omega
    rw [e1]
    simp
  · rw [if_neg h]
    have h2 : decide ((⟨a, s⟩ : Pg).pl = b) = false := by simp; exact fun e => h e.symm
    rw [h2]
    rcases Int.lt_or_lt_of_ne h with h3 | h3
    · have e1 : (fun c : Pg => decide (decide (c.pl < a) = true ∧ decide (c.pl = b) = true)) = fun c : Pg => decide (c.pl = b) := by
        funext c
        by_cases hc : c.pl = b
        · simp [hc, h3]
        · simp [hc]
      have e2 : (fun c : Pg => decide (decide (a < c.pl) = true ∧ decide (c.pl = b) = true)) = fun c : Pg => false := by
        funext c
        by_cases hc : c.pl = b
        · simp [hc]; omega
        · simp [hc]
      rw [e1, e2]
      cases ch.find? (fun c => decide (c.pl = b)) with
      | some x => rfl
      | none => simp
    · have e1 : (fun c : Pg => decide (decide (c.pl < a) = true ∧ decide (c.pl = b) = true)) = fun c : Pg => false := by
        funext c
        by_cases hc : c.pl = b
        · simp [hc]; omega
        · simp [hc]
      have e2 : (fun c : Pg => decide (decide (a < c.pl) = true ∧ decide (c.pl = b) = true)) = fun c : Pg => decide (c.pl = b) := by
        funext c
        by_cases hc : c.pl = b
        · simp [hc, h3]
        · simp [hc]
      rw [e1, e2, show ch.find? (fun c : Pg => false) = none by rw [List.find?_eq_none]; simp]
      rfl
theorem np_pinned {hs : List Hp} (h : ∀ x ∈ hs, x.pins = 0) (a : Int) : pinned hs a = false := by
  unfold pinned
  cases e : fndH hs a with
  | none => rfl
  | some x => simp [h x (fndH_some e).1]
theorem st_view {p : Pp} {N : Nat} (h : SpG p N) {a : Int} (ha : isPg p.d.bs.length a) {s : ByteArray} (hs : s.size = 256) : p.stE a s = 0 ∧ SpG (p.st a s) N ∧ (p.st a s).d = p.d ∧ ∀ b, vw (p.st a s) b = if b = a then s else vw p b := by
  have e : p.stE a s = 0 := by unfold Pp.stE; rw [if_neg (fun x => x ha), if_neg (fun x => x hs), np_pinned h.np]; rfl
  have hok := h.ok.st a s
  have e2 : p.st a s = { p with hs := remH p.hs a, ch := insC p.ch a s } := by unfold Pp.st; rw [if_pos e]
  rw [e2] at hok ⊢
  refine ⟨e, ⟨hok, h.on, fun y hy => h.vs y (remH_mem hy).1, fun y hy => h.np y (remH_mem hy).1⟩, rfl, fun b => ?_⟩
  unfold vw
  simp only
  rw [fndC_ins]
  by_cases hb : b = a
  · rw [if_pos hb, if_pos hb]
  · rw [if_neg hb, if_neg hb]
theorem undo_view {p : Pp} {N : Nat} (h : SpG p N) : SpG p.undo N ∧ p.undo.d = p.d ∧ ∀ b, vw p.undo b = onD p.d b :=
  ⟨⟨h.ok.undo, h.on, h.vs, h.np⟩, rfl, fun b => rfl⟩
/-- a new pager -/
theorem new_view {d : Ds} (hd : d.Ok) (hn : d.dn = false) {r : Nat} (hr : 1 ≤ r ∧ r ≤ 1024) : SpG ⟨d, r, [], [], 0⟩ 0 ∧ ∀ b, vw ⟨d, r, [], [], 0⟩ b = onD d b :=
  ⟨⟨⟨hd, hr, Nat.zero_le _, List.Pairwise.nil, List.Pairwise.nil, fun _ h => (by cases h), fun _ h => (by cases h), fun _ h => (by cases h), Nat.le_refl _⟩, hn, fun _ h => (by cases h), fun _ h => (by cases h)⟩, fun b => rfl⟩

theorem SrtC.gp {p : Pp} {N : Nat} (h : p.Ok N) : Gp p.d.bs.length p.ch :=
  ⟨h.d.lo, h.d.hi, h.clen, h.cg, List.pairwise_map.2 ((show List.Pairwise (fun x y : Pg => x.pl < y.pl) p.ch from h.srt).imp (fun {a b} e => by show ¬ a.pl = b.pl; omega))⟩
theorem fndC_mem {ch : List Pg} (n : SrtC ch) {c : Pg} (h : c ∈ ch) : fndC ch c.pl = some c := by
  obtain ⟨A, M, B, rfl, ha, hb, hm⟩ := n.cut c.pl
  rw [fndC_cut ha hb hm]
  rcases List.mem_append.1 h with h | h
  · rcases List.mem_append.1 h with h | h
    · exact absurd (ha c h) (by omega)
    · rcases hm with rfl | ⟨x, rfl, _⟩
      · cases h
      · simp at h; rw [h]; rfl
  · exact absurd (hb c h) (by omega)
/-- what a group's Commit comes to -/
theorem cmt_cases {d : Ds} {L : List Pg} (hg : Gp d.bs.length L) (hdn : d.dn = false) :
    ((cmt d L).1 = 0 ∧ (cmt d L).2.dn = false ∧ (L = [] ∧ (cmt d L).2 = d ∨ L ≠ [] ∧ Old d.bs.length (appl d.bs L) (cmt d L).2.bs)) ∨ ((cmt d L).1 = 17 ∧ (cmt d L).2.dn = true ∧ L ≠ []) := by
  by_cases hL : L = []
  · subst hL
    rw [cmt_nil]
    exact .inl ⟨rfl, hdn, .inl ⟨rfl, rfl⟩⟩
  · by_cases hl : d.lf < 0
    · have e := cmt_on hg hL hdn hl
      refine .inl ⟨by rw [e], by rw [e]; exact hdn, .inr ⟨hL, ?_⟩⟩
      rw [e]
      exact cmt_new hg rfl
    · obtain ⟨c, hc⟩ : ∃ c : Nat, d.lf = (c : Int) := ⟨d.lf.toNat, by omega⟩
      have e := cmt_cut hg hL hdn hc
      by_cases h : 2 * L.length + lb L.length + 2 ≤ c
      · rw [if_pos h] at e
        refine .inl ⟨by rw [e], by rw [e]; exact hdn, .inr ⟨hL, ?_⟩⟩
        rw [e]
        exact cmt_new hg rfl
      · rw [if_neg h] at e
        exact .inr ⟨by rw [e], by rw [e], hL⟩
theorem onD_of {d : Ds} {a : Int} {x : ByteArray} (h : d.bs[a.toNat]? = some x) : onD d a = x := by
  unfold onD
  rw [List.getD_eq_getElem?_getD, h]
  rfl
theorem onD_some {d : Ds} (hd : d.Ok) {a : Int} (h : isPg d.bs.length a) : d.bs[a.toNat]? = some (onD d a) := by
  have := page_in hd.lo h
  unfold onD
  rw [List.getD_eq_getElem?_getD, List.getElem?_eq_getElem (by omega)]
  rfl
/-- the changed pages over the disk's: what is shown -/
theorem appl_view {p : Pp} {N : Nat} (h : SpG p N) {a : Int} (ha : isPg p.d.bs.length a) : (appl p.d.bs p.ch)[a.toNat]? = some (vw p a) := by
  have hg := SrtC.gp h.ok
  have h0 := page_in h.ok.d.lo ha
  unfold vw
  cases hc : fndC p.ch a with
  | some c =>
    obtain ⟨hm, hpl⟩ := fndC_some hc
    have := hg.at hm (bs := p.d.bs) rfl
    rw [hpl] at this
    exact this
  | none =>
    rw [appl_ne p.ch p.d.bs a.toNat (fun c hc' e => by
      have h1 := hg.pl hc'
      exact fndC_none hc c hc' (by omega))]
    exact onD_some h.ok.d ha
/-- a Commit that is answered OK -/
theorem cm_view {p : Pp} {N : Nat} (h : SpG p N) (hz : (cmt p.d p.ch).1 = 0) : p.cmE = 0 ∧ SpG p.cm N ∧ p.cm.d = (cmt p.d p.ch).2 ∧ (cmt p.d p.ch).2.bs.length = p.d.bs.length ∧ (∀ a, isPg p.d.bs.length a → onD (cmt p.d p.ch).2 a = vw p a) ∧ (∀ b, vw p.cm b = onD (cmt p.d p.ch).2 b) ∧ ((p.ch = [] ∧ (cmt p.d p.ch).2 = p.d) ∨ (cmt p.d p.ch).2.bs[1]? = some Z) := by
  have hg := SrtC.gp h.ok
  rcases cmt_cases hg h.on with ⟨e1, e2, e3⟩ | ⟨e1, _⟩
  case inr => rw [hz] at e1; cases e1
  have e4 : p.cm = ⟨(cmt p.d p.ch).2, p.room, holdAll p.room p.hs p.ch, [], p.rd⟩ := by unfold Pp.cm; rw [if_pos hz]
  have hok := h.ok.cm
  have hl : (cmt p.d p.ch).2.bs.length = p.d.bs.length := cmt_len _ _
  have hat : ∀ a, isPg p.d.bs.length a → onD (cmt p.d p.ch).2 a = vw p a := fun a ha => by
    have h0 := page_in h.ok.d.lo ha
    rcases e3 with ⟨f1, f2⟩ | ⟨f1, f2⟩
    · rw [f2]; unfold vw; rw [f1]; rfl
    · refine onD_of ?_
      have e9 : ((a.toNat : Nat) : Int) = a := by omega
      rw [f2.eq.at' a.toNat (by rw [e9]; exact ha)]
      exact appl_view h ha
  rw [e4] at hok
  refine ⟨by unfold Pp.cmE; exact hz, ?_, by rw [e4], hl, hat, fun b => by rw [e4]; rfl, ?_⟩
  · rw [e4]
    refine ⟨hok, e2, fun x hx => ?_, fun x hx => ?_⟩
    · show x.data = onD (cmt p.d p.ch).2 x.pl
      rcases holdAll_mem hx with ⟨c, hc, rfl⟩ | hx
      · rw [hat c.pl (h.ok.cg c hc).1]
        unfold vw
        rw [fndC_mem h.ok.srt hc]
      · rw [hat x.pl (h.ok.pg x hx).1]
        unfold vw
        rw [fndC_of (fun c hc e => h.ok.ap x hx c hc e.symm)]
        exact h.vs x hx
    · rcases holdAll_mem hx with ⟨c, hc, rfl⟩ | hx
      · rfl
      · exact h.np x hx
  · rcases e3 with ⟨f1, f2⟩ | ⟨f1, f2⟩
    · exact .inl ⟨f1, f2⟩
    · exact .inr f2.head

end Go.Proofs.YtglallhblcjffaaGreatDoor
