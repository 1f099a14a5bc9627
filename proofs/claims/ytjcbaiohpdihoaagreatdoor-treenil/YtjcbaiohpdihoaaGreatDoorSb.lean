/-
  A space's load, store, map.
-/
import Derived.Test.YtjcbaiohpdihoaaGreatDoorP11
import Derived.Test.YtjcbaiohpdihoaaGreatDoorSx
import Derived.Test.YtjcbaiohpdihoaaGreatDoorFm
import Derived.Test.YtjcbaiohpdihoaaGreatDoorEt
import Derived.Test.YtjcbaiohpdihoaaGreatDoorPq
namespace Go.Proofs.YtjcbaiohpdihoaaGreatDoor
open Go.RowKit
set_option linter.unusedVariables false
set_option linter.unusedSimpArgs false
set_option maxRecDepth 100000

/-- a page as it lies on the disk -/
def onD (d : Ds) (a : Int) : ByteArray := d.bs.getD a.toNat ⟨#[]⟩
def vw (p : Pp) (a : Int) : ByteArray := match fndC p.ch a with | some c => c.data | none => onD p.d a
/-- a pager with the power on, whose held pages lie on the disk, without pins -/
structure SpG (p : Pp) (N : Nat) : Prop where
  ok : p.Ok N
  on : p.d.dn = false
  vs : ∀ h ∈ p.hs, h.data = onD p.d h.pl
  np : ∀ h ∈ p.hs, h.pins = 0
theorem SpG.mono {p : Pp} {N M : Nat} (h : SpG p N) (hm : N ≤ M) : SpG p M := ⟨h.ok.mono hm, h.on, h.vs, h.np⟩
theorem page_in {n : Nat} (hn : 64 ≤ n) {a : Int} (h : isPg n a) : 0 ≤ a ∧ a < n := isPg_lt hn h
theorem rd_page {d : Ds} (hd : d.Ok) (hn : d.dn = false) {a : Int} (h : isPg d.bs.length a) : d.rdE a = 0 ∧ d.rdS a = onD d a := by
  have h1 := page_in hd.lo h
  have e : d.rdE a = 0 := Ds.rdE_in hn (by unfold Ds.out; omega)
  refine ⟨e, ?_⟩
  unfold Ds.rdS onD
  rw [if_pos e]
theorem onD_size {d : Ds} (hd : d.Ok) {a : Int} (h : isPg d.bs.length a) : (onD d a).size = 256 := by
  have h1 := page_in hd.lo h
  unfold onD
  rw [List.getD_eq_getElem?_getD, List.getElem?_eq_getElem (by omega)]
  exact hd.bs _ (List.getElem_mem _)
theorem vw_size {p : Pp} {N : Nat} (h : SpG p N) {a : Int} (ha : isPg p.d.bs.length a) : (vw p a).size = 256 := by
  unfold vw
  cases e : fndC p.ch a with
  | none => exact onD_size h.ok.d ha
  | some c => exact (h.ok.cg c (fndC_some e).1).2
theorem vw_ch {p p' : Pp} (h1 : p'.ch = p.ch) (h2 : p'.d = p.d) (b : Int) : vw p' b = vw p b := by unfold vw; rw [h1, h2]

theorem ld_view {p : Pp} {N : Nat} (h : SpG p N) {a : Int} (ha : isPg p.d.bs.length a) : p.ldE a = 0 ∧ p.ldS a = vw p a ∧ SpG (p.ld a) (N + 1) ∧ (p.ld a).d = p.d ∧ ∀ b, vw (p.ld a) b = vw p b := by
  have hok := h.ok.ld a
  obtain ⟨r1, r2⟩ := rd_page h.ok.d h.on ha
  cases e : fndC p.ch a with
  | some c =>
    have e1 : p.ldE a = 0 := by unfold Pp.ldE; rw [if_neg (fun x => x ha), e]; rfl
    have e2 : p.ldS a = c.data := by unfold Pp.ldS; rw [if_neg (fun x => x ha), e]
    have e3 : p.ld a = p := by unfold Pp.ld; rw [if_neg (fun x => x ha), e]
    have e4 : vw p a = c.data := by unfold vw; rw [e]
    rw [e3] at hok ⊢
    exact ⟨e1, e2.trans e4.symm, ⟨hok, h.on, h.vs, h.np⟩, rfl, fun b => rfl⟩
  | none =>
    have e4 : vw p a = onD p.d a := by unfold vw; rw [e]
    cases e5 : fndH p.hs a with
    | some x =>
      have e1 : p.ldE a = 0 := by unfold Pp.ldE; rw [if_neg (fun x => x ha), e, e5]; rfl
      have e2 : p.ldS a = x.data := by unfold Pp.ldS; rw [if_neg (fun x => x ha), e, e5]
      have e3 : p.ld a = { p with hs := remH p.hs a ++ [x] } := by unfold Pp.ld; rw [if_neg (fun x => x ha), e, e5]
      have hx := fndH_some e5
      have hm : ∀ y ∈ remH p.hs a ++ [x], y ∈ p.hs := fun y hy => by
        rcases List.mem_append.1 hy with hy | hy
        · exact (remH_mem hy).1
        · simp at hy; subst hy; exact hx.1
      rw [e3] at hok ⊢
      refine ⟨e1, ?_, ⟨hok, h.on, fun y hy => h.vs y (hm y hy), fun y hy => h.np y (hm y hy)⟩, rfl, fun b => rfl⟩
      rw [e2, e4, h.vs x hx.1, hx.2]
    | none =>
      have e1 : p.ldE a = 0 := by unfold Pp.ldE; rw [if_neg (fun x => x ha), e, e5]; exact r1
      have e2 : p.ldS a = p.d.rdS a := by unfold Pp.ldS; rw [if_neg (fun x => x ha), e, e5]
      have e3 : p.ld a = { p with rd := p.rd + 1, hs := holdH p.room p.hs a (p.d.rdS a) } := by unfold Pp.ld; rw [if_neg (fun x => x ha), e, e5]; simp only [r1, if_true]
      rw [e3] at hok ⊢
      refine ⟨e1, by rw [e2, e4, r2], ⟨hok, h.on, fun y hy => ?_, fun y hy => ?_⟩, rfl, fun b => rfl⟩
      · rcases holdH_mem hy with rfl | hy
        · exact r2
        · exact h.vs y hy
      · rcases holdH_mem hy with rfl | hy
        · rfl
        · exact h.np y hy
theorem fndC_ins (ch : List Pg) (a : Int) (s : ByteArray) (b : Int) : fndC (insC ch a s) b = if b = a then some ⟨a, s⟩ else fndC ch b := by
  unfold fndC insC
  rw [List.find?_append, List.find?_cons, List.find?_filter, List.find?_filter]
  by_cases h : b = a
  · subst h
    rw [if_pos rfl]
    have e1 : ch.find? (fun c => decide (decide (c.pl < b) = true ∧ decide (c.pl = b) = true)) = none := by
      rw [List.find?_eq_none]
      intro c hc
      simp
      omega
    rw [e1]
    simp
  · rw [if_neg h]
    have h2 : decide ((⟨a, s⟩ : Pg).pl = b) = false := by simp; exact fun e => h e.symm
    rw [h2]
    rcases Int.lt_or_lt_of_ne h with h3 | h3
    · have e1 : (fun c : Pg => decide (decide (c.pl < a) = true ∧ decide (c.pl = b) = true)) = fun c : Pg => decide (c.pl = b) := by
        funext c
        by_cases hc : c.pl = b
        · simp [hc, h3]
        · simp [hc]
      have e2 : (fun c : Pg => decide (decide (a < c.pl) = true ∧ decide (c.pl = b) = true)) = fun c : Pg => false := by
        funext c
        by_cases hc : c.pl = b
        · simp [hc]; omega
        · simp [hc]
      rw [e1, e2]
      cases ch.find? (fun c => decide (c.pl = b)) with
      | some x => rfl
      | none => simp
    · have e1 : (fun c : Pg => decide (decide (c.pl < a) = true ∧ decide (c.pl = b) = true)) = fun c : Pg => false := by
        funext c
        by_cases hc : c.pl = b
        · simp [hc]; omega
        · simp [hc]
      have e2 : (fun c : Pg => decide (decide (a < c.pl) = true ∧ decide (c.pl = b) = true)) = fun c : Pg => decide (c.pl = b) := by
        funext c
        by_cases hc : c.pl = b
        · simp [hc, h3]
        · simp [hc]
      rw [e1, e2, show ch.find? (fun c : Pg => false) = none by rw [List.find?_eq_none]; simp]
      rfl
theorem np_pinned {hs : List Hp} (h : ∀ x ∈ hs, x.pins = 0) (a : Int) : pinned hs a = false := by
  unfold pinned
  cases e : fndH hs a with
  | none => rfl
  | some x => simp [h x (fndH_some e).1]
theorem st_view {p : Pp} {N : Nat} (h : SpG p N) {a : Int} (ha : isPg p.d.bs.length a) {s : ByteArray} (hs : s.size = 256) : p.stE a s = 0 ∧ SpG (p.st a s) N ∧ (p.st a s).d = p.d ∧ ∀ b, vw (p.st a s) b = if b = a then s else vw p b := by
  have e : p.stE a s = 0 := by unfold Pp.stE; rw [if_neg (fun x => x ha), if_neg (fun x => x hs), np_pinned h.np]; rfl
  have hok := h.ok.st a s
  have e2 : p.st a s = { p with hs := remH p.hs a, ch := insC p.ch a s } := by unfold Pp.st; rw [if_pos e]
  rw [e2] at hok ⊢
  refine ⟨e, ⟨hok, h.on, fun y hy => h.vs y (remH_mem hy).1, fun y hy => h.np y (remH_mem hy).1⟩, rfl, fun b => ?_⟩
  unfold vw
  simp only
  rw [fndC_ins]
  by_cases hb : b = a
  · rw [if_pos hb, if_pos hb]
  · rw [if_neg hb, if_neg hb]
theorem undo_view {p : Pp} {N : Nat} (h : SpG p N) : SpG p.undo N ∧ p.undo.d = p.d ∧ ∀ b, vw p.undo b = onD p.d b :=
  ⟨⟨h.ok.undo, h.on, h.vs, h.np⟩, rfl, fun b => rfl⟩
/-- a new pager -/
theorem new_view {d : Ds} (hd : d.Ok) (hn : d.dn = false) {r : Nat} (hr : 1 ≤ r ∧ r ≤ 1024) : SpG ⟨d, r, [], [], 0⟩ 0 ∧ ∀ b, vw ⟨d, r, [], [], 0⟩ b = onD d b :=
  ⟨⟨⟨hd, hr, Nat.zero_le _, List.Pairwise.nil, List.Pairwise.nil, fun _ h => (by cases h), fun _ h => (by cases h), fun _ h => (by cases h), Nat.le_refl _⟩, hn, fun _ h => (by cases h), fun _ h => (by cases h)⟩, fun b => rfl⟩

theorem SrtC.gp {p : Pp} {N : Nat} (h : p.Ok N) : Gp p.d.bs.length p.ch :=
  ⟨h.d.lo, h.d.hi, h.clen, h.cg, List.pairwise_map.2 ((show List.Pairwise (fun x y : Pg => x.pl < y.pl) p.ch from h.srt).imp (fun {a b} e => by show ¬ a.pl = b.pl; omega))⟩
theorem fndC_mem {ch : List Pg} (n : SrtC ch) {c : Pg} (h : c ∈ ch) : fndC ch c.pl = some c := by
  obtain ⟨A, M, B, rfl, ha, hb, hm⟩ := n.cut c.pl
  rw [fndC_cut ha hb hm]
  rcases List.mem_append.1 h with h | h
  · rcases List.mem_append.1 h with h | h
    · exact absurd (ha c h) (by omega)
    · rcases hm with rfl | ⟨x, rfl, _⟩
      · cases h
      · simp at h; rw [h]; rfl
  · exact absurd (hb c h) (by omega)
/-- what a group's Commit comes to -/
theorem cmt_cases {d : Ds} {L : List Pg} (hg : Gp d.bs.length L) (hdn : d.dn = false) :
    ((cmt d L).1 = 0 ∧ (cmt d L).2.dn = false ∧ (L = [] ∧ (cmt d L).2 = d ∨ L ≠ [] ∧ Old d.bs.length (appl d.bs L) (cmt d L).2.bs)) ∨ ((cmt d L).1 = 17 ∧ (cmt d L).2.dn = true ∧ L ≠ []) := by
  by_cases hL : L = []
  · subst hL
    rw [cmt_nil]
    exact .inl ⟨rfl, hdn, .inl ⟨rfl, rfl⟩⟩
  · by_cases hl : d.lf < 0
    · have e := cmt_on hg hL hdn hl
      refine .inl ⟨by rw [e], by rw [e]; exact hdn, .inr ⟨hL, ?_⟩⟩
      rw [e]
      exact cmt_new hg rfl
    · obtain ⟨c, hc⟩ : ∃ c : Nat, d.lf = (c : Int) := ⟨d.lf.toNat, by omega⟩
      have e := cmt_cut hg hL hdn hc
      by_cases h : 2 * L.length + lb L.length + 2 ≤ c
      · rw [if_pos h] at e
        refine .inl ⟨by rw [e], by rw [e]; exact hdn, .inr ⟨hL, ?_⟩⟩
        rw [e]
        exact cmt_new hg rfl
      · rw [if_neg h] at e
        exact .inr ⟨by rw [e], by rw [e], hL⟩
theorem onD_of {d : Ds} {a : Int} {x : ByteArray} (h : d.bs[a.toNat]? = some x) : onD d a = x := by
  unfold onD
  rw [List.getD_eq_getElem?_getD, h]
  rfl
theorem onD_some {d : Ds} (hd : d.Ok) {a : Int} (h : isPg d.bs.length a) : d.bs[a.toNat]? = some (onD d a) := by
  have := page_in hd.lo h
  unfold onD
  rw [List.getD_eq_getElem?_getD, List.getElem?_eq_getElem (by omega)]
  rfl
/-- the changed pages over the disk's: what is shown -/
theorem appl_view {p : Pp} {N : Nat} (h : SpG p N) {a : Int} (ha : isPg p.d.bs.length a) : (appl p.d.bs p.ch)[a.toNat]? = some (vw p a) := by
  have hg := SrtC.gp h.ok
  have h0 := page_in h.ok.d.lo ha
  unfold vw
  cases hc : fndC p.ch a with
  | some c =>
    obtain ⟨hm, hpl⟩ := fndC_some hc
    have := hg.at hm (bs := p.d.bs) rfl
    rw [hpl] at this
    exact this
  | none =>
    rw [appl_ne p.ch p.d.bs a.toNat (fun c hc' e => by
      have h1 := hg.pl hc'
      exact fndC_none hc c hc' (by omega))]
    exact onD_some h.ok.d ha
/-- a Commit that is answered OK -/
theorem cm_view {p : Pp} {N : Nat} (h : SpG p N) (hz : (cmt p.d p.ch).1 = 0) : p.cmE = 0 ∧ SpG p.cm N ∧ p.cm.d = (cmt p.d p.ch).2 ∧ (cmt p.d p.ch).2.bs.length = p.d.bs.length ∧ (∀ a, isPg p.d.bs.length a → onD (cmt p.d p.ch).2 a = vw p a) ∧ (∀ b, vw p.cm b = onD (cmt p.d p.ch).2 b) ∧ ((p.ch = [] ∧ (cmt p.d p.ch).2 = p.d) ∨ (cmt p.d p.ch).2.bs[1]? = some Z) := by
  have hg := SrtC.gp h.ok
  rcases cmt_cases hg h.on with ⟨e1, e2, e3⟩ | ⟨e1, _⟩
  case inr => rw [hz] at e1; cases e1
  have e4 : p.cm = ⟨(cmt p.d p.ch).2, p.room, holdAll p.room p.hs p.ch, [], p.rd⟩ := by unfold Pp.cm; rw [if_pos hz]
  have hok := h.ok.cm
  have hl : (cmt p.d p.ch).2.bs.length = p.d.bs.length := cmt_len _ _
  have hat : ∀ a, isPg p.d.bs.length a → onD (cmt p.d p.ch).2 a = vw p a := fun a ha => by
    have h0 := page_in h.ok.d.lo ha
    rcases e3 with ⟨f1, f2⟩ | ⟨f1, f2⟩
    · rw [f2]; unfold vw; rw [f1]; rfl
    · refine onD_of ?_
      have e9 : ((a.toNat : Nat) : Int) = a := by omega
      rw [f2.eq.at' a.toNat (by rw [e9]; exact ha)]
      exact appl_view h ha
  rw [e4] at hok
  refine ⟨by unfold Pp.cmE; exact hz, ?_, by rw [e4], hl, hat, fun b => by rw [e4]; rfl, ?_⟩
  · rw [e4]
    refine ⟨hok, e2, fun x hx => ?_, fun x hx => ?_⟩
    · show x.data = onD (cmt p.d p.ch).2 x.pl
      rcases holdAll_mem hx with ⟨c, hc, rfl⟩ | hx
      · rw [hat c.pl (h.ok.cg c hc).1]
        unfold vw
        rw [fndC_mem h.ok.srt hc]
      · rw [hat x.pl (h.ok.pg x hx).1]
        unfold vw
        rw [fndC_of (fun c hc e => h.ok.ap x hx c hc e.symm)]
        exact h.vs x hx
    · rcases holdAll_mem hx with ⟨c, hc, rfl⟩ | hx
      · rfl
      · exact h.np x hx
  · rcases e3 with ⟨f1, f2⟩ | ⟨f1, f2⟩
    · exact .inl ⟨f1, f2⟩
    · exact .inr f2.head

end Go.Proofs.YtjcbaiohpdihoaaGreatDoor

namespace Go.Proofs.YtjcbaiohpdihoaaGreatDoor
open Go.RowKit
set_option linter.unusedVariables false
set_option linter.unusedSimpArgs false
set_option maxRecDepth 100000

/-- a space at block s over a pager at q over a disk at k: all of it lies in S -/
def Sk (w : World) (S : Nat → Prop) (k q s : Nat) (p : Pp) : Prop :=
  ∃ P : Nat → Prop, Pk w P k q p ∧ Blk w s #[.pointer (some ⟨k, 0, none⟩), .pointer (some ⟨q, 0, none⟩), .slice none 0 0] 108 ∧ (∀ j, S j ↔ P j ∨ j = s) ∧ ¬ P s
/-- a space that shows f, over the disk d -/
def Sv (w : World) (S : Nat → Prop) (k q s : Nat) (d : Ds) (f : Int → ByteArray) (N : Nat) : Prop :=
  ∃ p, Sk w S k q s p ∧ SpG p N ∧ p.d = d ∧ ∀ b, vw p b = f b
/-- what a call leaves -/
structure Sn (w : World) (S : Nat → Prop) (k q s : Nat) (d : Ds) (f : Int → ByteArray) (N : Nat) (W : World) : Prop where
  sv : ∃ S', Sv W S' k q s d f N ∧ Grows S S' w
  keep : Keep S w W
section
variable {w W V : World} {S S' P R : Nat → Prop} {k q s : Nat} {p : Pp} {d : Ds} {f g : Int → ByteArray} {N M : Nat}
theorem Sk.lt (h : Sk w S k q s p) : ∀ j, S j → j < w.heap.size := by
  obtain ⟨P, h1, h2, h3, _⟩ := h
  intro j hj
  rcases (h3 j).1 hj with hj | rfl
  · exact h1.lt j hj
  · exact h2.lt
theorem Sv.lt (h : Sv w S k q s d f N) : ∀ j, S j → j < w.heap.size := by obtain ⟨p, h1, _⟩ := h; exact h1.lt
theorem Keep.sk (h : Keep R w W) (hp : Sk w S k q s p) (hn : ∀ j, S j → ¬ R j) : Sk W S k q s p := by
  obtain ⟨P, h1, h2, h3, h4⟩ := hp
  exact ⟨P, h.pk h1 (fun j hj => hn j ((h3 j).2 (.inl hj))), h.blk h2 (hn s ((h3 s).2 (.inr rfl))), h3, h4⟩
theorem Keep.sv (h : Keep R w W) (hp : Sv w S k q s d f N) (hn : ∀ j, S j → ¬ R j) : Sv W S k q s d f N := by
  obtain ⟨p, h1, h2⟩ := hp
  exact ⟨p, h.sk h1 hn, h2⟩
theorem Sv.on (h : Sv w S k q s d f N) (hb : Below w.heap.size w W) : Sv W S k q s d f N := (Keep.of_below (S := fun _ => False) hb).sv h (fun _ _ h => h)
theorem Sv.mono (h : Sv w S k q s d f N) (hm : N ≤ M) : Sv w S k q s d f M := by
  obtain ⟨p, h1, h2, h3⟩ := h
  exact ⟨p, h1, h2.mono hm, h3⟩
theorem Sv.ext (h : Sv w S k q s d f N) (he : ∀ b, f b = g b) : Sv w S k q s d g N := by
  obtain ⟨p, h1, h2, h3, h4⟩ := h
  exact ⟨p, h1, h2, h3, fun b => (h4 b).trans (he b)⟩
theorem Sn.refl (h : Sv w S k q s d f N) : Sn w S k q s d f N w := ⟨⟨S, h, Grows.refl _ _⟩, Keep.refl _ _⟩
theorem Sn.on (h : Sn w S k q s d f N W) (hb : Below W.heap.size W V) : Sn w S k q s d f N V := by
  obtain ⟨S', h1, h2⟩ := h.sv
  exact ⟨⟨S', h1.on hb, h2⟩, h.keep.trans (Keep.of_below (S := fun _ => False) hb) (fun _ _ h => h.elim)⟩
theorem Sn.mono (h : Sn w S k q s d f N W) (hm : N ≤ M) : Sn w S k q s d f M W := by
  obtain ⟨S', h1, h2⟩ := h.sv
  exact ⟨⟨S', h1.mono hm, h2⟩, h.keep⟩
theorem Sn.ext (h : Sn w S k q s d f N W) (he : ∀ b, f b = g b) : Sn w S k q s d g N W := by
  obtain ⟨S', h1, h2⟩ := h.sv
  exact ⟨⟨S', h1.ext he, h2⟩, h.keep⟩
theorem Sn.base (h : Sn W S k q s d f N V) (hb : Below w.heap.size w W) : Sn w S k q s d f N V := by
  obtain ⟨S', h1, h2⟩ := h.sv
  refine ⟨⟨S', h1, fun j hj => ?_⟩, (Keep.of_below (S := S) hb).trans h.keep (fun _ _ h => h)⟩
  rcases h2 j hj with h' | h'
  · exact .inl h'
  · exact .inr (Nat.le_trans hb.size h')
theorem Sn.trans {d' : Ds} {f' : Int → ByteArray} {N' : Nat} (hg : Grows S S' w) (hk : Keep S w W) (h : Sn W S' k q s d' f' N' V) : Sn w S k q s d' f' N' V := by
  obtain ⟨T2, h1, h2⟩ := h.sv
  refine ⟨⟨T2, h1, hg.trans h2 hk.size⟩, hk.trans h.keep (fun j hj h' => ?_)⟩
  rcases hg j h' with h' | h'
  · exact h'
  · omega
/-- two calls, one behind the other -/
theorem Sn.step {d' : Ds} {f' : Int → ByteArray} {N' : Nat} {F : Ending → World → Prop} {n : Nat} {args : Array Value} (h : Sn w S k q s d f N W) (hc : ∀ S', Sv W S' k q s d f N → Grows S S' w → Calls Tryz.prog n args W fun e V => F e V ∧ Sn W S' k q s d' f' N' V) : Calls Tryz.prog n args W fun e V => F e V ∧ Sn w S k q s d' f' N' V := by
  obtain ⟨S', h1, h2⟩ := h.sv
  exact (hc S' h1 h2).mono fun e V hh => ⟨hh.1, Sn.trans h2 h.keep hh.2⟩
/-- the pager turned -/
theorem Sn.pager {p' : Pp} (hP : Pk w P k q p) (hb : Blk w s #[.pointer (some ⟨k, 0, none⟩), .pointer (some ⟨q, 0, none⟩), .slice none 0 0] 108) (hS : ∀ j, S j ↔ P j ∨ j = s) (hs : ¬ P s) (h : Pm w P k q p' W) (hg : SpG p' N) (he : ∀ b, vw p' b = f b) : Sn w S k q s p'.d f N W := by
  obtain ⟨P', h1, h2⟩ := h.pk
  have hsl := hb.lt
  refine ⟨⟨fun j => P' j ∨ j = s, ⟨p', ⟨P', h1, h.keep.blk hb hs, fun j => Iff.rfl, fun hj => ?_⟩, hg, rfl, he⟩, fun j hj => ?_⟩, h.keep.mono (fun j _ hj => (hS j).2 (.inl hj))⟩
  · rcases h2 s hj with h' | h'
    · exact hs h'
    · omega
  · rcases hj with hj | rfl
    · rcases h2 j hj with h' | h'
      · exact .inl ((hS j).2 (.inl h'))
      · exact .inr h'
    · exact .inl ((hS j).2 (.inr rfl))
theorem Sv.cells (h : Sv w S k q s d f N) : w.cell? ⟨s, 0, none⟩ = some (.pointer (some ⟨k, 0, none⟩)) ∧ w.cell? ⟨s, 1, none⟩ = some (.pointer (some ⟨q, 0, none⟩)) ∧ w.cell? ⟨s, 2, none⟩ = some (.slice none 0 0) ∧ w.frozen? ⟨s, 2, none⟩ = false ∧ S s := by
  obtain ⟨p, ⟨P, _, hb, h3, _⟩, _⟩ := h
  exact ⟨hb.cell (i := 0) rfl, hb.cell (i := 1) rfl, hb.cell (i := 2) rfl, hb.free 2, (h3 s).2 (.inr rfl)⟩
theorem Sv.good (h : Sv w S k q s d f N) : d.Ok ∧ d.dn = false ∧ ∀ a, isPg d.bs.length a → (f a).size = 256 := by
  obtain ⟨p, _, h2, rfl, h4⟩ := h
  exact ⟨h2.ok.d, h2.on, fun a ha => by rw [← h4]; exact vw_size h2 ha⟩
theorem slen_any (h : Sv w S k q s d f N) : Calls Tryz.prog 84 #[.pointer (some ⟨k, 0, none⟩)] w fun e w' => e = .returned (.int .i64 (d.bs.length : Nat)) ∧ w = w' := by
  obtain ⟨p, ⟨P, ⟨D, T, _, _, hd, _⟩, _⟩, _, rfl, _⟩ := h
  exact len_any w D k p.d hd
theorem sdown_any (h : Sv w S k q s d f N) : Calls Tryz.prog 92 #[.pointer (some ⟨k, 0, none⟩)] w fun e w' => e = .returned (.bool false) ∧ w = w' := by
  obtain ⟨p, ⟨P, ⟨D, T, _, _, hd, _⟩, _⟩, h2, rfl, _⟩ := h
  have := down_any w D k p.d hd
  rw [h2.on] at this
  exact this
theorem mapAt_any (n : Nat) (h1 : 64 ≤ n) (h2 : n ≤ 2048) (w : World) : Calls Tryz.prog 87 #[.int .i64 (n : Nat)] w fun e w' => e = .returned (.int .i64 (frs n : Nat)) ∧ w = w' := by
  have hf := first_any n h1 h2 w
  go_enter Tryz.func87, Tryz.ntmps87
  go_wp2_with (go_at_call 137; refine hf.mono ?_; rintro e w1 ⟨rfl, rfl⟩)
  go_ret
  exact ⟨rfl, rfl⟩
theorem frs_small {n : Nat} (h1 : 64 ≤ n) (h2 : n ≤ 2048) : frs n ≤ 1100 ∧ 30 ≤ pgs n ∧ pgs n ≤ 1019 ∧ frs n + pgs n - 1 ≤ n ∧ 2 ≤ frs n := by
  unfold frs lb pgs
  omega
theorem endOf_any (n : Nat) (h1 : 64 ≤ n) (h2 : n ≤ 2048) (w : World) : Calls Tryz.prog 125 #[.int .i64 (n : Nat)] w fun e w' => e = .returned (.int .i64 ((frs n + pgs n - 1 : Nat) : Int)) ∧ w = w' := by
  have hf := first_any n h1 h2 w
  have hp := pages_any n h1 h2 w
  obtain ⟨b1, b2, b3, _⟩ := frs_small h1 h2
  have he : ((frs n + pgs n - 1 : Nat) : Int) = (frs n : Int) + (pgs n : Int) - 1 := by omega
  rw [he]
  clear he
  generalize frs n = a at *
  generalize pgs n = b at *
  have hw1 : IntKind.i64.wrap ((a : Int) + (b : Int)) = (a : Int) + (b : Int) := by rw [IntKind.wrap_i64]; omega
  have hw2 : IntKind.i64.wrap ((a : Int) + (b : Int) - 1) = (a : Int) + (b : Int) - 1 := by rw [IntKind.wrap_i64]; omega
  go_enter Tryz.func125, Tryz.ntmps125
  go_wp2_with (first
    | (go_at_call 137; refine hf.mono ?_; rintro e w1 ⟨rfl, rfl⟩)
    | (go_at_call 175; refine hp.mono ?_; rintro e w1 ⟨rfl, rfl⟩))
  go_ret
  exact ⟨rfl, rfl⟩
/-- a page of the user's -/
def isUs (n : Nat) (a : Int) : Prop := ((frs n : Nat) : Int) < a ∧ a < ((frs n + pgs n - 1 : Nat) : Int)
instance (n : Nat) (a : Int) : Decidable (isUs n a) := by unfold isUs; infer_instance
theorem isUs.pg {n : Nat} {a : Int} (h : isUs n a) : isPg n a := .inr ⟨by have := h.1; omega, h.2⟩
theorem isUsers_any (n : Nat) (h1 : 64 ≤ n) (h2 : n ≤ 2048) (a : Int) (w : World) : Calls Tryz.prog 85 #[.int .i64 (n : Nat), .int .i64 a] w fun e w' => e = .returned (.bool (decide (isUs n a))) ∧ w = w' := by
  have hm := mapAt_any n h1 h2 w
  have he := endOf_any n h1 h2 w
  by_cases h3 : ((frs n : Nat) : Int) < a
  · by_cases h4 : a < ((frs n + pgs n - 1 : Nat) : Int)
    · rw [decide_eq_true (show isUs n a from ⟨h3, h4⟩)]
      generalize frs n + pgs n - 1 = b at *
      generalize frs n = c at *
      go_enter Tryz.func85, Tryz.ntmps85
      go_wp2_with (first
        | (go_at_call 87; refine hm.mono ?_; rintro e w1 ⟨rfl, rfl⟩)
        | (go_at_call 125; refine he.mono ?_; rintro e w1 ⟨rfl, rfl⟩))
      go_ret
      exact ⟨rfl, rfl⟩
    · rw [decide_eq_false (show ¬ isUs n a from fun h => h4 h.2)]
      generalize frs n + pgs n - 1 = b at *
      generalize frs n = c at *
      go_enter Tryz.func85, Tryz.ntmps85
      go_wp2_with (first
        | (go_at_call 87; refine hm.mono ?_; rintro e w1 ⟨rfl, rfl⟩)
        | (go_at_call 125; refine he.mono ?_; rintro e w1 ⟨rfl, rfl⟩))
      go_ret
      exact ⟨by show Ending.returned (.bool (decide (a < (b : Int)))) = _; rw [decide_eq_false (by omega)], rfl⟩
  · rw [decide_eq_false (show ¬ isUs n a from fun h => h3 h.1)]
    generalize frs n + pgs n - 1 = b at *
    generalize frs n = c at *
    go_enter Tryz.func85, Tryz.ntmps85
    go_wp2_with (first
      | (go_at_call 87; refine hm.mono ?_; rintro e w1 ⟨rfl, rfl⟩)
      | (go_at_call 125; refine he.mono ?_; rintro e w1 ⟨rfl, rfl⟩))
    go_ret
    exact ⟨rfl, rfl⟩
/-- what the head page begins with -/
def mkB (n : Nat) : ByteArray := ⟨#[97, 117, 109, 98, 114, 121]⟩ ++ ⟨(Nu.be n 2).toArray⟩
theorem markOf_any (n : Nat) (h2 : n ≤ 2048) (w : World) : Calls Tryz.prog 123 #[.int .i64 (n : Nat)] w fun e w' => e = .returned (.string (mkB n)) ∧ Below w.heap.size w w' := by
  have hp := Nu.put_ok n 2 w (by decide) (by decide) (by omega)
  have hw : IntKind.u64.wrap (n : Int) = (n : Int) := by rw [IntKind.wrap_u64]; omega
  have hl : ¬ 9223372036854775807 < 6 + (⟨(Nu.be n 2).toArray⟩ : ByteArray).size := by
    have : (⟨(Nu.be n 2).toArray⟩ : ByteArray).size = 2 := by show (Nu.be n 2).toArray.size = 2; simp [Nu.be_length]
    omega
  unfold mkB
  generalize (⟨(Nu.be n 2).toArray⟩ : ByteArray) = t at *
  go_enter Tryz.func123, Tryz.ntmps123
  go_wp2_with (go_at_call 188; refine hp.mono ?_; rintro e w1 ⟨rfl, hb1⟩)
  go_ret
  exact ⟨rfl, hb1⟩
theorem padded_any (s : ByteArray) (h : s.size ≤ 256) (w : World) : Calls Tryz.prog 72 #[.string s] w fun e w' => e = .returned (.string (Nu.padOf s 256)) ∧ Below w.heap.size w w' := by
  have hp := Nu.pad_ok s 256 w (by decide) h
  go_enter Tryz.func72, Tryz.ntmps72
  go_wp2_with (go_at_call 126; refine hp.mono ?_; rintro e w1 ⟨rfl, hb1⟩)
  go_ret
  exact ⟨rfl, hb1⟩
end

section
variable {w W V : World} {S S' P R : Nat → Prop} {k q s : Nat} {p : Pp} {d : Ds} {f g : Int → ByteArray} {N M : Nat}
theorem load_sp (a : Int) (ha : isPg d.bs.length a) (hN : N < 4611686018427387904) (h : Sv w S k q s d f N) :
    Calls Tryz.prog 50 #[.pointer (some ⟨s, 0, none⟩), .int .i64 a] w fun e w' => e = .returned (.tuple #[.string (f a), .nilIface]) ∧ Sn w S k q s d f (N + 1) w' := by
  obtain ⟨c0, c1, c2, _⟩ := h.cells
  have HLD : Hid (Calls Tryz.prog 89 #[.pointer (some ⟨q, 0, none⟩), .int .i64 a] w fun e w' => e = .returned (.tuple #[.string (f a), .int .i64 0]) ∧ Sn w S k q s d f (N + 1) w') := by
    obtain ⟨p, ⟨P, hP, hb, hS, hs⟩, hg, rfl, hv⟩ := h
    obtain ⟨e1, e2, e3, e4, e5⟩ := ld_view hg ha
    refine (load_any N hN a hg.ok hP).mono fun e w' hh => ?_
    rw [e1, e2, hv] at hh
    have := Sn.pager hP hb hS hs hh.2 e3 (fun b => (e5 b).trans (hv b))
    rw [e4] at this
    exact ⟨hh.1, this⟩
  have hf := fun w1 => faultAt_ok a w1
  generalize f a = t at *
  clear h ha c2
  go_enter Tryz.func50, Tryz.ntmps50
  go_wp2_with (first
    | (go_at_call 89; refine HLD.out.mono ?_; clear HLD c0 c1; rintro e w1 ⟨rfl, hn1⟩; have HN1 := hid hn1; clear hn1)
    | (go_at_call 90; refine (hf _).mono ?_; clear hf; rintro e w2 ⟨rfl, rfl⟩))
  go_ret2
  exact ⟨rfl, HN1.out⟩
theorem store_sp (a : Int) (ha : isPg d.bs.length a) (x : ByteArray) (hx : x.size = 256) (h : Sv w S k q s d f N) :
    Calls Tryz.prog 71 #[.pointer (some ⟨s, 0, none⟩), .int .i64 a, .string x] w fun e w' => e = .returned .nilIface ∧ Sn w S k q s d (fun b => if b = a then x else f b) N w' := by
  obtain ⟨c0, c1, c2, _⟩ := h.cells
  have HST : Hid (Calls Tryz.prog 59 #[.pointer (some ⟨q, 0, none⟩), .int .i64 a, .string x] w fun e w' => e = .returned (.int .i64 0) ∧ Sn w S k q s d (fun b => if b = a then x else f b) N w') := by
    obtain ⟨p, ⟨P, hP, hb, hS, hs⟩, hg, rfl, hv⟩ := h
    obtain ⟨e1, e2, e3, e4⟩ := st_view hg ha hx
    have hai : I64 a := isPg_i64 hg.ok.d.lo hg.ok.d.hi ha
    refine (store_any N a hai x (by rw [hx]; decide) hg.ok hP).mono fun e w' hh => ?_
    rw [e1] at hh
    have := Sn.pager hP hb hS hs hh.2 e2 (f := fun b => if b = a then x else f b) (fun b => (e4 b).trans (by by_cases hb : b = a; simp [hb]; simp [hb, hv]))
    rw [e3] at this
    exact ⟨hh.1, this⟩
  have hf := fun w1 => faultAt_ok a w1
  clear h ha c2 hx
  go_enter Tryz.func71, Tryz.ntmps71
  go_wp2_with (first
    | (go_at_call 59; refine HST.out.mono ?_; clear HST c0 c1; rintro e w1 ⟨rfl, hn1⟩; have HN1 := hid hn1; clear hn1)
    | (go_at_call 90; refine (hf _).mono ?_; clear hf; rintro e w2 ⟨rfl, rfl⟩))
  go_ret
  exact ⟨rfl, HN1.out⟩
/-- the map's page -/
def mpg (d : Ds) : Int := ((frs d.bs.length : Nat) : Int)
theorem mpg_pg {d : Ds} (hd : d.Ok) : isPg d.bs.length (mpg d) := by
  obtain ⟨b1, b2, b3, _⟩ := frs_small hd.lo hd.hi
  exact .inr ⟨Int.le_refl _, by unfold mpg; omega⟩
theorem zero_pg (n : Nat) : isPg n 0 := .inl rfl
theorem loadMap_sp (hN : N < 4611686018427387904) (h : Sv w S k q s d f N) :
    Calls Tryz.prog 69 #[.pointer (some ⟨s, 0, none⟩)] w fun e w' => e = .returned (.tuple #[.string (f (mpg d)), .nilIface]) ∧ Sn w S k q s d f (N + 1) w' := by
  obtain ⟨c0, c1, c2, _⟩ := h.cells
  obtain ⟨hd, _, _⟩ := h.good
  have hln := slen_any h
  have hmp := mapAt_any d.bs.length hd.lo hd.hi w
  have HLD := hid (load_sp (mpg d) (mpg_pg hd) hN h)
  unfold mpg at HLD ⊢
  generalize f _ = t at *
  generalize frs d.bs.length = m at *
  generalize d.bs.length = n at *
  clear h hd c1 c2
  go_enter Tryz.func69, Tryz.ntmps69
  go_wp2_with (first
    | (go_at_call 84; refine hln.mono ?_; clear hln; rintro e w1 ⟨rfl, rfl⟩)
    | (go_at_call 87; refine hmp.mono ?_; clear hmp; rintro e w1 ⟨rfl, rfl⟩)
    | (go_at_call 50; refine HLD.out.mono ?_; clear HLD c0; rintro e w1 ⟨rfl, hn1⟩; have HN1 := hid hn1; clear hn1))
  go_ret2
  exact ⟨rfl, HN1.out⟩
theorem storeMap_sp (b : ByteArray) (hb : b.size = 256) (a : Int) (ha : isUs d.bs.length a) (t : Bool) (h : Sv w S k q s d f N) :
    Calls Tryz.prog 73 #[.pointer (some ⟨s, 0, none⟩), .string b, .int .i64 a, .bool t] w fun e w' => e = .returned .nilIface ∧ Sn w S k q s d (fun c => if c = mpg d then withB b (a - mpg d).toNat t else f c) N w' := by
  obtain ⟨c0, c1, c2, _⟩ := h.cells
  obtain ⟨hd, _, _⟩ := h.good
  have hln := slen_any h
  have hmp := mapAt_any d.bs.length hd.lo hd.hi w
  obtain ⟨b1, b2, b3, b4, b5⟩ := frs_small hd.lo hd.hi
  have hu1 := ha.1
  have hu2 := ha.2
  have hi : (a - mpg d).toNat < 2048 := by unfold mpg; omega
  have hwi := withB_size hb hi t
  have HWI := hid (bwith_any b (a - mpg d).toNat t hb hi w)
  have HST : Hid (∀ w1, Below w.heap.size w w1 → Calls Tryz.prog 71 #[.pointer (some ⟨s, 0, none⟩), .int .i64 (mpg d), .string (withB b (a - mpg d).toNat t)] w1 fun e w' => e = .returned .nilIface ∧ Sn w S k q s d (fun c => if c = mpg d then withB b (a - mpg d).toNat t else f c) N w') := fun w1 hb1 => (store_sp (mpg d) (mpg_pg hd) _ hwi (h.on hb1)).mono fun e w' hh => ⟨hh.1, hh.2.base hb1⟩
  have hai : (((a - mpg d).toNat : Nat) : Int) = a - ((frs d.bs.length : Nat) : Int) := by unfold mpg; omega
  rw [hai] at HWI
  have hw2 : IntKind.i64.wrap (a - ((frs d.bs.length : Nat) : Int)) = a - ((frs d.bs.length : Nat) : Int) := by rw [IntKind.wrap_i64]; omega
  generalize withB b (a - mpg d).toNat t = x at *
  generalize (fun c => if c = mpg d then x else f c) = g at *
  unfold mpg at HST
  generalize frs d.bs.length = m at *
  generalize d.bs.length = n at *
  clear h hd c1 c2 hwi hi hu1 hu2 ha hai b1 b2 b3 b4 b5
  go_enter Tryz.func73, Tryz.ntmps73
  go_wp2_with (first
    | (go_at_call 84; refine hln.mono ?_; clear hln; rintro e w1 ⟨rfl, rfl⟩)
    | (go_at_call 87; refine hmp.mono ?_; clear hmp; rintro e w1 ⟨rfl, rfl⟩)
    | (go_at_call 127; refine HWI.out.mono ?_; clear HWI c0; rintro e w1 ⟨rfl, hb1⟩; have HB1 := hid hb1; clear hb1)
    | (go_at_call 71; refine (HST.out _ HB1.out).mono ?_; clear HST; rintro e w2 ⟨rfl, hn1⟩; have HN1 := hid hn1; clear hn1))
  go_ret
  exact ⟨rfl, HN1.out⟩
/-- is a page of the user's taken? -/
def tkn (d : Ds) (f : Int → ByteArray) (a : Int) : Bool := hasB (f (mpg d)) (a - mpg d).toNat
theorem mapWith_nil (a : Int) (w : World) : Calls Tryz.prog 48 #[.pointer none, .int .i64 a] w fun e w' => e = .returned (.tuple #[.string ⟨#[]⟩, .iface 26 (.int .i64 18)]) ∧ w = w' := by
  go_enter Tryz.func48, Tryz.ntmps48
  go_wp2
  go_ret2
  exact ⟨rfl, rfl⟩
theorem mapWith_out (a : Int) (ha : ¬ isUs d.bs.length a) (h : Sv w S k q s d f N) : Calls Tryz.prog 48 #[.pointer (some ⟨s, 0, none⟩), .int .i64 a] w fun e w' => e = .returned (.tuple #[.string ⟨#[]⟩, .iface 26 (.int .i64 1)]) ∧ w = w' := by
  obtain ⟨c0, c1, c2, _⟩ := h.cells
  obtain ⟨hd, _, _⟩ := h.good
  have hln := slen_any h
  have hus := isUsers_any d.bs.length hd.lo hd.hi a w
  rw [decide_eq_false ha] at hus
  generalize d.bs.length = n at *
  clear h hd c1 c2 ha
  go_enter Tryz.func48, Tryz.ntmps48
  go_wp2_with (first
    | (go_at_call 84; refine hln.mono ?_; clear hln; rintro e w1 ⟨rfl, rfl⟩)
    | (go_at_call 85; refine hus.mono ?_; clear hus; rintro e w1 ⟨rfl, rfl⟩))
  go_ret2
  exact ⟨rfl, rfl⟩
theorem mapWith_sp (a : Int) (ha : isUs d.bs.length a) (hN : N < 4611686018427387904) (h : Sv w S k q s d f N) : Calls Tryz.prog 48 #[.pointer (some ⟨s, 0, none⟩), .int .i64 a] w fun e w' => e = .returned (if tkn d f a = true then .tuple #[.string (f (mpg d)), .nilIface] else .tuple #[.string ⟨#[]⟩, .iface 26 (.int .i64 8)]) ∧ Sn w S k q s d f (N + 1) w' := by
  obtain ⟨c0, c1, c2, _⟩ := h.cells
  obtain ⟨hd, _, hz⟩ := h.good
  have hln := slen_any h
  have hus := isUsers_any d.bs.length hd.lo hd.hi a w
  rw [decide_eq_true ha] at hus
  have HLM := hid (loadMap_sp hN h)
  have hmp := fun w1 => mapAt_any d.bs.length hd.lo hd.hi w1
  obtain ⟨b1, b2, b3, b4, b5⟩ := frs_small hd.lo hd.hi
  have hu1 := ha.1
  have hu2 := ha.2
  have hi : (a - mpg d).toNat < 2048 := by unfold mpg; omega
  have hha := fun w1 => bhas_any (f (mpg d)) (a - mpg d).toNat (hz _ (mpg_pg hd)) hi w1
  have hai : (((a - mpg d).toNat : Nat) : Int) = a - ((frs d.bs.length : Nat) : Int) := by unfold mpg; omega
  rw [hai] at hha
  have hw2 : IntKind.i64.wrap (a - ((frs d.bs.length : Nat) : Int)) = a - ((frs d.bs.length : Nat) : Int) := by rw [IntKind.wrap_i64]; omega
  unfold tkn
  generalize f (mpg d) = x at *
  generalize hasB x (a - mpg d).toNat = t at *
  generalize frs d.bs.length = m at *
  generalize d.bs.length = n at *
  clear h hd c1 c2 hi hu1 hu2 ha hai b1 b2 b3 b4 b5 hz
  cases t with
  | true =>
    rw [if_pos rfl]
    go_enter Tryz.func48, Tryz.ntmps48
    go_wp2_with (first
      | (go_at_call 84; refine hln.mono ?_; clear hln; rintro e w1 ⟨rfl, rfl⟩)
      | (go_at_call 85; refine hus.mono ?_; clear hus; rintro e w1 ⟨rfl, rfl⟩)
      | (go_at_call 69; refine HLM.out.mono ?_; clear HLM c0; rintro e w1 ⟨rfl, hn1⟩; have HN1 := hid hn1; clear hn1)
      | (go_at_call 87; refine (hmp _).mono ?_; clear hmp; rintro e w2 ⟨rfl, rfl⟩)
      | (go_at_call 86; refine (hha _).mono ?_; clear hha; rintro e w2 ⟨rfl, rfl⟩))
    go_ret2
    exact ⟨rfl, HN1.out⟩
  | false =>
    rw [if_neg (by decide)]
    go_enter Tryz.func48, Tryz.ntmps48
    go_wp2_with (first
      | (go_at_call 84; refine hln.mono ?_; clear hln; rintro e w1 ⟨rfl, rfl⟩)
      | (go_at_call 85; refine hus.mono ?_; clear hus; rintro e w1 ⟨rfl, rfl⟩)
      | (go_at_call 69; refine HLM.out.mono ?_; clear HLM c0; rintro e w1 ⟨rfl, hn1⟩; have HN1 := hid hn1; clear hn1)
      | (go_at_call 87; refine (hmp _).mono ?_; clear hmp; rintro e w2 ⟨rfl, rfl⟩)
      | (go_at_call 86; refine (hha _).mono ?_; clear hha; rintro e w2 ⟨rfl, rfl⟩))
    go_ret2
    exact ⟨rfl, HN1.out⟩
end

end Go.Proofs.YtjcbaiohpdihoaaGreatDoor
