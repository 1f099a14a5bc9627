/-
  What is held is what lies on the disk, as long as the power stays: plain facts.
-/
import Derived.Test.YtoecopmbaoklkaaPn
namespace Go.Proofs.Ytoecopmbaoklkaa
open Go.RowKit
set_option linter.unusedVariables false
set_option linter.unusedSimpArgs false
set_option maxRecDepth 100000

structure VS (p : Pp) (N : Nat) : Prop where
  ok : p.Ok N
  dn : p.d.dn = false
  lf : p.d.lf < 0
  held : ∀ h ∈ p.hs, p.d.bs[h.pl.toNat]? = some h.data
theorem Pp.st_d (p : Pp) (a : Int) (s : ByteArray) : (p.st a s).d = p.d := by unfold Pp.st; split <;> rfl
theorem VS.mono {p : Pp} {N M : Nat} (h : VS p N) (hm : N ≤ M) : VS p M := ⟨h.ok.mono hm, h.dn, h.lf, h.held⟩
theorem VS.st {p : Pp} {N : Nat} (h : VS p N) (a : Int) (s : ByteArray) : VS (p.st a s) N := by
  refine ⟨h.ok.st a s, by rw [Pp.st_d]; exact h.dn, by rw [Pp.st_d]; exact h.lf, ?_⟩
  rw [Pp.st_d]
  unfold Pp.st
  split
  · exact fun x hx => h.held x (remH_mem hx).1
  · exact h.held
theorem VS.undo {p : Pp} {N : Nat} (h : VS p N) : VS p.undo N := ⟨h.ok.undo, h.dn, h.lf, h.held⟩
theorem VS.rd {p : Pp} {N : Nat} (h : VS p N) {a : Int} (hp : isPg p.d.bs.length a) : p.d.rdE a = 0 ∧ p.d.bs[a.toNat]? = some (p.d.rdS a) := by
  have hl := isPg_lt h.ok.d.lo hp
  have e : p.d.rdE a = 0 := Ds.rdE_in h.dn (by unfold Ds.out; omega)
  refine ⟨e, ?_⟩
  unfold Ds.rdS
  rw [if_pos e, List.getD_eq_getElem?_getD, List.getElem?_eq_getElem (by omega)]
  rfl
theorem VS.ld {p : Pp} {N : Nat} (h : VS p N) (a : Int) : VS (p.ld a) (N + 1) := by
  refine ⟨h.ok.ld a, by rw [Pp.ld_d]; exact h.dn, by rw [Pp.ld_d]; exact h.lf, ?_⟩
  rw [Pp.ld_d]
  unfold Pp.ld
  split
  · exact h.held
  rename_i hp
  have hp : isPg p.d.bs.length a := Decidable.byContradiction hp
  split
  · exact h.held
  split
  · rename_i x hx
    intro y hy
    rcases List.mem_append.1 hy with hy | hy
    · exact h.held y (remH_mem hy).1
    · simp at hy; subst hy; exact h.held _ (fndH_some hx).1
  · split
    · intro y hy
      rcases holdH_mem hy with rfl | hy
      · exact (h.rd hp).2
      · exact h.held y hy
    · exact h.held
theorem pinH_held {p : Pp} {d : Ds} {a : Int} {m : Nat → Nat} {hs : List Hp} (h : ∀ x ∈ hs, d.bs[x.pl.toNat]? = some x.data) : ∀ x ∈ pinH hs a m, d.bs[x.pl.toNat]? = some x.data := fun x hx => by
  obtain ⟨y, hy, e1, e2, _⟩ := pinH_mem hx
  rw [e1, e2]
  exact h y hy
theorem VS.pi {p : Pp} {N : Nat} (h : VS p N) (a : Int) : VS (p.pi a) (N + 2) := by
  have h2 := h.ld a
  refine ⟨h.ok.pi a, ?_, ?_, ?_⟩
  · unfold Pp.pi; split
    · exact h2.dn
    · exact h.dn
  · unfold Pp.pi; split
    · exact h2.lf
    · exact h.lf
  · unfold Pp.pi; split
    · exact pinH_held (p := p) h2.held
    · exact h.held
theorem VS.un {p : Pp} {N : Nat} (h : VS p N) (a : Int) : VS (p.un a) N := by
  refine ⟨h.ok.un a, ?_, ?_, ?_⟩ <;> (unfold Pp.un; split)
  · exact h.dn
  · exact h.dn
  · exact h.lf
  · exact h.lf
  · show ∀ x ∈ pinH p.hs a (· - 1), p.d.bs[x.pl.toNat]? = some x.data
    exact pinH_held (p := p) h.held
  · exact h.held
/-- what is loaded: what was stored, or else what lies on the disk -/
theorem VS.sees {p : Pp} {N : Nat} (h : VS p N) {a : Int} (hp : isPg p.d.bs.length a) : p.ldE a = 0 ∧ (∀ c, fndC p.ch a = some c → p.ldS a = c.data) ∧ (fndC p.ch a = none → p.d.bs[a.toNat]? = some (p.ldS a)) := by
  cases hc : fndC p.ch a with
  | some c =>
    obtain ⟨h1, h2, _⟩ := Pp.ld_ch1 hp hc
    exact ⟨h1, fun c' e => (by cases e; exact h2), fun e => (by cases e)⟩
  | none =>
    cases hx : fndH p.hs a with
    | some x =>
      obtain ⟨h1, h2, _⟩ := Pp.ld_hs1 hp hc hx
      obtain ⟨hm, rfl⟩ := fndH_some hx
      exact ⟨h1, fun c' e => (by cases e), fun _ => by rw [h2]; exact h.held x hm⟩
    | none =>
      obtain ⟨r1, r2⟩ := h.rd hp
      obtain ⟨h1, h2, _⟩ := Pp.ld_rd1 hp hc hx r1
      exact ⟨h1, fun c' e => (by cases e), fun _ => by rw [h2]; exact r2⟩
theorem SrtC.gp {p : Pp} {N : Nat} (h : p.Ok N) : Gp p.d.bs.length p.ch :=
  ⟨h.d.lo, h.d.hi, h.clen, h.cg, List.pairwise_map.2 ((show List.Pairwise (fun x y : Pg => x.pl < y.pl) p.ch from h.srt).imp (fun {a b} e => by show ¬ a.pl = b.pl; omega))⟩
theorem fndC_mem {ch : List Pg} (n : SrtC ch) {c : Pg} (h : c ∈ ch) : fndC ch c.pl = some c := by
  obtain ⟨A, M, B, rfl, ha, hb, hm⟩ := n.cut c.pl
  rw [fndC_cut ha hb hm]
  rcases List.mem_append.1 h with h | h
  · rcases List.mem_append.1 h with h | h
    · exact absurd (ha c h) (by omega)
    · rcases hm with rfl | ⟨x, rfl, _⟩
      · cases h
      · simp at h; rw [h]; rfl
  · exact absurd (hb c h) (by omega)
/-- Commit: all is written -/
theorem VS.cm {p : Pp} {N : Nat} (h : VS p N) : p.cmE = 0 ∧ VS p.cm N ∧ p.cm.ch = [] ∧ p.cm.room = p.room ∧ p.cm.d.bs.length = p.d.bs.length ∧ (∀ i : Nat, isPg p.d.bs.length (i : Int) → p.cm.d.bs[i]? = match fndC p.ch (i : Int) with | some c => some c.data | none => p.d.bs[i]?) := by
  have hg := SrtC.gp h.ok
  by_cases hch : p.ch = []
  · have e : cmt p.d p.ch = (0, p.d) := by rw [hch]; exact cmt_nil p.d
    have e1 : p.cmE = 0 := by unfold Pp.cmE; rw [e]
    have e2 : p.cm = ⟨p.d, p.room, holdAll p.room p.hs p.ch, [], p.rd⟩ := by unfold Pp.cm; rw [e, if_pos rfl]
    have e3 : holdAll p.room p.hs p.ch = p.hs := by rw [hch]; rfl
    refine ⟨e1, ⟨h.ok.cm, ?_, ?_, ?_⟩, ?_, ?_, ?_, ?_⟩
    · rw [e2]; exact h.dn
    · rw [e2]; exact h.lf
    · rw [e2]; show ∀ x ∈ holdAll p.room p.hs p.ch, _; rw [e3]; exact h.held
    · rw [e2]
    · rw [e2]
    · rw [e2]
    · intro i hi
      rw [e2, hch]
      rfl
  · have e := cmt_on hg hch h.dn h.lf
    have e1 : p.cmE = 0 := by unfold Pp.cmE; rw [e]
    have e2 : p.cm = ⟨(cmt p.d p.ch).2, p.room, holdAll p.room p.hs p.ch, [], p.rd⟩ := by unfold Pp.cm; rw [if_pos (by rw [e])]
    have hbs : (cmt p.d p.ch).2.bs = appl p.d.bs (savedL p.d.bs.length p.ch ++ settledL p.ch) := by rw [e]
    have hnew := cmt_new hg rfl
    rw [← hbs] at hnew
    have hat : ∀ i : Nat, isPg p.d.bs.length (i : Int) → (cmt p.d p.ch).2.bs[i]? = match fndC p.ch (i : Int) with | some c => some c.data | none => p.d.bs[i]? := fun i hi => by
      rw [hnew.eq.at' i hi]
      cases hc : fndC p.ch (i : Int) with
      | some c =>
        obtain ⟨hm, hpl⟩ := fndC_some hc
        have := hg.at hm (bs := p.d.bs) rfl
        rw [hpl, Int.toNat_natCast] at this
        exact this
      | none =>
        exact appl_ne p.ch p.d.bs i (fun c hc' e => by
          have h0 := hg.pl hc'
          exact fndC_none hc c hc' (by omega))
    refine ⟨e1, ⟨h.ok.cm, ?_, ?_, ?_⟩, by rw [e2], by rw [e2], by rw [e2]; exact cmt_len _ _, by rw [e2]; exact hat⟩
    · rw [e2]; show (cmt p.d p.ch).2.dn = false; rw [e]; exact h.dn
    · rw [e2]; show (cmt p.d p.ch).2.lf < 0; rw [e]; exact h.lf
    · rw [e2]
      show ∀ x ∈ holdAll p.room p.hs p.ch, (cmt p.d p.ch).2.bs[x.pl.toNat]? = some x.data
      intro x hx
      rcases holdAll_mem hx with ⟨c, hc, rfl⟩ | hx
      · have hp := (h.ok.cg c hc).1
        have h0 := isPg_lt h.ok.d.lo hp
        have e9 : ((c.pl.toNat : Nat) : Int) = c.pl := by omega
        have := hat c.pl.toNat (by rw [e9]; exact hp)
        rw [e9, fndC_mem h.ok.srt hc] at this
        exact this
      · have hp := (h.ok.pg x hx).1
        have h0 := isPg_lt h.ok.d.lo hp
        have e9 : ((x.pl.toNat : Nat) : Int) = x.pl := by omega
        have := hat x.pl.toNat (by rw [e9]; exact hp)
        rw [e9, fndC_of (fun c hc e => h.ok.ap x hx c hc e.symm)] at this
        rw [this]
        exact h.held x hx
theorem fndC_ins {ch : List Pg} (n : SrtC ch) (a c : Int) (s : ByteArray) : fndC (insC ch a s) c = if c = a then some ⟨a, s⟩ else fndC ch c := by
  obtain ⟨A, M, B, rfl, ha, hb, hm⟩ := n.cut a
  rw [insC_cut ha hb hm]
  unfold fndC
  by_cases h : c = a
  · subst h
    rw [if_pos rfl, List.find?_append, List.find?_eq_none.2 (fun x hx => by have := ha x hx; simp; omega)]
    simp
  · rw [if_neg h]
    simp only [List.find?_append, List.find?_cons]
    rcases hm with rfl | ⟨x, rfl, hx⟩
    · simp [show ¬ a = c from fun e => h e.symm]
    · simp [show ¬ a = c from fun e => h e.symm, show ¬ x.pl = c by omega]
theorem nw_vs {r : Nat} (hr : 1 ≤ r ∧ r ≤ 1024) {n : Nat} (h1 : 64 ≤ n) (h2 : n ≤ 2048) : VS (pw (nw n) r) 0 :=
  ⟨pw_ok (nw_ok h1 h2) hr, rfl, by show (-1 : Int) < 0; omega, fun _ h => by cases h⟩
/-- the log stays short -/
theorem cm_lg (p : Pp) : p.cm.d.lg.length ≤ p.d.lg.length + 2 * p.ch.length + lb p.ch.length + 2 := by
  have := cmt_lg p.d p.ch
  unfold Pp.cm
  split <;> exact this

end Go.Proofs.Ytoecopmbaoklkaa
