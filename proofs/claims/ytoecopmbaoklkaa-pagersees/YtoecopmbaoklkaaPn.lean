/-
  A page with a pin stays held: plain facts.
-/
import Derived.Test.YtoecopmbaoklkaaWz
namespace Go.Proofs.Ytoecopmbaoklkaa
open Go.RowKit
set_option linter.unusedVariables false
set_option linter.unusedSimpArgs false
set_option maxRecDepth 100000

theorem pg70 {a : Int} (h : 37 ≤ a ∧ a < 70) : isPg 70 a := .inr (by show ((37 : Nat) : Int) ≤ a ∧ a < ((70 : Nat) : Int); omega)
theorem fndH_remH (hs : List Hp) (a c : Int) : fndH (remH hs a) c = if c = a then none else fndH hs c := by
  unfold fndH remH
  rw [List.find?_filter]
  by_cases h : c = a
  · subst h
    rw [if_pos rfl, List.find?_eq_none]
    intro x _
    simp
  · rw [if_neg h]
    congr 1
    funext x
    by_cases e : x.pl = c
    · subst e; simp [h]
    · simp [e]
theorem fndH_app {hs : List Hp} {c : Int} {x : Hp} (h : fndH hs c = some x) (l : List Hp) : fndH (hs ++ l) c = some x := by
  unfold fndH at *
  rw [List.find?_append, h]
  rfl
/-- whatever is held, a page with pins is held as it was -/
theorem holdH_keeps {room : Nat} {hs : List Hp} (n : NdH hs) {c : Int} {x : Hp} (hx : fndH hs c = some x) (hp : ¬ x.pins = 0) (a : Int) (s : ByteArray) : fndH (holdH room hs a s) c = some x := by
  unfold holdH
  split
  · exact fndH_app hx _
  · split
    · exact hx
    · rename_i f hf
      obtain ⟨h1, h2⟩ := freeH_some hf
      have hne : ¬ c = f.pl := fun e => by
        rw [e, fndH_mem n h1] at hx
        cases hx
        exact hp h2
      refine fndH_app ?_ _
      rw [fndH_remH, if_neg hne]
      exact hx
theorem ld_keeps {p : Pp} {N : Nat} (hok : p.Ok N) {c : Int} {x : Hp} (hx : fndH p.hs c = some x) (hp : ¬ x.pins = 0) (a : Int) : fndH (p.ld a).hs c = some x := by
  unfold Pp.ld
  split
  · exact hx
  split
  · exact hx
  split
  · rename_i y hy
    by_cases e : c = a
    · subst e
      rw [hx] at hy
      cases hy
      obtain ⟨_, rfl⟩ := fndH_some hx
      exact fndH_snoc (fun z hz => (remH_mem hz).2)
    · refine fndH_app ?_ _
      rw [fndH_remH, if_neg e]
      exact hx
  · split
    · exact holdH_keeps hok.nd hx hp _ _
    · exact hx
/-- one page has a pin, none is changed, the power is on -/
structure PinS (one : Int) (p : Pp) (N : Nat) : Prop where
  ok : p.Ok N
  d : p.d = nw 70
  ch : p.ch = []
  x : ∃ t, fndH p.hs one = some ⟨one, 1, t⟩
theorem PinS.ld {one : Int} {p : Pp} {N : Nat} (h : PinS one p N) (a : Int) : PinS one (p.ld a) (N + 1) := by
  obtain ⟨t, ht⟩ := h.x
  exact ⟨h.ok.ld a, by rw [Pp.ld_d]; exact h.d, by rw [Pp.ld_ch]; exact h.ch, t, ld_keeps h.ok ht (by simp) a⟩
theorem pin_start {one : Int} (h1 : 37 ≤ one ∧ one < 70) {r : Nat} (hr : 1 ≤ r ∧ r ≤ 1024) : (pw (nw 70) r).piE one = 0 ∧ PinS one ((pw (nw 70) r).pi one) 2 := by
  have hpg : isPg (pw (nw 70) r).d.bs.length one := by show isPg (nw 70).bs.length one; rw [nw_len]; exact pg70 h1
  have hok : (pw (nw 70) r).Ok 0 := pw_ok (nw_ok (by decide) (by decide)) hr
  have hrd : (nw 70).rdE one = 0 := nw_rdE (by omega)
  obtain ⟨l1, _, l3⟩ := Pp.ld_rd1 (p := pw (nw 70) r) hpg rfl rfl hrd
  have hfull : fullH (pw (nw 70) r).room (pw (nw 70) r).hs = false := by
    unfold fullH
    rw [decide_eq_false (by show ¬ r ≤ 0; omega)]
    rfl
  have e : (pw (nw 70) r).piE one = 0 := by
    unfold Pp.piE
    rw [if_neg (fun x => x hpg), if_neg (by show ¬ (fndC [] one).isSome = true; simp [fndC]), if_neg (by rw [hfull]; simp), l1]
  refine ⟨e, hok.pi one, ?_, ?_, (nw 70).rdS one, ?_⟩
  · unfold Pp.pi; rw [if_pos e]; show ((pw (nw 70) r).ld one).d = _; rw [Pp.ld_d]; rfl
  · unfold Pp.pi; rw [if_pos e]; show ((pw (nw 70) r).ld one).ch = _; rw [Pp.ld_ch]; rfl
  · unfold Pp.pi
    rw [if_pos e]
    show fndH (pinH ((pw (nw 70) r).ld one).hs one (· + 1)) one = _
    rw [l3]
    show fndH (pinH (holdH r [] one ((nw 70).rdS one)) one (· + 1)) one = _
    unfold holdH
    rw [if_pos (by show 0 < r; omega)]
    simp [pinH, fndH]
theorem un_no {p : Pp} {a : Int} (h : pinned p.hs a = false) : p.un a = p := by unfold Pp.un; rw [if_neg (by rw [h]; decide)]
/-- what is asked at the end -/
theorem pin_end {one : Int} (h1 : 37 ≤ one ∧ one < 70) {p : Pp} {N : Nat} (h : PinS one p N) {s : ByteArray} (hs : s.size = 256) :
    (p.ldE one = 0 ∧ (p.ld one).rd = p.rd ∧ (p.ld one).stE one s = 10 ∧ (p.ld one).st one s = p.ld one ∧ (p.ld one).unE one = 0) ∧ (((p.ld one).un one).unE one = 8 ∧ ((p.ld one).un one).un one = (p.ld one).un one ∧ ((p.ld one).un one).stE one s = 0 ∧ (((p.ld one).un one).st one s).piE one = 19) := by
  have hpg : isPg p.d.bs.length one := by rw [h.d, nw_len]; exact pg70 h1
  obtain ⟨t, ht⟩ := h.x
  have h2 := h.ld one
  obtain ⟨t2, ht2⟩ := h2.x
  have hfc : fndC p.ch one = none := by rw [h.ch]; rfl
  obtain ⟨l1, _, l3⟩ := Pp.ld_hs1 hpg hfc ht
  have hrd : (p.ld one).rd = p.rd := by rw [l3]
  have hdd := Pp.ld_d p one
  generalize p.ld one = q at *
  clear l3
  have hpg2 : isPg q.d.bs.length one := by rw [hdd]; exact hpg
  have hpn : pinned q.hs one = true := by unfold pinned; rw [ht2]; rfl
  have hst : q.stE one s = 10 := by unfold Pp.stE; rw [if_neg (fun x => x hpg2), if_neg (fun x => x hs), if_pos hpn]
  have hun : q.un one = ⟨q.d, q.room, pinH q.hs one (· - 1), q.ch, q.rd⟩ := by unfold Pp.un; rw [if_pos hpn]
  have hf3 : fndH (q.un one).hs one = some ⟨one, 0, t2⟩ := by
    rw [hun]
    show fndH (pinH q.hs one (· - 1)) one = _
    rw [fndH_pinH, ht2]
    simp
  have hpn3 : pinned (q.un one).hs one = false := by unfold pinned; rw [hf3]; rfl
  have hpg3 : isPg (q.un one).d.bs.length one := by rw [hun]; exact hpg2
  obtain ⟨s1, s2⟩ := Pp.st_ok hpg3 hs hpn3
  refine ⟨⟨l1, hrd, hst, by unfold Pp.st; rw [hst, if_neg (by decide)], by unfold Pp.unE; rw [if_pos hpn]⟩, by unfold Pp.unE; rw [if_neg (by rw [hpn3]; decide)], un_no hpn3, s1, ?_⟩
  rw [s2]
  unfold Pp.piE
  have hc4 : fndC (insC (q.un one).ch one s) one = some ⟨one, s⟩ := by
    rw [show (q.un one).ch = [] by rw [hun]; exact h2.ch]
    simp [insC, fndC]
  rw [if_neg (fun x => x hpg3)]
  rw [if_pos (by show (fndC (insC (q.un one).ch one s) one).isSome = true; rw [hc4]; rfl)]

end Go.Proofs.Ytoecopmbaoklkaa
