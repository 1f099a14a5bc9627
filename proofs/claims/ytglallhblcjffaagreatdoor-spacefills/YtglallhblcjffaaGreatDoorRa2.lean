/-
  What the document's space answers: may, Get, Put, SetHead, Release.
-/
import Derived.Test.YtglallhblcjffaaGreatDoorRa1
namespace Go.Proofs.YtglallhblcjffaaGreatDoor
open Go.RowKit
set_option linter.unusedVariables false
set_option linter.unusedSimpArgs false
set_option maxRecDepth 100000

section
variable {w W V : World} {S R R' : Nat → Prop} {b : Nat} {r : Rsp}
theorem Rsp.ix_lt (hok : r.Ok) {a : Int} (h : isUs r.n a) : r.ix a < r.pages.length ∧ r.ix a < r.taken.length := by
  obtain ⟨b1, b2, b3, b4, b5⟩ := frs_small hok.lo hok.hi
  have h1 := h.1
  have h2 := h.2
  have := hok.pl
  have := hok.tl
  unfold Rsp.ix
  omega
theorem may_any (a : Int) (ha : I64 a) (hok : r.Ok) (h : Rr w R b r) : Calls Tryz.prog 62 #[.pointer (some ⟨b, 0, none⟩), .int .i64 a] w fun e w' => e = .returned (.tuple #[.int .i64 (if r.gE a = 0 then (r.ix a : Int) else 0), .int .i64 (r.gE a : Nat)]) ∧ w = w' := by
  obtain ⟨pa, pc, ta, tc, c0, c1, c2, c3, r2, r3, hf, hlt⟩ := h.read
  have hp := place_any a ha hok h
  by_cases hu : isUs r.n a
  · rw [if_pos hu] at hp
    obtain ⟨i1, i2⟩ := Rsp.ix_lt hok hu
    obtain ⟨x, hx⟩ : ∃ x, r.taken[r.ix a]? = some x := ⟨_, List.getElem?_eq_getElem i2⟩
    obtain ⟨g, e1, _, _, d0, _⟩ := r3.at hx
    subst e1
    have hgE : r.gE a = if x = true then 0 else 8 := by
      unfold Rsp.gE
      rw [if_neg (fun z => z hu), List.getD_eq_getElem?_getD, hx]
      rfl
    generalize r.taken.length = m at *
    generalize r.gE a = q at *
    generalize r.ix a = i at *
    have hi0 : ¬ (i : Int) < 0 := by omega
    have him : (i : Int) < (m : Int) := by omega
    clear h r2 r3 hf hx hu hok ha c0 c1 c2
    cases x with
    | true =>
      rw [if_pos rfl] at hgE
      subst hgE
      rw [if_pos rfl]
      go_enter Tryz.func62, Tryz.ntmps62
      go_wp2_with (go_at_call 95; refine hp.mono ?_; clear hp; rintro e w1 ⟨rfl, rfl⟩)
      go_ret2
      exact ⟨rfl, rfl⟩
    | false =>
      rw [if_neg (by decide)] at hgE
      subst hgE
      rw [if_neg (by decide)]
      go_enter Tryz.func62, Tryz.ntmps62
      go_wp2_with (go_at_call 95; refine hp.mono ?_; clear hp; rintro e w1 ⟨rfl, rfl⟩)
      go_ret2
      exact ⟨rfl, rfl⟩
  · rw [if_neg hu] at hp
    have hgE : r.gE a = 1 := by
      unfold Rsp.gE
      rw [if_pos hu]
    rw [hgE, if_neg (by decide)]
    clear h r2 r3 hf hu hok ha c0 c1 c2 c3 hgE
    go_enter Tryz.func62, Tryz.ntmps62
    go_wp2_with (go_at_call 95; refine hp.mono ?_; clear hp; rintro e w1 ⟨rfl, rfl⟩)
    go_ret2
    exact ⟨rfl, rfl⟩
theorem rGet_any (a : Int) (ha : I64 a) (hok : r.Ok) (h : Rr w R b r) : Calls Tryz.prog 32 #[.pointer (some ⟨b, 0, none⟩), .int .i64 a] w fun e w' => e = .returned (.tuple #[.string (r.gS a), .int .i64 (r.gE a : Nat)]) ∧ w = w' := by
  obtain ⟨pa, pc, ta, tc, c0, c1, c2, c3, r2, r3, hf, hlt⟩ := h.read
  have hm := may_any a ha hok h
  unfold Rsp.gS
  by_cases hg : r.gE a = 0
  · rw [hg, if_pos rfl] at hm
    rw [hg, if_pos rfl]
    have hu : isUs r.n a := by
      unfold Rsp.gE at hg
      by_cases hu : isUs r.n a
      · exact hu
      · rw [if_pos hu] at hg; cases hg
    obtain ⟨i1, i2⟩ := Rsp.ix_lt hok hu
    obtain ⟨x, hx⟩ : ∃ x, r.pages[r.ix a]? = some x := ⟨_, List.getElem?_eq_getElem i1⟩
    obtain ⟨g, e1, _, _⟩ := row_some r2 (by omega)
    subst e1
    have d0 := (r2.at hx).1
    rw [List.getD_eq_getElem?_getD, hx]
    simp only [Option.getD_some]
    generalize r.pages.length = m at *
    generalize r.ix a = i at *
    have him : (i : Int) < (m : Int) := by omega
    clear h r2 r3 hf hx hu hok ha c0 c1 c3 hg
    go_enter Tryz.func32, Tryz.ntmps32
    go_wp2_with (go_at_call 62; refine hm.mono ?_; clear hm; rintro e w1 ⟨rfl, rfl⟩)
    go_ret2
    exact ⟨rfl, rfl⟩
  · rw [if_neg hg] at hm
    rw [if_neg hg]
    generalize r.gE a = x at *
    have hxn : ((x : Int) == 0) = false := by simp; omega
    have hxz : ¬ (x : Int) = 0 := by omega
    clear h r2 r3 hf hok ha c0 c1 c2 c3 hg
    go_enter Tryz.func32, Tryz.ntmps32
    go_wp2_with (go_at_call 62; refine hm.mono ?_; clear hm; rintro e w1 ⟨rfl, rfl⟩)
    go_ret2
    exact ⟨rfl, rfl⟩
def Rsp.pE (r : Rsp) (a : Int) (x : ByteArray) : Nat := if r.gE a = 0 then (if x.size = 256 then 0 else 3) else r.gE a
theorem rPut_any (a : Int) (ha : I64 a) (x : ByteArray) (hok : r.Ok) (h : Rr w R b r) : Calls Tryz.prog 34 #[.pointer (some ⟨b, 0, none⟩), .int .i64 a, .string x] w fun e w' => e = .returned (.int .i64 (r.pE a x : Nat)) ∧ Rn w R b (if r.pE a x = 0 then { r with pages := r.pages.set (r.ix a) x } else r) w' := by
  obtain ⟨pa, pc, ta, tc, c0, c1, c2, c3, r2, r3, hf, hlt⟩ := h.read
  have hm := may_any a ha hok h
  have HH := hid h
  unfold Rsp.pE
  by_cases hg : r.gE a = 0
  · rw [hg, if_pos rfl] at hm
    rw [if_pos hg]
    have hu : isUs r.n a := by
      unfold Rsp.gE at hg
      by_cases hu : isUs r.n a
      · exact hu
      · rw [if_pos hu] at hg; cases hg
    obtain ⟨i1, i2⟩ := Rsp.ix_lt hok hu
    by_cases hx : x.size = 256
    · rw [if_pos hx, if_pos rfl]
      obtain ⟨y, hy⟩ : ∃ y, r.pages[r.ix a]? = some y := ⟨_, List.getElem?_eq_getElem i1⟩
      obtain ⟨g, e1, _, _⟩ := row_some r2 (by omega)
      subst e1
      obtain ⟨d0, f0⟩ := r2.at hy
      have HR := hid (HH.out.page c2 (r.ix a) x)
      have hxi : (x.size : Int) = 256 := by omega
      generalize r.pages.length = m at *
      generalize ({ r with pages := r.pages.set (r.ix a) x } : Rsp) = rr at *
      generalize r.ix a = i at *
      have him : (i : Int) < (m : Int) := by omega
      clear h r2 r3 hf hu hok ha c0 c1 c3 hg hx hy HH
      go_enter Tryz.func34, Tryz.ntmps34
      go_wp2_with (go_at_call 62; refine hm.mono ?_; clear hm; rintro e w1 ⟨rfl, rfl⟩)
      go_ret
      exact ⟨rfl, HR.out⟩
    · rw [if_neg hx, if_neg (by decide)]
      have hxi : ((x.size : Int) == 256) = false := by simp; omega
      have hxj : ¬ (x.size : Int) = 256 := by omega
      clear h r2 r3 hf hu hok ha c0 c1 c2 c3 hg hx
      go_enter Tryz.func34, Tryz.ntmps34
      go_wp2_with (go_at_call 62; refine hm.mono ?_; clear hm; rintro e w1 ⟨rfl, rfl⟩)
      go_ret
      exact ⟨rfl, Rn.refl HH.out⟩
  · rw [if_neg hg] at hm
    rw [if_neg hg, if_neg hg]
    generalize r.gE a = y at *
    have hxn : ((y : Int) == 0) = false := by simp; omega
    have hxz : ¬ (y : Int) = 0 := by omega
    clear h r2 r3 hf hok ha c0 c1 c2 c3 hg
    go_enter Tryz.func34, Tryz.ntmps34
    go_wp2_with (go_at_call 62; refine hm.mono ?_; clear hm; rintro e w1 ⟨rfl, rfl⟩)
    go_ret
    exact ⟨rfl, Rn.refl HH.out⟩
theorem rRelease_any (a : Int) (ha : I64 a) (hok : r.Ok) (h : Rr w R b r) : Calls Tryz.prog 36 #[.pointer (some ⟨b, 0, none⟩), .int .i64 a] w fun e w' => e = .returned (.int .i64 (r.gE a : Nat)) ∧ Rn w R b (if r.gE a = 0 then { r with taken := r.taken.set (r.ix a) false } else r) w' := by
  obtain ⟨pa, pc, ta, tc, c0, c1, c2, c3, r2, r3, hf, hlt⟩ := h.read
  have hm := may_any a ha hok h
  have HH := hid h
  by_cases hg : r.gE a = 0
  · rw [hg, if_pos rfl] at hm
    rw [hg, if_pos rfl]
    have hu : isUs r.n a := by
      unfold Rsp.gE at hg
      by_cases hu : isUs r.n a
      · exact hu
      · rw [if_pos hu] at hg; cases hg
    obtain ⟨i1, i2⟩ := Rsp.ix_lt hok hu
    obtain ⟨y, hy⟩ : ∃ y, r.taken[r.ix a]? = some y := ⟨_, List.getElem?_eq_getElem i2⟩
    obtain ⟨g, e1, _, _, d0, f0⟩ := r3.at hy
    subst e1
    have HR := hid (HH.out.take c3 (r.ix a) false)
    generalize r.taken.length = m at *
    generalize ({ r with taken := r.taken.set (r.ix a) false } : Rsp) = rr at *
    generalize r.ix a = i at *
    have him : (i : Int) < (m : Int) := by omega
    clear h r2 r3 hf hu hok ha c0 c1 c2 hg hy HH
    go_enter Tryz.func36, Tryz.ntmps36
    go_wp2_with (go_at_call 62; refine hm.mono ?_; clear hm; rintro e w1 ⟨rfl, rfl⟩)
    go_ret
    exact ⟨rfl, HR.out⟩
  · rw [if_neg hg] at hm
    rw [if_neg hg]
    generalize r.gE a = y at *
    have hxn : ((y : Int) == 0) = false := by simp; omega
    have hxz : ¬ (y : Int) = 0 := by omega
    clear h r2 r3 hf hok ha c0 c1 c2 c3 hg
    go_enter Tryz.func36, Tryz.ntmps36
    go_wp2_with (go_at_call 62; refine hm.mono ?_; clear hm; rintro e w1 ⟨rfl, rfl⟩)
    go_ret
    exact ⟨rfl, Rn.refl HH.out⟩
theorem rSetHead_any (x : ByteArray) (h : Rr w R b r) : Calls Tryz.prog 37 #[.pointer (some ⟨b, 0, none⟩), .string x] w fun e w' => e = .returned (.int .i64 (if x.size = 248 then 0 else 3 : Nat)) ∧ Rn w R b (if x.size = 248 then { r with top := x } else r) w' := by
  obtain ⟨pa, pc, ta, tc, c0, c1, c2, c3, r2, r3, hf, hlt⟩ := h.read
  have HH := hid h
  by_cases hx : x.size = 248
  · rw [if_pos hx, if_pos hx]
    have HR := hid (HH.out.head x)
    have f1 := hf 1
    have hxi : (x.size : Int) = 248 := by omega
    generalize ({ r with top := x } : Rsp) = rr at *
    clear h r2 r3 hf c0 c2 c3 hx HH
    go_enter Tryz.func37, Tryz.ntmps37
    go_wp2_with fail
    go_ret
    exact ⟨rfl, HR.out⟩
  · rw [if_neg hx, if_neg hx]
    have hxi : ((x.size : Int) == 248) = false := by simp; omega
    have hxj : ¬ (x.size : Int) = 248 := by omega
    clear h r2 r3 hf c0 c1 c2 c3 hx
    go_enter Tryz.func37, Tryz.ntmps37
    go_wp2_with fail
    go_ret
    exact ⟨rfl, Rn.refl HH.out⟩
end
end Go.Proofs.YtglallhblcjffaaGreatDoor
