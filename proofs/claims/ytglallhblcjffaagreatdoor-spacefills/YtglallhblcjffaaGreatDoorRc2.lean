/-
  SpaceFills: the calls, by which pages are taken.
-/
import Derived.Test.YtglallhblcjffaaGreatDoorRc1
namespace Go.Proofs.YtglallhblcjffaaGreatDoor
open Go.RowKit
set_option linter.unusedVariables false
set_option linter.unusedSimpArgs false
set_option maxRecDepth 100000

/-- a space whose i-th page of the user's is taken where P i -/
def Ph (w0 w : World) (g : Nat) (cs : Array Value) (v : Value) (T : List Bool) (k q s : Nat) (d : Ds) (N : Nat) (P : Nat → Bool) : Prop :=
  ∃ f r, Fz w0 w g cs v T k q s d f N ∧ Shw d.bs.length f r ∧ r.Ok ∧ r.n = d.bs.length ∧ ∀ i x, r.taken[i]? = some x → x = P i
section
variable {w0 w W V : World} {g k q s n : Nat} {cs : Array Value} {v : Value} {T : List Bool} {d d' : Ds} {f f' : Int → ByteArray} {N N' : Nat} {P P' : Nat → Bool}
theorem Ph.below (h : Ph w0 w g cs v T k q s d N P) : Below w0.heap.size w0 w := by obtain ⟨_, _, h, _⟩ := h; exact h.below
theorem Ph.cell (h : Ph w0 w g cs v T k q s d N P) {i : Nat} {x : Value} (hx : cs[i]? = some x) : w.cell? ⟨g, i, none⟩ = some x := by obtain ⟨_, _, h, _⟩ := h; exact h.cell hx
theorem Ph.row (h : Ph w0 w g cs v T k q s d N P) : RowB w w0.heap.size v T := by obtain ⟨_, _, h, _⟩ := h; exact h.row
theorem Ph.congr (h : Ph w0 w g cs v T k q s d N P) (hp : ∀ i, i < pgs d.bs.length - 2 → P' i = P i) : Ph w0 w g cs v T k q s d N P' := by
  obtain ⟨f, r, h1, h2, h3, h4, h5⟩ := h
  refine ⟨f, r, h1, h2, h3, h4, fun i x hx => ?_⟩
  have hi := (List.getElem?_eq_some_iff.1 hx).1
  have htl := h3.tl
  rw [h4] at htl
  rw [hp i (by omega)]
  exact h5 i x hx
theorem Ph.make (h : Ph w0 w g cs (.slice none 0 0) [] k q s d N P) {v' : Value} {T' : List Bool} (hr : RowB W w.heap.size v' T') (hb : Below w.heap.size w W) : Ph w0 W g cs v' T' k q s d N P := by
  obtain ⟨f, r, h1, h2⟩ := h
  exact ⟨f, r, h1.make hr hb, h2⟩
theorem Ph.set {b c : Nat} (h : Ph w0 w g cs (.slice (some ⟨b, 0, none⟩) n c) T k q s d N P) (i : Nat) (x : Bool) : Ph w0 (w.setCell ⟨b, i, none⟩ (.bool x)) g cs (.slice (some ⟨b, 0, none⟩) n c) (T.set i x) k q s d N P := by
  obtain ⟨f, r, h1, h2⟩ := h
  exact ⟨f, r, h1.set i x, h2⟩
theorem Ph.msz {r : Rsp} (h : Fz w0 w g cs v T k q s d f N) : (f (mpg d)).size = 256 := by
  obtain ⟨hd, _, hz⟩ := h.good
  exact hz _ (mpg_pg hd)
theorem taken_at {r : Rsp} (hok : r.Ok) (hn : r.n = d.bs.length) (hP : ∀ i x, r.taken[i]? = some x → x = P i) {i : Nat} (hi : i < pgs d.bs.length - 2) : r.taken[i]? = some (P i) := by
  have htl := hok.tl
  rw [hn] at htl
  obtain ⟨x, hx⟩ : ∃ x, r.taken[i]? = some x := ⟨_, List.getElem?_eq_getElem (by omega)⟩
  rw [hx, hP i x hx]
theorem ph_alloc (hE : Env w0) (h : Ph w0 w g cs v T k q s d N P) (hN : N < 4611686018427387000) {j : Nat} (hj : j < pgs d.bs.length - 2) (h1 : ∀ i, i < j → P i = true) (h2 : P j = false) :
    Calls Tryz.prog 23 #[.pointer (some ⟨s, 0, none⟩)] w fun e V => e = .returned (.tuple #[.int .i64 ((frs d.bs.length : Int) + 1 + (j : Int)), .int .i64 0]) ∧ Ph w0 V g cs v T k q s d (N + 1) (fun i => P i || decide (i = j)) := by
  obtain ⟨f, r, hF, hS, hok, hn, hP⟩ := h
  have htl := hok.tl
  have hfr : frI r.taken = j := frI_at _ _ (fun i hi => by rw [taken_at hok hn hP (by omega), h1 i hi]) (by rw [taken_at hok hn hP hj, h2])
  have hlt : frI r.taken < r.taken.length := by rw [hfr, htl, hn]; exact hj
  obtain ⟨L, hL⟩ := hS.first hok hn hlt
  have hal := hS.al hok hn (Ph.msz (r := r) hF) hlt
  rw [hfr, hn] at hL
  rw [hfr, hn] at hal
  refine (hF.call hE (fun S h1 _ _ => alloc_sp hL hN h1)).mono fun e V hh => ⟨hh.1, _, r.al, hh.2, hal, ?_, ?_, fun i x hx => ?_⟩
  · unfold Rsp.al
    rw [if_pos hlt]
    exact ⟨hok.lo, hok.hi, by show (r.pages.set _ _).length = _; rw [List.length_set]; exact hok.pl, by show (r.taken.set _ _).length = _; rw [List.length_set]; exact hok.tl⟩
  · unfold Rsp.al
    rw [if_pos hlt]
    exact hn
  · have hx' : (r.taken.set j true)[i]? = some x := by
      unfold Rsp.al at hx
      rw [if_pos hlt, hfr] at hx
      exact hx
    rw [List.getElem?_set] at hx'
    by_cases hij : j = i
    · subst hij
      rw [if_pos rfl, if_pos (by rw [htl, hn]; exact hj)] at hx'
      rw [← Option.some.inj hx']
      simp
    · rw [if_neg hij] at hx'
      rw [hP i x hx']
      simp [Ne.symm hij]
theorem ph_none (h : Ph w0 w g cs v T k q s d N P) (h1 : ∀ i, i < pgs d.bs.length - 2 → P i = true) : ∃ f r, Fz w0 w g cs v T k q s d f N ∧ Shw d.bs.length f r ∧ r.Ok ∧ r.n = d.bs.length ∧ (∀ i x, r.taken[i]? = some x → x = P i) ∧ usr d.bs.length (f (mpg d)) false = [] := by
  obtain ⟨f, r, hF, hS, hok, hn, hP⟩ := h
  have htl := hok.tl
  refine ⟨f, r, hF, hS, hok, hn, hP, hS.full hok hn ?_⟩
  rw [frI_full _ (fun i hi => by rw [taken_at hok hn hP (by rw [htl, hn] at hi; exact hi), h1 i (by rw [htl, hn] at hi; exact hi)])]
  exact Nat.lt_irrefl _
theorem ph_full (hE : Env w0) (h : Ph w0 w g cs v T k q s d N P) (hN : N < 4611686018427387000) (h1 : ∀ i, i < pgs d.bs.length - 2 → P i = true) :
    Calls Tryz.prog 23 #[.pointer (some ⟨s, 0, none⟩)] w fun e V => e = .returned (.tuple #[.int .i64 0, .int .i64 16]) ∧ Ph w0 V g cs v T k q s d (N + 1) P := by
  obtain ⟨f, r, hF, hS, hok, hn, hP, hU⟩ := ph_none h h1
  exact (hF.call hE (fun S h1 _ _ => alloc_full hU hN h1)).mono fun e V hh => ⟨hh.1, f, r, hh.2, hS, hok, hn, hP⟩
theorem ph_free (hE : Env w0) (h : Ph w0 w g cs v T k q s d N P) (hN : N < 4611686018427387000) (h1 : ∀ i, i < pgs d.bs.length - 2 → P i = true) :
    Calls Tryz.prog 24 #[.pointer (some ⟨s, 0, none⟩)] w fun e V => e = .returned (.int .i64 0) ∧ Ph w0 V g cs v T k q s d (N + 1) P := by
  obtain ⟨f, r, hF, hS, hok, hn, hP, hU⟩ := ph_none h h1
  refine (hF.call (F := fun e _ => e = .returned (.int .i64 0)) hE (fun S h1 _ _ => ?_)).mono fun e V hh => ⟨hh.1, f, r, hh.2, hS, hok, hn, hP⟩
  have := free_sp (by omega) h1
  rw [hU] at this
  exact this
theorem ph_commit (hE : Env w0) (h : Ph w0 w g cs v T k q s d N P) (hz : Fit (d.lg.length + 5000)) (hl : d.lf < 0) :
    ∃ d', d'.bs.length = d.bs.length ∧ Calls Tryz.prog 15 #[.pointer (some ⟨s, 0, none⟩)] w fun e V => e = .returned (.int .i64 0) ∧ Ph w0 V g cs v T k q s d' N P := by
  obtain ⟨f, r, hF, hS, hok, hn, hP⟩ := h
  obtain ⟨d', e1, e2, hc⟩ := commit_fz hE hz hl hF
  refine ⟨d', e1, hc.mono fun e V hh => ⟨hh.1, _, r, hh.2, ?_, hok, by rw [e1]; exact hn, hP⟩⟩
  rw [e1]
  exact hS.congr hok hn e2
theorem ph_release (hE : Env w0) (h : Ph w0 w g cs v T k q s d N P) (hN : N < 4611686018427387000) {j : Nat} (hj : j < pgs d.bs.length - 2) :
    Calls Tryz.prog 25 #[.pointer (some ⟨s, 0, none⟩), .int .i64 ((frs d.bs.length : Int) + 1 + (j : Int))] w fun e V => e = .returned (.int .i64 (if P j then 0 else 8)) ∧ Ph w0 V g cs v T k q s d (N + 2) (fun i => P i && !decide (i = j)) := by
  obtain ⟨f, r, hF, hS, hok, hn, hP⟩ := h
  have htl := hok.tl
  have htj := taken_at hok hn hP hj
  have hg := hS.gE hok hn ((frs d.bs.length : Int) + 1 + (j : Int))
  obtain ⟨b1, b2, b3, b4, b5⟩ := frs_small hok.lo hok.hi
  have hu : isUs r.n ((frs d.bs.length : Int) + 1 + (j : Int)) := by
    rw [← hn] at hj ⊢
    exact ⟨by omega, by omega⟩
  have hix : r.ix ((frs d.bs.length : Int) + 1 + (j : Int)) = j := by
    unfold Rsp.ix
    rw [hn]
    omega
  have hgr : r.gE ((frs d.bs.length : Int) + 1 + (j : Int)) = if P j then 0 else 8 := by
    unfold Rsp.gE
    rw [if_neg (fun z => z hu), hix, List.getD_eq_getElem?_getD, htj]
    rfl
  have hm := Ph.msz (r := r) hF
  have hrel := hF.call hE (fun S h1 he h0 => release_sp ((frs d.bs.length : Int) + 1 + (j : Int)) he h0 hN h1)
  rw [hg, hgr] at hrel
  cases hPj : P j with
  | true =>
    rw [hPj] at hgr hrel
    have hsr := hS.rel hok hn hm (a := (frs d.bs.length : Int) + 1 + (j : Int)) (by rw [hgr]; rfl)
    rw [hix] at hsr
    refine hrel.mono fun e V hh => ⟨hh.1, _, _, hh.2, hsr, ⟨hok.lo, hok.hi, hok.pl, by show (r.taken.set _ _).length = _; rw [List.length_set]; exact hok.tl⟩, hn, fun i x hx => ?_⟩
    have hx' : (r.taken.set j false)[i]? = some x := hx
    rw [List.getElem?_set] at hx'
    by_cases hij : j = i
    · subst hij
      rw [if_pos rfl, if_pos (by rw [htl, hn]; exact hj)] at hx'
      rw [← Option.some.inj hx']
      simp
    · rw [if_neg hij] at hx'
      rw [hP i x hx']
      simp [Ne.symm hij]
  | false =>
    rw [hPj] at hgr hrel
    refine hrel.mono fun e V hh => ⟨hh.1, _, r, hh.2, hS, hok, hn, fun i x hx => ?_⟩
    rw [hP i x hx]
    by_cases hij : i = j
    · subst hij
      simp [hPj]
    · simp [hij]
end
end Go.Proofs.YtglallhblcjffaaGreatDoor
