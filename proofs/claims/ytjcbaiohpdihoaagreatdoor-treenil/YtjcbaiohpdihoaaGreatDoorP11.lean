/-
  A pager as plain data: its disk, its room, the held pages in the order of their last use, the changed ones by rising numbers, how often the disk was read.
-/
import Derived.Test.YtjcbaiohpdihoaaGreatDoorEq
namespace Go.Proofs.YtjcbaiohpdihoaaGreatDoor
open Go.RowKit
set_option linter.unusedVariables false
set_option linter.unusedSimpArgs false
set_option maxRecDepth 100000

/-- a held page -/
structure Hp where
  pl : Int
  pins : Nat
  data : ByteArray
/-- a pager -/
structure Pp where
  d : Ds
  room : Nat
  hs : List Hp
  ch : List Pg
  rd : Nat
def fndH (hs : List Hp) (a : Int) : Option Hp := hs.find? fun h => decide (h.pl = a)
def fndC (ch : List Pg) (a : Int) : Option Pg := ch.find? fun c => decide (c.pl = a)
def freeH (hs : List Hp) : Option Hp := hs.find? fun h => decide (h.pins = 0)
/-- without a page -/
def remH (hs : List Hp) (a : Int) : List Hp := hs.filter fun h => decide (¬ h.pl = a)
/-- to hold a page -/
def holdH (room : Nat) (hs : List Hp) (a : Int) (s : ByteArray) : List Hp :=
  if hs.length < room then hs ++ [⟨a, 0, s⟩] else match freeH hs with | none => hs | some f => remH hs f.pl ++ [⟨a, 0, s⟩]
/-- to change one -/
def insC (ch : List Pg) (a : Int) (s : ByteArray) : List Pg := ch.filter (fun c => decide (c.pl < a)) ++ ⟨a, s⟩ :: ch.filter (fun c => decide (a < c.pl))

theorem fndH_some {hs : List Hp} {a : Int} {h : Hp} (e : fndH hs a = some h) : h ∈ hs ∧ h.pl = a := ⟨List.mem_of_find?_eq_some e, by simpa using List.find?_some e⟩
theorem fndH_none {hs : List Hp} {a : Int} (e : fndH hs a = none) : ∀ h ∈ hs, ¬ h.pl = a := by simpa [fndH, List.find?_eq_none] using e
theorem fndC_some {hs : List Pg} {a : Int} {h : Pg} (e : fndC hs a = some h) : h ∈ hs ∧ h.pl = a := ⟨List.mem_of_find?_eq_some e, by simpa using List.find?_some e⟩
theorem fndC_none {hs : List Pg} {a : Int} (e : fndC hs a = none) : ∀ h ∈ hs, ¬ h.pl = a := by simpa [fndC, List.find?_eq_none] using e
theorem freeH_none {hs : List Hp} (e : freeH hs = none) : ∀ h ∈ hs, ¬ h.pins = 0 := by simpa [freeH, List.find?_eq_none] using e
theorem freeH_some {hs : List Hp} {f : Hp} (e : freeH hs = some f) : f ∈ hs ∧ f.pins = 0 := ⟨List.mem_of_find?_eq_some e, by simpa using List.find?_some e⟩
theorem fndH_of {hs : List Hp} {a : Int} (e : ∀ h ∈ hs, ¬ h.pl = a) : fndH hs a = none := by simpa [fndH, List.find?_eq_none] using e
theorem fndC_of {hs : List Pg} {a : Int} (e : ∀ h ∈ hs, ¬ h.pl = a) : fndC hs a = none := by simpa [fndC, List.find?_eq_none] using e

/-- no number twice -/
def NdH (hs : List Hp) : Prop := hs.Pairwise fun x y => ¬ x.pl = y.pl
def SrtC (ch : List Pg) : Prop := ch.Pairwise fun x y => x.pl < y.pl

theorem find_split {α : Type} {p : α → Bool} : ∀ {l : List α} {x : α}, l.find? p = some x → ∃ A B, l = A ++ x :: B ∧ (∀ y ∈ A, p y = false) ∧ p x = true
  | [], x, h => by simp at h
  | y :: r, x, h => by
    rw [List.find?_cons] at h
    cases hp : p y with
    | true => rw [hp] at h; cases h; exact ⟨[], r, rfl, by simp, hp⟩
    | false =>
      rw [hp] at h
      obtain ⟨A, B, e, h1, h2⟩ := find_split h
      refine ⟨y :: A, B, by rw [e]; rfl, ?_, h2⟩
      intro z hz
      rcases List.mem_cons.1 hz with rfl | hz
      · exact hp
      · exact h1 z hz
theorem NdH.split {A B : List Hp} {h : Hp} (n : NdH (A ++ h :: B)) : (∀ x ∈ A, ¬ x.pl = h.pl) ∧ (∀ x ∈ B, ¬ x.pl = h.pl) ∧ NdH (A ++ B) := by
  unfold NdH at *
  rw [List.pairwise_append] at n
  obtain ⟨n1, n2, n3⟩ := n
  rw [List.pairwise_cons] at n2
  refine ⟨fun x hx => n3 x hx h (by simp), fun x hx e => n2.1 x hx e.symm, ?_⟩
  rw [List.pairwise_append]
  exact ⟨n1, n2.2, fun x hx y hy => n3 x hx y (by simp [hy])⟩
theorem remH_split {A B : List Hp} {h : Hp} (n : NdH (A ++ h :: B)) : remH (A ++ h :: B) h.pl = A ++ B := by
  obtain ⟨h1, h2, _⟩ := n.split
  unfold remH
  rw [List.filter_append, List.filter_cons, List.filter_eq_self.2 (by simpa using h1), List.filter_eq_self.2 (by simpa using h2)]
  simp
theorem remH_none {hs : List Hp} {a : Int} (e : ∀ h ∈ hs, ¬ h.pl = a) : remH hs a = hs := by unfold remH; rw [List.filter_eq_self]; simpa using e
theorem NdH.rem {hs : List Hp} (n : NdH hs) (a : Int) : NdH (remH hs a) := List.Pairwise.filter _ n
theorem NdH.snoc {hs : List Hp} (n : NdH hs) {h : Hp} (e : ∀ x ∈ hs, ¬ x.pl = h.pl) : NdH (hs ++ [h]) := by
  unfold NdH at *
  rw [List.pairwise_append]
  exact ⟨n, List.pairwise_singleton _ _, fun x hx y hy => by simp at hy; subst hy; exact e x hx⟩
theorem remH_mem {hs : List Hp} {a : Int} {h : Hp} (e : h ∈ remH hs a) : h ∈ hs ∧ ¬ h.pl = a := by simpa [remH] using e
theorem remH_len {hs : List Hp} (n : NdH hs) {h : Hp} (hm : h ∈ hs) : (remH hs h.pl).length + 1 = hs.length := by
  obtain ⟨A, B, rfl⟩ := List.append_of_mem hm
  rw [remH_split n]
  simp; omega
theorem remH_le (hs : List Hp) (a : Int) : (remH hs a).length ≤ hs.length := List.length_filter_le _ _

/-- where a number stands, or would stand, among rising ones -/
theorem SrtC.cut : ∀ {ch : List Pg} (n : SrtC ch) (a : Int), ∃ A M B, ch = A ++ M ++ B ∧ (∀ c ∈ A, c.pl < a) ∧ (∀ c ∈ B, a < c.pl) ∧ (M = [] ∨ ∃ c, M = [c] ∧ c.pl = a)
  | [], n, a => ⟨[], [], [], rfl, by simp, by simp, .inl rfl⟩
  | c :: r, n, a => by
    unfold SrtC at n
    rw [List.pairwise_cons] at n
    by_cases h1 : c.pl < a
    · obtain ⟨A, M, B, e, ha, hb, hm⟩ := SrtC.cut (ch := r) n.2 a
      refine ⟨c :: A, M, B, by rw [e]; simp, ?_, hb, hm⟩
      intro x hx
      rcases List.mem_cons.1 hx with rfl | hx
      · exact h1
      · exact ha x hx
    · by_cases h2 : c.pl = a
      · exact ⟨[], [c], r, rfl, by simp, fun x hx => by have := n.1 x hx; omega, .inr ⟨c, rfl, h2⟩⟩
      · refine ⟨[], [], c :: r, rfl, by simp, ?_, .inl rfl⟩
        intro x hx
        rcases List.mem_cons.1 hx with rfl | hx
        · omega
        · have := n.1 x hx; omega
theorem insC_cut {A M B : List Pg} {a : Int} (ha : ∀ c ∈ A, c.pl < a) (hb : ∀ c ∈ B, a < c.pl) (hm : M = [] ∨ ∃ c, M = [c] ∧ c.pl = a) (s : ByteArray) : insC (A ++ M ++ B) a s = A ++ ⟨a, s⟩ :: B := by
  have f1 : A.filter (fun c => decide (c.pl < a)) = A := List.filter_eq_self.2 (by simpa using ha)
  have f2 : B.filter (fun c => decide (c.pl < a)) = [] := List.filter_eq_nil_iff.2 (fun c hc => by have := hb c hc; simp; omega)
  have f3 : A.filter (fun c => decide (a < c.pl)) = [] := List.filter_eq_nil_iff.2 (fun c hc => by have := ha c hc; simp; omega)
  have f4 : B.filter (fun c => decide (a < c.pl)) = B := List.filter_eq_self.2 (by simpa using hb)
  have g1 : M.filter (fun c => decide (c.pl < a)) = [] := by
    rcases hm with rfl | ⟨c, rfl, hc⟩
    · rfl
    · simp; omega
  have g2 : M.filter (fun c => decide (a < c.pl)) = [] := by
    rcases hm with rfl | ⟨c, rfl, hc⟩
    · rfl
    · simp; omega
  unfold insC
  simp only [List.filter_append, f1, f2, f3, f4, g1, g2, List.append_nil, List.nil_append]
theorem fndC_cut {A M B : List Pg} {a : Int} (ha : ∀ c ∈ A, c.pl < a) (hb : ∀ c ∈ B, a < c.pl) (hm : M = [] ∨ ∃ c, M = [c] ∧ c.pl = a) : fndC (A ++ M ++ B) a = M.head? := by
  have f1 : A.find? (fun c => decide (c.pl = a)) = none := List.find?_eq_none.2 (fun c hc => by have := ha c hc; simp; omega)
  have f2 : B.find? (fun c => decide (c.pl = a)) = none := List.find?_eq_none.2 (fun c hc => by have := hb c hc; simp; omega)
  unfold fndC
  rcases hm with rfl | ⟨c, rfl, hc⟩
  · simp [List.find?_append, f1, f2]
  · simp [List.find?_append, f1, f2, hc]
theorem SrtC.ins {ch : List Pg} (n : SrtC ch) (a : Int) (s : ByteArray) : SrtC (insC ch a s) := by
  unfold SrtC insC at *
  rw [List.pairwise_append, List.pairwise_cons]
  refine ⟨n.filter _, ⟨fun c hc => ?_, n.filter _⟩, fun x hx y hy => ?_⟩
  · simpa using (List.mem_filter.1 hc).2
  · have h1 : x.pl < a := by simpa using (List.mem_filter.1 hx).2
    rcases List.mem_cons.1 hy with rfl | hy
    · exact h1
    · have h2 : a < y.pl := by simpa using (List.mem_filter.1 hy).2
      omega
theorem insC_mem {ch : List Pg} {a : Int} {s : ByteArray} {c : Pg} (h : c ∈ insC ch a s) : c = ⟨a, s⟩ ∨ c ∈ ch := by
  unfold insC at h
  rcases List.mem_append.1 h with h | h
  · exact .inr (List.mem_filter.1 h).1
  · rcases List.mem_cons.1 h with h | h
    · exact .inl h
    · exact .inr (List.mem_filter.1 h).1
theorem insC_len (ch : List Pg) (a : Int) (s : ByteArray) (n : SrtC ch) : (insC ch a s).length ≤ ch.length + 1 := by
  obtain ⟨A, M, B, rfl, ha, hb, hm⟩ := n.cut a
  rw [insC_cut ha hb hm]
  simp; omega

/-- a pager that the calls leave: no count is greater than N -/
structure Pp.Ok (p : Pp) (N : Nat) : Prop where
  d : p.d.Ok
  room : 1 ≤ p.room ∧ p.room ≤ 1024
  len : p.hs.length ≤ p.room
  nd : NdH p.hs
  srt : SrtC p.ch
  pg : ∀ h ∈ p.hs, isPg p.d.bs.length h.pl ∧ h.data.size = 256 ∧ h.pins ≤ N
  cg : ∀ c ∈ p.ch, isPg p.d.bs.length c.pl ∧ c.data.size = 256
  ap : ∀ h ∈ p.hs, ∀ c ∈ p.ch, ¬ h.pl = c.pl
  rd : p.rd ≤ N

theorem srt_len : ∀ {ch : List Pg} {lo hi : Int}, SrtC ch → (∀ c ∈ ch, lo ≤ c.pl ∧ c.pl < hi) → lo ≤ hi → (ch.length : Int) ≤ hi - lo
  | [], lo, hi, _, _, h => by simp; omega
  | c :: r, lo, hi, n, hb, h => by
    unfold SrtC at n
    rw [List.pairwise_cons] at n
    have h0 := hb c (by simp)
    have := srt_len (ch := r) (lo := c.pl + 1) (hi := hi) n.2 (fun x hx => ⟨by have := n.1 x hx; omega, (hb x (by simp [hx])).2⟩) (by omega)
    simp only [List.length_cons]
    push_cast
    omega
theorem srt_pages {n : Nat} (hn : 64 ≤ n) {ch : List Pg} (h : SrtC ch) (hp : ∀ c ∈ ch, isPg n c.pl) : ch.length ≤ pgs n := by
  have hl := pgs_lo hn
  have hf : 0 < frs n := by unfold frs; omega
  cases ch with
  | nil => simp
  | cons c r =>
    have h2 := h
    unfold SrtC at h2
    rw [List.pairwise_cons] at h2
    have hc := hp c (by simp)
    have hc0 : 0 ≤ c.pl := by unfold isPg at hc; omega
    have hr : ∀ x ∈ r, (frs n : Int) ≤ x.pl ∧ x.pl < ((frs n + pgs n - 1 : Nat) : Int) := fun x hx => by
      have e1 := h2.1 x hx
      have e2 := hp x (by simp [hx])
      unfold isPg at e2
      omega
    have := srt_len (ch := r) h2.2 hr (by omega)
    simp only [List.length_cons]
    omega

/-! What the calls do. -/
def Pp.len (p : Pp) : Nat := p.d.bs.length
/-- Load: what it answers, and what it leaves -/
def Pp.ldE (p : Pp) (a : Int) : Nat :=
  if ¬ isPg p.d.bs.length a then 1 else if (fndC p.ch a).isSome then 0 else if (fndH p.hs a).isSome then 0 else p.d.rdE a
def Pp.ldS (p : Pp) (a : Int) : ByteArray :=
  if ¬ isPg p.d.bs.length a then ⟨#[]⟩ else match fndC p.ch a with
    | some c => c.data
    | none => match fndH p.hs a with
      | some h => h.data
      | none => p.d.rdS a
def Pp.ld (p : Pp) (a : Int) : Pp :=
  if ¬ isPg p.d.bs.length a then p else match fndC p.ch a with
    | some _ => p
    | none => match fndH p.hs a with
      | some h => { p with hs := remH p.hs a ++ [h] }
      | none => if p.d.rdE a = 0 then { p with rd := p.rd + 1, hs := holdH p.room p.hs a (p.d.rdS a) } else p
/-- has a page pins? -/
def pinned (hs : List Hp) (a : Int) : Bool := match fndH hs a with | some h => decide (0 < h.pins) | none => false
def Pp.stE (p : Pp) (a : Int) (s : ByteArray) : Nat :=
  if ¬ isPg p.d.bs.length a then 1 else if ¬ s.size = 256 then 3 else if pinned p.hs a = true then 10 else 0
def Pp.st (p : Pp) (a : Int) (s : ByteArray) : Pp :=
  if p.stE a s = 0 then { p with hs := remH p.hs a, ch := insC p.ch a s } else p
/-- a page's pins, changed -/
def pinH (hs : List Hp) (a : Int) (m : Nat → Nat) : List Hp := hs.map fun h => if h.pl = a then { h with pins := m h.pins } else h
def fullH (room : Nat) (hs : List Hp) : Bool := decide (room ≤ hs.length) && (freeH hs).isNone
def Pp.piE (p : Pp) (a : Int) : Nat :=
  if ¬ isPg p.d.bs.length a then 1 else if (fndC p.ch a).isSome then 19 else if (fndH p.hs a).isNone ∧ fullH p.room p.hs = true then 10 else p.ldE a
def Pp.pi (p : Pp) (a : Int) : Pp :=
  if p.piE a = 0 then { p.ld a with hs := pinH (p.ld a).hs a (· + 1) } else p
def Pp.unE (p : Pp) (a : Int) : Nat := if pinned p.hs a = true then 0 else 8
def Pp.un (p : Pp) (a : Int) : Pp := if pinned p.hs a = true then { p with hs := pinH p.hs a (· - 1) } else p
def holdAll (room : Nat) (hs : List Hp) (l : List Pg) : List Hp := l.foldl (fun hs c => holdH room hs c.pl c.data) hs
def Pp.undo (p : Pp) : Pp := { p with ch := [] }

theorem holdH_mem {room : Nat} {hs : List Hp} {a : Int} {s : ByteArray} {h : Hp} (e : h ∈ holdH room hs a s) : h = ⟨a, 0, s⟩ ∨ h ∈ hs := by
  unfold holdH at e
  split at e
  · rcases List.mem_append.1 e with e | e
    · exact .inr e
    · exact .inl (by simpa using e)
  · split at e
    · exact .inr e
    · rcases List.mem_append.1 e with e | e
      · exact .inr (remH_mem e).1
      · exact .inl (by simpa using e)
theorem holdH_nd {room : Nat} {hs : List Hp} {a : Int} (s : ByteArray) (n : NdH hs) (e : ∀ h ∈ hs, ¬ h.pl = a) : NdH (holdH room hs a s) := by
  unfold holdH
  split
  · exact n.snoc e
  · split
    · exact n
    · exact (n.rem _).snoc (fun x hx => e x (remH_mem hx).1)
theorem holdH_len {room : Nat} {hs : List Hp} (a : Int) (s : ByteArray) (n : NdH hs) (hl : hs.length ≤ room) : (holdH room hs a s).length ≤ room := by
  unfold holdH
  split
  · simp; omega
  · split
    · exact hl
    · rename_i f hf
      have := remH_len n (freeH_some hf).1
      simp; omega
theorem rdS_size {d : Ds} (hd : d.Ok) {a : Int} (h : d.rdE a = 0) : (d.rdS a).size = 256 := by
  unfold Ds.rdS
  rw [if_pos h]
  have := (Ds.rdE_zero h).2
  unfold Ds.out at this
  have hlt : a.toNat < d.bs.length := by omega
  rw [List.getD_eq_getElem?_getD, List.getElem?_eq_getElem hlt]
  exact hd.bs _ (List.getElem_mem _)

theorem Pp.Ok.mono {p : Pp} {N M : Nat} (h : p.Ok N) (hm : N ≤ M) : p.Ok M :=
  ⟨h.d, h.room, h.len, h.nd, h.srt, fun x hx => ⟨(h.pg x hx).1, (h.pg x hx).2.1, Nat.le_trans (h.pg x hx).2.2 hm⟩, h.cg, h.ap, Nat.le_trans h.rd hm⟩
theorem Pp.Ok.undo {p : Pp} {N : Nat} (h : p.Ok N) : p.undo.Ok N := ⟨h.d, h.room, h.len, h.nd, List.Pairwise.nil, h.pg, fun c hc => (by cases hc), fun _ _ c hc => (by cases hc), h.rd⟩
/-- a page is held that is neither held nor changed -/
theorem Pp.Ok.hold {p : Pp} {N : Nat} (h : p.Ok N) {a : Int} {s : ByteArray} (ha : isPg p.d.bs.length a) (hs : s.size = 256) (h1 : ∀ x ∈ p.hs, ¬ x.pl = a) (h2 : ∀ c ∈ p.ch, ¬ c.pl = a) (r : Nat) (hr : r ≤ N) : { p with rd := r, hs := holdH p.room p.hs a s : Pp }.Ok N := by
  refine ⟨h.d, h.room, holdH_len _ _ h.nd h.len, holdH_nd _ h.nd h1, h.srt, fun x hx => ?_, h.cg, fun x hx c hc => ?_, hr⟩
  · rcases holdH_mem hx with rfl | hx
    · exact ⟨ha, hs, Nat.zero_le _⟩
    · exact h.pg x hx
  · rcases holdH_mem hx with rfl | hx
    · exact fun e => h2 c hc e.symm
    · exact h.ap x hx c hc
theorem Pp.Ok.use {p : Pp} {N : Nat} (h : p.Ok N) {x : Hp} (hx : x ∈ p.hs) : { p with hs := remH p.hs x.pl ++ [x] : Pp }.Ok N := by
  refine ⟨h.d, h.room, ?_, (h.nd.rem _).snoc (fun y hy => (remH_mem hy).2), h.srt, fun y hy => ?_, h.cg, fun y hy c hc => ?_, h.rd⟩
  · have := remH_len h.nd hx
    have := h.len
    simp; omega
  · rcases List.mem_append.1 hy with hy | hy
    · exact h.pg y (remH_mem hy).1
    · simp at hy; subst hy; exact h.pg _ hx
  · rcases List.mem_append.1 hy with hy | hy
    · exact h.ap y (remH_mem hy).1 c hc
    · simp at hy; subst hy; exact h.ap _ hx c hc
theorem Pp.ld_d (p : Pp) (a : Int) : (p.ld a).d = p.d := by
  unfold Pp.ld
  split
  · rfl
  split
  · rfl
  split
  · rfl
  split <;> rfl
theorem Pp.ld_ch (p : Pp) (a : Int) : (p.ld a).ch = p.ch := by
  unfold Pp.ld
  split
  · rfl
  split
  · rfl
  split
  · rfl
  split <;> rfl
theorem Pp.ld_room (p : Pp) (a : Int) : (p.ld a).room = p.room := by
  unfold Pp.ld
  split
  · rfl
  split
  · rfl
  split
  · rfl
  split <;> rfl
theorem Pp.Ok.ld {p : Pp} {N : Nat} (h : p.Ok N) (a : Int) : (p.ld a).Ok (N + 1) := by
  unfold Pp.ld
  split
  · exact h.mono (by omega)
  rename_i ha
  have ha : isPg p.d.bs.length a := Decidable.byContradiction ha
  split
  · exact h.mono (by omega)
  rename_i hc
  split
  · rename_i x hx
    obtain ⟨h1, rfl⟩ := fndH_some hx
    exact (h.use h1).mono (by omega)
  · rename_i hx
    split
    · rename_i he
      exact (h.mono (Nat.le_succ N)).hold ha (rdS_size h.d he) (fndH_none hx) (fndC_none hc) _ (by have := h.rd; omega)
    · exact h.mono (by omega)
theorem pinH_mem {hs : List Hp} {a : Int} {m : Nat → Nat} {h : Hp} (e : h ∈ pinH hs a m) : ∃ x ∈ hs, h.pl = x.pl ∧ h.data = x.data ∧ (h.pins = x.pins ∨ h.pins = m x.pins) := by
  obtain ⟨x, hx, rfl⟩ := List.mem_map.1 e
  refine ⟨x, hx, ?_⟩
  split <;> simp
theorem pinH_pl (hs : List Hp) (a : Int) (m : Nat → Nat) : (pinH hs a m).map Hp.pl = hs.map Hp.pl := by
  unfold pinH
  rw [List.map_map]
  apply List.map_congr_left
  intro x _
  simp only [Function.comp]
  split <;> rfl
theorem NdH.of_map {hs ks : List Hp} (e : hs.map Hp.pl = ks.map Hp.pl) (n : NdH hs) : NdH ks := by
  have h1 : (hs.map Hp.pl).Pairwise (fun x y => ¬ x = y) := List.pairwise_map.2 n
  rw [e] at h1
  exact List.pairwise_map.1 h1
theorem Pp.Ok.pin {p : Pp} {N : Nat} (h : p.Ok N) (a : Int) (m : Nat → Nat) (M : Nat) (hN : N ≤ M) (hm : ∀ x, x ≤ N → m x ≤ M) : { p with hs := pinH p.hs a m : Pp }.Ok M := by
  refine ⟨h.d, h.room, ?_, NdH.of_map (pinH_pl p.hs a m).symm h.nd, h.srt, fun x hx => ?_, h.cg, fun x hx c hc => ?_, Nat.le_trans h.rd hN⟩
  · have := h.len
    simpa [pinH] using this
  · obtain ⟨y, hy, e1, e2, e3⟩ := pinH_mem hx
    obtain ⟨g1, g2, g3⟩ := h.pg y hy
    refine ⟨by rw [e1]; exact g1, by rw [e2]; exact g2, ?_⟩
    rcases e3 with e3 | e3
    · rw [e3]; exact Nat.le_trans g3 hN
    · rw [e3]; exact hm _ g3
  · obtain ⟨y, hy, e1, _⟩ := pinH_mem hx
    rw [e1]
    exact h.ap y hy c hc
theorem Pp.Ok.pi {p : Pp} {N : Nat} (h : p.Ok N) (a : Int) : (p.pi a).Ok (N + 2) := by
  unfold Pp.pi
  split
  · exact (h.ld a).pin a _ (N + 2) (by omega) (fun x hx => by omega)
  · exact h.mono (by omega)
theorem Pp.Ok.un {p : Pp} {N : Nat} (h : p.Ok N) (a : Int) : (p.un a).Ok N := by
  unfold Pp.un
  split
  · exact h.pin a _ N (Nat.le_refl _) (fun x hx => by omega)
  · exact h
theorem Pp.stE_zero {p : Pp} {a : Int} {s : ByteArray} (h : p.stE a s = 0) : isPg p.d.bs.length a ∧ s.size = 256 ∧ pinned p.hs a = false := by
  unfold Pp.stE at h
  split at h
  · cases h
  split at h
  · cases h
  split at h
  · cases h
  · rename_i h1 h2 h3
    exact ⟨Decidable.byContradiction h1, Decidable.byContradiction h2, by simpa using h3⟩
theorem Pp.Ok.st {p : Pp} {N : Nat} (h : p.Ok N) (a : Int) (s : ByteArray) : (p.st a s).Ok N := by
  unfold Pp.st
  split
  · rename_i he
    obtain ⟨h1, h2, _⟩ := Pp.stE_zero he
    refine ⟨h.d, h.room, Nat.le_trans (remH_le _ _) h.len, h.nd.rem _, h.srt.ins _ _, fun x hx => h.pg x (remH_mem hx).1, fun c hc => ?_, fun x hx c hc => ?_, h.rd⟩
    · rcases insC_mem hc with rfl | hc
      · exact ⟨h1, h2⟩
      · exact h.cg c hc
    · rcases insC_mem hc with rfl | hc
      · exact (remH_mem hx).2
      · exact h.ap x (remH_mem hx).1 c hc
  · exact h
theorem holdAll_mem {room : Nat} : ∀ {l : List Pg} {hs : List Hp} {h : Hp}, h ∈ holdAll room hs l → (∃ c ∈ l, h = ⟨c.pl, 0, c.data⟩) ∨ h ∈ hs
  | [], hs, h, e => .inr e
  | c :: r, hs, h, e => by
    rcases holdAll_mem (l := r) (hs := holdH room hs c.pl c.data) e with ⟨x, hx, e⟩ | e
    · exact .inl ⟨x, by simp [hx], e⟩
    · rcases holdH_mem e with e | e
      · exact .inl ⟨c, by simp, e⟩
      · exact .inr e
theorem holdAll_ok {room : Nat} : ∀ {l : List Pg} {hs : List Hp}, SrtC l → NdH hs → hs.length ≤ room → (∀ h ∈ hs, ∀ c ∈ l, ¬ h.pl = c.pl) → NdH (holdAll room hs l) ∧ (holdAll room hs l).length ≤ room
  | [], hs, _, n, hl, _ => ⟨n, hl⟩
  | c :: r, hs, s, n, hl, ha => by
    unfold SrtC at s
    rw [List.pairwise_cons] at s
    refine holdAll_ok (l := r) (hs := holdH room hs c.pl c.data) s.2 (holdH_nd _ n (fun h hh => ha h hh c (by simp))) (holdH_len _ _ n hl) (fun h hh x hx => ?_)
    rcases holdH_mem hh with rfl | hh
    · have := s.1 x hx
      show ¬ c.pl = x.pl
      omega
    · exact ha h hh x (by simp [hx])
theorem holdAll_append (room : Nat) (hs : List Hp) (l m : List Pg) : holdAll room hs (l ++ m) = holdAll room (holdAll room hs l) m := List.foldl_append

theorem cmt_len (d : Ds) (L : List Pg) : (cmt d L).2.bs.length = d.bs.length := by
  unfold cmt
  split
  · split
    · rfl
    · exact Ds.wrs_len _ _
  · rfl
theorem cmt_ok {d : Ds} (h : d.Ok) (L : List Pg) : (cmt d L).2.Ok := by
  unfold cmt
  split
  · split
    · exact h
    · exact h.wrs
  · exact h
/-- Commit -/
def Pp.cmE (p : Pp) : Nat := (cmt p.d p.ch).1
def Pp.cm (p : Pp) : Pp := if (cmt p.d p.ch).1 = 0 then { p with d := (cmt p.d p.ch).2, ch := [], hs := holdAll p.room p.hs p.ch } else { p with d := (cmt p.d p.ch).2 }
theorem Pp.Ok.disk {p : Pp} {N : Nat} (h : p.Ok N) {d : Ds} (hd : d.Ok) (hl : d.bs.length = p.d.bs.length) : { p with d := d : Pp }.Ok N :=
  ⟨hd, h.room, h.len, h.nd, h.srt, by simp only [hl]; exact h.pg, by simp only [hl]; exact h.cg, h.ap, h.rd⟩
theorem Pp.Ok.held {p : Pp} {N : Nat} (h : p.Ok N) : { p with ch := [], hs := holdAll p.room p.hs p.ch : Pp }.Ok N := by
  obtain ⟨h1, h2⟩ := holdAll_ok h.srt h.nd h.len h.ap
  refine ⟨h.d, h.room, h2, h1, List.Pairwise.nil, fun x hx => ?_, fun c hc => (by cases hc), fun _ _ c hc => (by cases hc), h.rd⟩
  rcases holdAll_mem hx with ⟨c, hc, rfl⟩ | hx
  · exact ⟨(h.cg c hc).1, (h.cg c hc).2, Nat.zero_le _⟩
  · exact h.pg x hx
theorem Pp.Ok.cm {p : Pp} {N : Nat} (h : p.Ok N) : p.cm.Ok N := by
  unfold Pp.cm
  split
  · exact (h.disk (cmt_ok h.d p.ch) (cmt_len _ _)).held
  · exact h.disk (cmt_ok h.d p.ch) (cmt_len _ _)
theorem Pp.Ok.clen {p : Pp} {N : Nat} (h : p.Ok N) : p.ch.length ≤ pgs p.d.bs.length := srt_pages h.d.lo h.srt (fun c hc => (h.cg c hc).1)
theorem Pp.Ok.few {p : Pp} {N : Nat} (h : p.Ok N) : p.ch.length ≤ 1019 := Nat.le_trans h.clen (pgs_hi h.d.hi)
/-- a page's number is small -/
theorem isPg_small {n : Nat} {a : Int} (h1 : 64 ≤ n) (h2 : n ≤ 2048) (h : isPg n a) : 0 ≤ a ∧ a < 2048 := by
  have := isPg_lt h1 h
  omega

end Go.Proofs.YtjcbaiohpdihoaaGreatDoor
