/-
  Plain facts on the two sums of bytes: no program is named here.
-/
namespace Go.Proofs.Ythohopbolalpcaa

/-- One byte more in the two numbers of a sum. -/
def step (p : Nat × Nat) (c : UInt8) : Nat × Nat := ((p.1 + c.toNat) % 65521, (p.2 + (p.1 + c.toNat) % 65521) % 65521)

/-- The two numbers of a sum, gone on with by bytes. -/
def run (p : Nat × Nat) (l : List UInt8) : Nat × Nat := l.foldl step p

/-- The sum that two numbers make. -/
def packed (p : Nat × Nat) : Nat := p.2 * 65536 + p.1

/-- The two numbers that a sum holds. -/
def halves (n : Nat) : Nat × Nat := (n % 65536 % 65521, n / 65536 % 65521)

/-- The sum n, gone on with by bytes. -/
def more (n : Nat) (l : List UInt8) : Nat := packed (run (halves n) l)

theorem step_lt (p : Nat × Nat) (c : UInt8) : (step p c).1 < 65521 ∧ (step p c).2 < 65521 := by
  simp only [step]; omega

theorem run_snoc (p : Nat × Nat) (l : List UInt8) (c : UInt8) : run p (l ++ [c]) = step (run p l) c := by simp [run]

theorem run_append (p : Nat × Nat) (l m : List UInt8) : run p (l ++ m) = run (run p l) m := by simp [run]

theorem run_cons (p : Nat × Nat) (c : UInt8) (l : List UInt8) : run p (c :: l) = run (step p c) l := by simp [run]

theorem run_lt (p : Nat × Nat) (l : List UInt8) (h1 : p.1 < 65521) (h2 : p.2 < 65521) : (run p l).1 < 65521 ∧ (run p l).2 < 65521 := by
  induction l generalizing p with
  | nil => exact ⟨h1, h2⟩
  | cons c l ih => rw [run_cons]; exact ih _ (step_lt p c).1 (step_lt p c).2

theorem halves_lt (n : Nat) : (halves n).1 < 65521 ∧ (halves n).2 < 65521 := by
  simp only [halves]; omega

theorem halves_packed (p : Nat × Nat) (h1 : p.1 < 65521) (h2 : p.2 < 65521) : halves (packed p) = p := by
  obtain ⟨a, b⟩ := p
  simp only [halves, packed] at *
  rw [Prod.mk.injEq]; omega

theorem packed_inj {p q : Nat × Nat} (h1 : p.1 < 65521) (h2 : p.2 < 65521) (h3 : q.1 < 65521) (h4 : q.2 < 65521) (h : packed p = packed q) : p = q := by
  rw [← halves_packed p h1 h2, h, halves_packed q h3 h4]

theorem more_lt (n : Nat) (l : List UInt8) : more n l < 4294967296 := by
  have h := run_lt (halves n) l (halves_lt n).1 (halves_lt n).2
  simp only [more, packed]; omega

theorem more_more (n : Nat) (l m : List UInt8) : more (more n l) m = more n (l ++ m) := by
  have h := run_lt (halves n) l (halves_lt n).1 (halves_lt n).2
  unfold more
  rw [halves_packed _ h.1 h.2, run_append]

/-- What goes on alike was alike. -/
theorem step_back {p q : Nat × Nat} {c : UInt8} (h1 : p.1 < 65521) (h2 : p.2 < 65521) (h3 : q.1 < 65521) (h4 : q.2 < 65521) (h : step p c = step q c) : p = q := by
  obtain ⟨a, b⟩ := p
  obtain ⟨a', b'⟩ := q
  have hc := c.toNat_lt
  simp only [step, Prod.mk.injEq] at *
  omega

theorem run_back {p q : Nat × Nat} {l : List UInt8} (h1 : p.1 < 65521) (h2 : p.2 < 65521) (h3 : q.1 < 65521) (h4 : q.2 < 65521) (h : run p l = run q l) : p = q := by
  induction l generalizing p q with
  | nil => exact h
  | cons c l ih =>
    rw [run_cons, run_cons] at h
    exact step_back h1 h2 h3 h4 (ih (step_lt p c).1 (step_lt p c).2 (step_lt q c).1 (step_lt q c).2 h)

theorem step_byte {p : Nat × Nat} {c d : UInt8} (h : step p c = step p d) : c = d := by
  obtain ⟨a, b⟩ := p
  have hc := c.toNat_lt
  have hd := d.toNat_lt
  simp only [step, Prod.mk.injEq] at h
  apply UInt8.toNat_inj.mp
  omega

/-- A byte that is changed is told. -/
theorem more_changed (n : Nat) (x y : List UInt8) (c d : UInt8) : more n (x ++ c :: y) = more n (x ++ d :: y) ↔ c = d := by
  constructor
  · intro h
    have hx := run_lt (halves n) x (halves_lt n).1 (halves_lt n).2
    have hc := run_lt (halves n) (x ++ c :: y) (halves_lt n).1 (halves_lt n).2
    have hd := run_lt (halves n) (x ++ d :: y) (halves_lt n).1 (halves_lt n).2
    have e := packed_inj hc.1 hc.2 hd.1 hd.2 h
    rw [run_append, run_append, run_cons, run_cons] at e
    exact step_byte (run_back (step_lt _ c).1 (step_lt _ c).2 (step_lt _ d).1 (step_lt _ d).2 e)
  · rintro rfl; rfl

theorem step_two {p : Nat × Nat} {c d : UInt8} (h : step (step p c) d = step (step p d) c) : c = d := by
  obtain ⟨a, b⟩ := p
  have hc := c.toNat_lt
  have hd := d.toNat_lt
  simp only [step, Prod.mk.injEq] at h
  apply UInt8.toNat_inj.mp
  omega

/-- Two bytes side by side that are turned round are told. -/
theorem more_turned (n : Nat) (x y : List UInt8) (c d : UInt8) : more n (x ++ d :: c :: y) = more n (x ++ c :: d :: y) ↔ c = d := by
  constructor
  · intro h
    have hc := run_lt (halves n) (x ++ c :: d :: y) (halves_lt n).1 (halves_lt n).2
    have hd := run_lt (halves n) (x ++ d :: c :: y) (halves_lt n).1 (halves_lt n).2
    have e := packed_inj hd.1 hd.2 hc.1 hc.2 h
    rw [run_append, run_append, run_cons, run_cons, run_cons, run_cons] at e
    exact (step_two (run_back (step_lt _ c).1 (step_lt _ c).2 (step_lt _ d).1 (step_lt _ d).2 e)).symm
  · rintro rfl; rfl

/-- One byte more in a hash. -/
def hstep (h : Nat) (c : UInt8) : Nat := ((h ^^^ c.toNat) * 16777619) % 4294967296

/-- A number, exclusive or with itself moved down, times another. -/
def down (h k f : Nat) : Nat := ((h ^^^ (h / 2 ^ k)) * f) % 4294967296

/-- The hash of bytes. -/
def hash (l : List UInt8) : Nat := down (down (down (l.foldl hstep 2166136261) 16 2246822507) 13 3266489909) 16 1

theorem down_lt (h k f : Nat) : down h k f < 4294967296 := by
  unfold down; omega

theorem hstep_lt (h : Nat) (c : UInt8) : hstep h c < 4294967296 := by
  unfold hstep; omega

theorem hrun_snoc (h : Nat) (l : List UInt8) (c : UInt8) : (l ++ [c]).foldl hstep h = hstep (l.foldl hstep h) c := by
  rw [List.foldl_append, List.foldl_cons, List.foldl_nil]

theorem hrun_lt (l : List UInt8) (h : Nat) (hh : h < 4294967296) : l.foldl hstep h < 4294967296 := by
  induction l generalizing h with
  | nil => exact hh
  | cons c l ih => rw [List.foldl_cons]; exact ih _ (hstep_lt h c)

theorem xor_lt {a b : Nat} (ha : a < 4294967296) (hb : b < 4294967296) : a ^^^ b < 4294967296 := Nat.xor_lt_two_pow (n := 32) ha hb

end Go.Proofs.Ythohopbolalpcaa
