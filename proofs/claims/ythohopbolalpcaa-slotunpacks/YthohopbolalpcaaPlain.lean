/-
  Plain facts on numbers and their bytes, the highest byte first: no program is named here.
-/
namespace Go.Proofs.Ythohopbolalpcaa

/-- The lowest k bytes of n, the highest of them first. -/
def be (n : Nat) : Nat → List UInt8
  | 0 => []
  | k + 1 => be (n / 256) k ++ [UInt8.ofNat n]

theorem be_length (n k : Nat) : (be n k).length = k := by
  induction k generalizing n with
  | zero => rfl
  | succ k ih => simp [be, ih]

theorem div_pow (n k : Nat) : n / 256 / 256 ^ k = n / 256 ^ (k + 1) := by
  rw [Nat.div_div_eq_div_mul, Nat.pow_succ, Nat.mul_comm]

theorem div_pow' (n k : Nat) : n / 256 ^ k / 256 = n / 256 ^ (k + 1) := by
  rw [Nat.div_div_eq_div_mul, Nat.pow_succ]

/-- One byte more stands ahead. -/
theorem be_cons (n k : Nat) : be n (k + 1) = UInt8.ofNat (n / 256 ^ k) :: be n k := by
  induction k generalizing n with
  | zero => simp [be]
  | succ k ih =>
    rw [be, ih (n / 256), div_pow]
    rfl

/-- The number that bytes are. -/
def val (l : List UInt8) : Nat := l.foldl (fun a b => a * 256 + b.toNat) 0

theorem val_snoc (l : List UInt8) (b : UInt8) : val (l ++ [b]) = val l * 256 + b.toNat := by simp [val]

theorem val_lt (l : List UInt8) : val l < 256 ^ l.length := by
  suffices h : ∀ k (l : List UInt8), l.length = k → val l < 256 ^ k from h _ l rfl
  intro k
  induction k with
  | zero => intro l h; have : l = [] := by simpa using h
            subst this; simp [val]
  | succ k ih =>
    intro l h
    have hne : l ≠ [] := by intro e; subst e; simp at h
    obtain ⟨m, b, rfl⟩ : ∃ m b, l = m ++ [b] := ⟨l.dropLast, l.getLast hne, (List.dropLast_concat_getLast hne).symm⟩
    have hm : m.length = k := by simpa using h
    have h1 := ih m hm
    have h2 := b.toNat_lt
    rw [val_snoc, Nat.pow_succ]
    omega

theorem val_be (n k : Nat) : val (be n k) = n % 256 ^ k := by
  induction k generalizing n with
  | zero => simp [be, val, Nat.mod_one]
  | succ k ih =>
    rw [be, val_snoc, ih, Nat.pow_succ, Nat.mul_comm (256 ^ k) 256, Nat.mod_mul]
    simp
    omega

theorem val_be_of_lt {n k : Nat} (h : n < 256 ^ k) : val (be n k) = n := by
  rw [val_be, Nat.mod_eq_of_lt h]

theorem be_inj {a b k : Nat} (ha : a < 256 ^ k) (hb : b < 256 ^ k) (h : be a k = be b k) : a = b := by
  rw [← val_be_of_lt ha, ← val_be_of_lt hb, h]

theorem pow_le8 {k : Nat} (h : k ≤ 8) : 256 ^ k ≤ 18446744073709551616 := by
  have := Nat.pow_le_pow_right (n := 256) (by omega) h
  simpa using this

/-- Bytes 0 at the end are left out. -/
def trim (l : List UInt8) : List UInt8 := (l.reverse.dropWhile (· == 0)).reverse

end Go.Proofs.Ythohopbolalpcaa
