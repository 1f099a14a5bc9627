/-
  Lists of addresses in memory; whether a content may be.
-/
import Derived.Test.YthohopbolalpcaaSa
import Derived.Test.YthohopbolalpcaaRi
namespace Go.Proofs.Ythohopbolalpcaa
open Go.RowKit
set_option linter.unusedVariables false
set_option linter.unusedSimpArgs false
set_option maxRecDepth 100000

/-- addresses, as they stand in memory -/
def flatK (K : List Nat) : List Value := K.map fun (x : Nat) => Value.int .u64 (x : Int)
theorem flatK_length (K : List Nat) : (flatK K).length = K.length * 1 := by simp [flatK]
theorem flatK_append (K M : List Nat) : flatK (K ++ M) = flatK K ++ flatK M := by simp [flatK]
theorem flatK_one (K : List Nat) : ∀ u ∈ flatK K, u.oneCell' = true := by
  intro u h
  simp only [flatK, List.mem_map] at h
  obtain ⟨x, _, rfl⟩ := h
  rfl
theorem flatK_at {K : List Nat} {k x : Nat} (h : K[k]? = some x) : (flatK K)[k]? = some (.int .u64 (x : Int)) := by simp [flatK, h]
/-- all are numbers of 64 bits -/
def U64 (K : List Nat) : Prop := ∀ x ∈ K, x < 18446744073709551616
/-- a row of addresses of the call's own -/
def RowK (w : World) (B : Nat) (v : Value) (K : List Nat) : Prop := w.ownsRow B 33 1 v K.length (flatK K)
/-- addresses as they lie in memory -/
def LiesK (w : World) (v : Value) (K : List Nat) : Prop :=
  ∃ (a : Option Addr) (cap : Nat), v = .slice a K.length cap ∧ K.length ≤ cap ∧ cap ≤ maxLen ∧ ∀ k x, K[k]? = some x → ∃ b off, a = some ⟨b, off, none⟩ ∧ b < w.heap.size ∧ w.cell? ⟨b, off + k, none⟩ = some (.int .u64 (x : Nat)) ∧ x < 18446744073709551616
theorem LiesK.on {w w' : World} {v : Value} {K : List Nat} (h : LiesK w v K) (hb : Below w.heap.size w w') : LiesK w' v K := by
  obtain ⟨a, cap, h1, h2, h3, h4⟩ := h
  refine ⟨a, cap, h1, h2, h3, fun k p hp => ?_⟩
  obtain ⟨b, off, ha, hlt, c1, r⟩ := h4 k p hp
  exact ⟨b, off, ha, Nat.lt_of_lt_of_le hlt hb.size, (hb.cell (p := ⟨b, off + k, none⟩) hlt).trans c1, r⟩
theorem LiesK.form {w : World} {v : Value} {K : List Nat} (h : LiesK w v K) : ∃ a c, v = .slice a K.length c := by obtain ⟨a, c, h, _⟩ := h; exact ⟨a, c, h⟩
theorem LiesK.at {w : World} {a : Option Addr} {n c : Nat} {K : List Nat} (h : LiesK w (.slice a n c) K) {k x : Nat} (hk : K[k]? = some x) : ∃ b off, a = some ⟨b, off, none⟩ ∧ b < w.heap.size ∧ w.cell? ⟨b, off + k, none⟩ = some (.int .u64 (x : Nat)) ∧ x < 18446744073709551616 := by
  obtain ⟨a', c', h1, _, _, h4⟩ := h
  injection h1 with e1 _ _
  subst e1
  exact h4 k x hk
theorem LiesK.len {w : World} {v : Value} {K : List Nat} (h : LiesK w v K) : K.length ≤ maxLen := by
  obtain ⟨a, c, h1, h2, h3, h4⟩ := h
  omega
theorem LiesK.u64 {w : World} {v : Value} {K : List Nat} (h : LiesK w v K) : U64 K := by
  obtain ⟨a, cap, h1, h2, h3, h4⟩ := h
  intro x hx
  obtain ⟨k, hk⟩ := List.mem_iff_getElem?.1 hx
  obtain ⟨_, _, _, _, _, r⟩ := h4 k x hk
  exact r
theorem RowK.lies {w : World} {B : Nat} {v : Value} {K : List Nat} (h : RowK w B v K) (hf : U64 K) : LiesK w v K := by
  obtain ⟨a, cap, e1, h1, h2, hcc⟩ := own_cells h
  refine ⟨a, cap, e1, h1, h2, fun k p hp => ?_⟩
  obtain ⟨g, hg, _, hlt, c0, _⟩ := hcc k (.int .u64 (p : Int)) (flatK_at hp)
  exact ⟨g, 0, hg, hlt, by rw [Nat.zero_add]; exact c0, hf p (List.mem_of_getElem? hp)⟩
theorem LiesK.nil (w : World) : LiesK w (.slice none 0 0) [] := ⟨none, 0, rfl, Nat.le_refl _, Nat.zero_le _, fun k x h => by simp at h⟩

/-- the world is as it was -/
def IsW (w wr : World) : Prop := wr = w
/-- why a content may not be: 0 where it may -/
def ctE (s : List UInt8) (K : List Nat) : Nat :=
  if kind s = 0 then 4 else if 4 < K.length ∨ (kind s = 2 ∧ 0 < K.length) then 5 else if K.all isA then 0 else 1

theorem all_take_succ {K : List Nat} {j x : Nat} (h : K[j]? = some x) : (K.take (j + 1)).all isA = ((K.take j).all isA && isA x) := by
  rw [List.take_add_one, h]
  simp [List.all_append]

set_option maxHeartbeats 2000000 in
theorem ckContent_any (s : ByteArray) (v : Value) (K : List Nat) (w : World) (hs : s.size ≤ maxLen) (hl : LiesK w v K) :
    Calls Try.prog 22 #[.string s, v] w fun e w' => e = .returned (.int .i64 (ctE s.data.toList K : Nat)) ∧ w = w' := by
  obtain ⟨a, c, rfl⟩ := hl.form
  have hk := kind_any s w hs
  have hlen := hl.len
  unfold maxLen at hlen
  have HE : Hid (ctE s.data.toList K = if kind s.data.toList = 0 then 4 else if 4 < K.length ∨ (kind s.data.toList = 2 ∧ 0 < K.length) then 5 else if K.all isA then 0 else 1) := rfl
  generalize ctE s.data.toList K = r at *
  generalize kind s.data.toList = k at *
  have HT : Hid (K.take K.length = K) := List.take_length
  have HL := hid hl
  obtain ⟨n, hn⟩ : ∃ n, K.length = n := ⟨_, rfl⟩
  have HN := hid hn
  rw [hn] at HE HL HT hlen ⊢
  clear hl hn
  by_cases h0 : k = 0
  · subst h0
    obtain rfl : r = 4 := by rw [HE.out]; rfl
    clear HE
    go_enter Try.func22, Try.ntmps22
    go_wp2_with (go_at_call 39; refine hk.mono ?_; rintro e w1 ⟨rfl, rfl⟩)
    go_ret
    exact ⟨rfl, rfl⟩
  have k0 : ¬ (k : Int) = 0 := by omega
  by_cases h4 : 4 < n
  · obtain rfl : r = 5 := by rw [HE.out, if_neg h0, if_pos (.inl h4)]
    have c4 : (4 : Int) < (n : Int) := by omega
    clear HE h0 h4
    go_enter Try.func22, Try.ntmps22
    go_wp2_with (go_at_call 39; refine hk.mono ?_; rintro e w1 ⟨rfl, rfl⟩)
    go_ret
    exact ⟨rfl, rfl⟩
  have c4 : ¬ (4 : Int) < (n : Int) := by omega
  by_cases h2 : k = 2 ∧ 0 < n
  · obtain rfl : r = 5 := by rw [HE.out, if_neg h0, if_pos (.inr h2)]
    have c1 : (k : Int) = 2 := by omega
    have c2 : (0 : Int) < (n : Int) := by omega
    clear HE h0 h4 h2
    go_enter Try.func22, Try.ntmps22
    go_wp2_with (go_at_call 39; refine hk.mono ?_; rintro e w1 ⟨rfl, rfl⟩)
    go_ret
    exact ⟨rfl, rfl⟩
  have HR : Hid (r = if K.all isA then 0 else 1) := by show _ = _; rw [HE.out, if_neg h0, if_neg (by omega)]
  have H0 : Hid ((K.take 0).all isA = true) := by show _ = _; rfl
  clear HE h0
  have hcase : (¬ (k : Int) = 2) ∨ ((k : Int) = 2 ∧ ¬ (0 : Int) < (n : Int)) := by omega
  clear h2
  rcases hcase with c1 | ⟨c1, c2⟩
  · go_enter Try.func22, Try.ntmps22
    go_wp2_with (go_at_call 39; refine hk.mono ?_; rintro e w1 ⟨rfl, rfl⟩)
    clear hk k0 c1 c4
    try clear c2
    go_loopw [26] (fun i wr => ∃ j : Nat, j ≤ n ∧ i = .int .i64 (j : Nat) ∧ IsW w wr ∧ Hid ((K.take j).all isA = true)) (fun i _ => n - (intOf i).toNat)
    case atStart => exact ⟨0, Nat.zero_le _, rfl, rfl, H0⟩
    case round =>
      obtain ⟨j, hj, rfl, HW, HI⟩ := hrel
      obtain rfl : w = wr := Eq.symm HW
      clear H0
      by_cases hjn : j < n
      · have hji : (j : Int) < (n : Int) := by omega
        obtain ⟨x, hx⟩ : ∃ x, K[j]? = some x := ⟨_, List.getElem?_eq_getElem (by rw [HN.out]; exact hjn)⟩
        obtain ⟨b, off, e1, hbl, d1, d2⟩ := HL.out.at hx
        subst e1
        have ha := isAddr_any x w d2
        have HX : Hid (K.take (j + 1) = K.take (j + 1) ∧ (K.take (j + 1)).all isA = isA x) := ⟨rfl, by rw [all_take_succ hx, HI.out, Bool.true_and]⟩
        have HM := hid (List.mem_of_getElem? hx)
        clear hx d2
        cases hA : isA x
        · rw [hA] at ha
          go_wp2_with (go_at_call 40; refine ha.mono ?_; rintro e w1 ⟨rfl, rfl⟩)
          go_ret
          refine ⟨?_, rfl⟩
          have : K.all isA = false := by
            rw [← Bool.not_eq_true]
            intro h
            have := List.all_eq_true.1 h x HM.out
            rw [hA] at this; cases this
          rw [HR.out, this]
          rfl
        · rw [hA] at ha
          go_wp2_with (go_at_call 40; refine ha.mono ?_; rintro e w1 ⟨rfl, rfl⟩)
          go_roundw
          case rel => exact ⟨j + 1, by omega, by go_num, rfl, by show _ = _; rw [HX.out.2, hA]⟩
          case measure => simp [intOf]; omega
      · have hji : ¬ (j : Int) < (n : Int) := by omega
        obtain rfl : j = n := by omega
        go_wp2_with fail
        go_ret
        refine ⟨?_, rfl⟩
        rw [HR.out, ← HT.out, HI.out]
        rfl
  · obtain rfl : n = 0 := by omega
    go_enter Try.func22, Try.ntmps22
    go_wp2_with (go_at_call 39; refine hk.mono ?_; rintro e w1 ⟨rfl, rfl⟩)
    clear hk k0 c1 c4
    try clear c2
    go_loopw [26] (fun i wr => ∃ j : Nat, j ≤ 0 ∧ i = .int .i64 (j : Nat) ∧ IsW w wr ∧ Hid ((K.take j).all isA = true)) (fun i _ => 0 - (intOf i).toNat)
    case atStart => exact ⟨0, Nat.zero_le _, rfl, rfl, H0⟩
    case round =>
      obtain ⟨j, hj, rfl, HW, HI⟩ := hrel
      obtain rfl : w = wr := Eq.symm HW
      clear H0
      obtain rfl : j = 0 := by omega
      go_wp2_with fail
      go_ret
      refine ⟨?_, rfl⟩
      rw [HR.out, ← HT.out, HI.out]
      rfl
end Go.Proofs.Ythohopbolalpcaa

