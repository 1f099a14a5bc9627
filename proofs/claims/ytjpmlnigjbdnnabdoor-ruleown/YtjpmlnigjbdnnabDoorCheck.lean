/-
  What the program's Check answers of any rule.
-/
import Derived.Test.YtjpmlnigjbdnnabDoorLie
import Derived.Shelf.Abstract
import Derived.Test.YtjpmlnigjbdnnabDoorVars
namespace Go.Proofs.YtjpmlnigjbdnnabDoor
open Go.RowKit
set_option linter.unusedVariables false
set_option linter.unusedSimpArgs false
set_option maxRecDepth 100000

theorem errorIf_any (x : Bool) (k : Int) (w : World) : Calls Tryd.prog 33 #[.bool x, .int .i64 k] w fun e w' => e = .returned (.int .i64 (if x then k else 0)) ∧ w = w' := by
  cases x
  · go_enter Tryd.func33, Tryd.ntmps33
    go_wp2
    go_ret
    exact ⟨rfl, rfl⟩
  · go_enter Tryd.func33, Tryd.ntmps33
    go_wp2
    go_ret
    exact ⟨rfl, rfl⟩

/-- how firstError ends: all answer 0, or the first one that doesn't is told, and none behind it was asked -/
def Firsts (n : Nat) (rs : Nat → Nat) (I : Nat → World → Prop) (e : Ending) (w' : World) : Prop :=
  (e = .returned (.int .i64 0) ∧ I n w' ∧ ∀ j, j < n → rs j = 0) ∨ ∃ k, k < n ∧ (∀ j, j < k → rs j = 0) ∧ rs k ≠ 0 ∧ e = .returned (.int .i64 (rs k : Nat)) ∧ I (k + 1) w'

set_option maxHeartbeats 2000000 in
theorem first_any (n b cap : Nat) (hn : n ≤ 1000) (fs : Nat → Nat) (cs : Nat → Array Value) (rs : Nat → Nat) (I : Nat → World → Prop) (w : World)
    (hE : ∀ i, i < n → ∀ args w, (callFunc (fs i) args).run Tryd.prog w = .ok (.enter (fs i) args) w)
    (hC : ∀ i w', i < n → I i w' → w'.cell? ⟨b, i, none⟩ = some (.func (.func (fs i)) #[] (cs i)))
    (hS : ∀ i w', i < n → (∀ j, j < i → rs j = 0) → I i w' → Calls Tryd.prog (fs i) (cs i) w' fun e w'' => e = .returned (.int .i64 (rs i : Nat)) ∧ I (i + 1) w'')
    (h0 : I 0 w) :
    Calls Tryd.prog 14 #[.slice (some ⟨b, 0, none⟩) n cap] w fun e w' => Firsts n rs I e w' := by
  have HE : Hid (∀ i, i < n → ∀ args w, (callFunc (fs i) args).run Tryd.prog w = .ok (.enter (fs i) args) w) := hE
  have HC : Hid (∀ i w', i < n → I i w' → w'.cell? ⟨b, i, none⟩ = some (.func (.func (fs i)) #[] (cs i))) := hC
  have HS : Hid (∀ i w', i < n → (∀ j, j < i → rs j = 0) → I i w' → Calls Tryd.prog (fs i) (cs i) w' fun e w'' => e = .returned (.int .i64 (rs i : Nat)) ∧ I (i + 1) w'') := hS
  have H0 : Hid (I 0 w) := h0
  clear hE hC hS h0
  go_enter Tryd.func14, Tryd.ntmps14
  go_wp2
  go_loopw [8] (fun i wr => ∃ k : Nat, k ≤ n ∧ i = .int .i64 (k : Nat) ∧ Hid (I k wr) ∧ Hid (∀ j, j < k → rs j = 0)) (fun i _ => n - (intOf i).toNat)
  case atStart => exact ⟨0, Nat.zero_le _, rfl, H0, (fun j hj => absurd hj (Nat.not_lt_zero _))⟩
  case round =>
    obtain ⟨k, hk, rfl, HI, HZ⟩ := hrel
    clear H0
    by_cases hlt : k < n
    · have hki : (k : Int) < (n : Int) := by omega
      have hc := HC.out k wr hlt HI.out
      have he := HE.out k hlt
      have hs := HS.out k wr hlt HZ.out HI.out
      have HF : Hid (rs k = rs k) := rfl
      obtain ⟨f, hf⟩ : ∃ f, fs k = f := ⟨_, rfl⟩
      obtain ⟨c, hcs⟩ : ∃ c, cs k = c := ⟨_, rfl⟩
      obtain ⟨r, hr⟩ : ∃ r, rs k = r := ⟨_, rfl⟩
      have HR : Hid (rs k = r) := hr
      rw [hf, hcs] at hc hs
      rw [hf] at he
      rw [hr] at hs
      clear hf hcs hr HE HC HS
      by_cases hz : r = 0
      · subst hz
        go_wp2_with (go_at_fn f; refine hs.mono ?_; rintro e w2 ⟨rfl, hI2⟩)
        go_roundw
        case rel =>
          refine ⟨k + 1, by omega, by go_num, hI2, ?_⟩
          intro j hj
          by_cases e : j = k
          · subst e; exact HR.out
          · exact HZ.out j (by omega)
        case measure => simp [intOf]; omega
      · have e1 : ((r : Int) == 0) = false := by simp only [beq_eq_false_iff_ne]; omega
        have e2 : ¬ (r : Int) = 0 := by omega
        go_wp2_with (go_at_fn f; refine hs.mono ?_; rintro e w2 ⟨rfl, hI2⟩)
        go_ret
        exact Or.inr ⟨k, hlt, HZ.out, by rw [HR.out]; exact hz, by rw [HR.out]; rfl, hI2⟩
    · have hki : ¬ (k : Int) < (n : Int) := by omega
      obtain rfl : k = n := by omega
      go_wp2
      go_ret
      exact Or.inl ⟨rfl, HI.out, HZ.out⟩

/-- the first answer that isn't 0 -/
def fst (rs : Nat → Nat) : Nat → Nat → Nat
  | 0, _ => 0
  | n + 1, i => if rs i = 0 then fst rs n (i + 1) else rs i
theorem fst_all (rs : Nat → Nat) : ∀ (n i : Nat), (∀ j, i ≤ j → j < i + n → rs j = 0) → fst rs n i = 0
  | 0, _, _ => rfl
  | n + 1, i, h => by
    unfold fst
    rw [if_pos (h i (Nat.le_refl _) (by omega))]
    exact fst_all rs n (i + 1) fun j h1 h2 => h j (by omega) (by omega)
theorem fst_hit (rs : Nat → Nat) : ∀ (n i k : Nat), i ≤ k → k < i + n → (∀ j, i ≤ j → j < k → rs j = 0) → rs k ≠ 0 → fst rs n i = rs k
  | 0, i, k, h1, h2, _, _ => by omega
  | n + 1, i, k, h1, h2, h3, h4 => by
    unfold fst
    by_cases e : i = k
    · subst e; rw [if_neg h4]
    · rw [if_pos (h3 i (Nat.le_refl _) (by omega))]
      exact fst_hit rs n (i + 1) k (by omega) (by omega) (fun j h5 h6 => h3 j (by omega) h6) h4
theorem fst_zero (rs : Nat → Nat) : ∀ (n i : Nat), fst rs n i = 0 → ∀ j, i ≤ j → j < i + n → rs j = 0
  | 0, i, _, j, h1, h2 => by omega
  | n + 1, i, h, j, h1, h2 => by
    unfold fst at h
    by_cases e : rs i = 0
    · rw [if_pos e] at h
      by_cases e2 : i = j
      · subst e2; exact e
      · exact fst_zero rs n (i + 1) h j (by omega) (by omega)
    · rw [if_neg e] at h; exact absurd h e
theorem Firsts.told {n : Nat} {rs : Nat → Nat} {I : Nat → World → Prop} {e : Ending} {w' : World} (h : Firsts n rs I e w') : e = .returned (.int .i64 (fst rs n 0 : Nat)) ∧ (fst rs n 0 = 0 → I n w') ∧ ∃ k, I k w' := by
  rcases h with ⟨h1, h2, h3⟩ | ⟨k, h1, h2, h3, h4, h5⟩
  · have := fst_all rs n 0 fun j _ hj => h3 j (by omega)
    rw [this]
    exact ⟨h1, fun _ => h2, _, h2⟩
  · have := fst_hit rs n 0 k (Nat.zero_le _) (by omega) (fun j _ hj => h2 j hj) h3
    rw [this]
    exact ⟨h4, fun h => absurd h h3, _, h5⟩

/-- has R a variable that L lacks? -/
def unb (L R : List Cl) : Bool := (varsOf R).any fun v => !inS v (varsOf L)
def hd (L : List Cl) : ByteArray := (L.headD ⟨⟨#[]⟩, 0⟩).nm
/-- what each question finds -/
def cks (id : Int) (L R : List Cl) : Nat → Nat
  | 0 => if id < 0 ∨ 65535 < id then 1 else 0
  | 1 => check L
  | 2 => check R
  | 3 => if 8 < L.length ∨ 8 < R.length then 6 else 0
  | 4 => if kind (hd L).data.toList = 2 then 20 else 0
  | 5 => if unb L R then 7 else 0
  | _ => 0
/-- what is wrong with a rule -/
def chk (id : Int) (L R : List Cl) : Nat := fst (cks id L R) 6 0
theorem chk_zero {id : Int} {L R : List Cl} (h : chk id L R = 0) : (0 ≤ id ∧ id ≤ 65535) ∧ check L = 0 ∧ check R = 0 ∧ (L.length ≤ 8 ∧ R.length ≤ 8) ∧ kind (hd L).data.toList ≠ 2 ∧ unb L R = false := by
  have h0 := fst_zero _ _ _ h
  have a0 := h0 0 (by omega) (by omega)
  have a1 := h0 1 (by omega) (by omega)
  have a2 := h0 2 (by omega) (by omega)
  have a3 := h0 3 (by omega) (by omega)
  have a4 := h0 4 (by omega) (by omega)
  have a5 := h0 5 (by omega) (by omega)
  simp only [cks] at a0 a1 a2 a3 a4 a5
  refine ⟨?_, a1, a2, ?_, ?_, ?_⟩
  · by_cases e : id < 0 ∨ 65535 < id
    · rw [if_pos e] at a0; cases a0
    · omega
  · by_cases e : 8 < L.length ∨ 8 < R.length
    · rw [if_pos e] at a3; cases a3
    · omega
  · intro e; rw [if_pos e] at a4; cases a4
  · cases e : unb L R with
    | false => rfl
    | true => rw [e] at a5; simp at a5

/-- a rule in a block of its own -/
structure BoxR (w : World) (b : Nat) (id : Int) (lv rv : Value) : Prop where
  lt : b < w.heap.size
  c0 : w.cell? ⟨b, 0, none⟩ = some (.int .i64 id)
  c1 : w.cell? ⟨b, 1, none⟩ = some lv
  c2 : w.cell? ⟨b, 2, none⟩ = some rv
theorem BoxR.on {w w' : World} {B b : Nat} {id : Int} {lv rv : Value} (h : BoxR w b id lv rv) (hb : Below B w w') (hB : b < B) : BoxR w' b id lv rv :=
  ⟨Nat.lt_of_lt_of_le h.lt hb.size, (hb.cell (p := ⟨b, 0, none⟩) hB).trans h.c0, (hb.cell (p := ⟨b, 1, none⟩) hB).trans h.c1, (hb.cell (p := ⟨b, 2, none⟩) hB).trans h.c2⟩

theorem ck1 (w : World) (b : Nat) (id : Int) (lv rv : Value) (h : BoxR w b id lv rv) (L R : List Cl) :
    Calls Tryd.prog 32 #[.pointer (some ⟨b, 0, none⟩)] w fun e w' => e = .returned (.int .i64 (cks id L R 0 : Nat)) ∧ Below w.heap.size w w' := by
  obtain ⟨_, c0, _, _⟩ := h
  by_cases h1 : id < 0
  · have e : cks id L R 0 = 1 := by simp only [cks]; rw [if_pos (.inl h1)]
    rw [e]
    clear e
    go_enter Tryd.func32, Tryd.ntmps32
    go_wp2_with (go_at_call 33; refine (errorIf_any _ _ _).mono ?_; rintro e w1 ⟨rfl, rfl⟩)
    go_ret
    exact ⟨by simp, Below.refl _ _⟩
  by_cases h2 : 65535 < id
  · have e : cks id L R 0 = 1 := by simp only [cks]; rw [if_pos (.inr h2)]
    rw [e]
    clear e
    go_enter Tryd.func32, Tryd.ntmps32
    go_wp2_with (go_at_call 33; refine (errorIf_any _ _ _).mono ?_; rintro e w1 ⟨rfl, rfl⟩)
    go_ret
    exact ⟨by simp, Below.refl _ _⟩
  · have e : cks id L R 0 = 0 := by simp only [cks]; rw [if_neg (by omega)]
    rw [e]
    clear e
    go_enter Tryd.func32, Tryd.ntmps32
    go_wp2_with (go_at_call 33; refine (errorIf_any _ _ _).mono ?_; rintro e w1 ⟨rfl, rfl⟩)
    go_ret
    exact ⟨by simp, Below.refl _ _⟩

theorem ck2 (w : World) (b : Nat) (id : Int) (lv rv : Value) (h : BoxR w b id lv rv) (L R : List Cl) (hl : Lies w lv L) :
    Calls Tryd.prog 34 #[.pointer (some ⟨b, 0, none⟩)] w fun e w' => e = .returned (.int .i64 (cks id L R 1 : Nat)) ∧ Below w.heap.size w w' := by
  obtain ⟨_, _, c1, _⟩ := h
  have hc := check_any w lv L hl
  obtain ⟨la, lc, rfl, _⟩ := hl
  simp only [cks]
  go_enter Tryd.func34, Tryd.ntmps34
  go_wp2_with (go_at_call 35; refine hc.mono ?_; rintro e w1 ⟨rfl, hb⟩)
  go_ret
  exact ⟨rfl, hb⟩

theorem ck3 (w : World) (b : Nat) (id : Int) (lv rv : Value) (h : BoxR w b id lv rv) (L R : List Cl) (hl : Lies w rv R) :
    Calls Tryd.prog 36 #[.pointer (some ⟨b, 0, none⟩)] w fun e w' => e = .returned (.int .i64 (cks id L R 2 : Nat)) ∧ Below w.heap.size w w' := by
  obtain ⟨_, _, _, c2⟩ := h
  have hc := check_any w rv R hl
  obtain ⟨la, lc, rfl, _⟩ := hl
  simp only [cks]
  go_enter Tryd.func36, Tryd.ntmps36
  go_wp2_with (go_at_call 35; refine hc.mono ?_; rintro e w1 ⟨rfl, hb⟩)
  go_ret
  exact ⟨rfl, hb⟩

theorem ck4 (w : World) (b : Nat) (id : Int) (lv rv : Value) (h : BoxR w b id lv rv) (L R : List Cl) (hl : Lies w lv L) (hr : Lies w rv R) :
    Calls Tryd.prog 37 #[.pointer (some ⟨b, 0, none⟩)] w fun e w' => e = .returned (.int .i64 (cks id L R 3 : Nat)) ∧ Below w.heap.size w w' := by
  obtain ⟨_, _, c1, c2⟩ := h
  obtain ⟨la, lc, rfl, l1, l2, _⟩ := hl
  obtain ⟨ra, rc, rfl, r1, r2, _⟩ := hr
  unfold maxLen at l2 r2
  by_cases h8 : 8 < L.length ∨ 8 < R.length
  · have e : cks id L R 3 = 6 := by simp only [cks]; rw [if_pos h8]
    have hm : (8 : Int) < max (L.length : Int) (R.length : Int) := by omega
    rw [e]
    clear e h8
    go_enter Tryd.func37, Tryd.ntmps37
    go_wp2_with (go_at_call 33; refine (errorIf_any _ _ _).mono ?_; rintro e w1 ⟨rfl, rfl⟩)
    go_ret
    exact ⟨rfl, Below.refl _ _⟩
  · have e : cks id L R 3 = 0 := by simp only [cks]; rw [if_neg h8]
    have hm : max (L.length : Int) (R.length : Int) ≤ 8 := by omega
    rw [e]
    clear e h8
    go_enter Tryd.func37, Tryd.ntmps37
    go_wp2_with (go_at_call 33; refine (errorIf_any _ _ _).mono ?_; rintro e w1 ⟨rfl, rfl⟩)
    go_ret
    exact ⟨rfl, Below.refl _ _⟩

theorem ck5 (w : World) (b : Nat) (id : Int) (lv rv : Value) (h : BoxR w b id lv rv) (L R : List Cl) (hl : Lies w lv L) (hL : check L = 0) :
    Calls Tryd.prog 38 #[.pointer (some ⟨b, 0, none⟩)] w fun e w' => e = .returned (.int .i64 (cks id L R 4 : Nat)) ∧ Below w.heap.size w w' := by
  obtain ⟨_, _, c1, _⟩ := h
  obtain ⟨nm, kd, rfl⟩ := check_term hL
  have hhd : hd (Fo.cons nm kd .nil).flat = nm := rfl
  have h8 := (name_len (cellsErr_zero.1 (check_zero hL).2.1 ⟨nm, (kd.len : Nat)⟩ (by simp [Fo.flat]))).2
  have hkd := fun w => kind_any nm w (by simp only at h8; unfold maxLen; omega)
  obtain ⟨la, lc, rfl, l1, l2, _, lC⟩ := hl
  obtain ⟨g, off, rfl, hg, d1, _⟩ := lC 0 ⟨nm, (kd.len : Nat)⟩ (by simp [Fo.flat])
  simp only [Nat.zero_mul, Nat.add_zero] at d1
  have hlen : 0 < (Fo.cons nm kd .nil).flat.length := by simp [Fo.flat]
  clear lC hL
  by_cases hk : kind nm.data.toList = 2
  · have e : cks id (Fo.cons nm kd .nil).flat R 4 = 20 := by simp only [cks]; rw [hhd, if_pos hk]
    rw [e]
    rw [hk] at hkd
    clear e hk hhd
    generalize (Fo.cons nm kd .nil).flat.length = n at *
    go_enter Tryd.func38, Tryd.ntmps38
    go_wp2_with (first | (go_at_call 39; refine (hkd _).mono ?_; rintro e w1 ⟨rfl, rfl⟩) | (go_at_call 33; refine (errorIf_any _ _ _).mono ?_; rintro e w1 ⟨rfl, rfl⟩))
    go_ret
    exact ⟨rfl, Below.refl _ _⟩
  · have e : cks id (Fo.cons nm kd .nil).flat R 4 = 0 := by simp only [cks]; rw [hhd, if_neg hk]
    rw [e]
    generalize kind nm.data.toList = q at hk hkd
    have q1 : ((q : Int) == 2) = false := by simp only [beq_eq_false_iff_ne]; omega
    have q2 : ¬ (q : Int) = 2 := by omega
    clear e hk hhd
    generalize (Fo.cons nm kd .nil).flat.length = n at *
    go_enter Tryd.func38, Tryd.ntmps38
    go_wp2_with (first | (go_at_call 39; refine (hkd _).mono ?_; rintro e w1 ⟨rfl, rfl⟩) | (go_at_call 33; refine (errorIf_any _ _ _).mono ?_; rintro e w1 ⟨rfl, rfl⟩))
    go_ret
    exact ⟨rfl, Below.refl _ _⟩

/-- is a name none of a list that lies in a variable? -/
theorem lacks_any (w : World) (b : Nat) (x : ByteArray) (bv : Value) (T : List ByteArray) (hc : w.cell? ⟨b, 0, none⟩ = some bv) (hT : LiesS w bv T) :
    Calls Tryd.prog 58 #[.string x, .pointer (some ⟨b, 0, none⟩)] w fun e w' => e = .returned (.bool (!inS x T)) ∧ w = w' := by
  have hcon := contains_any w bv T x hT
  obtain ⟨ta, tc, rfl, _⟩ := hT
  go_enter Tryd.func58, Tryd.ntmps58
  go_wp2_with (go_at_call 59; refine hcon.mono ?_; rintro e w1 ⟨rfl, rfl⟩)
  go_ret
  exact ⟨rfl, rfl⟩

theorem idxFunc_any (w : World) (v : Value) (S : List ByteArray) (hv : LiesS w v S) (b : Nat) (bv : Value) (T : List ByteArray) (hc : w.cell? ⟨b, 0, none⟩ = some bv) (hT : LiesS w bv T) :
    Calls Tryd.prog 70 #[v, .func (.func 58) #[] #[.pointer (some ⟨b, 0, none⟩)]] w fun e w' => ∃ z : Int, e = .returned (.int .i64 z) ∧ Hid (decide (0 ≤ z) = S.any fun x => !inS x T) ∧ w = w' := by
  obtain ⟨a, cap, rfl, c1, c2, c3⟩ := hv
  have hm : S.length ≤ 9223372036854775807 := by unfold maxLen at c2; omega
  have HC : Hid (∀ (j : Nat) x, S[j]? = some x → ∃ b off, a = some ⟨b, off, none⟩ ∧ b < w.heap.size ∧ w.cell? ⟨b, off + j, none⟩ = some (.string x)) := c3
  have hlk := fun x => lacks_any w b x bv T hc hT
  clear c3
  go_enter Tryd.func70, Tryd.ntmps70
  go_wp2_with fail
  go_loop [8] (fun i => ∃ k : Nat, k ≤ S.length ∧ i = .int .i64 k ∧ Hid (∀ x ∈ S.take k, inS x T = true)) (fun i => S.length - (intOf i).toNat)
  case atStart => exact ⟨0, Nat.zero_le _, rfl, by intro x hx; simp at hx⟩
  case round =>
    obtain ⟨k, hk, rfl, HK⟩ := hrel
    by_cases hlt : k < S.length
    · obtain ⟨y, hy⟩ : ∃ y, S[k]? = some y := ⟨S[k], List.getElem?_eq_getElem hlt⟩
      obtain ⟨g, off, rfl, _, hcell⟩ := HC.out k y hy
      have hki : (k : Int) < (S.length : Int) := by omega
      have hly := hlk y
      have HY : Hid (S[k]? = some y) := hy
      clear hlk hy
      cases hin : inS y T with
      | true =>
        rw [hin] at hly
        have HN : Hid (∀ x ∈ S.take (k + 1), inS x T = true) := by
          intro x hx
          rw [List.take_add_one, HY.out, List.mem_append] at hx
          rcases hx with hx | hx
          · exact HK.out x hx
          · simp at hx; subst hx; exact hin
        clear hin HK
        go_wp2_with (go_at_call 58; refine hly.mono ?_; rintro e w1 ⟨rfl, rfl⟩)
        go_round
        case rel => exact ⟨k + 1, by omega, by go_num, HN⟩
        case measure => simp [intOf]; omega
      | false =>
        rw [hin] at hly
        have HN : Hid (true = S.any fun x => !inS x T) := by
          show _ = _
          symm
          rw [List.any_eq_true]
          exact ⟨y, List.mem_of_getElem? HY.out, by rw [hin]; rfl⟩
        clear hin HK
        go_wp2_with (go_at_call 58; refine hly.mono ?_; rintro e w1 ⟨rfl, rfl⟩)
        go_ret
        refine ⟨(k : Int), rfl, ?_, rfl⟩
        show _ = _
        rw [← HN.out]
        simp
    · have hki : ¬ (k : Int) < (S.length : Int) := by omega
      have HN : Hid (false = S.any fun x => !inS x T) := by
        show _ = _
        symm
        rw [List.any_eq_false]
        intro x hx
        have := HK.out x (by rw [List.take_of_length_le (by omega)]; exact hx)
        rw [this]; simp
      clear HK hlk
      go_wp2_with fail
      go_ret
      refine ⟨-1, rfl, ?_, rfl⟩
      show _ = _
      rw [← HN.out]
      rfl

theorem anyFunc_any (w : World) (v : Value) (S : List ByteArray) (hv : LiesS w v S) (b : Nat) (bv : Value) (T : List ByteArray) (hc : w.cell? ⟨b, 0, none⟩ = some bv) (hT : LiesS w bv T) :
    Calls Tryd.prog 57 #[v, .func (.func 58) #[] #[.pointer (some ⟨b, 0, none⟩)]] w fun e w' => e = .returned (.bool (S.any fun x => !inS x T)) ∧ w = w' := by
  have hi := idxFunc_any w v S hv b bv T hc hT
  obtain ⟨a, cap, rfl, c1, c2, c3⟩ := hv
  generalize (S.any fun x => !inS x T) = d at hi ⊢
  clear c3 hc hT
  go_enter Tryd.func57, Tryd.ntmps57
  go_wp2_with (go_at_call 70; refine hi.mono ?_; rintro e w1 ⟨z, rfl, HZ, rfl⟩)
  go_ret
  exact ⟨by rw [← HZ.out]; rfl, rfl⟩

theorem Blk.box {w : World} {b : Nat} {id : Int} {lv rv : Value} {t : TypeId} (h : Blk w b #[.int .i64 id, lv, rv] t) : BoxR w b id lv rv := ⟨h.lt, h.cell rfl, h.cell rfl, h.cell rfl⟩

/-- has the right side a variable that the left one lacks? -/
theorem unbound_any (w : World) (id : Int) (lv rv : Value) (L R : List Cl) (hl : Lies w lv L) (hr : Lies w rv R) (hL : check L = 0) (hR : check R = 0) :
    Calls Tryd.prog 41 #[.agg #[.int .i64 id, lv, rv]] w fun e w' => e = .returned (.bool (unb L R)) ∧ Below w.heap.size w w' := by
  have hv1 : ∀ w1, Below w.heap.size w w1 → _ := fun w1 hb => vars_ok w1 lv L (hl.on hb) hL
  have hv2 : ∀ w1, Below w.heap.size w w1 → _ := fun w1 hb => vars_ok w1 rv R (hr.on hb) hR
  have hfn : ∀ w1 v b bv, LiesS w1 v (varsOf R) → w1.cell? ⟨b, 0, none⟩ = some bv → LiesS w1 bv (varsOf L) → _ := fun w1 v b bv h1 h2 h3 => anyFunc_any w1 v (varsOf R) h1 b bv (varsOf L) h2 h3
  have hb0 : Below w.heap.size w (w.alloc (.cells #[.int .i64 id, lv, rv] 25)) := (Below.refl _ w).alloc (Nat.le_refl _) _
  have hbx := (Blk.made w #[.int .i64 id, lv, rv] 25)
  unfold unb
  generalize ((varsOf R).any fun v => !inS v (varsOf L)) = d at hfn ⊢
  obtain ⟨la, lc, rfl, _⟩ := hl
  obtain ⟨ra, rc, rfl, _⟩ := hr
  have HBX : Hid (Blk (w.alloc (.cells #[.int .i64 id, .slice la L.length lc, .slice ra R.length rc] 25)) w.heap.size #[.int .i64 id, .slice la L.length lc, .slice ra R.length rc] 25) := hbx
  have HB0 : Hid (Below w.heap.size w (w.alloc (.cells #[.int .i64 id, .slice la L.length lc, .slice ra R.length rc] 25))) := hb0
  clear hbx hb0
  go_enter Tryd.func41, Tryd.ntmps41
  go_wp2_with (first
    | (go_at_call 42; refine (hv1 _ HB0.out).mono ?_; clear hv1; rintro e w1 ⟨v1, rfl, ho1, hb1⟩; have hS1 := ho1.lies; obtain ⟨sa, sc, hsv, _⟩ := ho1.lies; subst hsv; have hbx1 := HBX.out.on hb1 HBX.out.lt; have HB1 : Hid (Below w.heap.size w w1) := HB0.out.trans (hb1.mono HB0.out.size); have hq2 : w1.cell? ⟨w.heap.size, 2, none⟩ = some (.slice ra R.length rc) := hbx1.cell rfl; have hz : w.heap.size < w1.heap.size := hbx1.lt; have HBA : Hid (∀ o, Below w.heap.size w (w1.alloc o)) := fun o => HB1.out.alloc (Nat.le_of_lt hz) o)
    | (go_at_call 42; refine (hv2 _ (HBA.out _)).mono ?_; clear hv2; rintro e w2 ⟨v2, rfl, ho2, hb2⟩; have hS2 := ho2.lies; obtain ⟨ta, tc, htv, _⟩ := ho2.lies; subst htv; have hbb := (Blk.made w1 #[.slice sa (varsOf L).length sc] 62).on hb2 (by simp); have HB2 : Hid (Below w.heap.size w w2) := (HBA.out _).trans (hb2.mono (HBA.out _).size); have HS2 : Hid (LiesS w2 (.slice sa (varsOf L).length sc) (varsOf L)) := (hS1.on ((Below.refl _ w1).alloc (Nat.le_refl _) _)).on hb2)
    | (go_at_call 57; refine (hfn _ _ _ _ hS2 (hbb.cell rfl) HS2.out).mono ?_; rintro e w3 ⟨rfl, rfl⟩)
    | (go_at_call 42; trace_state; fail)
    | (go_at_call 57; trace_state; fail))
  go_ret
  exact ⟨rfl, HB2.out⟩

theorem ck6 (w : World) (b : Nat) (id : Int) (lv rv : Value) (h : BoxR w b id lv rv) (L R : List Cl) (hl : Lies w lv L) (hr : Lies w rv R) (hL : check L = 0) (hR : check R = 0) :
    Calls Tryd.prog 40 #[.pointer (some ⟨b, 0, none⟩)] w fun e w' => e = .returned (.int .i64 (cks id L R 5 : Nat)) ∧ Below w.heap.size w w' := by
  obtain ⟨_, c0, c1, c2⟩ := h
  have hu := unbound_any w id lv rv L R hl hr hL hR
  obtain ⟨la, lc, rfl, _⟩ := hl
  obtain ⟨ra, rc, rfl, _⟩ := hr
  simp only [cks]
  cases hd : unb L R with
  | true =>
    rw [hd] at hu
    clear hd
    go_enter Tryd.func40, Tryd.ntmps40
    go_wp2_with (first | (go_at_call 41; refine hu.mono ?_; rintro e w1 ⟨rfl, hb1⟩) | (go_at_call 33; refine (errorIf_any _ _ _).mono ?_; rintro e w2 ⟨rfl, rfl⟩))
    go_ret
    exact ⟨rfl, hb1⟩
  | false =>
    rw [hd] at hu
    clear hd
    go_enter Tryd.func40, Tryd.ntmps40
    go_wp2_with (first | (go_at_call 41; refine hu.mono ?_; rintro e w1 ⟨rfl, hb1⟩) | (go_at_call 33; refine (errorIf_any _ _ _).mono ?_; rintro e w2 ⟨rfl, rfl⟩))
    go_ret
    exact ⟨rfl, hb1⟩

def ckF : Nat → Nat
  | 0 => 32 | 1 => 34 | 2 => 36 | 3 => 37 | 4 => 38 | _ => 40
def fun1 (f : Nat) (cs : Array Value) : Value := .func (.func f) #[] cs
theorem six {P : Nat → Prop} (h0 : P 0) (h1 : P 1) (h2 : P 2) (h3 : P 3) (h4 : P 4) (h5 : P 5) : ∀ i, i < 6 → P i
  | 0, _ => h0 | 1, _ => h1 | 2, _ => h2 | 3, _ => h3 | 4, _ => h4 | 5, _ => h5
  | n + 6, h => by omega
theorem ckF_enters : ∀ i, i < 6 → ∀ args w, (callFunc (ckF i) args).run Tryd.prog w = .ok (.enter (ckF i) args) w :=
  six (fun a w => enters_of Tryd.func32 (by kernel_rfl) rfl a w) (fun a w => enters_of Tryd.func34 (by kernel_rfl) rfl a w) (fun a w => enters_of Tryd.func36 (by kernel_rfl) rfl a w)
    (fun a w => enters_of Tryd.func37 (by kernel_rfl) rfl a w) (fun a w => enters_of Tryd.func38 (by kernel_rfl) rfl a w) (fun a w => enters_of Tryd.func40 (by kernel_rfl) rfl a w)

/-- the six questions, asked of a rule in a block, by closures that lie in another -/
theorem asked (W : World) (b q : Nat) (id : Int) (lv rv : Value) (L R : List Cl) (hx : Blk W b #[.int .i64 id, lv, rv] 25) (hq : Blk W q #[.func (.func 32) #[] #[.pointer (some ⟨b, 0, none⟩)], .func (.func 34) #[] #[.pointer (some ⟨b, 0, none⟩)], .func (.func 36) #[] #[.pointer (some ⟨b, 0, none⟩)], .func (.func 37) #[] #[.pointer (some ⟨b, 0, none⟩)], .func (.func 38) #[] #[.pointer (some ⟨b, 0, none⟩)], .func (.func 40) #[] #[.pointer (some ⟨b, 0, none⟩)]] 46)
    (hl : Lies W lv L) (hr : Lies W rv R) :
    Calls Tryd.prog 14 #[.slice (some ⟨q, 0, none⟩) 6 6] W fun e w' => e = .returned (.int .i64 (chk id L R : Nat)) ∧ Below W.heap.size W w' := by
  refine (first_any 6 q 6 (by omega) ckF (fun _ => #[.pointer (some ⟨b, 0, none⟩)]) (cks id L R) (fun _ w' => Below W.heap.size W w') W ckF_enters ?_ ?_ (Below.refl _ _)).mono ?_
  · intro i w' hi hb
    exact six (P := fun i => w'.cell? ⟨q, i, none⟩ = some (.func (.func (ckF i)) #[] #[.pointer (some ⟨b, 0, none⟩)])) ((hq.on hb hq.lt).cell rfl) ((hq.on hb hq.lt).cell rfl) ((hq.on hb hq.lt).cell rfl) ((hq.on hb hq.lt).cell rfl) ((hq.on hb hq.lt).cell rfl) ((hq.on hb hq.lt).cell rfl) i hi
  · intro i w' hi hz hb
    have hbox := (hx.on hb hx.lt).box
    have hl' := hl.on hb
    have hr' := hr.on hb
    have go : ∀ {e : Ending} {w'' : World} {i : Nat}, (e = .returned (.int .i64 (cks id L R i : Nat)) ∧ Below w'.heap.size w' w'') → e = .returned (.int .i64 (cks id L R i : Nat)) ∧ Below W.heap.size W w'' := fun h => ⟨h.1, hb.trans (h.2.mono hb.size)⟩
    revert hz
    refine six (P := fun i => (∀ j, j < i → cks id L R j = 0) → Calls Tryd.prog (ckF i) #[.pointer (some ⟨b, 0, none⟩)] w' fun e w'' => e = .returned (.int .i64 (cks id L R i : Nat)) ∧ Below W.heap.size W w'') ?_ ?_ ?_ ?_ ?_ ?_ i hi
    · exact fun _ => (ck1 w' b id lv rv hbox L R).mono fun _ _ h => go h
    · exact fun _ => (ck2 w' b id lv rv hbox L R hl').mono fun _ _ h => go h
    · exact fun _ => (ck3 w' b id lv rv hbox L R hr').mono fun _ _ h => go h
    · exact fun _ => (ck4 w' b id lv rv hbox L R hl' hr').mono fun _ _ h => go h
    · exact fun hz => (ck5 w' b id lv rv hbox L R hl' (hz 1 (by omega))).mono fun _ _ h => go h
    · exact fun hz => (ck6 w' b id lv rv hbox L R hl' hr' (hz 1 (by omega)) (hz 2 (by omega))).mono fun _ _ h => go h
  · intro e w' h
    obtain ⟨h1, _, k, h2⟩ := h.told
    exact ⟨h1, h2⟩

theorem chk_any (w : World) (id : Int) (lv rv : Value) (L R : List Cl) (hl : Lies w lv L) (hr : Lies w rv R) :
    Calls Tryd.prog 16 #[.agg #[.int .i64 id, lv, rv]] w fun e w' => e = .returned (.int .i64 (chk id L R : Nat)) ∧ Below w.heap.size w w' := by
  have hask : ∀ W b q, Blk W b #[.int .i64 id, lv, rv] 25 → Blk W q _ 46 → Below w.heap.size w W → _ := fun W b q h1 h2 h3 => asked W b q id lv rv L R h1 h2 (hl.on h3) (hr.on h3)
  have HX : Hid (∀ o, Blk ((w.alloc (.cells #[.int .i64 id, lv, rv] 25)).alloc o) w.heap.size #[.int .i64 id, lv, rv] 25) := fun o => (Blk.made w _ 25).alloc o
  have HQ : Hid (∀ o cs, Blk ((w.alloc o).alloc (.cells cs 46)) (w.heap.size + 1) cs 46) := fun o cs => by
    have := Blk.made (w.alloc o) cs 46
    rwa [show (w.alloc o).heap.size = w.heap.size + 1 by simp] at this
  have HB : Hid (∀ o o', Below w.heap.size w ((w.alloc o).alloc o')) := fun o o' => ((Below.refl _ w).alloc (Nat.le_refl _) o).alloc (by simp) o'
  have hmf : ∀ (fn : Fn) (first cap : Array Value) (w : World), (Instr.makeFunc fn first cap).run Tryd.prog w = .ok (.func fn first cap) w := fun _ _ _ _ => rfl
  obtain ⟨la, lc, rfl, _⟩ := hl
  obtain ⟨ra, rc, rfl, _⟩ := hr
  go_enter Tryd.func16, Tryd.ntmps16
  go_wp2_with (first | (go_at_call 14; refine (hask _ w.heap.size _ (HX.out _) (HQ.out _ _) (HB.out _ _)).mono ?_; rintro e w3 ⟨rfl, hb3⟩; have hb4 := (HB.out _ _).trans (hb3.mono (HB.out _ _).size)) | (go_at_call 14; trace_state; fail))
  go_ret
  exact ⟨rfl, hb4⟩

end Go.Proofs.YtjpmlnigjbdnnabDoor
