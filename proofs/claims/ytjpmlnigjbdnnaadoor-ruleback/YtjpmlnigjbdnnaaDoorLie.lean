/-
  Lists of cells that lie in memory; what the program's behind, and the document's, answer of them.
-/
import Derived.Test.YtjpmlnigjbdnnaaDoorKinds
import Derived.Test.YtjpmlnigjbdnnaaDoorPlain
namespace Go.Proofs.YtjpmlnigjbdnnaaDoor
open Go.RowKit
set_option linter.unusedVariables false
set_option maxRecDepth 100000

/-- the cells of a list lie at an address -/
def CellsAt (w : World) (a : Option Addr) (L : List Cl) : Prop :=
  ∀ k c, L[k]? = some c → ∃ b off, a = some ⟨b, off, none⟩ ∧ b < w.heap.size ∧ w.cell? ⟨b, off + k * 2, none⟩ = some (.string c.nm) ∧ w.cell? ⟨b, off + k * 2 + 1, none⟩ = some (.int .i64 c.ar)
/-- names of a machine's length, arities of a machine's int -/
def Fine (L : List Cl) : Prop := ∀ c ∈ L, c.nm.size ≤ 9223372036854775807 ∧ -9223372036854775808 ≤ c.ar ∧ c.ar ≤ 9223372036854775807
/-- a list of cells, as it lies in memory -/
def Lies (w : World) (v : Value) (L : List Cl) : Prop :=
  ∃ (a : Option Addr) (cap : Nat), v = .slice a L.length cap ∧ L.length ≤ cap ∧ cap ≤ maxLen ∧ Fine L ∧ CellsAt w a L

theorem CellsAt.on {w w' : World} {a : Option Addr} {L : List Cl} (h : CellsAt w a L) (hb : Below w.heap.size w w') : CellsAt w' a L := by
  intro k c hk
  obtain ⟨b, off, ha, hlt, h1, h2⟩ := h k c hk
  exact ⟨b, off, ha, Nat.lt_of_lt_of_le hlt hb.size, (hb.cell (p := ⟨b, off + k * 2, none⟩) hlt).trans h1, (hb.cell (p := ⟨b, off + k * 2 + 1, none⟩) hlt).trans h2⟩
theorem Lies.on {w w' : World} {v : Value} {L : List Cl} (h : Lies w v L) (hb : Below w.heap.size w w') : Lies w' v L := by
  obtain ⟨a, cap, h1, h2, h3, hf, h4⟩ := h
  exact ⟨a, cap, h1, h2, h3, hf, h4.on hb⟩

theorem ars {L : List Cl} (hE : cellsErr L = 0) : ∀ c ∈ L, 0 ≤ c.ar ∧ c.ar ≤ 4 := fun c hc => cellErr_ar (cellsErr_zero.1 hE c hc)
theorem drop_cl {L : List Cl} {k : Nat} {c : Cl} (h : L[k]? = some c) : L.drop k = c :: L.drop (k + 1) := by
  obtain ⟨hk, rfl⟩ := List.getElem?_eq_some_iff.1 h
  exact List.drop_eq_getElem_cons hk

/-- the place behind a term; 0: there is none -/
def posN (L : List Cl) (k : Nat) : Nat := match fo 1 (L.drop k) with | some r => L.length - r.length | none => 0
theorem posN_some {L : List Cl} {k : Nat} {r : List Cl} (h : fo 1 (L.drop k) = some r) : posN L k = L.length - r.length := by unfold posN; rw [h]
theorem posN_none {L : List Cl} {k : Nat} (h : fo 1 (L.drop k) = none) : posN L k = 0 := by unfold posN; rw [h]

theorem behind_any (w : World) (v : Value) (L : List Cl) (hv : Lies w v L) (hl : L.length ≤ 64) (hE : cellsErr L = 0) (k0 : Nat) :
    Calls Tryd.prog 62 #[v, .int .i64 (k0 : Nat)] w fun e w' => e = .returned (.int .i64 (posN L k0 : Nat)) ∧ w = w' := by
  obtain ⟨a, cap, rfl, hc1, hc2, _, HC⟩ := hv
  have HE : Hid (∀ c ∈ L, 0 ≤ c.ar ∧ c.ar ≤ 4) := ars hE
  obtain ⟨p, hp⟩ : ∃ p, p = posN L k0 := ⟨_, rfl⟩
  have HP : Hid (p = posN L k0) := hp
  rw [← hp]
  clear hp hE
  go_enter Tryd.func62, Tryd.ntmps62
  go_wp2
  go_loop [1, 5] (fun i m => ∃ k n : Nat, k0 ≤ k ∧ (k = k0 ∨ k ≤ L.length) ∧ n ≤ 4 * (k - k0) ∧ Hid (fo 1 (L.drop k0) = fo (n + 1) (L.drop k)) ∧ i = .int .i64 k ∧ m = .int .i64 ((n + 1 : Nat) : Int)) (fun i _ => L.length - (intOf i).toNat)
  case atStart => exact ⟨k0, 0, Nat.le_refl _, .inl rfl, Nat.zero_le _, rfl, rfl, rfl⟩
  case round =>
    obtain ⟨k, n, hk0, hk1, hn, HF, rfl, rfl⟩ := hrel
    by_cases hlt : k < L.length
    · obtain ⟨c, hc⟩ : ∃ c, L[k]? = some c := ⟨L[k], List.getElem?_eq_getElem hlt⟩
      obtain ⟨b, off, rfl, hb, h1, h2⟩ := HC k c hc
      obtain ⟨ha0, ha4⟩ := HE.out c (List.mem_of_getElem? hc)
      have HF2 : Hid (fo 1 (L.drop k0) = fo (c.ar.toNat + n) (L.drop (k + 1))) := by
        show _ = _
        rw [HF.out, drop_cl hc, fo_cons]
      have HK : Hid (k < L.length) := hlt
      clear HF hc
      by_cases hz : c.ar.toNat + n = 0
      · have hz1 : c.ar = 0 := by omega
        have hz2 : n = 0 := by omega
        subst hz2
        go_wp2
        go_ret
        refine ⟨?_, rfl⟩
        have := HF2.out
        rw [hz, fo_zero] at this
        have e : p = k + 1 := by
          rw [HP.out, posN_some this, List.length_drop]
          have := HK.out; omega
        rw [e]; rfl
      · have hne : ((n : Int) + 1 + (c.ar - 1) == 0) = false := by simp only [beq_eq_false_iff_ne]; omega
        go_wp2
        go_round
        case rel =>
          refine ⟨k + 1, c.ar.toNat + n - 1, by omega, .inr (by omega), by omega, ?_, by go_num, ?_⟩
          · show _ = _
            rw [HF2.out, show c.ar.toNat + n - 1 + 1 = c.ar.toNat + n by omega]
          · congr 1; omega
        case measure => simp [intOf]; omega
    · have HF2 : Hid (p = 0) := by
        show _ = _
        rw [HP.out, posN_none]
        rw [HF.out, List.drop_eq_nil_of_le (by omega)]
        rfl
      clear HF
      have hlt' : L.length ≤ k := by omega
      go_wp2
      go_ret
      exact ⟨by rw [HF2.out]; rfl, rfl⟩

/-- the place behind a term, as the document tells it; -1: there is none -/
def posZ (L : List Cl) (k : Nat) : Int := match fo 1 (L.drop k) with | some r => ((L.length - r.length : Nat) : Int) | none => -1
theorem posZ_some {L : List Cl} {k : Nat} {r : List Cl} (h : fo 1 (L.drop k) = some r) : posZ L k = ((L.length - r.length : Nat) : Int) := by unfold posZ; rw [h]
theorem posZ_none {L : List Cl} {k : Nat} (h : fo 1 (L.drop k) = none) : posZ L k = -1 := by unfold posZ; rw [h]
/-- behind n terms from a place on -/
def posI (L : List Cl) (n k : Nat) : Int := match fo n (L.drop k) with | some r => ((L.length - r.length : Nat) : Int) | none => -1
theorem posI_zero {L : List Cl} {k : Nat} (h : k ≤ L.length) : posI L 0 k = k := by
  unfold posI
  rw [fo_zero]
  simp only [List.length_drop]
  omega
theorem fo_drop {L : List Cl} {n k : Nat} {r : List Cl} (h : fo n (L.drop k) = some r) (hk : k ≤ L.length) : L.drop (L.length - r.length) = r ∧ k + n ≤ L.length - r.length ∧ r.length ≤ L.length := by
  obtain ⟨a, ha, _, hn⟩ := fo_suffix _ _ _ h
  have e : L = L.take k ++ (a ++ r) := by rw [← ha, List.take_append_drop]
  have hl := congrArg List.length e
  simp only [List.length_append, List.length_take] at hl
  refine ⟨?_, by omega, by omega⟩
  have e2 : L = (L.take k ++ a) ++ r := by rw [List.append_assoc]; exact e
  have : L.length - r.length = (L.take k ++ a).length := by simp only [List.length_append, List.length_take]; omega
  rw [this]
  exact (congrArg (List.drop (L.take k ++ a).length) e2).trans List.drop_left
theorem posI_step {L : List Cl} {n k : Nat} {p : Nat} (hk : k ≤ L.length) (h : posI L n k = (p : Int)) : posI L (n + 1) k = posZ L p ∧ k + n ≤ p ∧ p ≤ L.length := by
  unfold posI at h ⊢
  rw [fo_add]
  cases h1 : fo n (L.drop k) with
  | none => rw [h1] at h; simp only at h; omega
  | some r =>
    rw [h1] at h
    simp only at h
    obtain ⟨h2, h3, h4⟩ := fo_drop h1 hk
    have hp : p = L.length - r.length := by omega
    subst hp
    refine ⟨?_, h3, by omega⟩
    unfold posZ
    rw [h2]
    rfl
theorem posI_stop {L : List Cl} {n m k : Nat} (h : posI L n k < 0) (hm : n ≤ m) : posI L m k = -1 := by
  unfold posI at h ⊢
  cases h1 : fo n (L.drop k) with
  | some r => rw [h1] at h; simp only at h; omega
  | none =>
    rw [show m = n + (m - n) by omega, fo_add, h1]
    rfl
theorem posZ_eq (L : List Cl) (k : Nat) (c : Cl) (h : L[k]? = some c) : posZ L k = posI L c.ar.toNat (k + 1) := by
  unfold posZ posI
  rw [drop_cl h, fo_cons]
  rfl
theorem posZ_le (L : List Cl) (k : Nat) : -1 ≤ posZ L k ∧ posZ L k ≤ L.length := by
  unfold posZ
  split <;> omega
theorem posI_le (L : List Cl) (n k : Nat) : -1 ≤ posI L n k ∧ posI L n k ≤ L.length := by
  unfold posI
  split <;> omega

theorem rBehind_any (w : World) (v : Value) (L : List Cl) (hv : Lies w v L) (hl : L.length ≤ 64) (hE : cellsErr L = 0) : ∀ (f k0 : Nat), L.length ≤ k0 + f → k0 ≤ L.length →
    Calls Tryd.prog 69 #[v, .int .i64 (k0 : Nat)] w fun e w' => e = .returned (.int .i64 (posZ L k0)) ∧ w = w' := by
  obtain ⟨a, cap, rfl, hc1, hc2, _, HC⟩ := hv
  have HE : Hid (∀ c ∈ L, 0 ≤ c.ar ∧ c.ar ≤ 4) := ars hE
  clear hE
  intro f
  induction f with
  | zero =>
    intro k0 h1 h2
    have hz : posZ L k0 = -1 := posZ_none (by rw [List.drop_eq_nil_of_le (by omega)]; rfl)
    rw [hz]
    go_enter Tryd.func69, Tryd.ntmps69
    go_wp2_with fail
    go_ret
    exact ⟨rfl, rfl⟩
  | succ f ih =>
    intro k0 h1 h2
    by_cases hlt : k0 < L.length
    · obtain ⟨c, hc⟩ : ∃ c, L[k0]? = some c := ⟨L[k0], List.getElem?_eq_getElem hlt⟩
      obtain ⟨b, off, rfl, hb, c1, c2⟩ := HC k0 c hc
      obtain ⟨ha0, ha4⟩ := HE.out c (List.mem_of_getElem? hc)
      obtain ⟨p, hp⟩ : ∃ p, posZ L k0 = p := ⟨_, rfl⟩
      have HP : Hid (p = posI L c.ar.toNat (k0 + 1)) := by rw [← hp]; exact posZ_eq L k0 c hc
      rw [hp]
      clear hp hc HC
      have IH : Hid (∀ k, k0 < k → k ≤ L.length → Calls Tryd.prog 69 #[.slice (some ⟨b, off, none⟩) L.length cap, .int .i64 (k : Nat)] w fun e w' => e = .returned (.int .i64 (posZ L k)) ∧ w = w') := fun k hk hk2 => ih k (by omega) hk2
      clear ih
      have hd1 : decide (L.length ≤ k0) = false := decide_eq_false (by omega)
      have hd2 : decide ((k0 : Int) < 0) = false := decide_eq_false (by omega)
      have hd3 : ¬ L.length ≤ k0 := by omega
      go_enter Tryd.func69, Tryd.ntmps69
      go_wp2_with fail
      go_loop [1, 6] (fun i m => ∃ (n : Nat) (q : Int), (n : Int) ≤ c.ar ∧ Hid (q = posI L n (k0 + 1)) ∧ -1 ≤ q ∧ q ≤ 64 ∧ i = .int .i64 q ∧ m = .int .i64 (n : Nat)) (fun _ m => (c.ar - intOf m).toNat)
      case atStart => exact ⟨0, k0 + 1, by omega, (by show _ = _; rw [posI_zero (by omega)]; omega), by omega, by omega, rfl, rfl⟩
      case round =>
        obtain ⟨n, q, hn, HQ, hq1, hq2, rfl, rfl⟩ := hrel
        by_cases hnl : (n : Int) < c.ar
        · by_cases hq0 : 0 ≤ q
          · obtain ⟨q', rfl⟩ : ∃ q' : Nat, q = (q' : Int) := ⟨q.toNat, by omega⟩
            obtain ⟨s1, s2, s3⟩ := posI_step (by omega) HQ.out.symm
            have hcall := IH.out q' (by omega) s3
            have HS : Hid (posZ L q' = posI L (n + 1) (k0 + 1)) := s1.symm
            have hle := posZ_le L q'
            clear s1 HQ
            generalize posZ L q' = z at hcall HS hle
            go_wp2_with (go_at_call 69; refine hcall.mono ?_; rintro e w1 ⟨rfl, rfl⟩)
            go_wp2
            go_round
            case rel => exact ⟨n + 1, z, by omega, HS, by omega, by omega, rfl, by go_num⟩
            case measure => simp [intOf]; omega
          · have hq0' : decide (0 ≤ q) = false := decide_eq_false hq0
            have HR : Hid (p = q) := by
              show _ = _
              rw [HP.out, posI_stop (n := n) (by rw [← HQ.out]; omega) (by omega)]
              omega
            clear HQ
            go_wp2_with fail
            go_ret
            exact ⟨by rw [HR.out]; rfl, rfl⟩
        · have HR : Hid (p = q) := by
            show _ = _
            rw [HP.out, HQ.out, show c.ar.toNat = n by omega]
          clear HQ
          go_wp2_with fail
          go_ret
          exact ⟨by rw [HR.out]; rfl, rfl⟩
    · have hz : posZ L k0 = -1 := posZ_none (by rw [List.drop_eq_nil_of_le (by omega)]; rfl)
      rw [hz]
      have hge : L.length ≤ k0 := by omega
      go_enter Tryd.func69, Tryd.ntmps69
      go_wp2_with fail
      go_ret
      exact ⟨rfl, rfl⟩

end Go.Proofs.YtjpmlnigjbdnnaaDoor
