/-
  sort.Search with the closure of Find; Find.
-/
import Derived.Test.YtjocbkhjbbpkjabFd
import Derived.Shelf.Abstract
namespace Go.Proofs.Ytjocbkhjbbpkjab
open Go.RowKit
set_option linter.unusedVariables false
set_option linter.unusedSimpArgs false
set_option maxRecDepth 100000

/-- where one key is below, all ahead of it are -/
def Mono (L : List Ent) (key : ByteArray) : Prop := ∀ (a b : Nat) (x y : Ent), a ≤ b → L[a]? = some x → L[b]? = some y → lt y.k key = true → lt x.k key = true
/-- the place of the first key that isn't below -/
def IsAt (L : List Ent) (key : ByteArray) (i : Nat) : Prop := (∀ (j : Nat) (x : Ent), j < i → L[j]? = some x → lt x.k key = true) ∧ (∀ (j : Nat) (x : Ent), i ≤ j → L[j]? = some x → lt x.k key = false)

set_option maxHeartbeats 1000000 in
theorem search_any (w : World) (f : Nat) (p q : Value) (n : Nat) (L : List Ent) (key : ByteArray) (hn : L.length = n) (hz : n ≤ 4398046511104)
    (he : ∀ args w, (callFunc f args).run Try.prog w = .ok (.enter f args) w)
    (hS : ∀ (j : Nat) (x : Ent) (w1 : World), Below w.heap.size w w1 → L[j]? = some x → Calls Try.prog f #[.int .i64 (j : Nat), p, q] w1 fun e w' => e = .returned (.bool (!lt x.k key)) ∧ Below w1.heap.size w1 w') :
    Calls Try.prog 19 #[.int .i64 (n : Nat), .func (.func f) #[] #[p, q]] w fun e w' => ∃ i : Nat, e = .returned (.int .i64 (i : Nat)) ∧ i ≤ n ∧ (Mono L key → IsAt L key i) ∧ Below w.heap.size w w' := by
  have HS := hid hS
  have HN := hid hn
  have H0 : Hid (Mono L key → (∀ (j : Nat) (x : Ent), j < 0 → L[j]? = some x → lt x.k key = true) ∧ (∀ (j : Nat) (x : Ent), n ≤ j → L[j]? = some x → lt x.k key = false)) := fun _ => ⟨fun j x hj => absurd hj (Nat.not_lt_zero _), fun j x hj hx => by
    have := (List.getElem?_eq_some_iff.1 hx).1
    omega⟩
  clear hS hn
  go_enter Try.func19, Try.ntmps19
  go_wp2_with fail
  go_loopw [5, 6] (fun x y wr => ∃ (lo hi : Nat), lo ≤ hi ∧ hi ≤ n ∧ x = .int .i64 (lo : Nat) ∧ y = .int .i64 (hi : Nat) ∧ Hid (Mono L key → (∀ (j : Nat) (x : Ent), j < lo → L[j]? = some x → lt x.k key = true) ∧ (∀ (j : Nat) (x : Ent), hi ≤ j → L[j]? = some x → lt x.k key = false)) ∧ Hid (Below w.heap.size w wr)) (fun x y _ => (intOf y).toNat - (intOf x).toNat)
  case atStart => exact ⟨0, n, Nat.zero_le _, Nat.le_refl _, rfl, rfl, H0, Below.refl _ _⟩
  case round =>
    obtain ⟨lo, hi, h1, h2, rfl, rfl, HI, HB⟩ := hrel
    clear H0
    by_cases hlt : lo < hi
    · have hli : (lo : Int) < (hi : Int) := by omega
      obtain ⟨h, hh⟩ : ∃ h, (lo + hi) / 2 = h := ⟨_, rfl⟩
      have hb1 : lo ≤ h := by omega
      have hb2 : h < hi := by omega
      have g1 : IntKind.i64.wrap ((lo : Int) + (hi : Int)) = (lo : Int) + (hi : Int) := by rw [IntKind.wrap_i64]; omega
      have g2 : IntKind.u64.wrap ((lo : Int) + (hi : Int)) = (lo : Int) + (hi : Int) := by rw [IntKind.wrap_u64]; omega
      have g3 : ((lo : Int) + (hi : Int)) / 2 = (h : Int) := by omega
      have g4 : IntKind.u64.wrap (h : Int) = (h : Int) := by rw [IntKind.wrap_u64]; omega
      have g5 : IntKind.i64.wrap (h : Int) = (h : Int) := by rw [IntKind.wrap_i64]; omega
      have g6 : IntKind.i64.wrap ((h : Int) + 1) = (h : Int) + 1 := by rw [IntKind.wrap_i64]; omega
      obtain ⟨x, hx⟩ : ∃ x, L[h]? = some x := ⟨_, List.getElem?_eq_getElem (by rw [HN.out]; omega)⟩
      have HC := hid (HS.out h x wr HB.out hx)
      cases hk : lt x.k key with
      | true =>
        have HI2 : Hid (Mono L key → (∀ (j : Nat) (x : Ent), j < h + 1 → L[j]? = some x → lt x.k key = true) ∧ (∀ (j : Nat) (x : Ent), hi ≤ j → L[j]? = some x → lt x.k key = false)) := fun hm => ⟨fun j y hj hy => hm j h y x (by omega) hy hx hk, (HI.out hm).2⟩
        rw [hk] at HC
        clear hh hx hk HI
        go_wp2_with (go_at_fn f; refine HC.out.mono ?_; clear HC; rintro e w2 ⟨rfl, hb⟩; have HB2 := hid (HB.out.trans (hb.mono HB.out.size)); clear hb)
        go_roundw
        case rel => exact ⟨h + 1, hi, by omega, h2, by go_num, rfl, HI2, HB2⟩
        case measure => simp [intOf]; omega
      | false =>
        have HI2 : Hid (Mono L key → (∀ (j : Nat) (x : Ent), j < lo → L[j]? = some x → lt x.k key = true) ∧ (∀ (j : Nat) (x : Ent), h ≤ j → L[j]? = some x → lt x.k key = false)) := fun hm => ⟨(HI.out hm).1, fun j y hj hy => by
          cases hyk : lt y.k key with
          | false => rfl
          | true => rw [hm h j x y hj hx hy hyk] at hk; cases hk⟩
        rw [hk] at HC
        clear hh hx hk HI
        go_wp2_with (go_at_fn f; refine HC.out.mono ?_; clear HC; rintro e w2 ⟨rfl, hb⟩; have HB2 := hid (HB.out.trans (hb.mono HB.out.size)); clear hb)
        go_roundw
        case rel => exact ⟨lo, h, by omega, by omega, rfl, rfl, HI2, HB2⟩
        case measure => simp [intOf]; omega
    · obtain rfl : lo = hi := by omega
      have hli : ¬ (lo : Int) < (lo : Int) := by omega
      go_wp2_with fail
      go_ret
      exact ⟨lo, rfl, h2, HI.out, HB.out⟩

/-- whether the key stands at that place -/
def fnd (L : List Ent) (key : ByteArray) (i : Nat) : Bool := match L[i]? with | some x => decide (x.k = key) | none => false
set_option maxHeartbeats 1000000 in
theorem find_any (w : World) (v : Value) (L : List Ent) (key : ByteArray) (hl : LiesE w v L) (hz : L.length ≤ 4398046511104) :
    Calls Try.prog 12 #[v, .string key] w fun e w' => ∃ i : Nat, e = .returned (.tuple #[.int .i64 (i : Nat), .bool (fnd L key i)]) ∧ i ≤ L.length ∧ (Mono L key → IsAt L key i) ∧ Below w.heap.size w w' := by
  obtain ⟨a, c, hv⟩ := hl.form
  subst hv
  obtain ⟨n, hn⟩ : ∃ n, L.length = n := ⟨_, rfl⟩
  have HN := hid hn
  rw [hn] at hl hz ⊢
  have HL := hid hl
  obtain ⟨w1, hw1⟩ : ∃ w1, w.alloc (.cells #[.slice a n c] 22) = w1 := ⟨_, rfl⟩
  obtain ⟨w2, hw2⟩ : ∃ w2, w1.alloc (.cells #[.string key] 9) = w2 := ⟨_, rfl⟩
  have b1 : Below w.heap.size w w1 := by rw [← hw1]; exact (Below.refl _ w).alloc (Nat.le_refl _) _
  have b2 : Below w1.heap.size w1 w2 := by rw [← hw2]; exact (Below.refl _ w1).alloc (Nat.le_refl _) _
  have b3 : Below w.heap.size w w2 := b1.trans (b2.mono b1.size)
  have k1 : Blk w1 w.heap.size #[.slice a n c] 22 := by rw [← hw1]; exact Blk.made w _ 22
  have k2 : Blk w2 w1.heap.size #[.string key] 9 := by rw [← hw2]; exact Blk.made w1 _ 9
  have k3 : Blk w2 w.heap.size #[.slice a n c] 22 := k1.on b2 k1.lt
  have HE : Hid (w1.heap.size = w.heap.size + 1) := by show _ = _; rw [← hw1]; simp
  rw [HE.out] at k2
  have HK1 : Hid (∀ w5, Below w2.heap.size w2 w5 → w5.cell? ⟨w.heap.size, 0, none⟩ = some (.slice a n c) ∧ w5.cell? ⟨w.heap.size + 1, 0, none⟩ = some (.string key)) := fun w5 hb => ⟨(k3.on hb k3.lt).cell (i := 0) rfl, (k2.on hb k2.lt).cell (i := 0) rfl⟩
  have he : ∀ args w, (callFunc 20 args).run Try.prog w = .ok (.enter 20 args) w := enters_of Try.func20 (by kernel_rfl) rfl
  have HSR := hid (search_any w2 20 (.pointer (some ⟨w.heap.size, 0, none⟩)) (.pointer (some ⟨w.heap.size + 1, 0, none⟩)) n L key HN.out hz he (fun j x w5 hb hx => by
    obtain ⟨c1, c2⟩ := HK1.out w5 hb
    exact find1_any w5 _ _ a n c L key j x c1 c2 ((HL.out.on b3).on hb) hx))
  have hmf : ∀ (fn : Fn) (first cap : Array Value) (w : World), (Instr.makeFunc fn first cap).run Try.prog w = .ok (.func fn first cap) w := fun _ _ _ _ => rfl
  have HB3 := hid b3
  obtain ⟨c1, c2⟩ := HK1.out w2 (Below.refl _ _)
  subst hw1
  subst hw2
  clear b1 b2 b3 k1 k2 k3 HE hl hn he
  go_enter Try.func12, Try.ntmps12
  go_wp2_with (go_at_call 19; refine HSR.out.mono ?_; clear HSR; rintro e w5 ⟨i, rfl, hi, hm, hb5⟩; have HM := hid hm; have HB5 := hid hb5; clear hm hb5)
  clear c1 c2
  obtain ⟨c1, c2⟩ := HK1.out w5 HB5.out
  have hlb : ((w.alloc (.cells #[.slice a n c] 22)).alloc (.cells #[.string key] 9)).heap.size = w.heap.size + 1 + 1 := by simp
  have HB6 := hid (HB3.out.trans ((HB5.out.drew).mono HB3.out.size))
  have HL6 := hid ((HL.out.on HB3.out).on HB5.out)
  have HL7 := hid (HL6.out.on ((Below.refl _ w5).drew))
  clear HK1 HB5 HB3 HL hlb
  by_cases hin : i < n
  · have hii : (i : Int) < (n : Int) := by omega
    obtain ⟨x, hx⟩ : ∃ x, L[i]? = some x := ⟨_, List.getElem?_eq_getElem (by rw [HN.out]; exact hin)⟩
    obtain ⟨b, off, e1, _, d1, _, _, _⟩ := HL6.out.at hx
    subst e1
    have hq := eq_iff x.k key
    have HF : Hid (fnd L key i = decide (x.k = key)) := by show _ = _; unfold fnd; rw [hx]
    generalize decide (x.k = key) = bb at *
    clear hx
    generalize x.k = xk at *
    go_region
    go_wp2_with fail
    go_ret2
    refine ⟨i, ?_, hi, HM.out, HB6.out⟩
    rw [HF.out]
    rfl
  · obtain rfl : i = n := by omega
    have hii : ¬ (i : Int) < (i : Int) := by omega
    have HF : Hid (fnd L key i = false) := by
      show _ = _
      unfold fnd
      rw [List.getElem?_eq_none (by rw [HN.out]; exact Nat.le_refl _)]
    have HS0 : w5.drew.cell? ⟨w.heap.size, 0, none⟩ = some (.slice a i c) := c1
    refine wp_region_d (fun w' => w'.cell? ⟨w.heap.size, 0, none⟩ = some (.slice a i c)) (fun _ => true) (by kernel_rfl) ?_
    refine wpAnyM_pick (i := 0) (some 11) (v := ?vz1) rfl rfl (by kernel_rfl) (by kernel_rfl) (by kernel_rfl) (by kernel_rfl) (fun _ _ _ h => h) (Or.inl ⟨by rfl, ?hz1⟩) HS0 ?rz1
    case hz1 => intro w hSw; go_simp; try with_reducible rfl
    try simp only [Act.put, List.setIfInBounds_toArray, List.set_cons_zero, List.set_cons_succ]
    refine wpAnyM_pick (i := 1) (some 12) (v := ?vz2) rfl rfl (by kernel_rfl) (by kernel_rfl) (by kernel_rfl) (by kernel_rfl) (fun _ _ _ h => h) (Or.inl ⟨by rfl, ?hz2⟩) HS0 ?rz2
    case hz2 => intro w hSw; go_simp; try with_reducible rfl
    try simp only [Act.put, List.setIfInBounds_toArray, List.set_cons_zero, List.set_cons_succ]
    refine wpAnyM_pick (i := 2) (some 13) (v := ?vz3) rfl rfl (by kernel_rfl) (by kernel_rfl) (by kernel_rfl) (by kernel_rfl) (fun _ _ _ h => h) (Or.inl ⟨by rfl, ?hz3⟩) HS0 ?rz3
    case hz3 => intro w hSw; go_simp; try with_reducible rfl
    try simp only [Act.put, List.setIfInBounds_toArray, List.set_cons_zero, List.set_cons_succ]
    refine wpAnyM_pick (i := 3) (some 14) (v := ?vz4) rfl rfl (by kernel_rfl) (by kernel_rfl) (by kernel_rfl) (by kernel_rfl) (fun _ _ _ h => h) (Or.inl ⟨by rfl, ?hz4⟩) HS0 ?rz4
    case hz4 => intro w hSw; go_simp; try with_reducible rfl
    try simp only [Act.put, List.setIfInBounds_toArray, List.set_cons_zero, List.set_cons_succ]
    refine wpAnyM_pick (i := 4) (some 15) (v := ?vz5) rfl rfl (by kernel_rfl) (by kernel_rfl) (by kernel_rfl) (by kernel_rfl) (fun _ _ _ h => h) (Or.inl ⟨by rfl, ?hz5⟩) HS0 ?rz5
    case hz5 => intro w hSw; go_simp; try with_reducible rfl
    try simp only [Act.put, List.setIfInBounds_toArray, List.set_cons_zero, List.set_cons_succ]
    refine wpAnyM_pick (i := 5) (some 16) (v := ?vz6) rfl rfl (by kernel_rfl) (by kernel_rfl) (by kernel_rfl) (by kernel_rfl) (fun _ _ _ h => h) (Or.inl ⟨by rfl, ?hz6⟩) HS0 ?rz6
    case hz6 => intro w hSw; go_simp; try with_reducible rfl
    try simp only [Act.put, List.setIfInBounds_toArray, List.set_cons_zero, List.set_cons_succ]
    refine wpAnyM_pick (i := 6) (some 17) (v := undef) rfl rfl (by kernel_rfl) (by kernel_rfl) (by kernel_rfl) (by kernel_rfl) (fun _ _ _ h => h) (Or.inr ⟨by rfl, rfl⟩) HS0 ?rz7
    try simp only [Act.put, List.setIfInBounds_toArray, List.set_cons_zero, List.set_cons_succ]
    refine wpAnyM_pick (i := 7) (some 18) (v := undef) rfl rfl (by kernel_rfl) (by kernel_rfl) (by kernel_rfl) (by kernel_rfl) (fun _ _ _ h => h) (Or.inr ⟨by rfl, rfl⟩) HS0 ?rz8
    try simp only [Act.put, List.setIfInBounds_toArray, List.set_cons_zero, List.set_cons_succ]
    refine wpAnyM_pick (i := 8) (some 19) (v := undef) rfl rfl (by kernel_rfl) (by kernel_rfl) (by kernel_rfl) (by kernel_rfl) (fun _ _ _ h => h) (Or.inr ⟨by rfl, rfl⟩) HS0 ?rz9
    try simp only [Act.put, List.setIfInBounds_toArray, List.set_cons_zero, List.set_cons_succ]
    refine wpAnyM_pick (i := 9) (some 20) (v := undef) rfl rfl (by kernel_rfl) (by kernel_rfl) (by kernel_rfl) (by kernel_rfl) (fun _ _ _ h => h) (Or.inr ⟨by rfl, rfl⟩) HS0 ?rz10
    try simp only [Act.put, List.setIfInBounds_toArray, List.set_cons_zero, List.set_cons_succ]
    refine wpAnyM_pick (i := 10) (some 21) (v := undef) rfl rfl (by kernel_rfl) (by kernel_rfl) (by kernel_rfl) (by kernel_rfl) (fun _ _ _ h => h) (Or.inr ⟨by rfl, rfl⟩) HS0 ?rz11
    try simp only [Act.put, List.setIfInBounds_toArray, List.set_cons_zero, List.set_cons_succ]
    refine wpAnyM_pick (i := 11) (some 22) (v := undef) rfl rfl (by kernel_rfl) (by kernel_rfl) (by kernel_rfl) (by kernel_rfl) (fun _ _ _ h => h) (Or.inr ⟨by rfl, rfl⟩) HS0 ?rz12
    try simp only [Act.put, List.setIfInBounds_toArray, List.set_cons_zero, List.set_cons_succ]
    refine wpAnyM_pick (i := 12) (some 23) (v := undef) rfl rfl (by kernel_rfl) (by kernel_rfl) (by kernel_rfl) (by kernel_rfl) (fun _ _ _ h => h) (Or.inr ⟨by rfl, rfl⟩) HS0 ?rz13
    try simp only [Act.put, List.setIfInBounds_toArray, List.set_cons_zero, List.set_cons_succ]
    refine wpAnyM_pick (i := 13) (some 24) (v := ?vz14) rfl rfl (by kernel_rfl) (by kernel_rfl) (by kernel_rfl) (by kernel_rfl) (fun _ _ _ h => h) (Or.inl ⟨by rfl, ?hz14⟩) HS0 ?rz14
    case hz14 => intro w hSw; go_simp; try with_reducible rfl
    try simp only [Act.put, List.setIfInBounds_toArray, List.set_cons_zero, List.set_cons_succ]
    refine wpAnyM_pick (i := 14) (some 4) (v := ?vz15) rfl rfl (by kernel_rfl) (by kernel_rfl) (by kernel_rfl) (by kernel_rfl) (fun _ _ _ h => h) (Or.inl ⟨by rfl, ?hz15⟩) HS0 ?rz15
    case hz15 => intro w hSw; go_simp; try with_reducible rfl
    try simp only [Act.put, List.setIfInBounds_toArray, List.set_cons_zero, List.set_cons_succ]
    refine wpAnyM_pick (i := 15) (some 5) (v := ?vz16) rfl rfl (by kernel_rfl) (by kernel_rfl) (by kernel_rfl) (by kernel_rfl) (fun _ _ _ h => h) (Or.inl ⟨by rfl, ?hz16⟩) HS0 ?rz16
    case hz16 => intro w hSw; go_simp; try with_reducible rfl
    try simp only [Act.put, List.setIfInBounds_toArray, List.set_cons_zero, List.set_cons_succ]
    refine wpAnyM_done (by kernel_rfl) ?_ _
    try simp only [Act.put, List.setIfInBounds_toArray, List.set_cons_zero, List.set_cons_succ]
    go_wp2_with fail
    go_ret2
    refine ⟨i, ?_, hi, HM.out, HB6.out⟩
    rw [HF.out]
    rfl
end Go.Proofs.Ytjocbkhjbbpkjab

