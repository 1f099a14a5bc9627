/-
  Hash: the program's and the document's.
-/
import Derived.Test.YthohopbolalpcaaSc
namespace Go.Proofs.Ythohopbolalpcaa
open Go.RowKit
set_option linter.unusedVariables false
set_option linter.unusedSimpArgs false
set_option maxRecDepth 100000

/-- the hash of a content that may be; else 0 -/
def hs (s : ByteArray) (K : List Nat) : Nat := if ctE s.data.toList K = 0 then hash (ct s K) else 0
theorem hash_lt (l : List UInt8) : hash l < 4294967296 := down_lt _ _ _
theorem hs_lt (s : ByteArray) (K : List Nat) : hs s K < 4294967296 := by
  unfold hs
  split
  · exact hash_lt _
  · omega
theorem ct_size {s : ByteArray} {K : List Nat} (h : ctE s.data.toList K = 0) : (⟨(ct s K).toArray⟩ : ByteArray).size ≤ 33 := by
  obtain ⟨h8, h4, _⟩ := ctE_ok h
  rw [Lib.size_eq]
  show (ct s K).length ≤ 33
  rw [ct_len h8]
  omega

theorem sHash_any (s : ByteArray) (v : Value) (K : List Nat) (w : World) (hsz : s.size ≤ maxLen) (hl : LiesK w v K) :
    Calls Try.prog 10 #[.string s, v] w fun e w' => e = .returned (.tuple #[.int .u32 (hs s K : Nat), .int .i64 (ctE s.data.toList K : Nat)]) ∧ Below w.heap.size w w' := by
  obtain ⟨a, c, rfl⟩ := hl.form
  have hc := ckContent_any s _ K w hsz hl
  by_cases h0 : ctE s.data.toList K = 0
  · have hct := content_any s _ K w h0 hl
    have hcs := ct_size h0
    have hh := fun w1 => hash_any (⟨(ct s K).toArray⟩ : ByteArray) w1 (by unfold maxLen; omega)
    have e1 : hs s K = hash (ct s K) := by unfold hs; rw [if_pos h0]
    have e2 : (⟨(ct s K).toArray⟩ : ByteArray).data.toList = ct s K := rfl
    rw [e2, ← e1] at hh
    rw [h0] at hc ⊢
    clear e1 e2 h0 hl hcs
    generalize (⟨(ct s K).toArray⟩ : ByteArray) = t at *
    generalize hs s K = r at *
    go_enter Try.func10, Try.ntmps10
    go_wp2_with (first
      | (go_at_call 22; refine hc.mono ?_; clear hc; rintro e w1 ⟨rfl, rfl⟩)
      | (go_at_call 24; refine hct.mono ?_; clear hct; rintro e w1 ⟨rfl, hb1⟩)
      | (go_at_call 23; refine (hh _).mono ?_; clear hh; rintro e w2 ⟨rfl, rfl⟩))
    go_ret2
    exact ⟨rfl, hb1⟩
  · have e1 : hs s K = 0 := by unfold hs; rw [if_neg h0]
    rw [e1]
    have hz : ¬ ((ctE s.data.toList K : Nat) : Int) = 0 := by omega
    clear e1 h0 hl
    generalize ctE s.data.toList K = r at *
    go_enter Try.func10, Try.ntmps10
    go_wp2_with (go_at_call 22; refine hc.mono ?_; clear hc; rintro e w1 ⟨rfl, rfl⟩)
    go_ret2
    exact ⟨rfl, Below.refl _ _⟩

set_option maxHeartbeats 4000000 in
theorem rHashN_any (s : ByteArray) (v : Value) (K : List Nat) (w : World) (hsz : s.size ≤ maxLen) (hl : LiesK w v K) :
    Calls Try.prog 12 #[.string s, v] w fun e w' => e = .returned (.tuple #[.int .u32 (hs s K : Nat), .int .i64 (ctE s.data.toList K : Nat)]) ∧ Below w.heap.size w w' := by
  obtain ⟨a, c, rfl⟩ := hl.form
  have hk := fun w1 => rKind_any s w1 hsz
  have hlen := hl.len
  unfold maxLen at hlen
  have HE : Hid (ctE s.data.toList K = if kind s.data.toList = 0 then 4 else if 4 < K.length ∨ (kind s.data.toList = 2 ∧ 0 < K.length) then 5 else if K.all isA then 0 else 1) := rfl
  have HS : Hid (hs s K = if ctE s.data.toList K = 0 then hash (ct s K) else 0) := rfl
  have h8 : kind s.data.toList ≠ 0 → s.size ≤ 8 := kind_le
  have HK : Hid (∀ s' : ByteArray, s'.size ≤ 33 → ∀ w1, Calls Try.prog 28 #[.string s'] w1 fun e w' => e = .returned (.int .u32 (hash s'.data.toList : Nat)) ∧ w1 = w') := fun s' h w1 => rHash_any s' w1 (by unfold maxLen; omega)
  have HCT : Hid (ct s K = (padOf s 8).data.toList ++ be K.length 1 ++ K.flatMap fun x => be x 6) := rfl
  have HCL : s.size ≤ 8 → (ct s K).length = 9 + 6 * K.length := fun h => ct_len h
  generalize hs s K = R at *
  generalize ctE s.data.toList K = r at *
  generalize kind s.data.toList = k at *
  generalize ct s K = C at *
  have HT : Hid (K.take K.length = K) := List.take_length
  have HL := hid hl
  obtain ⟨n, hn⟩ : ∃ n, K.length = n := ⟨_, rfl⟩
  have HN := hid hn
  rw [hn] at HE HL HT hlen HCT HCL ⊢
  clear hl hn
  by_cases h0 : k = 0
  · subst h0
    obtain rfl : r = 4 := by rw [HE.out]; rfl
    obtain rfl : R = 0 := by rw [HS.out]; rfl
    clear HE h8 HS HCL
    go_enter Try.func12, Try.ntmps12
    go_wp2_with (go_at_call 25; refine (hk _).mono ?_; clear hk; rintro e w1 ⟨rfl, rfl⟩)
    go_ret2
    exact ⟨rfl, Below.refl _ _⟩
  have k0 : ¬ (k : Int) = 0 := by omega
  by_cases h4 : 4 < n
  · obtain rfl : r = 5 := by rw [HE.out, if_neg h0, if_pos (.inl h4)]
    obtain rfl : R = 0 := by rw [HS.out]; rfl
    have c4 : (4 : Int) < (n : Int) := by omega
    clear HE h0 h4 h8 HS HCL
    go_enter Try.func12, Try.ntmps12
    go_wp2_with (go_at_call 25; refine (hk _).mono ?_; rintro e w1 ⟨rfl, rfl⟩)
    go_ret2
    exact ⟨rfl, Below.refl _ _⟩
  have c4 : ¬ (4 : Int) < (n : Int) := by omega
  by_cases h2 : k = 2 ∧ 0 < n
  · obtain rfl : r = 5 := by rw [HE.out, if_neg h0, if_pos (.inr h2)]
    obtain rfl : R = 0 := by rw [HS.out]; rfl
    have c1 : (k : Int) = 2 := by omega
    have c2 : (0 : Int) < (n : Int) := by omega
    clear HE h0 h4 h2 h8 HS HCL
    go_enter Try.func12, Try.ntmps12
    go_wp2_with (go_at_call 25; refine (hk _).mono ?_; rintro e w1 ⟨rfl, rfl⟩)
    go_ret2
    exact ⟨rfl, Below.refl _ _⟩
  have HR : Hid (r = if K.all isA then 0 else 1) := by show _ = _; rw [HE.out, if_neg h0, if_neg (by omega)]
  have H0 : Hid ((K.take 0).all isA = true) := by show _ = _; rfl
  have s8 := h8 h0
  have HPD : Hid (∀ w1, _) := fun w1 => rpad s w1 s8
  have HPN : Hid (∀ w1, _) := fun w1 => rput n 1 w1 (by omega) (by omega) (by omega)
  have HP8 := hid (pad8_len s8)
  have HCL' := hid (HCL s8)
  clear HE h0 h8 HCL
  generalize padOf s 8 = P at *
  have h18 : P.size = 8 := by rw [Lib.size_eq]; exact HP8.out
  have HQ : Hid ((⟨(be n 1).toArray⟩ : ByteArray).data.toList = be n 1) := rfl
  have hq1 : (⟨(be n 1).toArray⟩ : ByteArray).size = 1 := by rw [Lib.size_eq, HQ.out, be_length]
  rw [← HQ.out] at HCT
  clear HQ
  generalize (⟨(be n 1).toArray⟩ : ByteArray) = Q at *
  have HT0 : Hid (P ++ Q = ⟨(P.data.toList ++ Q.data.toList ++ (K.take 0).flatMap fun x => be x 6).toArray⟩) := by
    show _ = _
    apply ByteArray.ext; apply Array.toList_inj.1; simp
  have HHL : Hid ((P.data.toList ++ Q.data.toList).length = 9) := by show _ = _; rw [List.length_append, HP8.out, ← Lib.size_eq, hq1]
  generalize hhd : P.data.toList ++ Q.data.toList = hd at HT0 HHL
  rw [hhd] at HCT
  have hcase : (¬ (k : Int) = 2) ∨ ((k : Int) = 2 ∧ ¬ (0 : Int) < (n : Int)) := by omega
  have hn64 : IntKind.u64.wrap (n : Int) = (n : Int) := by rw [IntKind.wrap_u64]; omega
  have hPQ : ¬ 9223372036854775807 < P.size + Q.size := by omega
  clear h2 hhd h18 hq1
  have HPQ : Hid (P ++ Q = P ++ Q) := rfl
  obtain ⟨PQ, hpq⟩ : ∃ PQ, P ++ Q = PQ := ⟨_, rfl⟩
  rw [hpq] at HT0
  rcases hcase with c1 | ⟨c1, c2⟩
  · go_enter Try.func12, Try.ntmps12
    go_wp2_with (first
      | (go_at_call 25; refine (hk _).mono ?_; rintro e w1 ⟨rfl, rfl⟩)
      | (go_at_call 26; refine (HPD.out _).mono ?_; clear HPD; rintro e w1 ⟨rfl, hb1⟩)
      | (go_at_call 27; refine (HPN.out _).mono ?_; clear HPN; rintro e w2 ⟨rfl, hb2⟩))
    have HB2 := hid (hb1.trans (hb2.mono hb1.size))
    clear hb1 hb2 hk c1 c4 k0 hPQ hpq HPQ hn64
    go_loopw [6, 33] (fun y i wr => ∃ (j : Nat) (S : ByteArray), j ≤ n ∧ y = .string S ∧ i = .int .i64 (j : Nat) ∧ Hid (S = ⟨(hd ++ (K.take j).flatMap fun x => be x 6).toArray⟩) ∧ Hid ((K.take j).all isA = true) ∧ Hid (Below w.heap.size w wr)) (fun _ i _ => n - (intOf i).toNat)
    case atStart => exact ⟨0, PQ, Nat.zero_le _, rfl, rfl, HT0, H0, HB2⟩
    case round =>
      obtain ⟨j, S, hj, rfl, rfl, HI, HX, HB⟩ := hrel
      clear HB2 HT0 H0
      by_cases hjn : j < n
      · have hji : (j : Int) < (n : Int) := by omega
        obtain ⟨x, hx⟩ : ∃ x, K[j]? = some x := ⟨_, List.getElem?_eq_getElem (by rw [HN.out]; exact hjn)⟩
        obtain ⟨b, off, e1, hbl, d1, d2⟩ := (HL.out.on HB.out).at hx
        subst e1
        have ha := fun w1 => rIsAddr_any x w1 d2
        have HXX : Hid ((K.take (j + 1)).all isA = isA x) := by show _ = _; rw [all_take_succ hx, HX.out, Bool.true_and]
        have HM := hid (List.mem_of_getElem? hx)
        have HTK : Hid ((K.take (j + 1)).flatMap (fun x => be x 6) = (K.take j).flatMap (fun x => be x 6) ++ be x 6) := by show _ = _; rw [List.take_add_one, hx]; simp [List.flatMap_append]
        have HTL : Hid (((K.take j).flatMap (fun x => be x 6)).length = 6 * j) := by show _ = _; rw [flat6_len, List.length_take, HN.out, Nat.min_eq_left hj]
        clear hx d2
        cases hA : isA x
        · rw [hA] at ha
          go_wp2_with (go_at_call 15; refine (ha _).mono ?_; rintro e w1 ⟨rfl, rfl⟩)
          have hf : K.all isA = false := by
            rw [← Bool.not_eq_true]
            intro h
            have := List.all_eq_true.1 h x HM.out
            rw [hA] at this; cases this
          have hr1 : r = 1 := by rw [HR.out, hf]; rfl
          have hR0 : R = 0 := by rw [HS.out, hr1]; rfl
          subst hr1 hR0
          go_ret2
          exact ⟨rfl, HB.out⟩
        · rw [hA] at ha
          have HXL := hid (isA_lt hA)
          have HPX : Hid (∀ w1, _) := fun w1 => rput x 6 w1 (by omega) (by omega) (by have := HXL.out; omega)
          have HZ : Hid ((⟨(be x 6).toArray⟩ : ByteArray).data.toList = be x 6) := rfl
          have hx6 : (⟨(be x 6).toArray⟩ : ByteArray).size = 6 := by rw [Lib.size_eq, HZ.out, be_length]
          rw [← HZ.out] at HTK
          clear HZ
          generalize (⟨(be x 6).toArray⟩ : ByteArray) = X at *
          have hSS : S.size ≤ 33 := by
            rw [Lib.size_eq, HI.out]
            show (hd ++ _).length ≤ 33
            rw [List.length_append, HHL.out, HTL.out]; omega
          have hsx : ¬ 9223372036854775807 < S.size + X.size := by omega
          have HSX : Hid (S ++ X = ⟨(hd ++ (K.take (j + 1)).flatMap fun x => be x 6).toArray⟩) := by
            show _ = _
            rw [HTK.out, HI.out]
            apply ByteArray.ext; apply Array.toList_inj.1; simp
          obtain ⟨S', hS'⟩ : ∃ S', S ++ X = S' := ⟨_, rfl⟩
          rw [hS'] at HSX
          clear hSS hx6 HTK HTL
          go_wp2_with (first
            | (go_at_call 15; refine (ha _).mono ?_; rintro e w1 ⟨rfl, rfl⟩)
            | (go_at_call 27; refine (HPX.out _).mono ?_; clear HPX; rintro e w2 ⟨rfl, hb2⟩))
          have HB3 := hid (HB.out.trans (hb2.mono HB.out.size))
          clear hb2 HB
          go_roundw
          case rel => exact ⟨j + 1, S', by omega, rfl, by go_num, HSX, by show _ = _; rw [HXX.out, hA], HB3⟩
          case measure => simp [intOf]; omega
      · have hji : ¬ (j : Int) < (n : Int) := by omega
        obtain rfl : j = n := by omega
        have HTT : Hid (hd ++ (K.take j).flatMap (fun x => be x 6) = C) := by show _ = _; rw [HCT.out, HT.out]
        rw [HTT.out] at HI
        have hr0 : r = 0 := by rw [HR.out, ← HT.out, HX.out]; rfl
        have hS : S.data.toList = C := by rw [HI.out]
        have hsz9 : S.size ≤ 33 := by rw [Lib.size_eq, hS, HCL'.out]; omega
        have hh := HK.out S hsz9 wr
        have hRR : R = hash C := by rw [HS.out, if_pos hr0]
        rw [hS, ← hRR] at hh
        subst hr0
        clear hS hsz9 hRR HI
        go_wp2_with (go_at_call 28; refine hh.mono ?_; clear hh; rintro e w2 ⟨rfl, rfl⟩)
        go_ret2
        exact ⟨rfl, HB.out⟩
  · obtain rfl : n = 0 := by omega
    go_enter Try.func12, Try.ntmps12
    go_wp2_with (first
      | (go_at_call 25; refine (hk _).mono ?_; rintro e w1 ⟨rfl, rfl⟩)
      | (go_at_call 26; refine (HPD.out _).mono ?_; clear HPD; rintro e w1 ⟨rfl, hb1⟩)
      | (go_at_call 27; refine (HPN.out _).mono ?_; clear HPN; rintro e w2 ⟨rfl, hb2⟩))
    have HB2 := hid (hb1.trans (hb2.mono hb1.size))
    clear hb1 hb2 hk c1 c4 k0 hPQ hpq HPQ hn64 c2
    go_loopw [6, 33] (fun y i wr => ∃ (j : Nat) (S : ByteArray), j ≤ 0 ∧ y = .string S ∧ i = .int .i64 (j : Nat) ∧ Hid (S = ⟨(hd ++ (K.take j).flatMap fun x => be x 6).toArray⟩) ∧ Hid ((K.take j).all isA = true) ∧ Hid (Below w.heap.size w wr)) (fun _ i _ => 0 - (intOf i).toNat)
    case atStart => exact ⟨0, PQ, Nat.zero_le _, rfl, rfl, HT0, H0, HB2⟩
    case round =>
      obtain ⟨j, S, hj, rfl, rfl, HI, HX, HB⟩ := hrel
      clear HB2 HT0 H0
      obtain rfl : j = 0 := by omega
      have HTT : Hid (hd ++ (K.take 0).flatMap (fun x => be x 6) = C) := by show _ = _; rw [HCT.out, HT.out]
      rw [HTT.out] at HI
      have hr0 : r = 0 := by rw [HR.out, ← HT.out, HX.out]; rfl
      have hS : S.data.toList = C := by rw [HI.out]
      have hsz9 : S.size ≤ 33 := by rw [Lib.size_eq, hS, HCL'.out]; omega
      have hh := HK.out S hsz9 wr
      have hRR : R = hash C := by rw [HS.out, if_pos hr0]
      rw [hS, ← hRR] at hh
      subst hr0
      clear hS hsz9 hRR HI
      go_wp2_with (go_at_call 28; refine hh.mono ?_; clear hh; rintro e w2 ⟨rfl, rfl⟩)
      go_ret2
      exact ⟨rfl, HB.out⟩
end Go.Proofs.Ythohopbolalpcaa

