/-
  What the document's Vars answers; that two lists of texts that hold the same are told as alike; what the program's Depth answers.
-/
import Derived.Test.YtjfkkabpfjcceaaVars
import Derived.Deep.QuietTactic
import Derived.BigQuiet
namespace Go.Proofs.Ytjfkkabpfjcceaa
open Go.RowKit
set_option linter.unusedVariables false
set_option maxRecDepth 100000
set_option linter.unusedSimpArgs false

set_option maxHeartbeats 2000000 in
theorem rVars_ok (w : World) (v : Value) (L : List Cl) (hv : Lies w v L) (hE : check L = 0) :
    Calls Try.prog 22 #[v] w fun e w' => ∃ v', e = .returned v' ∧ OwnsS w' w.heap.size v' (varsOf L) ∧ Below w.heap.size w w' := by
  obtain ⟨h64, hcE, _⟩ := check_zero hE
  obtain ⟨i0, hi, hz0, hz1, hz2⟩ := info_parts info9
  have HNM : Hid (∀ c ∈ L, c.nm.size ≤ 8) := fun c hc => (name_len (cellsErr_zero.1 hcE c hc)).2
  obtain ⟨a, cap, rfl, hc1, hc2, hF, HC0⟩ := hv
  have HC : Hid (CellsAt w a L) := HC0
  obtain ⟨T, hT⟩ : ∃ T, varsOf L = T := ⟨_, rfl⟩
  have HT : Hid (varsOf L = T) := hT
  rw [hT]
  clear hE hcE HC0 hT
  go_enter Try.func22, Try.ntmps22
  go_wp2_with fail
  go_loopw [3, 7] (fun kv i wr => ∃ k : Nat, k ≤ L.length ∧ i = .int .i64 k ∧ OwnsS wr w.heap.size kv (varsOf (L.take k)) ∧ Below w.heap.size w wr) (fun _ i _ => L.length - (intOf i).toNat)
  case atStart => exact ⟨0, Nat.zero_le _, rfl, World.ownsRow_nil _ _ _ _, Below.refl _ _⟩
  case round =>
    obtain ⟨k, hk, rfl, hO, hbr⟩ := hrel
    have hvl := varsOf_len L k
    obtain ⟨ka, kc, hkv, _⟩ := own_cells hO
    subst hkv
    by_cases hlt : k < L.length
    · obtain ⟨c, hc⟩ : ∃ c, L[k]? = some c := ⟨L[k], List.getElem?_eq_getElem hlt⟩
      obtain ⟨b, off, rfl, d1, d2⟩ := cell_at HC.out hbr hc
      have hcn := HNM.out c (List.mem_of_getElem? hc)
      have hki : (k : Int) < (L.length : Int) := by omega
      have HN : Hid (varsOf (L.take (k + 1)) = varStep (varsOf (L.take k)) c) := vars_next hc
      have hkd := fun w => rKind_any c.nm w (by unfold maxLen; omega)
      obtain ⟨nm, ar⟩ := c
      simp only at d1 d2 hcn hkd
      have hbs := hbr.size
      have HOA : Hid (OwnsS wr w.heap.size (.slice ka (varsOf (L.take k)).length kc) (varsOf (L.take k))) := hO
      have hcon := has_any _ _ _ nm (OwnsS.lies HOA.out)
      clear hc hO
      generalize varsOf (L.take k) = S at HN HOA hcon hvl ⊢
      unfold varStep at HN
      generalize kind nm.data.toList = q at hkd HN
      by_cases hq : q = 2
      · subst hq
        by_cases hm : inS nm S = true
        · have HN2 : Hid (varsOf (L.take (k + 1)) = S) := by show _ = _; rw [HN.out, if_neg (by simp [hm])]
          rw [hm] at hcon
          clear HN hm
          go_wp2_with (first | (go_at_call 33; refine (hkd _).mono ?_; rintro e w2 ⟨rfl, rfl⟩) | (go_at_call 46; refine hcon.mono ?_; rintro e w3 ⟨rfl, rfl⟩))
          go_roundw
          case rel => exact ⟨k + 1, by omega, by go_num, by rw [HN2.out]; exact HOA.out, hbr⟩
          case measure => simp [intOf]; omega
        · have HN2 : Hid (varsOf (L.take (k + 1)) = S ++ [nm]) := by show _ = _; rw [HN.out, if_pos (by simp [hm])]
          rw [show inS nm S = false by simpa using hm] at hcon
          clear HN hm
          go_wp2_with (first | (go_at_call 33; refine (hkd _).mono ?_; rintro e w2 ⟨rfl, rfl⟩) | (go_at_call 46; refine hcon.mono ?_; rintro e w3 ⟨rfl, rfl⟩; have hrow4 : wr.ownsRow w.heap.size 9 1 _ S.length (S.map Value.string) := HOA.out) | (at_builtin; refine wpList_append_own _ rfl _ _ 38 rfl w.heap.size 9 i0 (.string ⟨#[]⟩) 1 16 Try.underlying38 hi hz0 hz1 hz2 rfl (by decide) _ S.length (S.map Value.string) rfl (hrow4.alloc _) ⟨wr.heap.size, 0, none⟩ 1 1 [.string nm] rfl rfl ?c1 ?c2 ?c3 ?c4 ?c5 ?_))
          case c1 => exact one_cell wr _ _
          case c2 => intro u hu; simp at hu; subst hu; rfl
          case c3 => unfold maxLen; omega
          case c4 => omega
          case c5 => simp; omega
          intro v' w6 hown' hgrow _
          have hOS : OwnsS w6 w.heap.size v' (S ++ [nm]) := ownS_more (w := w6) hown'
          have hb6 : Below w.heap.size w w6 := (hbr.alloc hbs _).grown hgrow (by simp; omega) (fun k hk => (hrow4.lt k hk).1)
          clear hown' hgrow hrow4
          go_wp2_with fail
          go_roundw
          case rel => exact ⟨k + 1, by omega, by go_num, by rw [HN2.out]; exact hOS, hb6⟩
          case measure => simp [intOf]; omega
      · have HN2 : Hid (varsOf (L.take (k + 1)) = S) := by show _ = _; rw [HN.out, if_neg (by simp [hq])]
        have q1 : ((q : Int) == 2) = false := by simp only [beq_eq_false_iff_ne]; omega
        have q2 : ¬ (q : Int) = 2 := by omega
        clear HN hq
        go_wp2_with (first | (go_at_call 33; refine (hkd _).mono ?_; rintro e w2 ⟨rfl, rfl⟩))
        go_roundw
        case rel => exact ⟨k + 1, by omega, by go_num, by rw [HN2.out]; exact HOA.out, hbr⟩
        case measure => simp [intOf]; omega
    · have hki : ¬ (k : Int) < (L.length : Int) := by omega
      have HX : Hid (varsOf (L.take k) = T) := by show _ = _; rw [List.take_of_length_le (by omega)]; exact HT.out
      go_wp2_with fail
      go_ret
      exact ⟨_, rfl, by rw [← HX.out]; exact hO, hbr⟩

theorem rSame_any (w : World) (u v : Value) (S : List ByteArray) (hu : LiesS w u S) (hv : LiesS w v S) :
    Calls Try.prog 21 #[u, v] w fun e w' => e = .returned (.bool true) ∧ Below w.heap.size w w' := by
  obtain ⟨a, cap, rfl, hc1, hc2, c3⟩ := hu
  obtain ⟨a', cap', rfl, hc1', hc2', c3'⟩ := hv
  have hm : S.length ≤ 9223372036854775807 := by unfold maxLen at hc2; omega
  have HC : Hid (∀ (j : Nat) x, S[j]? = some x → ∃ b off, a = some ⟨b, off, none⟩ ∧ b < w.heap.size ∧ w.cell? ⟨b, off + j, none⟩ = some (.string x)) := c3
  have HC' : Hid (∀ (j : Nat) x, S[j]? = some x → ∃ b off, a' = some ⟨b, off, none⟩ ∧ b < w.heap.size ∧ w.cell? ⟨b, off + j, none⟩ = some (.string x)) := c3'
  clear c3 c3'
  go_enter Try.func21, Try.ntmps21
  go_wp2_with fail
  go_loopw [13] (fun i wr => ∃ k : Nat, k ≤ S.length ∧ i = .int .i64 k ∧ Below w.heap.size w wr) (fun i _ => S.length - (intOf i).toNat)
  case atStart => exact ⟨0, Nat.zero_le _, rfl, Below.refl _ _⟩
  case round =>
    obtain ⟨k, hk, rfl, hb⟩ := hrel
    by_cases hlt : k < S.length
    · obtain ⟨y, hy⟩ : ∃ y, S[k]? = some y := ⟨S[k], List.getElem?_eq_getElem hlt⟩
      obtain ⟨b1, o1, rfl, g1, d1⟩ := HC.out k y hy
      obtain ⟨b2, o2, rfl, g2, d2⟩ := HC'.out k y hy
      have e1 := (hb.cell (p := ⟨b1, o1 + k, none⟩) g1).trans d1
      have e2 := (hb.cell (p := ⟨b2, o2 + k, none⟩) g2).trans d2
      have hki : (k : Int) < (S.length : Int) := by omega
      have hst : (y.toList == y.toList) = true := by simp
      have HB0 : Hid (∀ nq, Below w.heap.size w (wr.drewN nq)) := fun nq => hb.trans ((below_drewN wr nq).mono hb.size)
      clear d1 d2 hy
      go_wp2_with fail
      go_quiet (fail)
      go_wp2_with fail
      go_roundw
      case rel => exact ⟨k + 1, by omega, by go_num, HB0.out _⟩
      case measure => simp [intOf]; omega
    · have hki : ¬ (k : Int) < (S.length : Int) := by omega
      go_wp2_with fail
      go_ret
      exact ⟨rfl, hb⟩

theorem dep_le : ∀ f : Fo, f.dep ≤ f.size
  | .nil => Nat.le_refl _
  | .cons _ k r => by have := dep_le k; have := dep_le r; simp only [Fo.dep, Fo.size]; omega
set_option maxHeartbeats 2000000 in
theorem depth_any (w : World) (a : Option Addr) (L : List Cl) (cap : Nat) (hL : L.length ≤ 64) (hcap : L.length ≤ cap) (hc : CellsAt w a L) :
    ∀ (n : Nat) (nm : ByteArray) (kd : Fo) (R : List Cl) (k : Nat), kd.size < n → kd.size ≤ 64 → L.drop k = (Fo.cons nm kd .nil).flat ++ R →
      Calls Try.prog 43 #[.slice a L.length cap, .int .i64 (k : Nat)] w fun e w' => e = .returned (.tuple #[.int .i64 ((kd.dep + 1 : Nat) : Int), .int .i64 ((k + kd.size + 1 : Nat) : Int)]) ∧ w = w' := by
  have HC : Hid (CellsAt w a L) := hc
  clear hc
  intro n
  induction n with
  | zero => intro nm kd R k h; omega
  | succ n ih =>
    intro nm kd R k hn h64 hd
    have hflat : (Fo.cons nm kd .nil).flat = ⟨nm, (kd.len : Nat)⟩ :: kd.flat := by simp [Fo.flat]
    rw [hflat, List.cons_append] at hd
    obtain ⟨hk, hd2, hkl⟩ := get_drop hd
    obtain ⟨b, off, ha, c1, c2⟩ := cell_at HC.out (Below.refl _ _) hk
    subst ha
    have hki : (k : Int) < (L.length : Int) := by omega
    have HD : Hid (L.drop (k + 1) = kd.flat ++ R) := hd2
    have HIH : Hid (∀ (nm : ByteArray) (kd : Fo) (R : List Cl) (k : Nat), kd.size < n → kd.size ≤ 64 → L.drop k = (Fo.cons nm kd .nil).flat ++ R →
      Calls Try.prog 43 #[.slice (some ⟨b, off, none⟩) L.length cap, .int .i64 (k : Nat)] w fun e w' => e = .returned (.tuple #[.int .i64 ((kd.dep + 1 : Nat) : Int), .int .i64 ((k + kd.size + 1 : Nat) : Int)]) ∧ w = w') := ih
    have hl4 : kd.len ≤ 64 := by have := Fo.len_le kd; omega
    have hdp := dep_le kd
    obtain ⟨D, hD⟩ : ∃ D, kd.dep = D := ⟨_, rfl⟩
    obtain ⟨Z, hZ⟩ : ∃ Z, kd.size = Z := ⟨_, rfl⟩
    obtain ⟨N, hN⟩ : ∃ N, kd.len = N := ⟨_, rfl⟩
    have HDZ : Hid (kd.dep = D ∧ kd.size = Z ∧ kd.len = N) := ⟨hD, hZ, hN⟩
    rw [hZ] at hn h64 hdp ⊢
    rw [hD] at hdp ⊢
    rw [hN] at c2 hl4
    clear ih hd hd2 hflat hk hD hZ hN
    go_enter Try.func43, Try.ntmps43
    go_wp2_with fail
    go_loop [6, 7, 16] (fun d e i => ∃ (rest : Fo) (dp at_ j : Nat), Hid (max dp rest.dep = D) ∧ Hid (L.drop at_ = rest.flat ++ R) ∧ Hid (at_ + rest.size = k + Z + 1) ∧ rest.size ≤ Z ∧ j + rest.len = N ∧ dp ≤ D ∧ d = .int .i64 (dp : Nat) ∧ e = .int .i64 (at_ : Nat) ∧ i = .int .i64 (j : Nat)) (fun _ _ i => N - (intOf i).toNat)
    case atStart => exact ⟨kd, 0, k + 1, 0, by show _ = _; rw [← HDZ.out.1]; omega, HD, by show _ = _; have := HDZ.out; omega, by have := HDZ.out; omega, by have := HDZ.out; omega, Nat.zero_le _, rfl, rfl, rfl⟩
    case round =>
      obtain ⟨rest, dp, at_, j, HMX, HDR, HAT, hrs, hjl, hdD, rfl, rfl, rfl⟩ := hrel
      cases rest with
      | nil =>
        have hj : j = N := by simp [Fo.len] at hjl; omega
        have HE : Hid (dp = D ∧ at_ = k + Z + 1) := ⟨by have := HMX.out; simp [Fo.dep] at this; omega, by have := HAT.out; simp [Fo.size] at this; omega⟩
        have hjn : ¬ (j : Int) < (N : Int) := by omega
        have hb1 : at_ ≤ 1000 := by have := HE.out.2; omega
        clear hj HMX HAT HDR
        go_wp2_with fail
        go_ret2
        refine ⟨?_, rfl⟩
        rw [HE.out.1, HE.out.2]
        rfl
      | cons nm' k' r' =>
        have hjn : (j : Int) < (N : Int) := by simp [Fo.len] at hjl; omega
        simp only [Fo.size] at hrs
        have hcall := HIH.out nm' k' (r'.flat ++ R) at_ (by omega) (by omega) (by rw [HDR.out, Fo.flat_cons, List.append_assoc])
        have HP : Hid (L.drop (at_ + k'.size + 1) = r'.flat ++ R) := by
          show _ = _
          have h1 := HDR.out
          rw [Fo.flat_cons, List.append_assoc] at h1
          have h2 : (Fo.cons nm' k' .nil).flat.length = k'.size + 1 := by rw [Fo.flat_length]; simp [Fo.size]
          rw [show at_ + k'.size + 1 = at_ + (Fo.cons nm' k' .nil).flat.length by omega, ← List.drop_drop, h1, List.drop_left]
        have HM2 : Hid (max (max dp (k'.dep + 1)) r'.dep = D) := by show _ = _; rw [← HMX.out]; simp only [Fo.dep]; omega
        have HA2 : Hid (at_ + k'.size + 1 + r'.size = k + Z + 1) := by show _ = _; have := HAT.out; simp [Fo.size] at this; omega
        have hkd2 : k'.dep + 1 ≤ D := by have := HM2.out; omega
        have hmx : max dp (k'.dep + 1) ≤ D := by omega
        have hjl2 : j + 1 + r'.len = N := by simp [Fo.len] at hjl; omega
        clear HMX HAT HDR hjl
        go_wp2_with (go_at_call 43; refine hcall.mono ?_; rintro e w1 ⟨rfl, rfl⟩)
        go_round
        case rel => exact ⟨r', max dp (k'.dep + 1), at_ + k'.size + 1, j + 1, HM2, HP, HA2, by omega, hjl2, hmx, by congr 1; omega, by go_num, by go_num⟩
        case measure => simp [intOf]; omega

theorem depth_bad (w : World) (v : Value) (L : List Cl) (hv : Lies w v L) (hE : check L ≠ 0) :
    Calls Try.prog 18 #[v] w fun e w' => e = .returned (.tuple #[.int .i64 0, .int .i64 (check L : Nat)]) ∧ Below w.heap.size w w' := by
  have hck := check_any w v L hv
  generalize check L = e0 at hck hE ⊢
  have e1 : ((e0 : Int) == 0) = false := by simp only [beq_eq_false_iff_ne]; omega
  have e2 : ¬ (e0 : Int) = 0 := by omega
  go_enter Try.func18, Try.ntmps18
  go_wp2_with (go_at_call 10; refine hck.mono ?_; rintro e w1 ⟨rfl, hb1⟩)
  go_ret2
  exact ⟨rfl, hb1⟩
theorem depth_ok (w : World) (v : Value) (L : List Cl) (hv : Lies w v L) (hE : check L = 0) (nm : ByteArray) (kd : Fo) (hL : L = (Fo.cons nm kd .nil).flat) :
    Calls Try.prog 18 #[v] w fun e w' => e = .returned (.tuple #[.int .i64 ((kd.dep + 1 : Nat) : Int), .int .i64 0]) ∧ Below w.heap.size w w' := by
  have hck := check_any w v L hv
  obtain ⟨h64, _, _⟩ := check_zero hE
  have hsz : kd.size ≤ 64 := by have := h64; rw [hL, Fo.flat_length] at this; simp [Fo.size] at this; omega
  rw [hE] at hck
  have HV : Hid (Lies w v L) := hv
  obtain ⟨a, cap, rfl, hc1, hc2, hF, HC0⟩ := hv
  have hdp : ∀ w1, Below w.heap.size w w1 → _ := fun w1 hb => depth_any w1 a L cap h64 hc1 (HC0.on hb) (kd.size + 1) nm kd [] 0 (by omega) hsz (by rw [List.append_nil, List.drop_zero]; exact hL)
  generalize kd.dep = D at hdp ⊢
  generalize (0 + kd.size + 1 : Nat) = Z at hdp
  clear hL hE HC0
  go_enter Try.func18, Try.ntmps18
  go_wp2_with (first | (go_at_call 10; refine hck.mono ?_; rintro e w1 ⟨rfl, hb1⟩) | (go_at_call 43; refine (hdp _ hb1).mono ?_; rintro e w2 ⟨rfl, rfl⟩))
  go_ret2
  exact ⟨rfl, hb1⟩

end Go.Proofs.Ytjfkkabpfjcceaa
