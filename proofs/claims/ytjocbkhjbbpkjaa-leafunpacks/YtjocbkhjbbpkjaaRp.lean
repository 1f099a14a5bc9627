/-
  The document's Pack.
-/
import Derived.Test.YtjocbkhjbbpkjaaPn
import Derived.Test.YtjocbkhjbbpkjaaRs
namespace Go.Proofs.Ytjocbkhjbbpkjaa
open Go.RowKit
set_option linter.unusedVariables false
set_option linter.unusedSimpArgs false
set_option maxRecDepth 100000

theorem off0 (b k : Nat) : ((⟨b, 0, none⟩ : Addr).add k) = ⟨b, k, none⟩ := by
  cases k <;> simp [Addr.add]
theorem nat8 {n : Nat} (h : n < 256) : (UInt8.ofNat n).toNat = n := by rw [UInt8.toNat_ofNat']; exact Nat.mod_eq_of_lt (by omega)
theorem conv1 (W : World) (b n : Nat) (hn : n < 256) (hc : W.cell? ⟨b, 0, none⟩ = some (.int .u8 (n : Nat))) :
    (convert 55 9 (.slice (some ⟨b, 0, none⟩) 1 1)).run Try.prog W = .ok (.string ⟨(by1 n).toArray⟩) W := by
  have h := run_convert_bytes_back (P := Try.prog) W 55 9 5 ⟨b, 0, none⟩ 1 (by1 n) Try.underlying55 Try.underlying5 Try.underlying9 (fun j hj => by
    have hj0 : j = 0 := by simpa [by1] using hj
    subst hj0
    rw [off0, hc]
    simp [by1, nat8 hn])
  exact h
theorem conv2 (W : World) (k m : Nat) (hk : k < 256) (hm : m < 256) :
    (convert 55 9 (.slice (some ⟨W.heap.size, 0, none⟩) 2 2)).run Try.prog (W.alloc (.cells #[.int .u8 (k : Nat), .int .u8 (m : Nat)] 5)) = .ok (.string ⟨(by1 k ++ by1 m).toArray⟩) (W.alloc (.cells #[.int .u8 (k : Nat), .int .u8 (m : Nat)] 5)) := by
  have hb := Blk.made W #[.int .u8 (k : Nat), .int .u8 (m : Nat)] 5
  have h := run_convert_bytes_back (P := Try.prog) (W.alloc (.cells #[.int .u8 (k : Nat), .int .u8 (m : Nat)] 5)) 55 9 5 ⟨W.heap.size, 0, none⟩ 2 (by1 k ++ by1 m) Try.underlying55 Try.underlying5 Try.underlying9 (fun j hj => by
    have hj2 : j < 2 := by simpa [by1] using hj
    match j, hj2 with
    | 0, _ =>
      rw [off0, hb.cell (i := 0) rfl]
      simp [by1, nat8 hk]
    | 1, _ =>
      rw [off0, hb.cell (i := 1) rfl]
      simp [by1, nat8 hm])
  exact h

set_option maxHeartbeats 8000000 in
theorem rPack_loop (w : World) (k : Nat) (kz : Int) (hkz : (k : Int) = kz) (v : Value) (L : List Ent) (hl : LiesE w v L) (hc0 : ckE none L = 0) (hs0 : 2 + sumE L ≤ 256) (hk2 : kz = 1 ∨ kz = 2) :
    Calls Try.prog 12 #[.int .i64 kz, v] w fun e w' => e = .returned (.tuple #[.string (pageB k L), .int .i64 0]) ∧ Below w.heap.size w w' := by
  have hf := fits_of hc0 hs0
  obtain ⟨a, c, hv⟩ := hl.form
  subst hv
  have hfs := hf.size
  have hfl := hf.len
  have HL := hid hl
  have HF := hid hf
  have HTA : Hid (L.take L.length = L) := List.take_length
  have HT0 : Hid (by1 k ++ by1 L.length ++ entsB (L.take 0) = by1 k ++ by1 L.length) := by show _ = _; simp [entsB]
  have HRT : Hid (∀ w1 : World, Below w.heap.size w w1 → Calls Try.prog 19 #[.slice a L.length c] w1 fun e w' => e = .returned (.int .i64 0) ∧ Below w1.heap.size w1 w') := fun w1 hb => by
    have := right_any w1 _ L (hl.on hb)
    rw [hc0] at this
    exact this
  have HSZ : Hid (∀ w1 : World, Below w.heap.size w w1 → Calls Try.prog 14 #[.slice a L.length c] w1 fun e w' => e = .returned (.int .i64 ((2 + sumE L : Nat) : Int)) ∧ Below w1.heap.size w1 w') := fun w1 hb => by
    have := rSize_any w1 _ L (hl.on hb)
    rw [szL_of hc0 (by omega)] at this
    exact this
  have HZ : Hid (∀ (w1 : World) (n : Nat), n ≤ 65536 → Calls Try.prog 30 #[.int .i64 (n : Nat)] w1 fun e w' => e = .returned (.string ⟨(List.replicate n 0).toArray⟩) ∧ Below w1.heap.size w1 w') := fun w1 n hn => zeros_ok n w1 hn
  have HFE : Hid (by1 k ++ by1 L.length ++ entsB L = frontB k L) := rfl
  have HFL := hid (frontB_len k L)
  have HPB : Hid (pageB k L = ⟨((frontB k L) ++ List.replicate (256 - (2 + sumE L)) 0).toArray⟩) := by
    show _ = _
    unfold pageB padOf
    rw [bt_size, frontB_len]
  have HEL : Hid (∀ j, (by1 k ++ by1 L.length ++ entsB (L.take j)).length ≤ 256) := fun j => by
    have := sumE_take L j
    simp only [List.length_append, entsB_len, by1, List.length_cons, List.length_nil]
    omega
  obtain ⟨m, hm⟩ : ∃ m, L.length = m := ⟨_, rfl⟩
  have HM := hid hm
  rw [hm] at HL HTA HT0 HRT HSZ HFE HEL hfl ⊢
  have hcv2 := fun W : World => conv2 W k m (by omega) (by omega)
  have hwm : IntKind.u8.wrap (m : Int) = (m : Int) := by rw [IntKind.wrap_u8]; omega
  have hss : ¬ (256 : Int) < ((2 + sumE L : Nat) : Int) := by omega
  rw [hkz] at hcv2
  have HENT : Hid (∀ W : World, Below w.heap.size w W → Below w.heap.size w (W.alloc (.cells #[.int .u8 kz, .int .u8 (m : Int)] 5))) := fun W hb => hb.alloc hb.size _
  obtain ⟨q, hq⟩ : ∃ q, 2 + sumE L = q := ⟨_, rfl⟩
  rw [hq] at HSZ HPB hfs hss HFL
  generalize pageB k L = pg at *
  generalize frontB k L = fb at *
  clear hl hf hm hq hs0 hc0
  generalize by1 k ++ by1 m = ft at *
  have H0 : Hid ((⟨ft.toArray⟩ : ByteArray) = ⟨(ft ++ entsB (L.take 0)).toArray⟩) := by show _ = _; rw [HT0.out]
  clear HT0
  generalize (⟨ft.toArray⟩ : ByteArray) = s0 at *
  clear hkz
  go_enter Try.func12, Try.ntmps12
  rcases hk2 with rfl | rfl
  · go_wp2_with (first
      | (go_at_call 19; refine (HRT.out _ (Below.refl _ _)).mono ?_; clear HRT; rintro e w1 ⟨rfl, hb1⟩; have HB1 := hid hb1; clear hb1)
      | (go_at_call 14; refine (HSZ.out _ HB1.out).mono ?_; clear HSZ; rintro e w2 ⟨rfl, hb2⟩; have HB2 := hid (HB1.out.trans (hb2.mono HB1.out.size)); have hcw := hcv2 w2; clear hb2))
    have HB3 := hid (HENT.out _ HB2.out)
    clear HENT HB1 HB2 hcw hcv2 hss
    go_loopw [7, 32] (fun y i wr => ∃ (j : Nat) (s : ByteArray), j ≤ m ∧ y = .string s ∧ i = .int .i64 (j : Nat) ∧ Hid (s = ⟨(ft ++ entsB (L.take j)).toArray⟩) ∧ Hid (Below w.heap.size w wr)) (fun _ i _ => m - (intOf i).toNat)
    case atStart => exact ⟨0, s0, Nat.zero_le _, rfl, rfl, H0, HB3⟩
    case round =>
      obtain ⟨j, s, hj, rfl, rfl, HI, HB⟩ := hrel
      clear HB3 H0
      by_cases hjm : j < m
      · have hji : (j : Int) < (m : Int) := by omega
        obtain ⟨x, hx⟩ : ∃ x, L[j]? = some x := ⟨_, List.getElem?_eq_getElem (by rw [HM.out]; exact hjm)⟩
        have HBd := hid HB.out.drew
        obtain ⟨b, off, e1, hbl, c1, c2, _, _⟩ := (HL.out.on HBd.out).at hx
        subst e1
        have k1 := HF.out.key x (List.mem_of_getElem? hx)
        have k2 := HF.out.val x (List.mem_of_getElem? hx)
        obtain ⟨sk, hsk⟩ : ∃ sk, (⟨(by1 x.k.size).toArray⟩ : ByteArray) = sk := ⟨_, rfl⟩
        obtain ⟨sv, hsv⟩ : ∃ sv, (⟨(by1 x.v.size).toArray⟩ : ByteArray) = sv := ⟨_, rfl⟩
        have HX : Hid (s ++ (sk ++ x.k ++ sv ++ x.v) = ⟨(ft ++ entsB (L.take (j + 1))).toArray⟩) := by
          show _ = _
          rw [take_snoc hx, entsB_append, HI.out, ← hsk, ← hsv]
          apply ByteArray.ext
          apply Array.toList_inj.1
          simp [ByteArray.data_append, entsB, entB, List.append_assoc]
        have hsl : s.size ≤ 256 := by rw [HI.out, bt_size]; exact HEL.out j
        have hk9 : sk.size ≤ 1 := by rw [← hsk, bt_size]; exact Nat.le_refl _
        have hv9 : sv.size ≤ 1 := by rw [← hsv, bt_size]; exact Nat.le_refl _
        clear hx HI hj
        generalize x.k = xk at *
        generalize x.v = xv at *
        have hwk : IntKind.u8.wrap (xk.size : Int) = (xk.size : Int) := by rw [IntKind.wrap_u8]; omega
        have hwv : IntKind.u8.wrap (xv.size : Int) = (xv.size : Int) := by rw [IntKind.wrap_u8]; omega
        have e1 : (sk ++ xk).size = sk.size + xk.size := ByteArray.size_append
        have e2 : (sk ++ xk ++ sv).size = sk.size + xk.size + sv.size := by rw [ByteArray.size_append, e1]
        have e3 : (sk ++ xk ++ sv ++ xv).size = sk.size + xk.size + sv.size + xv.size := by rw [ByteArray.size_append, e2]
        have h50 : ¬ 9223372036854775807 < sk.size + xk.size := by omega
        have h60 : ¬ 9223372036854775807 < (sk ++ xk).size + sv.size := by omega
        have h66 : ¬ 9223372036854775807 < (sk ++ xk ++ sv).size + xv.size := by omega
        have h67 : ¬ 9223372036854775807 < s.size + (sk ++ xk ++ sv ++ xv).size := by omega
        clear e1 e2 e3
        have h60b : ¬ 9223372036854775807 < sk.size + xk.size + sv.size := by omega
        have h66b : ¬ 9223372036854775807 < sk.size + xk.size + sv.size + xv.size := by omega
        have h67b : ¬ 9223372036854775807 < s.size + (sk.size + xk.size + sv.size + xv.size) := by omega
        clear hk9 hv9 hsl
        go_wp2_with fail
        refine wp_region_d (fun w' => w'.cell? ⟨b, off + j * 2, none⟩ = some (.string xk) ∧ w'.cell? ⟨b, off + j * 2 + 1, none⟩ = some (.string xv)) (fun _ => true) (by kernel_rfl) ?_
        generalize wr.drew = wd at *
        have hsB : ∀ W : World, Below wd.heap.size wd W → W.cell? ⟨b, off + j * 2, none⟩ = some (.string xk) ∧ W.cell? ⟨b, off + j * 2 + 1, none⟩ = some (.string xv) := fun W hb => ⟨(hb.cell (p := ⟨b, off + j * 2, none⟩) hbl).trans c1, (hb.cell (p := ⟨b, off + j * 2 + 1, none⟩) hbl).trans c2⟩
        have hC : Below wd.heap.size wd wd := Below.refl _ _
        have hS := hsB _ hC
        clear HB
        refine wpAnyM_pick (i := 0) (some 35) (v := ?vz1) rfl rfl (by kernel_rfl) (by kernel_rfl) (by kernel_rfl) (by kernel_rfl) (fun _ _ _ h => h) (Or.inl ⟨by rfl, ?hz1⟩) hS ?rz1
        case hz1 => intro w hSw; have hs1 := hSw.1; have hs2 := hSw.2; go_simp; try with_reducible rfl
        try simp only [Act.put, List.setIfInBounds_toArray, List.set_cons_zero, List.set_cons_succ]
        refine wpAnyM_pick (i := 1) (some 36) (v := ?vz2) rfl rfl (by kernel_rfl) (by kernel_rfl) (by kernel_rfl) (by kernel_rfl) (fun _ _ _ h => h) (Or.inl ⟨by rfl, ?hz2⟩) hS ?rz2
        case hz2 => intro w hSw; have hs1 := hSw.1; have hs2 := hSw.2; go_simp; try with_reducible rfl
        try simp only [Act.put, List.setIfInBounds_toArray, List.set_cons_zero, List.set_cons_succ]
        refine wpAnyM_pick (i := 2) (some 37) (v := ?vz3) rfl rfl (by kernel_rfl) (by kernel_rfl) (by kernel_rfl) (by kernel_rfl) (fun _ _ _ h => h) (Or.inl ⟨by rfl, ?hz3⟩) hS ?rz3
        case hz3 => intro w hSw; have hs1 := hSw.1; have hs2 := hSw.2; go_simp; try with_reducible rfl
        try simp only [Act.put, List.setIfInBounds_toArray, List.set_cons_zero, List.set_cons_succ]
        refine wpAnyM_pick (i := 3) (some 38) (v := ?vz4) rfl rfl (by kernel_rfl) (by kernel_rfl) (by kernel_rfl) (by kernel_rfl) (fun _ _ _ h => h) (Or.inl ⟨by rfl, ?hz4⟩) hS ?rz4
        case hz4 => intro w hSw; have hs1 := hSw.1; have hs2 := hSw.2; go_simp; try with_reducible rfl
        try simp only [Act.put, List.setIfInBounds_toArray, List.set_cons_zero, List.set_cons_succ]
        refine wpAnyM_pick (i := 4) (some 39) (v := ?vz5) rfl rfl (by kernel_rfl) (by kernel_rfl) (by kernel_rfl) (by kernel_rfl) (fun _ _ _ h => h) (Or.inl ⟨by rfl, ?hz5⟩) hS ?rz5
        case hz5 => intro w hSw; have hs1 := hSw.1; have hs2 := hSw.2; go_simp; try with_reducible rfl
        try simp only [Act.put, List.setIfInBounds_toArray, List.set_cons_zero, List.set_cons_succ]
        refine wpAnyM_pick (i := 5) (some 40) (v := ?vz6) rfl rfl (by kernel_rfl) (by kernel_rfl) (by kernel_rfl) (by kernel_rfl) (fun _ _ _ h => h) (Or.inl ⟨by rfl, ?hz6⟩) hS ?rz6
        case hz6 => intro w hSw; have hs1 := hSw.1; have hs2 := hSw.2; go_simp; try with_reducible rfl
        try simp only [Act.put, List.setIfInBounds_toArray, List.set_cons_zero, List.set_cons_succ]
        refine wpAnyM_pick (i := 6) (some 41) (v := ?vz7) rfl rfl (by kernel_rfl) (by kernel_rfl) (by kernel_rfl) (by kernel_rfl) (fun _ _ _ h => h) (Or.inl ⟨by rfl, ?hz7⟩) hS ?rz7
        case hz7 => intro w hSw; have hs1 := hSw.1; have hs2 := hSw.2; go_simp; try with_reducible rfl
        try simp only [Act.put, List.setIfInBounds_toArray, List.set_cons_zero, List.set_cons_succ]
        refine wpAnyM_pick (i := 7) (some 42) (v := ?vz8) rfl rfl (by kernel_rfl) (by kernel_rfl) (by kernel_rfl) (by kernel_rfl) (fun _ _ _ h => h) (Or.inl ⟨by rfl, ?hz8⟩) hS ?rz8
        case hz8 => intro w hSw; have hs1 := hSw.1; have hs2 := hSw.2; go_simp; try with_reducible rfl
        try simp only [Act.put, List.setIfInBounds_toArray, List.set_cons_zero, List.set_cons_succ]
        refine wpAnyM_pick (i := 10) (some 45) (v := ?vz9) rfl rfl (by kernel_rfl) (by kernel_rfl) (by kernel_rfl) (by kernel_rfl) (fun _ _ _ h => h) (Or.inl ⟨by rfl, ?hz9⟩) hS ?rz9
        case hz9 => intro w hSw; have hs1 := hSw.1; have hs2 := hSw.2; go_simp; try with_reducible rfl
        try simp only [Act.put, List.setIfInBounds_toArray, List.set_cons_zero, List.set_cons_succ]
        refine wpAnyM_pick (i := 11) (some 46) (v := ?vz10) rfl rfl (by kernel_rfl) (by kernel_rfl) (by kernel_rfl) (by kernel_rfl) (fun _ _ _ h => h) (Or.inl ⟨by rfl, ?hz10⟩) hS ?rz10
        case hz10 => intro w hSw; have hs1 := hSw.1; have hs2 := hSw.2; go_simp; try with_reducible rfl
        try simp only [Act.put, List.setIfInBounds_toArray, List.set_cons_zero, List.set_cons_succ]
        refine wpAnyM_pick (i := 12) (some 47) (v := ?vz11) rfl rfl (by kernel_rfl) (by kernel_rfl) (by kernel_rfl) (by kernel_rfl) (fun _ _ _ h => h) (Or.inl ⟨by rfl, ?hz11⟩) hS ?rz11
        case hz11 => intro w hSw; have hs1 := hSw.1; have hs2 := hSw.2; go_simp; try with_reducible rfl
        try simp only [Act.put, List.setIfInBounds_toArray, List.set_cons_zero, List.set_cons_succ]
        refine wpAnyM_pick (i := 13) (some 48) (v := ?vz12) rfl rfl (by kernel_rfl) (by kernel_rfl) (by kernel_rfl) (by kernel_rfl) (fun _ _ _ h => h) (Or.inl ⟨by rfl, ?hz12⟩) hS ?rz12
        case hz12 => intro w hSw; have hs1 := hSw.1; have hs2 := hSw.2; go_simp; try with_reducible rfl
        try simp only [Act.put, List.setIfInBounds_toArray, List.set_cons_zero, List.set_cons_succ]
        refine wpAnyM_pick (i := 14) (some 49) (v := ?vz13) rfl rfl (by kernel_rfl) (by kernel_rfl) (by kernel_rfl) (by kernel_rfl) (fun _ _ _ h => h) (Or.inl ⟨by rfl, ?hz13⟩) hS ?rz13
        case hz13 => intro w hSw; have hs1 := hSw.1; have hs2 := hSw.2; go_simp; try with_reducible rfl
        try simp only [Act.put, List.setIfInBounds_toArray, List.set_cons_zero, List.set_cons_succ]
        refine wpAnyM_pick (i := 16) (some 51) (v := ?vz14) rfl rfl (by kernel_rfl) (by kernel_rfl) (by kernel_rfl) (by kernel_rfl) (fun _ _ _ h => h) (Or.inl ⟨by rfl, ?hz14⟩) hS ?rz14
        case hz14 => intro w hSw; have hs1 := hSw.1; have hs2 := hSw.2; go_simp; try with_reducible rfl
        try simp only [Act.put, List.setIfInBounds_toArray, List.set_cons_zero, List.set_cons_succ]
        refine wpAnyM_pick (i := 17) (some 52) (v := ?vz15) rfl rfl (by kernel_rfl) (by kernel_rfl) (by kernel_rfl) (by kernel_rfl) (fun _ _ _ h => h) (Or.inl ⟨by rfl, ?hz15⟩) hS ?rz15
        case hz15 => intro w hSw; have hs1 := hSw.1; have hs2 := hSw.2; go_simp; try with_reducible rfl
        try simp only [Act.put, List.setIfInBounds_toArray, List.set_cons_zero, List.set_cons_succ]
        refine wpAnyM_pick (i := 18) (some 53) (v := ?vz16) rfl rfl (by kernel_rfl) (by kernel_rfl) (by kernel_rfl) (by kernel_rfl) (fun _ _ _ h => h) (Or.inl ⟨by rfl, ?hz16⟩) hS ?rz16
        case hz16 => intro w hSw; have hs1 := hSw.1; have hs2 := hSw.2; go_simp; try with_reducible rfl
        try simp only [Act.put, List.setIfInBounds_toArray, List.set_cons_zero, List.set_cons_succ]
        refine wpAnyM_pick (i := 19) (some 54) (v := ?vz17) rfl rfl (by kernel_rfl) (by kernel_rfl) (by kernel_rfl) (by kernel_rfl) (fun _ _ _ h => h) (Or.inl ⟨by rfl, ?hz17⟩) hS ?rz17
        case hz17 => intro w hSw; have hs1 := hSw.1; have hs2 := hSw.2; go_simp; try with_reducible rfl
        try simp only [Act.put, List.setIfInBounds_toArray, List.set_cons_zero, List.set_cons_succ]
        refine wpAnyM_pick (i := 20) (some 55) (v := ?vz18) rfl rfl (by kernel_rfl) (by kernel_rfl) (by kernel_rfl) (by kernel_rfl) (fun _ _ _ h => h) (Or.inl ⟨by rfl, ?hz18⟩) hS ?rz18
        case hz18 => intro w hSw; have hs1 := hSw.1; have hs2 := hSw.2; go_simp; try with_reducible rfl
        try simp only [Act.put, List.setIfInBounds_toArray, List.set_cons_zero, List.set_cons_succ]
        refine wpAnyM_pick (i := 21) (some 56) (v := ?vz19) rfl rfl (by kernel_rfl) (by kernel_rfl) (by kernel_rfl) (by kernel_rfl) (fun _ _ _ h => h) (Or.inl ⟨by rfl, ?hz19⟩) hS ?rz19
        case hz19 => intro w hSw; have hs1 := hSw.1; have hs2 := hSw.2; go_simp; try with_reducible rfl
        try simp only [Act.put, List.setIfInBounds_toArray, List.set_cons_zero, List.set_cons_succ]
        refine wpAnyM_pick (i := 22) (some 57) (v := ?vz20) rfl rfl (by kernel_rfl) (by kernel_rfl) (by kernel_rfl) (by kernel_rfl) (fun _ _ _ h => h) (Or.inl ⟨by rfl, ?hz20⟩) hS ?rz20
        case hz20 => intro w hSw; have hs1 := hSw.1; have hs2 := hSw.2; go_simp; try with_reducible rfl
        try simp only [Act.put, List.setIfInBounds_toArray, List.set_cons_zero, List.set_cons_succ]
        refine wpAnyM_pick (i := 26) (some 61) (v := ?vz21) rfl rfl (by kernel_rfl) (by kernel_rfl) (by kernel_rfl) (by kernel_rfl) (fun _ _ _ h => h) (Or.inl ⟨by rfl, ?hz21⟩) hS ?rz21
        case hz21 => intro w hSw; have hs1 := hSw.1; have hs2 := hSw.2; go_simp; try with_reducible rfl
        try simp only [Act.put, List.setIfInBounds_toArray, List.set_cons_zero, List.set_cons_succ]
        refine wpAnyM_pick (i := 27) (some 62) (v := ?vz22) rfl rfl (by kernel_rfl) (by kernel_rfl) (by kernel_rfl) (by kernel_rfl) (fun _ _ _ h => h) (Or.inl ⟨by rfl, ?hz22⟩) hS ?rz22
        case hz22 => intro w hSw; have hs1 := hSw.1; have hs2 := hSw.2; go_simp; try with_reducible rfl
        try simp only [Act.put, List.setIfInBounds_toArray, List.set_cons_zero, List.set_cons_succ]
        refine wpAnyM_pick (i := 28) (some 63) (v := ?vz23) rfl rfl (by kernel_rfl) (by kernel_rfl) (by kernel_rfl) (by kernel_rfl) (fun _ _ _ h => h) (Or.inl ⟨by rfl, ?hz23⟩) hS ?rz23
        case hz23 => intro w hSw; have hs1 := hSw.1; have hs2 := hSw.2; go_simp; try with_reducible rfl
        try simp only [Act.put, List.setIfInBounds_toArray, List.set_cons_zero, List.set_cons_succ]
        refine wpAnyM_pick (i := 29) (some 64) (v := ?vz24) rfl rfl (by kernel_rfl) (by kernel_rfl) (by kernel_rfl) (by kernel_rfl) (fun _ _ _ h => h) (Or.inl ⟨by rfl, ?hz24⟩) hS ?rz24
        case hz24 => intro w hSw; have hs1 := hSw.1; have hs2 := hSw.2; go_simp; try with_reducible rfl
        try simp only [Act.put, List.setIfInBounds_toArray, List.set_cons_zero, List.set_cons_succ]
        refine wpAnyM_pick (i := 30) (some 65) (v := ?vz25) rfl rfl (by kernel_rfl) (by kernel_rfl) (by kernel_rfl) (by kernel_rfl) (fun _ _ _ h => h) (Or.inl ⟨by rfl, ?hz25⟩) hS ?rz25
        case hz25 => intro w hSw; have hs1 := hSw.1; have hs2 := hSw.2; go_simp; try with_reducible rfl
        try simp only [Act.put, List.setIfInBounds_toArray, List.set_cons_zero, List.set_cons_succ]
        refine wpAnyM_two (i := 8) (j := 23) (by kernel_rfl) rfl rfl (fun K hK => ?_) (fun K hK => ?_)
        · go_simp
          have hA8 := Blk.made wd #[.int .u8 (xk.size : Int)] 5
          have hB8 : Below wd.heap.size wd (wd.alloc (.cells #[.int .u8 (xk.size : Int)] 5)) := (Below.refl _ _).alloc (Nat.le_refl _) _
          generalize wd.alloc (.cells #[.int .u8 (xk.size : Int)] 5) = wda at hA8 hB8 ⊢
          have hC8 := hC.trans (hB8.mono hC.size)
          have hs8 := hsB _ hC8
          have hC := hC8
          have hS := hs8
          refine hK.out _ _ (fun _ => hS) ?_
          clear hK K
          try simp only [Act.put, List.setIfInBounds_toArray, List.set_cons_zero, List.set_cons_succ]
          refine wpAnyM_two (i := 9) (j := 23) (by kernel_rfl) rfl rfl (fun K hK => ?_) (fun K hK => ?_)
          · have hcv9 := conv1 wda wd.heap.size xk.size (by omega) (hA8.cell (i := 0) rfl)
            rw [hsk] at hcv9
            go_simp
            refine hK.out _ _ (fun _ => hS) ?_
            clear hK K
            try simp only [Act.put, List.setIfInBounds_toArray, List.set_cons_zero, List.set_cons_succ]
            refine wpAnyM_pick (i := 15) (some 50) (v := ?vz26) rfl rfl (by kernel_rfl) (by kernel_rfl) (by kernel_rfl) (by kernel_rfl) (fun _ _ _ h => h) (Or.inl ⟨by rfl, ?hz26⟩) hS ?rz26
            case hz26 => intro w hSw; have hs1 := hSw.1; have hs2 := hSw.2; go_simp; try with_reducible rfl
            try simp only [Act.put, List.setIfInBounds_toArray, List.set_cons_zero, List.set_cons_succ]
            refine wpAnyM_one (i := 23) (by kernel_rfl) rfl (fun K hK => ?_)
            go_simp
            have hA23 := Blk.made wda #[.int .u8 (xv.size : Int)] 5
            have hB23 : Below wda.heap.size wda (wda.alloc (.cells #[.int .u8 (xv.size : Int)] 5)) := (Below.refl _ _).alloc (Nat.le_refl _) _
            generalize wda.alloc (.cells #[.int .u8 (xv.size : Int)] 5) = wdab at hA23 hB23 ⊢
            have hC23 := hC.trans (hB23.mono hC.size)
            have hs23 := hsB _ hC23
            have hA8 := hA8.on hB23 hA8.lt
            have hC := hC23
            have hS := hs23
            refine hK.out _ _ (fun _ => hS) ?_
            clear hK K
            try simp only [Act.put, List.setIfInBounds_toArray, List.set_cons_zero, List.set_cons_succ]
            refine wpAnyM_one (i := 24) (by kernel_rfl) rfl (fun K hK => ?_)
            have hcv24 := conv1 wdab wda.heap.size xv.size (by omega) (hA23.cell (i := 0) rfl)
            rw [hsv] at hcv24
            go_simp
            refine hK.out _ _ (fun _ => hS) ?_
            clear hK K
            try simp only [Act.put, List.setIfInBounds_toArray, List.set_cons_zero, List.set_cons_succ]
            refine wpAnyM_pick (i := 25) (some 60) (v := ?vz27) rfl rfl (by kernel_rfl) (by kernel_rfl) (by kernel_rfl) (by kernel_rfl) (fun _ _ _ h => h) (Or.inl ⟨by rfl, ?hz27⟩) hS ?rz27
            case hz27 => intro w hSw; have hs1 := hSw.1; have hs2 := hSw.2; go_simp; try with_reducible rfl
            try simp only [Act.put, List.setIfInBounds_toArray, List.set_cons_zero, List.set_cons_succ]
            refine wpAnyM_pick (i := 31) (some 66) (v := ?vz28) rfl rfl (by kernel_rfl) (by kernel_rfl) (by kernel_rfl) (by kernel_rfl) (fun _ _ _ h => h) (Or.inl ⟨by rfl, ?hz28⟩) hS ?rz28
            case hz28 => intro w hSw; have hs1 := hSw.1; have hs2 := hSw.2; go_simp; try with_reducible rfl
            try simp only [Act.put, List.setIfInBounds_toArray, List.set_cons_zero, List.set_cons_succ]
            refine wpAnyM_pick (i := 32) (some 67) (v := ?vz29) rfl rfl (by kernel_rfl) (by kernel_rfl) (by kernel_rfl) (by kernel_rfl) (fun _ _ _ h => h) (Or.inl ⟨by rfl, ?hz29⟩) hS ?rz29
            case hz29 => intro w hSw; have hs1 := hSw.1; have hs2 := hSw.2; go_simp; try with_reducible rfl
            try simp only [Act.put, List.setIfInBounds_toArray, List.set_cons_zero, List.set_cons_succ]
            refine wpAnyM_pick (i := 33) (some 7) (v := ?vz30) rfl rfl (by kernel_rfl) (by kernel_rfl) (by kernel_rfl) (by kernel_rfl) (fun _ _ _ h => h) (Or.inl ⟨by rfl, ?hz30⟩) hS ?rz30
            case hz30 => intro w hSw; have hs1 := hSw.1; have hs2 := hSw.2; go_simp; try with_reducible rfl
            try simp only [Act.put, List.setIfInBounds_toArray, List.set_cons_zero, List.set_cons_succ]
            refine wpAnyM_done (by kernel_rfl) ?_ _
            try simp only [Act.put, List.setIfInBounds_toArray, List.set_cons_zero, List.set_cons_succ]
            have HBE := hid (HBd.out.trans (hC.mono HBd.out.size))
            clear hC hS hsB c1 c2
            go_wp2_with fail
            go_roundw
            case rel => exact ⟨j + 1, _, by omega, rfl, by go_num, HX, HBE⟩
            case measure => simp [intOf]; omega
          · go_simp
            have hA23 := Blk.made wda #[.int .u8 (xv.size : Int)] 5
            have hB23 : Below wda.heap.size wda (wda.alloc (.cells #[.int .u8 (xv.size : Int)] 5)) := (Below.refl _ _).alloc (Nat.le_refl _) _
            generalize wda.alloc (.cells #[.int .u8 (xv.size : Int)] 5) = wdab at hA23 hB23 ⊢
            have hC23 := hC.trans (hB23.mono hC.size)
            have hs23 := hsB _ hC23
            have hA8 := hA8.on hB23 hA8.lt
            have hC := hC23
            have hS := hs23
            refine hK.out _ _ (fun _ => hS) ?_
            clear hK K
            try simp only [Act.put, List.setIfInBounds_toArray, List.set_cons_zero, List.set_cons_succ]
            refine wpAnyM_two (i := 9) (j := 24) (by kernel_rfl) rfl rfl (fun K hK => ?_) (fun K hK => ?_)
            · have hcv9 := conv1 wdab wd.heap.size xk.size (by omega) (hA8.cell (i := 0) rfl)
              rw [hsk] at hcv9
              go_simp
              refine hK.out _ _ (fun _ => hS) ?_
              clear hK K
              try simp only [Act.put, List.setIfInBounds_toArray, List.set_cons_zero, List.set_cons_succ]
              refine wpAnyM_pick (i := 15) (some 50) (v := ?vz31) rfl rfl (by kernel_rfl) (by kernel_rfl) (by kernel_rfl) (by kernel_rfl) (fun _ _ _ h => h) (Or.inl ⟨by rfl, ?hz31⟩) hS ?rz31
              case hz31 => intro w hSw; have hs1 := hSw.1; have hs2 := hSw.2; go_simp; try with_reducible rfl
              try simp only [Act.put, List.setIfInBounds_toArray, List.set_cons_zero, List.set_cons_succ]
              refine wpAnyM_one (i := 24) (by kernel_rfl) rfl (fun K hK => ?_)
              have hcv24 := conv1 wdab wda.heap.size xv.size (by omega) (hA23.cell (i := 0) rfl)
              rw [hsv] at hcv24
              go_simp
              refine hK.out _ _ (fun _ => hS) ?_
              clear hK K
              try simp only [Act.put, List.setIfInBounds_toArray, List.set_cons_zero, List.set_cons_succ]
              refine wpAnyM_pick (i := 25) (some 60) (v := ?vz32) rfl rfl (by kernel_rfl) (by kernel_rfl) (by kernel_rfl) (by kernel_rfl) (fun _ _ _ h => h) (Or.inl ⟨by rfl, ?hz32⟩) hS ?rz32
              case hz32 => intro w hSw; have hs1 := hSw.1; have hs2 := hSw.2; go_simp; try with_reducible rfl
              try simp only [Act.put, List.setIfInBounds_toArray, List.set_cons_zero, List.set_cons_succ]
              refine wpAnyM_pick (i := 31) (some 66) (v := ?vz33) rfl rfl (by kernel_rfl) (by kernel_rfl) (by kernel_rfl) (by kernel_rfl) (fun _ _ _ h => h) (Or.inl ⟨by rfl, ?hz33⟩) hS ?rz33
              case hz33 => intro w hSw; have hs1 := hSw.1; have hs2 := hSw.2; go_simp; try with_reducible rfl
              try simp only [Act.put, List.setIfInBounds_toArray, List.set_cons_zero, List.set_cons_succ]
              refine wpAnyM_pick (i := 32) (some 67) (v := ?vz34) rfl rfl (by kernel_rfl) (by kernel_rfl) (by kernel_rfl) (by kernel_rfl) (fun _ _ _ h => h) (Or.inl ⟨by rfl, ?hz34⟩) hS ?rz34
              case hz34 => intro w hSw; have hs1 := hSw.1; have hs2 := hSw.2; go_simp; try with_reducible rfl
              try simp only [Act.put, List.setIfInBounds_toArray, List.set_cons_zero, List.set_cons_succ]
              refine wpAnyM_pick (i := 33) (some 7) (v := ?vz35) rfl rfl (by kernel_rfl) (by kernel_rfl) (by kernel_rfl) (by kernel_rfl) (fun _ _ _ h => h) (Or.inl ⟨by rfl, ?hz35⟩) hS ?rz35
              case hz35 => intro w hSw; have hs1 := hSw.1; have hs2 := hSw.2; go_simp; try with_reducible rfl
              try simp only [Act.put, List.setIfInBounds_toArray, List.set_cons_zero, List.set_cons_succ]
              refine wpAnyM_done (by kernel_rfl) ?_ _
              try simp only [Act.put, List.setIfInBounds_toArray, List.set_cons_zero, List.set_cons_succ]
              have HBE := hid (HBd.out.trans (hC.mono HBd.out.size))
              clear hC hS hsB c1 c2
              go_wp2_with fail
              go_roundw
              case rel => exact ⟨j + 1, _, by omega, rfl, by go_num, HX, HBE⟩
              case measure => simp [intOf]; omega
            · have hcv24 := conv1 wdab wda.heap.size xv.size (by omega) (hA23.cell (i := 0) rfl)
              rw [hsv] at hcv24
              go_simp
              refine hK.out _ _ (fun _ => hS) ?_
              clear hK K
              try simp only [Act.put, List.setIfInBounds_toArray, List.set_cons_zero, List.set_cons_succ]
              refine wpAnyM_one (i := 9) (by kernel_rfl) rfl (fun K hK => ?_)
              have hcv9 := conv1 wdab wd.heap.size xk.size (by omega) (hA8.cell (i := 0) rfl)
              rw [hsk] at hcv9
              go_simp
              refine hK.out _ _ (fun _ => hS) ?_
              clear hK K
              try simp only [Act.put, List.setIfInBounds_toArray, List.set_cons_zero, List.set_cons_succ]
              refine wpAnyM_pick (i := 15) (some 50) (v := ?vz36) rfl rfl (by kernel_rfl) (by kernel_rfl) (by kernel_rfl) (by kernel_rfl) (fun _ _ _ h => h) (Or.inl ⟨by rfl, ?hz36⟩) hS ?rz36
              case hz36 => intro w hSw; have hs1 := hSw.1; have hs2 := hSw.2; go_simp; try with_reducible rfl
              try simp only [Act.put, List.setIfInBounds_toArray, List.set_cons_zero, List.set_cons_succ]
              refine wpAnyM_pick (i := 25) (some 60) (v := ?vz37) rfl rfl (by kernel_rfl) (by kernel_rfl) (by kernel_rfl) (by kernel_rfl) (fun _ _ _ h => h) (Or.inl ⟨by rfl, ?hz37⟩) hS ?rz37
              case hz37 => intro w hSw; have hs1 := hSw.1; have hs2 := hSw.2; go_simp; try with_reducible rfl
              try simp only [Act.put, List.setIfInBounds_toArray, List.set_cons_zero, List.set_cons_succ]
              refine wpAnyM_pick (i := 31) (some 66) (v := ?vz38) rfl rfl (by kernel_rfl) (by kernel_rfl) (by kernel_rfl) (by kernel_rfl) (fun _ _ _ h => h) (Or.inl ⟨by rfl, ?hz38⟩) hS ?rz38
              case hz38 => intro w hSw; have hs1 := hSw.1; have hs2 := hSw.2; go_simp; try with_reducible rfl
              try simp only [Act.put, List.setIfInBounds_toArray, List.set_cons_zero, List.set_cons_succ]
              refine wpAnyM_pick (i := 32) (some 67) (v := ?vz39) rfl rfl (by kernel_rfl) (by kernel_rfl) (by kernel_rfl) (by kernel_rfl) (fun _ _ _ h => h) (Or.inl ⟨by rfl, ?hz39⟩) hS ?rz39
              case hz39 => intro w hSw; have hs1 := hSw.1; have hs2 := hSw.2; go_simp; try with_reducible rfl
              try simp only [Act.put, List.setIfInBounds_toArray, List.set_cons_zero, List.set_cons_succ]
              refine wpAnyM_pick (i := 33) (some 7) (v := ?vz40) rfl rfl (by kernel_rfl) (by kernel_rfl) (by kernel_rfl) (by kernel_rfl) (fun _ _ _ h => h) (Or.inl ⟨by rfl, ?hz40⟩) hS ?rz40
              case hz40 => intro w hSw; have hs1 := hSw.1; have hs2 := hSw.2; go_simp; try with_reducible rfl
              try simp only [Act.put, List.setIfInBounds_toArray, List.set_cons_zero, List.set_cons_succ]
              refine wpAnyM_done (by kernel_rfl) ?_ _
              try simp only [Act.put, List.setIfInBounds_toArray, List.set_cons_zero, List.set_cons_succ]
              have HBE := hid (HBd.out.trans (hC.mono HBd.out.size))
              clear hC hS hsB c1 c2
              go_wp2_with fail
              go_roundw
              case rel => exact ⟨j + 1, _, by omega, rfl, by go_num, HX, HBE⟩
              case measure => simp [intOf]; omega
        · go_simp
          have hA23 := Blk.made wd #[.int .u8 (xv.size : Int)] 5
          have hB23 : Below wd.heap.size wd (wd.alloc (.cells #[.int .u8 (xv.size : Int)] 5)) := (Below.refl _ _).alloc (Nat.le_refl _) _
          generalize wd.alloc (.cells #[.int .u8 (xv.size : Int)] 5) = wdb at hA23 hB23 ⊢
          have hC23 := hC.trans (hB23.mono hC.size)
          have hs23 := hsB _ hC23
          have hC := hC23
          have hS := hs23
          refine hK.out _ _ (fun _ => hS) ?_
          clear hK K
          try simp only [Act.put, List.setIfInBounds_toArray, List.set_cons_zero, List.set_cons_succ]
          refine wpAnyM_two (i := 8) (j := 24) (by kernel_rfl) rfl rfl (fun K hK => ?_) (fun K hK => ?_)
          · go_simp
            have hA8 := Blk.made wdb #[.int .u8 (xk.size : Int)] 5
            have hB8 : Below wdb.heap.size wdb (wdb.alloc (.cells #[.int .u8 (xk.size : Int)] 5)) := (Below.refl _ _).alloc (Nat.le_refl _) _
            generalize wdb.alloc (.cells #[.int .u8 (xk.size : Int)] 5) = wdba at hA8 hB8 ⊢
            have hC8 := hC.trans (hB8.mono hC.size)
            have hs8 := hsB _ hC8
            have hA23 := hA23.on hB8 hA23.lt
            have hC := hC8
            have hS := hs8
            refine hK.out _ _ (fun _ => hS) ?_
            clear hK K
            try simp only [Act.put, List.setIfInBounds_toArray, List.set_cons_zero, List.set_cons_succ]
            refine wpAnyM_two (i := 9) (j := 24) (by kernel_rfl) rfl rfl (fun K hK => ?_) (fun K hK => ?_)
            · have hcv9 := conv1 wdba wdb.heap.size xk.size (by omega) (hA8.cell (i := 0) rfl)
              rw [hsk] at hcv9
              go_simp
              refine hK.out _ _ (fun _ => hS) ?_
              clear hK K
              try simp only [Act.put, List.setIfInBounds_toArray, List.set_cons_zero, List.set_cons_succ]
              refine wpAnyM_pick (i := 15) (some 50) (v := ?vz41) rfl rfl (by kernel_rfl) (by kernel_rfl) (by kernel_rfl) (by kernel_rfl) (fun _ _ _ h => h) (Or.inl ⟨by rfl, ?hz41⟩) hS ?rz41
              case hz41 => intro w hSw; have hs1 := hSw.1; have hs2 := hSw.2; go_simp; try with_reducible rfl
              try simp only [Act.put, List.setIfInBounds_toArray, List.set_cons_zero, List.set_cons_succ]
              refine wpAnyM_one (i := 24) (by kernel_rfl) rfl (fun K hK => ?_)
              have hcv24 := conv1 wdba wd.heap.size xv.size (by omega) (hA23.cell (i := 0) rfl)
              rw [hsv] at hcv24
              go_simp
              refine hK.out _ _ (fun _ => hS) ?_
              clear hK K
              try simp only [Act.put, List.setIfInBounds_toArray, List.set_cons_zero, List.set_cons_succ]
              refine wpAnyM_pick (i := 25) (some 60) (v := ?vz42) rfl rfl (by kernel_rfl) (by kernel_rfl) (by kernel_rfl) (by kernel_rfl) (fun _ _ _ h => h) (Or.inl ⟨by rfl, ?hz42⟩) hS ?rz42
              case hz42 => intro w hSw; have hs1 := hSw.1; have hs2 := hSw.2; go_simp; try with_reducible rfl
              try simp only [Act.put, List.setIfInBounds_toArray, List.set_cons_zero, List.set_cons_succ]
              refine wpAnyM_pick (i := 31) (some 66) (v := ?vz43) rfl rfl (by kernel_rfl) (by kernel_rfl) (by kernel_rfl) (by kernel_rfl) (fun _ _ _ h => h) (Or.inl ⟨by rfl, ?hz43⟩) hS ?rz43
              case hz43 => intro w hSw; have hs1 := hSw.1; have hs2 := hSw.2; go_simp; try with_reducible rfl
              try simp only [Act.put, List.setIfInBounds_toArray, List.set_cons_zero, List.set_cons_succ]
              refine wpAnyM_pick (i := 32) (some 67) (v := ?vz44) rfl rfl (by kernel_rfl) (by kernel_rfl) (by kernel_rfl) (by kernel_rfl) (fun _ _ _ h => h) (Or.inl ⟨by rfl, ?hz44⟩) hS ?rz44
              case hz44 => intro w hSw; have hs1 := hSw.1; have hs2 := hSw.2; go_simp; try with_reducible rfl
              try simp only [Act.put, List.setIfInBounds_toArray, List.set_cons_zero, List.set_cons_succ]
              refine wpAnyM_pick (i := 33) (some 7) (v := ?vz45) rfl rfl (by kernel_rfl) (by kernel_rfl) (by kernel_rfl) (by kernel_rfl) (fun _ _ _ h => h) (Or.inl ⟨by rfl, ?hz45⟩) hS ?rz45
              case hz45 => intro w hSw; have hs1 := hSw.1; have hs2 := hSw.2; go_simp; try with_reducible rfl
              try simp only [Act.put, List.setIfInBounds_toArray, List.set_cons_zero, List.set_cons_succ]
              refine wpAnyM_done (by kernel_rfl) ?_ _
              try simp only [Act.put, List.setIfInBounds_toArray, List.set_cons_zero, List.set_cons_succ]
              have HBE := hid (HBd.out.trans (hC.mono HBd.out.size))
              clear hC hS hsB c1 c2
              go_wp2_with fail
              go_roundw
              case rel => exact ⟨j + 1, _, by omega, rfl, by go_num, HX, HBE⟩
              case measure => simp [intOf]; omega
            · have hcv24 := conv1 wdba wd.heap.size xv.size (by omega) (hA23.cell (i := 0) rfl)
              rw [hsv] at hcv24
              go_simp
              refine hK.out _ _ (fun _ => hS) ?_
              clear hK K
              try simp only [Act.put, List.setIfInBounds_toArray, List.set_cons_zero, List.set_cons_succ]
              refine wpAnyM_one (i := 9) (by kernel_rfl) rfl (fun K hK => ?_)
              have hcv9 := conv1 wdba wdb.heap.size xk.size (by omega) (hA8.cell (i := 0) rfl)
              rw [hsk] at hcv9
              go_simp
              refine hK.out _ _ (fun _ => hS) ?_
              clear hK K
              try simp only [Act.put, List.setIfInBounds_toArray, List.set_cons_zero, List.set_cons_succ]
              refine wpAnyM_pick (i := 15) (some 50) (v := ?vz46) rfl rfl (by kernel_rfl) (by kernel_rfl) (by kernel_rfl) (by kernel_rfl) (fun _ _ _ h => h) (Or.inl ⟨by rfl, ?hz46⟩) hS ?rz46
              case hz46 => intro w hSw; have hs1 := hSw.1; have hs2 := hSw.2; go_simp; try with_reducible rfl
              try simp only [Act.put, List.setIfInBounds_toArray, List.set_cons_zero, List.set_cons_succ]
              refine wpAnyM_pick (i := 25) (some 60) (v := ?vz47) rfl rfl (by kernel_rfl) (by kernel_rfl) (by kernel_rfl) (by kernel_rfl) (fun _ _ _ h => h) (Or.inl ⟨by rfl, ?hz47⟩) hS ?rz47
              case hz47 => intro w hSw; have hs1 := hSw.1; have hs2 := hSw.2; go_simp; try with_reducible rfl
              try simp only [Act.put, List.setIfInBounds_toArray, List.set_cons_zero, List.set_cons_succ]
              refine wpAnyM_pick (i := 31) (some 66) (v := ?vz48) rfl rfl (by kernel_rfl) (by kernel_rfl) (by kernel_rfl) (by kernel_rfl) (fun _ _ _ h => h) (Or.inl ⟨by rfl, ?hz48⟩) hS ?rz48
              case hz48 => intro w hSw; have hs1 := hSw.1; have hs2 := hSw.2; go_simp; try with_reducible rfl
              try simp only [Act.put, List.setIfInBounds_toArray, List.set_cons_zero, List.set_cons_succ]
              refine wpAnyM_pick (i := 32) (some 67) (v := ?vz49) rfl rfl (by kernel_rfl) (by kernel_rfl) (by kernel_rfl) (by kernel_rfl) (fun _ _ _ h => h) (Or.inl ⟨by rfl, ?hz49⟩) hS ?rz49
              case hz49 => intro w hSw; have hs1 := hSw.1; have hs2 := hSw.2; go_simp; try with_reducible rfl
              try simp only [Act.put, List.setIfInBounds_toArray, List.set_cons_zero, List.set_cons_succ]
              refine wpAnyM_pick (i := 33) (some 7) (v := ?vz50) rfl rfl (by kernel_rfl) (by kernel_rfl) (by kernel_rfl) (by kernel_rfl) (fun _ _ _ h => h) (Or.inl ⟨by rfl, ?hz50⟩) hS ?rz50
              case hz50 => intro w hSw; have hs1 := hSw.1; have hs2 := hSw.2; go_simp; try with_reducible rfl
              try simp only [Act.put, List.setIfInBounds_toArray, List.set_cons_zero, List.set_cons_succ]
              refine wpAnyM_done (by kernel_rfl) ?_ _
              try simp only [Act.put, List.setIfInBounds_toArray, List.set_cons_zero, List.set_cons_succ]
              have HBE := hid (HBd.out.trans (hC.mono HBd.out.size))
              clear hC hS hsB c1 c2
              go_wp2_with fail
              go_roundw
              case rel => exact ⟨j + 1, _, by omega, rfl, by go_num, HX, HBE⟩
              case measure => simp [intOf]; omega
          · have hcv24 := conv1 wdb wd.heap.size xv.size (by omega) (hA23.cell (i := 0) rfl)
            rw [hsv] at hcv24
            go_simp
            refine hK.out _ _ (fun _ => hS) ?_
            clear hK K
            try simp only [Act.put, List.setIfInBounds_toArray, List.set_cons_zero, List.set_cons_succ]
            refine wpAnyM_one (i := 8) (by kernel_rfl) rfl (fun K hK => ?_)
            go_simp
            have hA8 := Blk.made wdb #[.int .u8 (xk.size : Int)] 5
            have hB8 : Below wdb.heap.size wdb (wdb.alloc (.cells #[.int .u8 (xk.size : Int)] 5)) := (Below.refl _ _).alloc (Nat.le_refl _) _
            generalize wdb.alloc (.cells #[.int .u8 (xk.size : Int)] 5) = wdba at hA8 hB8 ⊢
            have hC8 := hC.trans (hB8.mono hC.size)
            have hs8 := hsB _ hC8
            have hA23 := hA23.on hB8 hA23.lt
            have hC := hC8
            have hS := hs8
            refine hK.out _ _ (fun _ => hS) ?_
            clear hK K
            try simp only [Act.put, List.setIfInBounds_toArray, List.set_cons_zero, List.set_cons_succ]
            refine wpAnyM_one (i := 9) (by kernel_rfl) rfl (fun K hK => ?_)
            have hcv9 := conv1 wdba wdb.heap.size xk.size (by omega) (hA8.cell (i := 0) rfl)
            rw [hsk] at hcv9
            go_simp
            refine hK.out _ _ (fun _ => hS) ?_
            clear hK K
            try simp only [Act.put, List.setIfInBounds_toArray, List.set_cons_zero, List.set_cons_succ]
            refine wpAnyM_pick (i := 15) (some 50) (v := ?vz51) rfl rfl (by kernel_rfl) (by kernel_rfl) (by kernel_rfl) (by kernel_rfl) (fun _ _ _ h => h) (Or.inl ⟨by rfl, ?hz51⟩) hS ?rz51
            case hz51 => intro w hSw; have hs1 := hSw.1; have hs2 := hSw.2; go_simp; try with_reducible rfl
            try simp only [Act.put, List.setIfInBounds_toArray, List.set_cons_zero, List.set_cons_succ]
            refine wpAnyM_pick (i := 25) (some 60) (v := ?vz52) rfl rfl (by kernel_rfl) (by kernel_rfl) (by kernel_rfl) (by kernel_rfl) (fun _ _ _ h => h) (Or.inl ⟨by rfl, ?hz52⟩) hS ?rz52
            case hz52 => intro w hSw; have hs1 := hSw.1; have hs2 := hSw.2; go_simp; try with_reducible rfl
            try simp only [Act.put, List.setIfInBounds_toArray, List.set_cons_zero, List.set_cons_succ]
            refine wpAnyM_pick (i := 31) (some 66) (v := ?vz53) rfl rfl (by kernel_rfl) (by kernel_rfl) (by kernel_rfl) (by kernel_rfl) (fun _ _ _ h => h) (Or.inl ⟨by rfl, ?hz53⟩) hS ?rz53
            case hz53 => intro w hSw; have hs1 := hSw.1; have hs2 := hSw.2; go_simp; try with_reducible rfl
            try simp only [Act.put, List.setIfInBounds_toArray, List.set_cons_zero, List.set_cons_succ]
            refine wpAnyM_pick (i := 32) (some 67) (v := ?vz54) rfl rfl (by kernel_rfl) (by kernel_rfl) (by kernel_rfl) (by kernel_rfl) (fun _ _ _ h => h) (Or.inl ⟨by rfl, ?hz54⟩) hS ?rz54
            case hz54 => intro w hSw; have hs1 := hSw.1; have hs2 := hSw.2; go_simp; try with_reducible rfl
            try simp only [Act.put, List.setIfInBounds_toArray, List.set_cons_zero, List.set_cons_succ]
            refine wpAnyM_pick (i := 33) (some 7) (v := ?vz55) rfl rfl (by kernel_rfl) (by kernel_rfl) (by kernel_rfl) (by kernel_rfl) (fun _ _ _ h => h) (Or.inl ⟨by rfl, ?hz55⟩) hS ?rz55
            case hz55 => intro w hSw; have hs1 := hSw.1; have hs2 := hSw.2; go_simp; try with_reducible rfl
            try simp only [Act.put, List.setIfInBounds_toArray, List.set_cons_zero, List.set_cons_succ]
            refine wpAnyM_done (by kernel_rfl) ?_ _
            try simp only [Act.put, List.setIfInBounds_toArray, List.set_cons_zero, List.set_cons_succ]
            have HBE := hid (HBd.out.trans (hC.mono HBd.out.size))
            clear hC hS hsB c1 c2
            go_wp2_with fail
            go_roundw
            case rel => exact ⟨j + 1, _, by omega, rfl, by go_num, HX, HBE⟩
            case measure => simp [intOf]; omega
      · obtain rfl : j = m := by omega
        have hji : ¬ (j : Int) < (j : Int) := by omega
        have HI2 : Hid (s = ⟨fb.toArray⟩) := by
          show _ = _
          rw [← HFE.out, HI.out, HTA.out]
        have hsz : s.size = q := by rw [HI2.out, bt_size]; exact HFL.out
        have hw1 : IntKind.i64.wrap (256 - (s.size : Int)) = ((256 - q : Nat) : Int) := by rw [hsz, IntKind.wrap_i64]; omega
        have HPG : Hid (s ++ (⟨(List.replicate (256 - q) 0).toArray⟩ : ByteArray) = pg) := by
          show _ = _
          rw [HI2.out, HPB.out]
          exact ba_append _ _
        have HZ2 := hid fun w1 : World => HZ.out w1 (256 - q) (by omega)
        have hzz : (⟨(List.replicate (256 - q) 0).toArray⟩ : ByteArray).size ≤ 256 := by rw [bt_size, List.length_replicate]; omega
        have hs9 : s.size ≤ 256 := by omega
        clear HI HI2 hsz HPB HZ
        generalize (⟨(List.replicate (256 - q) 0).toArray⟩ : ByteArray) = zs at *
        have hsum : ¬ 9223372036854775807 < s.size + zs.size := by omega
        go_wp2_with (go_at_call 30; refine (HZ2.out _).mono ?_; clear HZ2; rintro e w9 ⟨rfl, hb9⟩; have HB9 := hid (HB.out.trans (hb9.mono HB.out.size)); clear hb9)
        go_ret2
        exact ⟨by rw [HPG.out]; rfl, HB9.out⟩
  · go_wp2_with (first
      | (go_at_call 19; refine (HRT.out _ (Below.refl _ _)).mono ?_; clear HRT; rintro e w1 ⟨rfl, hb1⟩; have HB1 := hid hb1; clear hb1)
      | (go_at_call 14; refine (HSZ.out _ HB1.out).mono ?_; clear HSZ; rintro e w2 ⟨rfl, hb2⟩; have HB2 := hid (HB1.out.trans (hb2.mono HB1.out.size)); have hcw := hcv2 w2; clear hb2))
    have HB3 := hid (HENT.out _ HB2.out)
    clear HENT HB1 HB2 hcw hcv2 hss
    go_loopw [7, 32] (fun y i wr => ∃ (j : Nat) (s : ByteArray), j ≤ m ∧ y = .string s ∧ i = .int .i64 (j : Nat) ∧ Hid (s = ⟨(ft ++ entsB (L.take j)).toArray⟩) ∧ Hid (Below w.heap.size w wr)) (fun _ i _ => m - (intOf i).toNat)
    case atStart => exact ⟨0, s0, Nat.zero_le _, rfl, rfl, H0, HB3⟩
    case round =>
      obtain ⟨j, s, hj, rfl, rfl, HI, HB⟩ := hrel
      clear HB3 H0
      by_cases hjm : j < m
      · have hji : (j : Int) < (m : Int) := by omega
        obtain ⟨x, hx⟩ : ∃ x, L[j]? = some x := ⟨_, List.getElem?_eq_getElem (by rw [HM.out]; exact hjm)⟩
        have HBd := hid HB.out.drew
        obtain ⟨b, off, e1, hbl, c1, c2, _, _⟩ := (HL.out.on HBd.out).at hx
        subst e1
        have k1 := HF.out.key x (List.mem_of_getElem? hx)
        have k2 := HF.out.val x (List.mem_of_getElem? hx)
        obtain ⟨sk, hsk⟩ : ∃ sk, (⟨(by1 x.k.size).toArray⟩ : ByteArray) = sk := ⟨_, rfl⟩
        obtain ⟨sv, hsv⟩ : ∃ sv, (⟨(by1 x.v.size).toArray⟩ : ByteArray) = sv := ⟨_, rfl⟩
        have HX : Hid (s ++ (sk ++ x.k ++ sv ++ x.v) = ⟨(ft ++ entsB (L.take (j + 1))).toArray⟩) := by
          show _ = _
          rw [take_snoc hx, entsB_append, HI.out, ← hsk, ← hsv]
          apply ByteArray.ext
          apply Array.toList_inj.1
          simp [ByteArray.data_append, entsB, entB, List.append_assoc]
        have hsl : s.size ≤ 256 := by rw [HI.out, bt_size]; exact HEL.out j
        have hk9 : sk.size ≤ 1 := by rw [← hsk, bt_size]; exact Nat.le_refl _
        have hv9 : sv.size ≤ 1 := by rw [← hsv, bt_size]; exact Nat.le_refl _
        clear hx HI hj
        generalize x.k = xk at *
        generalize x.v = xv at *
        have hwk : IntKind.u8.wrap (xk.size : Int) = (xk.size : Int) := by rw [IntKind.wrap_u8]; omega
        have hwv : IntKind.u8.wrap (xv.size : Int) = (xv.size : Int) := by rw [IntKind.wrap_u8]; omega
        have e1 : (sk ++ xk).size = sk.size + xk.size := ByteArray.size_append
        have e2 : (sk ++ xk ++ sv).size = sk.size + xk.size + sv.size := by rw [ByteArray.size_append, e1]
        have e3 : (sk ++ xk ++ sv ++ xv).size = sk.size + xk.size + sv.size + xv.size := by rw [ByteArray.size_append, e2]
        have h50 : ¬ 9223372036854775807 < sk.size + xk.size := by omega
        have h60 : ¬ 9223372036854775807 < (sk ++ xk).size + sv.size := by omega
        have h66 : ¬ 9223372036854775807 < (sk ++ xk ++ sv).size + xv.size := by omega
        have h67 : ¬ 9223372036854775807 < s.size + (sk ++ xk ++ sv ++ xv).size := by omega
        clear e1 e2 e3
        have h60b : ¬ 9223372036854775807 < sk.size + xk.size + sv.size := by omega
        have h66b : ¬ 9223372036854775807 < sk.size + xk.size + sv.size + xv.size := by omega
        have h67b : ¬ 9223372036854775807 < s.size + (sk.size + xk.size + sv.size + xv.size) := by omega
        clear hk9 hv9 hsl
        go_wp2_with fail
        refine wp_region_d (fun w' => w'.cell? ⟨b, off + j * 2, none⟩ = some (.string xk) ∧ w'.cell? ⟨b, off + j * 2 + 1, none⟩ = some (.string xv)) (fun _ => true) (by kernel_rfl) ?_
        generalize wr.drew = wd at *
        have hsB : ∀ W : World, Below wd.heap.size wd W → W.cell? ⟨b, off + j * 2, none⟩ = some (.string xk) ∧ W.cell? ⟨b, off + j * 2 + 1, none⟩ = some (.string xv) := fun W hb => ⟨(hb.cell (p := ⟨b, off + j * 2, none⟩) hbl).trans c1, (hb.cell (p := ⟨b, off + j * 2 + 1, none⟩) hbl).trans c2⟩
        have hC : Below wd.heap.size wd wd := Below.refl _ _
        have hS := hsB _ hC
        clear HB
        refine wpAnyM_pick (i := 0) (some 35) (v := ?vz56) rfl rfl (by kernel_rfl) (by kernel_rfl) (by kernel_rfl) (by kernel_rfl) (fun _ _ _ h => h) (Or.inl ⟨by rfl, ?hz56⟩) hS ?rz56
        case hz56 => intro w hSw; have hs1 := hSw.1; have hs2 := hSw.2; go_simp; try with_reducible rfl
        try simp only [Act.put, List.setIfInBounds_toArray, List.set_cons_zero, List.set_cons_succ]
        refine wpAnyM_pick (i := 1) (some 36) (v := ?vz57) rfl rfl (by kernel_rfl) (by kernel_rfl) (by kernel_rfl) (by kernel_rfl) (fun _ _ _ h => h) (Or.inl ⟨by rfl, ?hz57⟩) hS ?rz57
        case hz57 => intro w hSw; have hs1 := hSw.1; have hs2 := hSw.2; go_simp; try with_reducible rfl
        try simp only [Act.put, List.setIfInBounds_toArray, List.set_cons_zero, List.set_cons_succ]
        refine wpAnyM_pick (i := 2) (some 37) (v := ?vz58) rfl rfl (by kernel_rfl) (by kernel_rfl) (by kernel_rfl) (by kernel_rfl) (fun _ _ _ h => h) (Or.inl ⟨by rfl, ?hz58⟩) hS ?rz58
        case hz58 => intro w hSw; have hs1 := hSw.1; have hs2 := hSw.2; go_simp; try with_reducible rfl
        try simp only [Act.put, List.setIfInBounds_toArray, List.set_cons_zero, List.set_cons_succ]
        refine wpAnyM_pick (i := 3) (some 38) (v := ?vz59) rfl rfl (by kernel_rfl) (by kernel_rfl) (by kernel_rfl) (by kernel_rfl) (fun _ _ _ h => h) (Or.inl ⟨by rfl, ?hz59⟩) hS ?rz59
        case hz59 => intro w hSw; have hs1 := hSw.1; have hs2 := hSw.2; go_simp; try with_reducible rfl
        try simp only [Act.put, List.setIfInBounds_toArray, List.set_cons_zero, List.set_cons_succ]
        refine wpAnyM_pick (i := 4) (some 39) (v := ?vz60) rfl rfl (by kernel_rfl) (by kernel_rfl) (by kernel_rfl) (by kernel_rfl) (fun _ _ _ h => h) (Or.inl ⟨by rfl, ?hz60⟩) hS ?rz60
        case hz60 => intro w hSw; have hs1 := hSw.1; have hs2 := hSw.2; go_simp; try with_reducible rfl
        try simp only [Act.put, List.setIfInBounds_toArray, List.set_cons_zero, List.set_cons_succ]
        refine wpAnyM_pick (i := 5) (some 40) (v := ?vz61) rfl rfl (by kernel_rfl) (by kernel_rfl) (by kernel_rfl) (by kernel_rfl) (fun _ _ _ h => h) (Or.inl ⟨by rfl, ?hz61⟩) hS ?rz61
        case hz61 => intro w hSw; have hs1 := hSw.1; have hs2 := hSw.2; go_simp; try with_reducible rfl
        try simp only [Act.put, List.setIfInBounds_toArray, List.set_cons_zero, List.set_cons_succ]
        refine wpAnyM_pick (i := 6) (some 41) (v := ?vz62) rfl rfl (by kernel_rfl) (by kernel_rfl) (by kernel_rfl) (by kernel_rfl) (fun _ _ _ h => h) (Or.inl ⟨by rfl, ?hz62⟩) hS ?rz62
        case hz62 => intro w hSw; have hs1 := hSw.1; have hs2 := hSw.2; go_simp; try with_reducible rfl
        try simp only [Act.put, List.setIfInBounds_toArray, List.set_cons_zero, List.set_cons_succ]
        refine wpAnyM_pick (i := 7) (some 42) (v := ?vz63) rfl rfl (by kernel_rfl) (by kernel_rfl) (by kernel_rfl) (by kernel_rfl) (fun _ _ _ h => h) (Or.inl ⟨by rfl, ?hz63⟩) hS ?rz63
        case hz63 => intro w hSw; have hs1 := hSw.1; have hs2 := hSw.2; go_simp; try with_reducible rfl
        try simp only [Act.put, List.setIfInBounds_toArray, List.set_cons_zero, List.set_cons_succ]
        refine wpAnyM_pick (i := 10) (some 45) (v := ?vz64) rfl rfl (by kernel_rfl) (by kernel_rfl) (by kernel_rfl) (by kernel_rfl) (fun _ _ _ h => h) (Or.inl ⟨by rfl, ?hz64⟩) hS ?rz64
        case hz64 => intro w hSw; have hs1 := hSw.1; have hs2 := hSw.2; go_simp; try with_reducible rfl
        try simp only [Act.put, List.setIfInBounds_toArray, List.set_cons_zero, List.set_cons_succ]
        refine wpAnyM_pick (i := 11) (some 46) (v := ?vz65) rfl rfl (by kernel_rfl) (by kernel_rfl) (by kernel_rfl) (by kernel_rfl) (fun _ _ _ h => h) (Or.inl ⟨by rfl, ?hz65⟩) hS ?rz65
        case hz65 => intro w hSw; have hs1 := hSw.1; have hs2 := hSw.2; go_simp; try with_reducible rfl
        try simp only [Act.put, List.setIfInBounds_toArray, List.set_cons_zero, List.set_cons_succ]
        refine wpAnyM_pick (i := 12) (some 47) (v := ?vz66) rfl rfl (by kernel_rfl) (by kernel_rfl) (by kernel_rfl) (by kernel_rfl) (fun _ _ _ h => h) (Or.inl ⟨by rfl, ?hz66⟩) hS ?rz66
        case hz66 => intro w hSw; have hs1 := hSw.1; have hs2 := hSw.2; go_simp; try with_reducible rfl
        try simp only [Act.put, List.setIfInBounds_toArray, List.set_cons_zero, List.set_cons_succ]
        refine wpAnyM_pick (i := 13) (some 48) (v := ?vz67) rfl rfl (by kernel_rfl) (by kernel_rfl) (by kernel_rfl) (by kernel_rfl) (fun _ _ _ h => h) (Or.inl ⟨by rfl, ?hz67⟩) hS ?rz67
        case hz67 => intro w hSw; have hs1 := hSw.1; have hs2 := hSw.2; go_simp; try with_reducible rfl
        try simp only [Act.put, List.setIfInBounds_toArray, List.set_cons_zero, List.set_cons_succ]
        refine wpAnyM_pick (i := 14) (some 49) (v := ?vz68) rfl rfl (by kernel_rfl) (by kernel_rfl) (by kernel_rfl) (by kernel_rfl) (fun _ _ _ h => h) (Or.inl ⟨by rfl, ?hz68⟩) hS ?rz68
        case hz68 => intro w hSw; have hs1 := hSw.1; have hs2 := hSw.2; go_simp; try with_reducible rfl
        try simp only [Act.put, List.setIfInBounds_toArray, List.set_cons_zero, List.set_cons_succ]
        refine wpAnyM_pick (i := 16) (some 51) (v := ?vz69) rfl rfl (by kernel_rfl) (by kernel_rfl) (by kernel_rfl) (by kernel_rfl) (fun _ _ _ h => h) (Or.inl ⟨by rfl, ?hz69⟩) hS ?rz69
        case hz69 => intro w hSw; have hs1 := hSw.1; have hs2 := hSw.2; go_simp; try with_reducible rfl
        try simp only [Act.put, List.setIfInBounds_toArray, List.set_cons_zero, List.set_cons_succ]
        refine wpAnyM_pick (i := 17) (some 52) (v := ?vz70) rfl rfl (by kernel_rfl) (by kernel_rfl) (by kernel_rfl) (by kernel_rfl) (fun _ _ _ h => h) (Or.inl ⟨by rfl, ?hz70⟩) hS ?rz70
        case hz70 => intro w hSw; have hs1 := hSw.1; have hs2 := hSw.2; go_simp; try with_reducible rfl
        try simp only [Act.put, List.setIfInBounds_toArray, List.set_cons_zero, List.set_cons_succ]
        refine wpAnyM_pick (i := 18) (some 53) (v := ?vz71) rfl rfl (by kernel_rfl) (by kernel_rfl) (by kernel_rfl) (by kernel_rfl) (fun _ _ _ h => h) (Or.inl ⟨by rfl, ?hz71⟩) hS ?rz71
        case hz71 => intro w hSw; have hs1 := hSw.1; have hs2 := hSw.2; go_simp; try with_reducible rfl
        try simp only [Act.put, List.setIfInBounds_toArray, List.set_cons_zero, List.set_cons_succ]
        refine wpAnyM_pick (i := 19) (some 54) (v := ?vz72) rfl rfl (by kernel_rfl) (by kernel_rfl) (by kernel_rfl) (by kernel_rfl) (fun _ _ _ h => h) (Or.inl ⟨by rfl, ?hz72⟩) hS ?rz72
        case hz72 => intro w hSw; have hs1 := hSw.1; have hs2 := hSw.2; go_simp; try with_reducible rfl
        try simp only [Act.put, List.setIfInBounds_toArray, List.set_cons_zero, List.set_cons_succ]
        refine wpAnyM_pick (i := 20) (some 55) (v := ?vz73) rfl rfl (by kernel_rfl) (by kernel_rfl) (by kernel_rfl) (by kernel_rfl) (fun _ _ _ h => h) (Or.inl ⟨by rfl, ?hz73⟩) hS ?rz73
        case hz73 => intro w hSw; have hs1 := hSw.1; have hs2 := hSw.2; go_simp; try with_reducible rfl
        try simp only [Act.put, List.setIfInBounds_toArray, List.set_cons_zero, List.set_cons_succ]
        refine wpAnyM_pick (i := 21) (some 56) (v := ?vz74) rfl rfl (by kernel_rfl) (by kernel_rfl) (by kernel_rfl) (by kernel_rfl) (fun _ _ _ h => h) (Or.inl ⟨by rfl, ?hz74⟩) hS ?rz74
        case hz74 => intro w hSw; have hs1 := hSw.1; have hs2 := hSw.2; go_simp; try with_reducible rfl
        try simp only [Act.put, List.setIfInBounds_toArray, List.set_cons_zero, List.set_cons_succ]
        refine wpAnyM_pick (i := 22) (some 57) (v := ?vz75) rfl rfl (by kernel_rfl) (by kernel_rfl) (by kernel_rfl) (by kernel_rfl) (fun _ _ _ h => h) (Or.inl ⟨by rfl, ?hz75⟩) hS ?rz75
        case hz75 => intro w hSw; have hs1 := hSw.1; have hs2 := hSw.2; go_simp; try with_reducible rfl
        try simp only [Act.put, List.setIfInBounds_toArray, List.set_cons_zero, List.set_cons_succ]
        refine wpAnyM_pick (i := 26) (some 61) (v := ?vz76) rfl rfl (by kernel_rfl) (by kernel_rfl) (by kernel_rfl) (by kernel_rfl) (fun _ _ _ h => h) (Or.inl ⟨by rfl, ?hz76⟩) hS ?rz76
        case hz76 => intro w hSw; have hs1 := hSw.1; have hs2 := hSw.2; go_simp; try with_reducible rfl
        try simp only [Act.put, List.setIfInBounds_toArray, List.set_cons_zero, List.set_cons_succ]
        refine wpAnyM_pick (i := 27) (some 62) (v := ?vz77) rfl rfl (by kernel_rfl) (by kernel_rfl) (by kernel_rfl) (by kernel_rfl) (fun _ _ _ h => h) (Or.inl ⟨by rfl, ?hz77⟩) hS ?rz77
        case hz77 => intro w hSw; have hs1 := hSw.1; have hs2 := hSw.2; go_simp; try with_reducible rfl
        try simp only [Act.put, List.setIfInBounds_toArray, List.set_cons_zero, List.set_cons_succ]
        refine wpAnyM_pick (i := 28) (some 63) (v := ?vz78) rfl rfl (by kernel_rfl) (by kernel_rfl) (by kernel_rfl) (by kernel_rfl) (fun _ _ _ h => h) (Or.inl ⟨by rfl, ?hz78⟩) hS ?rz78
        case hz78 => intro w hSw; have hs1 := hSw.1; have hs2 := hSw.2; go_simp; try with_reducible rfl
        try simp only [Act.put, List.setIfInBounds_toArray, List.set_cons_zero, List.set_cons_succ]
        refine wpAnyM_pick (i := 29) (some 64) (v := ?vz79) rfl rfl (by kernel_rfl) (by kernel_rfl) (by kernel_rfl) (by kernel_rfl) (fun _ _ _ h => h) (Or.inl ⟨by rfl, ?hz79⟩) hS ?rz79
        case hz79 => intro w hSw; have hs1 := hSw.1; have hs2 := hSw.2; go_simp; try with_reducible rfl
        try simp only [Act.put, List.setIfInBounds_toArray, List.set_cons_zero, List.set_cons_succ]
        refine wpAnyM_pick (i := 30) (some 65) (v := ?vz80) rfl rfl (by kernel_rfl) (by kernel_rfl) (by kernel_rfl) (by kernel_rfl) (fun _ _ _ h => h) (Or.inl ⟨by rfl, ?hz80⟩) hS ?rz80
        case hz80 => intro w hSw; have hs1 := hSw.1; have hs2 := hSw.2; go_simp; try with_reducible rfl
        try simp only [Act.put, List.setIfInBounds_toArray, List.set_cons_zero, List.set_cons_succ]
        refine wpAnyM_two (i := 8) (j := 23) (by kernel_rfl) rfl rfl (fun K hK => ?_) (fun K hK => ?_)
        · go_simp
          have hA8 := Blk.made wd #[.int .u8 (xk.size : Int)] 5
          have hB8 : Below wd.heap.size wd (wd.alloc (.cells #[.int .u8 (xk.size : Int)] 5)) := (Below.refl _ _).alloc (Nat.le_refl _) _
          generalize wd.alloc (.cells #[.int .u8 (xk.size : Int)] 5) = wda at hA8 hB8 ⊢
          have hC8 := hC.trans (hB8.mono hC.size)
          have hs8 := hsB _ hC8
          have hC := hC8
          have hS := hs8
          refine hK.out _ _ (fun _ => hS) ?_
          clear hK K
          try simp only [Act.put, List.setIfInBounds_toArray, List.set_cons_zero, List.set_cons_succ]
          refine wpAnyM_two (i := 9) (j := 23) (by kernel_rfl) rfl rfl (fun K hK => ?_) (fun K hK => ?_)
          · have hcv9 := conv1 wda wd.heap.size xk.size (by omega) (hA8.cell (i := 0) rfl)
            rw [hsk] at hcv9
            go_simp
            refine hK.out _ _ (fun _ => hS) ?_
            clear hK K
            try simp only [Act.put, List.setIfInBounds_toArray, List.set_cons_zero, List.set_cons_succ]
            refine wpAnyM_pick (i := 15) (some 50) (v := ?vz81) rfl rfl (by kernel_rfl) (by kernel_rfl) (by kernel_rfl) (by kernel_rfl) (fun _ _ _ h => h) (Or.inl ⟨by rfl, ?hz81⟩) hS ?rz81
            case hz81 => intro w hSw; have hs1 := hSw.1; have hs2 := hSw.2; go_simp; try with_reducible rfl
            try simp only [Act.put, List.setIfInBounds_toArray, List.set_cons_zero, List.set_cons_succ]
            refine wpAnyM_one (i := 23) (by kernel_rfl) rfl (fun K hK => ?_)
            go_simp
            have hA23 := Blk.made wda #[.int .u8 (xv.size : Int)] 5
            have hB23 : Below wda.heap.size wda (wda.alloc (.cells #[.int .u8 (xv.size : Int)] 5)) := (Below.refl _ _).alloc (Nat.le_refl _) _
            generalize wda.alloc (.cells #[.int .u8 (xv.size : Int)] 5) = wdab at hA23 hB23 ⊢
            have hC23 := hC.trans (hB23.mono hC.size)
            have hs23 := hsB _ hC23
            have hA8 := hA8.on hB23 hA8.lt
            have hC := hC23
            have hS := hs23
            refine hK.out _ _ (fun _ => hS) ?_
            clear hK K
            try simp only [Act.put, List.setIfInBounds_toArray, List.set_cons_zero, List.set_cons_succ]
            refine wpAnyM_one (i := 24) (by kernel_rfl) rfl (fun K hK => ?_)
            have hcv24 := conv1 wdab wda.heap.size xv.size (by omega) (hA23.cell (i := 0) rfl)
            rw [hsv] at hcv24
            go_simp
            refine hK.out _ _ (fun _ => hS) ?_
            clear hK K
            try simp only [Act.put, List.setIfInBounds_toArray, List.set_cons_zero, List.set_cons_succ]
            refine wpAnyM_pick (i := 25) (some 60) (v := ?vz82) rfl rfl (by kernel_rfl) (by kernel_rfl) (by kernel_rfl) (by kernel_rfl) (fun _ _ _ h => h) (Or.inl ⟨by rfl, ?hz82⟩) hS ?rz82
            case hz82 => intro w hSw; have hs1 := hSw.1; have hs2 := hSw.2; go_simp; try with_reducible rfl
            try simp only [Act.put, List.setIfInBounds_toArray, List.set_cons_zero, List.set_cons_succ]
            refine wpAnyM_pick (i := 31) (some 66) (v := ?vz83) rfl rfl (by kernel_rfl) (by kernel_rfl) (by kernel_rfl) (by kernel_rfl) (fun _ _ _ h => h) (Or.inl ⟨by rfl, ?hz83⟩) hS ?rz83
            case hz83 => intro w hSw; have hs1 := hSw.1; have hs2 := hSw.2; go_simp; try with_reducible rfl
            try simp only [Act.put, List.setIfInBounds_toArray, List.set_cons_zero, List.set_cons_succ]
            refine wpAnyM_pick (i := 32) (some 67) (v := ?vz84) rfl rfl (by kernel_rfl) (by kernel_rfl) (by kernel_rfl) (by kernel_rfl) (fun _ _ _ h => h) (Or.inl ⟨by rfl, ?hz84⟩) hS ?rz84
            case hz84 => intro w hSw; have hs1 := hSw.1; have hs2 := hSw.2; go_simp; try with_reducible rfl
            try simp only [Act.put, List.setIfInBounds_toArray, List.set_cons_zero, List.set_cons_succ]
            refine wpAnyM_pick (i := 33) (some 7) (v := ?vz85) rfl rfl (by kernel_rfl) (by kernel_rfl) (by kernel_rfl) (by kernel_rfl) (fun _ _ _ h => h) (Or.inl ⟨by rfl, ?hz85⟩) hS ?rz85
            case hz85 => intro w hSw; have hs1 := hSw.1; have hs2 := hSw.2; go_simp; try with_reducible rfl
            try simp only [Act.put, List.setIfInBounds_toArray, List.set_cons_zero, List.set_cons_succ]
            refine wpAnyM_done (by kernel_rfl) ?_ _
            try simp only [Act.put, List.setIfInBounds_toArray, List.set_cons_zero, List.set_cons_succ]
            have HBE := hid (HBd.out.trans (hC.mono HBd.out.size))
            clear hC hS hsB c1 c2
            go_wp2_with fail
            go_roundw
            case rel => exact ⟨j + 1, _, by omega, rfl, by go_num, HX, HBE⟩
            case measure => simp [intOf]; omega
          · go_simp
            have hA23 := Blk.made wda #[.int .u8 (xv.size : Int)] 5
            have hB23 : Below wda.heap.size wda (wda.alloc (.cells #[.int .u8 (xv.size : Int)] 5)) := (Below.refl _ _).alloc (Nat.le_refl _) _
            generalize wda.alloc (.cells #[.int .u8 (xv.size : Int)] 5) = wdab at hA23 hB23 ⊢
            have hC23 := hC.trans (hB23.mono hC.size)
            have hs23 := hsB _ hC23
            have hA8 := hA8.on hB23 hA8.lt
            have hC := hC23
            have hS := hs23
            refine hK.out _ _ (fun _ => hS) ?_
            clear hK K
            try simp only [Act.put, List.setIfInBounds_toArray, List.set_cons_zero, List.set_cons_succ]
            refine wpAnyM_two (i := 9) (j := 24) (by kernel_rfl) rfl rfl (fun K hK => ?_) (fun K hK => ?_)
            · have hcv9 := conv1 wdab wd.heap.size xk.size (by omega) (hA8.cell (i := 0) rfl)
              rw [hsk] at hcv9
              go_simp
              refine hK.out _ _ (fun _ => hS) ?_
              clear hK K
              try simp only [Act.put, List.setIfInBounds_toArray, List.set_cons_zero, List.set_cons_succ]
              refine wpAnyM_pick (i := 15) (some 50) (v := ?vz86) rfl rfl (by kernel_rfl) (by kernel_rfl) (by kernel_rfl) (by kernel_rfl) (fun _ _ _ h => h) (Or.inl ⟨by rfl, ?hz86⟩) hS ?rz86
              case hz86 => intro w hSw; have hs1 := hSw.1; have hs2 := hSw.2; go_simp; try with_reducible rfl
              try simp only [Act.put, List.setIfInBounds_toArray, List.set_cons_zero, List.set_cons_succ]
              refine wpAnyM_one (i := 24) (by kernel_rfl) rfl (fun K hK => ?_)
              have hcv24 := conv1 wdab wda.heap.size xv.size (by omega) (hA23.cell (i := 0) rfl)
              rw [hsv] at hcv24
              go_simp
              refine hK.out _ _ (fun _ => hS) ?_
              clear hK K
              try simp only [Act.put, List.setIfInBounds_toArray, List.set_cons_zero, List.set_cons_succ]
              refine wpAnyM_pick (i := 25) (some 60) (v := ?vz87) rfl rfl (by kernel_rfl) (by kernel_rfl) (by kernel_rfl) (by kernel_rfl) (fun _ _ _ h => h) (Or.inl ⟨by rfl, ?hz87⟩) hS ?rz87
              case hz87 => intro w hSw; have hs1 := hSw.1; have hs2 := hSw.2; go_simp; try with_reducible rfl
              try simp only [Act.put, List.setIfInBounds_toArray, List.set_cons_zero, List.set_cons_succ]
              refine wpAnyM_pick (i := 31) (some 66) (v := ?vz88) rfl rfl (by kernel_rfl) (by kernel_rfl) (by kernel_rfl) (by kernel_rfl) (fun _ _ _ h => h) (Or.inl ⟨by rfl, ?hz88⟩) hS ?rz88
              case hz88 => intro w hSw; have hs1 := hSw.1; have hs2 := hSw.2; go_simp; try with_reducible rfl
              try simp only [Act.put, List.setIfInBounds_toArray, List.set_cons_zero, List.set_cons_succ]
              refine wpAnyM_pick (i := 32) (some 67) (v := ?vz89) rfl rfl (by kernel_rfl) (by kernel_rfl) (by kernel_rfl) (by kernel_rfl) (fun _ _ _ h => h) (Or.inl ⟨by rfl, ?hz89⟩) hS ?rz89
              case hz89 => intro w hSw; have hs1 := hSw.1; have hs2 := hSw.2; go_simp; try with_reducible rfl
              try simp only [Act.put, List.setIfInBounds_toArray, List.set_cons_zero, List.set_cons_succ]
              refine wpAnyM_pick (i := 33) (some 7) (v := ?vz90) rfl rfl (by kernel_rfl) (by kernel_rfl) (by kernel_rfl) (by kernel_rfl) (fun _ _ _ h => h) (Or.inl ⟨by rfl, ?hz90⟩) hS ?rz90
              case hz90 => intro w hSw; have hs1 := hSw.1; have hs2 := hSw.2; go_simp; try with_reducible rfl
              try simp only [Act.put, List.setIfInBounds_toArray, List.set_cons_zero, List.set_cons_succ]
              refine wpAnyM_done (by kernel_rfl) ?_ _
              try simp only [Act.put, List.setIfInBounds_toArray, List.set_cons_zero, List.set_cons_succ]
              have HBE := hid (HBd.out.trans (hC.mono HBd.out.size))
              clear hC hS hsB c1 c2
              go_wp2_with fail
              go_roundw
              case rel => exact ⟨j + 1, _, by omega, rfl, by go_num, HX, HBE⟩
              case measure => simp [intOf]; omega
            · have hcv24 := conv1 wdab wda.heap.size xv.size (by omega) (hA23.cell (i := 0) rfl)
              rw [hsv] at hcv24
              go_simp
              refine hK.out _ _ (fun _ => hS) ?_
              clear hK K
              try simp only [Act.put, List.setIfInBounds_toArray, List.set_cons_zero, List.set_cons_succ]
              refine wpAnyM_one (i := 9) (by kernel_rfl) rfl (fun K hK => ?_)
              have hcv9 := conv1 wdab wd.heap.size xk.size (by omega) (hA8.cell (i := 0) rfl)
              rw [hsk] at hcv9
              go_simp
              refine hK.out _ _ (fun _ => hS) ?_
              clear hK K
              try simp only [Act.put, List.setIfInBounds_toArray, List.set_cons_zero, List.set_cons_succ]
              refine wpAnyM_pick (i := 15) (some 50) (v := ?vz91) rfl rfl (by kernel_rfl) (by kernel_rfl) (by kernel_rfl) (by kernel_rfl) (fun _ _ _ h => h) (Or.inl ⟨by rfl, ?hz91⟩) hS ?rz91
              case hz91 => intro w hSw; have hs1 := hSw.1; have hs2 := hSw.2; go_simp; try with_reducible rfl
              try simp only [Act.put, List.setIfInBounds_toArray, List.set_cons_zero, List.set_cons_succ]
              refine wpAnyM_pick (i := 25) (some 60) (v := ?vz92) rfl rfl (by kernel_rfl) (by kernel_rfl) (by kernel_rfl) (by kernel_rfl) (fun _ _ _ h => h) (Or.inl ⟨by rfl, ?hz92⟩) hS ?rz92
              case hz92 => intro w hSw; have hs1 := hSw.1; have hs2 := hSw.2; go_simp; try with_reducible rfl
              try simp only [Act.put, List.setIfInBounds_toArray, List.set_cons_zero, List.set_cons_succ]
              refine wpAnyM_pick (i := 31) (some 66) (v := ?vz93) rfl rfl (by kernel_rfl) (by kernel_rfl) (by kernel_rfl) (by kernel_rfl) (fun _ _ _ h => h) (Or.inl ⟨by rfl, ?hz93⟩) hS ?rz93
              case hz93 => intro w hSw; have hs1 := hSw.1; have hs2 := hSw.2; go_simp; try with_reducible rfl
              try simp only [Act.put, List.setIfInBounds_toArray, List.set_cons_zero, List.set_cons_succ]
              refine wpAnyM_pick (i := 32) (some 67) (v := ?vz94) rfl rfl (by kernel_rfl) (by kernel_rfl) (by kernel_rfl) (by kernel_rfl) (fun _ _ _ h => h) (Or.inl ⟨by rfl, ?hz94⟩) hS ?rz94
              case hz94 => intro w hSw; have hs1 := hSw.1; have hs2 := hSw.2; go_simp; try with_reducible rfl
              try simp only [Act.put, List.setIfInBounds_toArray, List.set_cons_zero, List.set_cons_succ]
              refine wpAnyM_pick (i := 33) (some 7) (v := ?vz95) rfl rfl (by kernel_rfl) (by kernel_rfl) (by kernel_rfl) (by kernel_rfl) (fun _ _ _ h => h) (Or.inl ⟨by rfl, ?hz95⟩) hS ?rz95
              case hz95 => intro w hSw; have hs1 := hSw.1; have hs2 := hSw.2; go_simp; try with_reducible rfl
              try simp only [Act.put, List.setIfInBounds_toArray, List.set_cons_zero, List.set_cons_succ]
              refine wpAnyM_done (by kernel_rfl) ?_ _
              try simp only [Act.put, List.setIfInBounds_toArray, List.set_cons_zero, List.set_cons_succ]
              have HBE := hid (HBd.out.trans (hC.mono HBd.out.size))
              clear hC hS hsB c1 c2
              go_wp2_with fail
              go_roundw
              case rel => exact ⟨j + 1, _, by omega, rfl, by go_num, HX, HBE⟩
              case measure => simp [intOf]; omega
        · go_simp
          have hA23 := Blk.made wd #[.int .u8 (xv.size : Int)] 5
          have hB23 : Below wd.heap.size wd (wd.alloc (.cells #[.int .u8 (xv.size : Int)] 5)) := (Below.refl _ _).alloc (Nat.le_refl _) _
          generalize wd.alloc (.cells #[.int .u8 (xv.size : Int)] 5) = wdb at hA23 hB23 ⊢
          have hC23 := hC.trans (hB23.mono hC.size)
          have hs23 := hsB _ hC23
          have hC := hC23
          have hS := hs23
          refine hK.out _ _ (fun _ => hS) ?_
          clear hK K
          try simp only [Act.put, List.setIfInBounds_toArray, List.set_cons_zero, List.set_cons_succ]
          refine wpAnyM_two (i := 8) (j := 24) (by kernel_rfl) rfl rfl (fun K hK => ?_) (fun K hK => ?_)
          · go_simp
            have hA8 := Blk.made wdb #[.int .u8 (xk.size : Int)] 5
            have hB8 : Below wdb.heap.size wdb (wdb.alloc (.cells #[.int .u8 (xk.size : Int)] 5)) := (Below.refl _ _).alloc (Nat.le_refl _) _
            generalize wdb.alloc (.cells #[.int .u8 (xk.size : Int)] 5) = wdba at hA8 hB8 ⊢
            have hC8 := hC.trans (hB8.mono hC.size)
            have hs8 := hsB _ hC8
            have hA23 := hA23.on hB8 hA23.lt
            have hC := hC8
            have hS := hs8
            refine hK.out _ _ (fun _ => hS) ?_
            clear hK K
            try simp only [Act.put, List.setIfInBounds_toArray, List.set_cons_zero, List.set_cons_succ]
            refine wpAnyM_two (i := 9) (j := 24) (by kernel_rfl) rfl rfl (fun K hK => ?_) (fun K hK => ?_)
            · have hcv9 := conv1 wdba wdb.heap.size xk.size (by omega) (hA8.cell (i := 0) rfl)
              rw [hsk] at hcv9
              go_simp
              refine hK.out _ _ (fun _ => hS) ?_
              clear hK K
              try simp only [Act.put, List.setIfInBounds_toArray, List.set_cons_zero, List.set_cons_succ]
              refine wpAnyM_pick (i := 15) (some 50) (v := ?vz96) rfl rfl (by kernel_rfl) (by kernel_rfl) (by kernel_rfl) (by kernel_rfl) (fun _ _ _ h => h) (Or.inl ⟨by rfl, ?hz96⟩) hS ?rz96
              case hz96 => intro w hSw; have hs1 := hSw.1; have hs2 := hSw.2; go_simp; try with_reducible rfl
              try simp only [Act.put, List.setIfInBounds_toArray, List.set_cons_zero, List.set_cons_succ]
              refine wpAnyM_one (i := 24) (by kernel_rfl) rfl (fun K hK => ?_)
              have hcv24 := conv1 wdba wd.heap.size xv.size (by omega) (hA23.cell (i := 0) rfl)
              rw [hsv] at hcv24
              go_simp
              refine hK.out _ _ (fun _ => hS) ?_
              clear hK K
              try simp only [Act.put, List.setIfInBounds_toArray, List.set_cons_zero, List.set_cons_succ]
              refine wpAnyM_pick (i := 25) (some 60) (v := ?vz97) rfl rfl (by kernel_rfl) (by kernel_rfl) (by kernel_rfl) (by kernel_rfl) (fun _ _ _ h => h) (Or.inl ⟨by rfl, ?hz97⟩) hS ?rz97
              case hz97 => intro w hSw; have hs1 := hSw.1; have hs2 := hSw.2; go_simp; try with_reducible rfl
              try simp only [Act.put, List.setIfInBounds_toArray, List.set_cons_zero, List.set_cons_succ]
              refine wpAnyM_pick (i := 31) (some 66) (v := ?vz98) rfl rfl (by kernel_rfl) (by kernel_rfl) (by kernel_rfl) (by kernel_rfl) (fun _ _ _ h => h) (Or.inl ⟨by rfl, ?hz98⟩) hS ?rz98
              case hz98 => intro w hSw; have hs1 := hSw.1; have hs2 := hSw.2; go_simp; try with_reducible rfl
              try simp only [Act.put, List.setIfInBounds_toArray, List.set_cons_zero, List.set_cons_succ]
              refine wpAnyM_pick (i := 32) (some 67) (v := ?vz99) rfl rfl (by kernel_rfl) (by kernel_rfl) (by kernel_rfl) (by kernel_rfl) (fun _ _ _ h => h) (Or.inl ⟨by rfl, ?hz99⟩) hS ?rz99
              case hz99 => intro w hSw; have hs1 := hSw.1; have hs2 := hSw.2; go_simp; try with_reducible rfl
              try simp only [Act.put, List.setIfInBounds_toArray, List.set_cons_zero, List.set_cons_succ]
              refine wpAnyM_pick (i := 33) (some 7) (v := ?vz100) rfl rfl (by kernel_rfl) (by kernel_rfl) (by kernel_rfl) (by kernel_rfl) (fun _ _ _ h => h) (Or.inl ⟨by rfl, ?hz100⟩) hS ?rz100
              case hz100 => intro w hSw; have hs1 := hSw.1; have hs2 := hSw.2; go_simp; try with_reducible rfl
              try simp only [Act.put, List.setIfInBounds_toArray, List.set_cons_zero, List.set_cons_succ]
              refine wpAnyM_done (by kernel_rfl) ?_ _
              try simp only [Act.put, List.setIfInBounds_toArray, List.set_cons_zero, List.set_cons_succ]
              have HBE := hid (HBd.out.trans (hC.mono HBd.out.size))
              clear hC hS hsB c1 c2
              go_wp2_with fail
              go_roundw
              case rel => exact ⟨j + 1, _, by omega, rfl, by go_num, HX, HBE⟩
              case measure => simp [intOf]; omega
            · have hcv24 := conv1 wdba wd.heap.size xv.size (by omega) (hA23.cell (i := 0) rfl)
              rw [hsv] at hcv24
              go_simp
              refine hK.out _ _ (fun _ => hS) ?_
              clear hK K
              try simp only [Act.put, List.setIfInBounds_toArray, List.set_cons_zero, List.set_cons_succ]
              refine wpAnyM_one (i := 9) (by kernel_rfl) rfl (fun K hK => ?_)
              have hcv9 := conv1 wdba wdb.heap.size xk.size (by omega) (hA8.cell (i := 0) rfl)
              rw [hsk] at hcv9
              go_simp
              refine hK.out _ _ (fun _ => hS) ?_
              clear hK K
              try simp only [Act.put, List.setIfInBounds_toArray, List.set_cons_zero, List.set_cons_succ]
              refine wpAnyM_pick (i := 15) (some 50) (v := ?vz101) rfl rfl (by kernel_rfl) (by kernel_rfl) (by kernel_rfl) (by kernel_rfl) (fun _ _ _ h => h) (Or.inl ⟨by rfl, ?hz101⟩) hS ?rz101
              case hz101 => intro w hSw; have hs1 := hSw.1; have hs2 := hSw.2; go_simp; try with_reducible rfl
              try simp only [Act.put, List.setIfInBounds_toArray, List.set_cons_zero, List.set_cons_succ]
              refine wpAnyM_pick (i := 25) (some 60) (v := ?vz102) rfl rfl (by kernel_rfl) (by kernel_rfl) (by kernel_rfl) (by kernel_rfl) (fun _ _ _ h => h) (Or.inl ⟨by rfl, ?hz102⟩) hS ?rz102
              case hz102 => intro w hSw; have hs1 := hSw.1; have hs2 := hSw.2; go_simp; try with_reducible rfl
              try simp only [Act.put, List.setIfInBounds_toArray, List.set_cons_zero, List.set_cons_succ]
              refine wpAnyM_pick (i := 31) (some 66) (v := ?vz103) rfl rfl (by kernel_rfl) (by kernel_rfl) (by kernel_rfl) (by kernel_rfl) (fun _ _ _ h => h) (Or.inl ⟨by rfl, ?hz103⟩) hS ?rz103
              case hz103 => intro w hSw; have hs1 := hSw.1; have hs2 := hSw.2; go_simp; try with_reducible rfl
              try simp only [Act.put, List.setIfInBounds_toArray, List.set_cons_zero, List.set_cons_succ]
              refine wpAnyM_pick (i := 32) (some 67) (v := ?vz104) rfl rfl (by kernel_rfl) (by kernel_rfl) (by kernel_rfl) (by kernel_rfl) (fun _ _ _ h => h) (Or.inl ⟨by rfl, ?hz104⟩) hS ?rz104
              case hz104 => intro w hSw; have hs1 := hSw.1; have hs2 := hSw.2; go_simp; try with_reducible rfl
              try simp only [Act.put, List.setIfInBounds_toArray, List.set_cons_zero, List.set_cons_succ]
              refine wpAnyM_pick (i := 33) (some 7) (v := ?vz105) rfl rfl (by kernel_rfl) (by kernel_rfl) (by kernel_rfl) (by kernel_rfl) (fun _ _ _ h => h) (Or.inl ⟨by rfl, ?hz105⟩) hS ?rz105
              case hz105 => intro w hSw; have hs1 := hSw.1; have hs2 := hSw.2; go_simp; try with_reducible rfl
              try simp only [Act.put, List.setIfInBounds_toArray, List.set_cons_zero, List.set_cons_succ]
              refine wpAnyM_done (by kernel_rfl) ?_ _
              try simp only [Act.put, List.setIfInBounds_toArray, List.set_cons_zero, List.set_cons_succ]
              have HBE := hid (HBd.out.trans (hC.mono HBd.out.size))
              clear hC hS hsB c1 c2
              go_wp2_with fail
              go_roundw
              case rel => exact ⟨j + 1, _, by omega, rfl, by go_num, HX, HBE⟩
              case measure => simp [intOf]; omega
          · have hcv24 := conv1 wdb wd.heap.size xv.size (by omega) (hA23.cell (i := 0) rfl)
            rw [hsv] at hcv24
            go_simp
            refine hK.out _ _ (fun _ => hS) ?_
            clear hK K
            try simp only [Act.put, List.setIfInBounds_toArray, List.set_cons_zero, List.set_cons_succ]
            refine wpAnyM_one (i := 8) (by kernel_rfl) rfl (fun K hK => ?_)
            go_simp
            have hA8 := Blk.made wdb #[.int .u8 (xk.size : Int)] 5
            have hB8 : Below wdb.heap.size wdb (wdb.alloc (.cells #[.int .u8 (xk.size : Int)] 5)) := (Below.refl _ _).alloc (Nat.le_refl _) _
            generalize wdb.alloc (.cells #[.int .u8 (xk.size : Int)] 5) = wdba at hA8 hB8 ⊢
            have hC8 := hC.trans (hB8.mono hC.size)
            have hs8 := hsB _ hC8
            have hA23 := hA23.on hB8 hA23.lt
            have hC := hC8
            have hS := hs8
            refine hK.out _ _ (fun _ => hS) ?_
            clear hK K
            try simp only [Act.put, List.setIfInBounds_toArray, List.set_cons_zero, List.set_cons_succ]
            refine wpAnyM_one (i := 9) (by kernel_rfl) rfl (fun K hK => ?_)
            have hcv9 := conv1 wdba wdb.heap.size xk.size (by omega) (hA8.cell (i := 0) rfl)
            rw [hsk] at hcv9
            go_simp
            refine hK.out _ _ (fun _ => hS) ?_
            clear hK K
            try simp only [Act.put, List.setIfInBounds_toArray, List.set_cons_zero, List.set_cons_succ]
            refine wpAnyM_pick (i := 15) (some 50) (v := ?vz106) rfl rfl (by kernel_rfl) (by kernel_rfl) (by kernel_rfl) (by kernel_rfl) (fun _ _ _ h => h) (Or.inl ⟨by rfl, ?hz106⟩) hS ?rz106
            case hz106 => intro w hSw; have hs1 := hSw.1; have hs2 := hSw.2; go_simp; try with_reducible rfl
            try simp only [Act.put, List.setIfInBounds_toArray, List.set_cons_zero, List.set_cons_succ]
            refine wpAnyM_pick (i := 25) (some 60) (v := ?vz107) rfl rfl (by kernel_rfl) (by kernel_rfl) (by kernel_rfl) (by kernel_rfl) (fun _ _ _ h => h) (Or.inl ⟨by rfl, ?hz107⟩) hS ?rz107
            case hz107 => intro w hSw; have hs1 := hSw.1; have hs2 := hSw.2; go_simp; try with_reducible rfl
            try simp only [Act.put, List.setIfInBounds_toArray, List.set_cons_zero, List.set_cons_succ]
            refine wpAnyM_pick (i := 31) (some 66) (v := ?vz108) rfl rfl (by kernel_rfl) (by kernel_rfl) (by kernel_rfl) (by kernel_rfl) (fun _ _ _ h => h) (Or.inl ⟨by rfl, ?hz108⟩) hS ?rz108
            case hz108 => intro w hSw; have hs1 := hSw.1; have hs2 := hSw.2; go_simp; try with_reducible rfl
            try simp only [Act.put, List.setIfInBounds_toArray, List.set_cons_zero, List.set_cons_succ]
            refine wpAnyM_pick (i := 32) (some 67) (v := ?vz109) rfl rfl (by kernel_rfl) (by kernel_rfl) (by kernel_rfl) (by kernel_rfl) (fun _ _ _ h => h) (Or.inl ⟨by rfl, ?hz109⟩) hS ?rz109
            case hz109 => intro w hSw; have hs1 := hSw.1; have hs2 := hSw.2; go_simp; try with_reducible rfl
            try simp only [Act.put, List.setIfInBounds_toArray, List.set_cons_zero, List.set_cons_succ]
            refine wpAnyM_pick (i := 33) (some 7) (v := ?vz110) rfl rfl (by kernel_rfl) (by kernel_rfl) (by kernel_rfl) (by kernel_rfl) (fun _ _ _ h => h) (Or.inl ⟨by rfl, ?hz110⟩) hS ?rz110
            case hz110 => intro w hSw; have hs1 := hSw.1; have hs2 := hSw.2; go_simp; try with_reducible rfl
            try simp only [Act.put, List.setIfInBounds_toArray, List.set_cons_zero, List.set_cons_succ]
            refine wpAnyM_done (by kernel_rfl) ?_ _
            try simp only [Act.put, List.setIfInBounds_toArray, List.set_cons_zero, List.set_cons_succ]
            have HBE := hid (HBd.out.trans (hC.mono HBd.out.size))
            clear hC hS hsB c1 c2
            go_wp2_with fail
            go_roundw
            case rel => exact ⟨j + 1, _, by omega, rfl, by go_num, HX, HBE⟩
            case measure => simp [intOf]; omega
      · obtain rfl : j = m := by omega
        have hji : ¬ (j : Int) < (j : Int) := by omega
        have HI2 : Hid (s = ⟨fb.toArray⟩) := by
          show _ = _
          rw [← HFE.out, HI.out, HTA.out]
        have hsz : s.size = q := by rw [HI2.out, bt_size]; exact HFL.out
        have hw1 : IntKind.i64.wrap (256 - (s.size : Int)) = ((256 - q : Nat) : Int) := by rw [hsz, IntKind.wrap_i64]; omega
        have HPG : Hid (s ++ (⟨(List.replicate (256 - q) 0).toArray⟩ : ByteArray) = pg) := by
          show _ = _
          rw [HI2.out, HPB.out]
          exact ba_append _ _
        have HZ2 := hid fun w1 : World => HZ.out w1 (256 - q) (by omega)
        have hzz : (⟨(List.replicate (256 - q) 0).toArray⟩ : ByteArray).size ≤ 256 := by rw [bt_size, List.length_replicate]; omega
        have hs9 : s.size ≤ 256 := by omega
        clear HI HI2 hsz HPB HZ
        generalize (⟨(List.replicate (256 - q) 0).toArray⟩ : ByteArray) = zs at *
        have hsum : ¬ 9223372036854775807 < s.size + zs.size := by omega
        go_wp2_with (go_at_call 30; refine (HZ2.out _).mono ?_; clear HZ2; rintro e w9 ⟨rfl, hb9⟩; have HB9 := hid (HB.out.trans (hb9.mono HB.out.size)); clear hb9)
        go_ret2
        exact ⟨by rw [HPG.out]; rfl, HB9.out⟩
end Go.Proofs.Ytjocbkhjbbpkjaa

