/-
  A page is read: the program's reader.
-/
import Derived.Test.YtjcbaiohpdihoaaGreatDoorFe
import Derived.Deep.RegionHeld3
namespace Go.Proofs.YtjcbaiohpdihoaaGreatDoor.Lf
open Go.Proofs.YtjcbaiohpdihoaaGreatDoor.Nu
open Go.RowKit
set_option linter.unusedVariables false
set_option linter.unusedSimpArgs false
set_option maxRecDepth 100000

/-- a byte -/
def by1 (n : Nat) : List UInt8 := [UInt8.ofNat n]
/-- the bytes of an entry -/
def entB (x : Ent) : List UInt8 := by1 x.k.size ++ x.k.data.toList ++ (by1 x.v.size ++ x.v.data.toList)
def entsB : List Ent → List UInt8
  | [] => []
  | x :: r => entB x ++ entsB r
theorem entsB_append : ∀ L M, entsB (L ++ M) = entsB L ++ entsB M
  | [], M => rfl
  | x :: r, M => by simp only [List.cons_append, entsB, entsB_append r M, List.append_assoc]
theorem entB_len (x : Ent) : (entB x).length = x.sz := by
  unfold entB by1 Ent.sz
  simp
  omega
theorem entsB_len : ∀ L, (entsB L).length = sumE L
  | [] => rfl
  | x :: r => by simp only [entsB, sumE, List.length_append, entB_len, entsB_len r]
/-- a page's bytes, ahead of the bytes 0 -/
def frontB (k : Nat) (L : List Ent) : List UInt8 := by1 k ++ by1 L.length ++ entsB L
theorem frontB_len (k : Nat) (L : List Ent) : (frontB k L).length = 2 + sumE L := by
  unfold frontB by1
  simp [entsB_len]
  omega
/-- a page -/
def pageB (k : Nat) (L : List Ent) : ByteArray := padOf ⟨(frontB k L).toArray⟩ 256
theorem bt_size (l : List UInt8) : (⟨l.toArray⟩ : ByteArray).size = l.length := by show l.toArray.size = _; simp

theorem writeByte_any (n : Nat) (h : n < 256) (w : World) : Calls Tryz.prog 191 #[.int .i64 (n : Nat)] w fun e w' => e = .returned (.string ⟨(by1 n).toArray⟩) ∧ Below w.heap.size w w' := by
  have hp := put_ok n 1 w (by decide) (by decide) (by simpa using h)
  have hb : be n 1 = by1 n := rfl
  rw [hb] at hp
  generalize (⟨(by1 n).toArray⟩ : ByteArray) = s at *
  have hw : IntKind.u64.wrap (n : Int) = (n : Int) := by rw [IntKind.wrap_u64]; omega
  have hp' : Calls Tryz.prog 188 #[.int .u64 (n : Nat), .int .i64 1] w fun e w' => e = .returned (.tuple #[.string s, .int .i64 0]) ∧ Below w.heap.size w w' := hp
  clear hp hb
  go_enter Tryz.func191, Tryz.ntmps191
  go_wp2_with (go_at_call 188; refine hp'.mono ?_; clear hp'; rintro e w1 ⟨rfl, hb1⟩)
  go_ret
  exact ⟨rfl, hb1⟩
/-- of a list that is right and fits -/
structure Fits (L : List Ent) : Prop where
  size : 2 + sumE L ≤ 256
  key : ∀ x ∈ L, x.k.size ≤ 32
  val : ∀ x ∈ L, x.v.size ≤ 64
  len : L.length ≤ 127
theorem len_sum : ∀ L : List Ent, 2 * L.length ≤ sumE L
  | [] => Nat.le_refl _
  | x :: r => by
    have := len_sum r
    simp only [List.length_cons, sumE, Ent.sz]
    omega
theorem ckE_zero : ∀ {L : List Ent} {p : Option ByteArray}, ckE p L = 0 → ∀ x ∈ L, x.k.size ≤ 32 ∧ x.v.size ≤ 64
  | [], _, _, x, hx => by cases hx
  | y :: r, p, h, x, hx => by
    have hy : ¬ (32 < y.k.size ∨ 64 < y.v.size) := fun c => by cases p <;> simp [ckE, c] at h
    have hr : ckE (some y.k) r = 0 := by
      cases p with
      | none => simp only [ckE] at h; rw [if_neg hy] at h; exact h
      | some q =>
        simp only [ckE] at h
        rw [if_neg hy] at h
        by_cases hq : lt q y.k = true
        · rw [if_pos hq] at h; exact h
        · rw [if_neg hq] at h; cases h
    rcases List.mem_cons.1 hx with rfl | hx
    · omega
    · exact ckE_zero hr x hx
theorem fits_of {L : List Ent} (h : ckE none L = 0) (hs : 2 + sumE L ≤ 256) : Fits L :=
  ⟨hs, fun x hx => (ckE_zero h x hx).1, fun x hx => (ckE_zero h x hx).2, by have := len_sum L; omega⟩
theorem sumE_take (L : List Ent) (j : Nat) : sumE (L.take j) ≤ sumE L := by
  have := sumE_append (L.take j) (L.drop j)
  rw [List.take_append_drop] at this
  omega

theorem app_data (l : List UInt8) (s : ByteArray) : ((⟨l.toArray⟩ : ByteArray) ++ s).data.toList = l ++ s.data.toList := by
  rw [ByteArray.data_append]; simp
theorem app_size (l : List UInt8) (s : ByteArray) : ((⟨l.toArray⟩ : ByteArray) ++ s).size = l.length + s.size := by
  rw [ByteArray.size_append, bt_size]
set_option maxHeartbeats 2000000 in
theorem write_any (w : World) (k : Nat) (hk : k < 256) (v : Value) (L : List Ent) (hl : LiesE w v L) (hf : Fits L) :
    Calls Tryz.prog 130 #[.int .i64 (k : Nat), v] w fun e w' => e = .returned (.string (pageB k L)) ∧ Below w.heap.size w w' := by
  obtain ⟨a, c, hv⟩ := hl.form
  subst hv
  have hfs := hf.size
  have hfl := hf.len
  have HL := hid hl
  have HF := hid hf
  have HFR := hid (frontB_len k L)
  have HTA : Hid (L.take L.length = L) := List.take_length
  have HT0 : Hid (by1 k ++ by1 L.length ++ entsB (L.take 0) = by1 k ++ by1 L.length) := by show _ = _; simp [entsB]
  have HPD : Hid (∀ w1 : World, Calls Tryz.prog 126 #[.string ⟨(frontB k L).toArray⟩, .int .i64 256] w1 fun e w' => e = .returned (.tuple #[.string (pageB k L), .int .i64 0]) ∧ Below w1.heap.size w1 w') := fun w1 => pad_ok _ 256 w1 (by decide) (by rw [bt_size, frontB_len]; exact hfs)
  have HW1 : Hid (∀ w1 : World, Calls Tryz.prog 191 #[.int .i64 (k : Nat)] w1 fun e w' => e = .returned (.string ⟨(by1 k).toArray⟩) ∧ Below w1.heap.size w1 w') := fun w1 => writeByte_any k hk w1
  have HW2 : Hid (∀ w1 : World, Calls Tryz.prog 191 #[.int .i64 (L.length : Nat)] w1 fun e w' => e = .returned (.string ⟨(by1 L.length).toArray⟩) ∧ Below w1.heap.size w1 w') := fun w1 => writeByte_any L.length (by omega) w1
  have HJ : Hid ((⟨(by1 k).toArray⟩ : ByteArray) ++ (⟨(by1 L.length).toArray⟩ : ByteArray) = ⟨(by1 k ++ by1 L.length).toArray⟩) := ba_append _ _
  have HS1 : Hid (∀ w1 : World, Bld w1 w.heap.size w.heap.size [] → w.heap.size ≤ w1.heap.size → Calls Tryz.prog 116 #[.pointer (some ⟨w.heap.size, 0, none⟩), .string ⟨(by1 k ++ by1 L.length).toArray⟩] w1 fun e w' => (∃ z, e = .returned (.tuple #[.int .i64 z, .nilIface])) ∧ Bld w' w.heap.size w.heap.size (by1 k ++ by1 L.length) ∧ Below w.heap.size w1 w') := fun w1 h1 h2 => (writeString_bld _ _ [] ⟨(by1 k ++ by1 L.length).toArray⟩ w1 h1 (by rw [bt_size]; simp [by1]) h2).mono (fun e w' hh => ⟨⟨_, hh.1⟩, by simpa using hh.2.1, hh.2.2.1⟩)
  have HSM : Hid (∀ (w1 : World) (l l' : List UInt8) (s : ByteArray), Bld w1 w.heap.size w.heap.size l → w.heap.size ≤ w1.heap.size → l.length + s.size ≤ 1000 → l ++ s.data.toList = l' → Calls Tryz.prog 116 #[.pointer (some ⟨w.heap.size, 0, none⟩), .string s] w1 fun e w' => (∃ z, e = .returned (.tuple #[.int .i64 z, .nilIface])) ∧ Bld w' w.heap.size w.heap.size l' ∧ Below w.heap.size w1 w' ∧ Kp w1 w') := fun w1 l l' s h1 h2 h3 h4 => (writeString_bld _ _ l s w1 h1 (by omega) h2).mono (fun e w' hh => ⟨⟨_, hh.1⟩, by rw [← h4]; exact hh.2.1, hh.2.2.1, hh.2.2.2⟩)
  have HST : Hid (∀ w1 : World, Bld w1 w.heap.size w.heap.size (frontB k L) → Calls Tryz.prog 118 #[.pointer (some ⟨w.heap.size, 0, none⟩)] w1 fun e w' => e = .returned (.string ⟨(frontB k L).toArray⟩) ∧ Below w.heap.size w1 w') := fun w1 h1 => string_bld _ _ _ w1 h1 (by unfold frontB by1; simp)
  have HFE : Hid (by1 k ++ by1 L.length ++ entsB L = frontB k L) := rfl
  have HEL : Hid (∀ j, (by1 k ++ by1 L.length ++ entsB (L.take j)).length ≤ 256) := fun j => by
    have := sumE_take L j
    simp only [List.length_append, entsB_len, by1, List.length_cons, List.length_nil]
    omega
  obtain ⟨m, hm⟩ : ∃ m, L.length = m := ⟨_, rfl⟩
  have HM := hid hm
  rw [hm] at HL HTA HT0 HW2 HJ HS1 HFE HEL hfl ⊢
  clear hl hf hm HFR hfs
  generalize pageB k L = pg at *
  generalize frontB k L = fb at *
  have HBA := hid (Bld.made w w.heap.size (Nat.le_refl _))
  have HB0 : Hid (Below w.heap.size w (w.alloc (.cells #[.pointer none, .slice none 0 0] 173))) := (Below.refl _ w).alloc (Nat.le_refl _) _
  have z1 : (⟨(by1 k).toArray⟩ : ByteArray).size = 1 := bt_size _
  have z2 : (⟨(by1 m).toArray⟩ : ByteArray).size = 1 := bt_size _
  obtain ⟨s3, hs3⟩ : ∃ s3, (⟨(by1 k ++ by1 m).toArray⟩ : ByteArray) = s3 := ⟨_, rfl⟩
  rw [hs3] at HJ HS1
  have hj := HJ.out
  clear hs3 HJ
  generalize (⟨(by1 k).toArray⟩ : ByteArray) = s1 at *
  generalize (⟨(by1 m).toArray⟩ : ByteArray) = s2 at *
  have hz12 : ¬ 9223372036854775807 < s1.size + s2.size := by omega
  generalize by1 k ++ by1 m = ft at *
  go_enter Tryz.func130, Tryz.ntmps130
  go_wp2_with (first
    | (go_at_call 191; refine (HW1.out _).mono ?_; clear HW1; rintro e w1 ⟨rfl, hb1⟩; have HB1 := hid (HBA.out.on hb1); have HC1 := hid (HB0.out.trans (hb1.mono HB0.out.size)); clear hb1 HBA HB0)
    | (go_at_call 191; refine (HW2.out _).mono ?_; clear HW2; rintro e w2 ⟨rfl, hb2⟩; have HB2 := hid (HB1.out.on hb2); have HC2 := hid (HC1.out.trans (hb2.mono HC1.out.size)); clear hb2 HB1 HC1)
    | (go_at_call 116; refine (HS1.out _ HB2.out HC2.out.size).mono ?_; clear HS1; rintro e w3 ⟨⟨z3, rfl⟩, hd3, hb3⟩; have HB3 := hid hd3; have HC3 := hid (HC2.out.trans hb3); clear hd3 hb3 HB2 HC2))
  clear hj hz12 z1 z2
  go_loopw [19] (fun i wr => ∃ j : Nat, j ≤ m ∧ i = .int .i64 (j : Nat) ∧ Hid (Bld wr w.heap.size w.heap.size (ft ++ entsB (L.take j))) ∧ Hid (Below w.heap.size w wr)) (fun i _ => m - (intOf i).toNat)
  case atStart => exact ⟨0, Nat.zero_le _, rfl, (by show Bld _ _ _ _; rw [HT0.out]; exact HB3.out), HC3⟩
  case round =>
    obtain ⟨j, hj, rfl, HB, HC⟩ := hrel
    clear HB3 HC3 HT0
    by_cases hjm : j < m
    · have hji : (j : Int) < (m : Int) := by omega
      obtain ⟨x, hx⟩ : ∃ x, L[j]? = some x := ⟨_, List.getElem?_eq_getElem (by rw [HM.out]; exact hjm)⟩
      obtain ⟨b, off, e1, hbl, c1, c2, _, _⟩ := (HL.out.on HC.out).at hx
      subst e1
      have k1 := HF.out.key x (List.mem_of_getElem? hx)
      have k2 := HF.out.val x (List.mem_of_getElem? hx)
      have HX : Hid (ft ++ entsB (L.take j) ++ (by1 x.k.size ++ x.k.data.toList) ++ (by1 x.v.size ++ x.v.data.toList) = ft ++ entsB (L.take (j + 1))) := by
        show _ = _
        rw [take_snoc hx, entsB_append]
        simp [entsB, entB, List.append_assoc]
      have HLE := HEL.out j
      have HWK : Hid (∀ w1 : World, Calls Tryz.prog 191 #[.int .i64 (x.k.size : Nat)] w1 fun e w' => e = .returned (.string ⟨(by1 x.k.size).toArray⟩) ∧ Below w1.heap.size w1 w') := fun w1 => writeByte_any _ (by omega) w1
      have HWV : Hid (∀ w1 : World, Calls Tryz.prog 191 #[.int .i64 (x.v.size : Nat)] w1 fun e w' => e = .returned (.string ⟨(by1 x.v.size).toArray⟩) ∧ Below w1.heap.size w1 w') := fun w1 => writeByte_any _ (by omega) w1
      have HDK := hid (app_data (by1 x.k.size) x.k)
      have HDV := hid (app_data (by1 x.v.size) x.v)
      have hzk := app_size (by1 x.k.size) x.k
      have hzv := app_size (by1 x.v.size) x.v
      have hy1 : (by1 x.k.size).length = 1 := rfl
      have hy2 : (by1 x.v.size).length = 1 := rfl
      rw [hy1] at hzk
      rw [hy2] at hzv
      generalize x.k = xk at *
      generalize x.v = xv at *
      generalize by1 xk.size = bk at *
      generalize by1 xv.size = bv at *
      have hgk := bt_size bk
      have hgv := bt_size bv
      rw [hy1] at hgk
      rw [hy2] at hgv
      have HLK : Hid ((ft ++ entsB (L.take j)).length + ((⟨bk.toArray⟩ : ByteArray) ++ xk).size ≤ 1000) := by show _ ≤ _; rw [hzk]; omega
      have e9 : xk.data.toList.length = xk.size := by rw [Array.length_toList]; rfl
      have e8 : (ft ++ entsB (L.take j) ++ (bk ++ xk.data.toList)).length = (ft ++ entsB (L.take j)).length + (bk.length + xk.data.toList.length) := by simp only [List.length_append]
      have HLV : Hid ((ft ++ entsB (L.take j) ++ (bk ++ xk.data.toList)).length + ((⟨bv.toArray⟩ : ByteArray) ++ xv).size ≤ 1000) := by
        show _ ≤ _
        rw [hzv, e8, hy1, e9]
        omega
      clear e8 e9
      have HQK : Hid (ft ++ entsB (L.take j) ++ ((⟨bk.toArray⟩ : ByteArray) ++ xk).data.toList = ft ++ entsB (L.take j) ++ (bk ++ xk.data.toList)) := by show _ = _; rw [HDK.out]
      have HQV : Hid (ft ++ entsB (L.take j) ++ (bk ++ xk.data.toList) ++ ((⟨bv.toArray⟩ : ByteArray) ++ xv).data.toList = ft ++ entsB (L.take (j + 1))) := by show _ = _; rw [HDV.out]; exact HX.out
      clear HDK HDV HX hx hzk hzv hy1 hy2 HLE
      generalize ft ++ entsB (L.take j) ++ (bk ++ xk.data.toList) = l2 at *
      generalize ft ++ entsB (L.take j) = l1 at *
      obtain ⟨l3, hl3⟩ : ∃ l3, ft ++ entsB (L.take (j + 1)) = l3 := ⟨_, rfl⟩
      have HL3 := hid hl3
      rw [hl3] at HQV
      clear hl3
      generalize (⟨bk.toArray⟩ : ByteArray) = tk at *
      generalize (⟨bv.toArray⟩ : ByteArray) = tv at *
      have hzk : ¬ 9223372036854775807 < tk.size + xk.size := by omega
      have hzv : ¬ 9223372036854775807 < tv.size + xv.size := by omega
      clear hgk hgv
      have HBk := hid (Blk.made wr #[.string xk, .string xv] 59)
      have hba : Below wr.heap.size wr (wr.alloc (.cells #[.string xk, .string xv] 59)) := (Below.refl _ wr).alloc (Nat.le_refl _) _
      have HCa := hid (HC.out.trans (hba.mono HC.out.size))
      have HBa := hid (HB.out.on hba)
      clear hba HB HC
      go_wp2_with fail
      clear c1 c2
      generalize wr.alloc (.cells #[.string xk, .string xv] 59) = wa at *
      generalize wr.heap.size = p at *
      have hd0 : Below wa.heap.size wa wa.drew := (Below.refl _ wa).drew
      have HBk0 := hid (HBk.out.on hd0 HBk.out.lt)
      have HBa0 := hid (HBa.out.on hd0)
      have HCa0 := hid (HCa.out.trans (hd0.mono HCa.out.size))
      have HS0 := HBk0.out.cell (i := 0) rfl
      clear hd0
      go_region_held3 (fun w' => w'.cell? ⟨p, 0, none⟩ = some (.string xk)) (first | exact HS0 | exact HS1 | exact HS2)
        (first
          | (go_at_call 191; refine (HWK.out _).mono ?_; clear HWK; rintro e w4 ⟨rfl, hb4⟩; have HBk4 := hid (HBk0.out.on hb4 HBk0.out.lt); have HBa4 := hid (HBa0.out.on hb4); have HCa4 := hid (HCa0.out.trans (hb4.mono HCa0.out.size)); have HS1 := HBk4.out.cell (i := 0) rfl; clear hb4)
          | (go_at_call 116; refine (HSM.out _ l1 l2 _ HBa4.out HCa4.out.size HLK.out HQK.out).mono ?_; rintro e w5 ⟨⟨z5, rfl⟩, hd5, hb5, hk5⟩; have HBk5 := hid (hk5 _ _ HBk4.out); have HBa5 := hid hd5; have HCa5 := hid (HCa4.out.trans hb5); have HS2 := HBk5.out.cell (i := 0) rfl; clear hd5 hb5 hk5))
      clear HS0 HS1 HS2 HBk HBa HCa HBk0 HBa0 HCa0 HBk4 HBa4 HCa4
      go_wp2_with fail
      have hd0 : Below w5.heap.size w5 w5.drew := (Below.refl _ w5).drew
      have HBk0 := hid (HBk5.out.on hd0 HBk5.out.lt)
      have HBa0 := hid (HBa5.out.on hd0)
      have HCa0 := hid (HCa5.out.trans (hd0.mono HCa5.out.size))
      have HS0 := HBk0.out.cell (i := 1) rfl
      clear hd0 HBk5 HBa5 HCa5
      go_region_held3 (fun w' => w'.cell? ⟨p, 1, none⟩ = some (.string xv)) (first | exact HS0 | exact HS1 | exact HS2)
        (first
          | (go_at_call 191; refine (HWV.out _).mono ?_; clear HWV; rintro e w6 ⟨rfl, hb6⟩; have HBk4 := hid (HBk0.out.on hb6 HBk0.out.lt); have HBa4 := hid (HBa0.out.on hb6); have HCa4 := hid (HCa0.out.trans (hb6.mono HCa0.out.size)); have HS1 := HBk4.out.cell (i := 1) rfl; clear hb6)
          | (go_at_call 116; refine (HSM.out _ l2 l3 _ HBa4.out HCa4.out.size HLV.out HQV.out).mono ?_; rintro e w7 ⟨⟨z7, rfl⟩, hd7, hb7, hk7⟩; have HBk5 := hid (hk7 _ _ HBk4.out); have HBa5 := hid hd7; have HCa5 := hid (HCa4.out.trans hb7); have HS2 := HBk5.out.cell (i := 1) rfl; clear hd7 hb7 hk7))
      clear HS0 HS1 HS2 HBk0 HBa0 HCa0 HBk4 HBa4 HCa4 HBk5
      go_wp2_with fail
      go_roundw
      case rel => exact ⟨j + 1, by omega, by go_num, (by rw [HL3.out]; exact HBa5), HCa5⟩
      case measure => simp [intOf]; omega
    · obtain rfl : j = m := by omega
      have hji : ¬ (j : Int) < (j : Int) := by omega
      rw [HTA.out, HFE.out] at HB
      go_wp2_with (first
        | (go_at_call 118; refine (HST.out _ HB.out).mono ?_; clear HST; rintro e w8 ⟨rfl, hb8⟩; have HC8 := hid (HC.out.trans hb8); clear hb8)
        | (go_at_call 126; refine (HPD.out _).mono ?_; clear HPD; rintro e w9 ⟨rfl, hb9⟩; have HC9 := hid (HC8.out.trans (hb9.mono HC8.out.size)); clear hb9))
      go_ret
      exact ⟨rfl, HC9.out⟩
end Go.Proofs.YtjcbaiohpdihoaaGreatDoor.Lf

namespace Go.Proofs.YtjcbaiohpdihoaaGreatDoor.Lf
open Go.Proofs.YtjcbaiohpdihoaaGreatDoor.Nu
open Go.RowKit
set_option linter.unusedVariables false
set_option linter.unusedSimpArgs false
set_option maxRecDepth 100000

def packE (k : Int) (L : List Ent) : Nat := if k ≠ 1 ∧ k ≠ 2 then 1 else if ckE none L ≠ 0 then ckE none L else if 256 < 2 + sumE L then 16 else 0
def packS (k : Int) (L : List Ent) : ByteArray := if packE k L = 0 then pageB k.toNat L else ⟨#[]⟩
theorem sumE_le : ∀ {L : List Ent}, (∀ x ∈ L, x.k.size ≤ 32 ∧ x.v.size ≤ 64) → sumE L ≤ 98 * L.length
  | [], _ => Nat.le_refl _
  | x :: r, h => by
    have := sumE_le (L := r) (fun y hy => h y (List.mem_cons_of_mem _ hy))
    have := h x List.mem_cons_self
    simp only [sumE, Ent.sz, List.length_cons]
    omega
theorem ckE_vals : ∀ (L : List Ent) (p : Option ByteArray), ckE p L = 0 ∨ ckE p L = 2 ∨ ckE p L = 19
  | [], p => by cases p <;> exact .inl rfl
  | x :: r, none => by
    simp only [ckE]
    by_cases h : 32 < x.k.size ∨ 64 < x.v.size
    · rw [if_pos h]; exact .inr (.inl rfl)
    · rw [if_neg h]; exact ckE_vals r _
  | x :: r, some q => by
    simp only [ckE]
    by_cases h : 32 < x.k.size ∨ 64 < x.v.size
    · rw [if_pos h]; exact .inr (.inl rfl)
    · rw [if_neg h]
      by_cases h2 : lt q x.k = true
      · rw [if_pos h2]; exact ckE_vals r _
      · rw [if_neg h2]; exact .inr (.inr rfl)
theorem szL_of {L : List Ent} (h : ckE none L = 0) (hz : L.length ≤ 4398046511104) : szL L = ((2 + sumE L : Nat) : Int) := by
  have := sumE_le (ckE_zero h)
  exact wr64_in (by omega)
theorem packE_zero {k : Int} {L : List Ent} (h : packE k L = 0) : (k = 1 ∨ k = 2) ∧ ckE none L = 0 ∧ 2 + sumE L ≤ 256 := by
  unfold packE at h
  by_cases h1 : k ≠ 1 ∧ k ≠ 2
  · rw [if_pos h1] at h; cases h
  · rw [if_neg h1] at h
    by_cases h2 : ckE none L ≠ 0
    · rw [if_pos h2] at h; exact absurd h h2
    · rw [if_neg h2] at h
      by_cases h3 : 256 < 2 + sumE L
      · rw [if_pos h3] at h; cases h
      · exact ⟨by omega, by omega, by omega⟩

set_option maxHeartbeats 1000000 in
theorem pack_any (w : World) (k : Int) (v : Value) (L : List Ent) (hl : LiesE w v L) (hz : L.length ≤ 4398046511104) :
    Calls Tryz.prog 75 #[.int .i64 k, v] w fun e w' => e = .returned (.tuple #[.string (packS k L), .int .i64 (packE k L : Nat)]) ∧ Below w.heap.size w w' := by
  have HL := hid hl
  unfold packS
  by_cases h1 : k ≠ 1 ∧ k ≠ 2
  · have he : packE k L = 1 := by unfold packE; rw [if_pos h1]
    rw [he]
    have d1 : (k == 1) = false := beq_eq_false_iff_ne.2 h1.1
    have d2 : (k == 2) = false := beq_eq_false_iff_ne.2 h1.2
    have d3 : (k != 1) = true := by simp [h1.1]
    have d4 : (k != 2) = true := by simp [h1.2]
    have e1 := h1.1
    have e2 := h1.2
    clear h1 he hl hz
    go_enter Tryz.func75, Tryz.ntmps75
    go_wp2_with fail
    go_ret2
    exact ⟨rfl, Below.refl _ _⟩
  · obtain ⟨m, hm, hm2⟩ : ∃ m : Nat, k = (m : Int) ∧ (m = 1 ∨ m = 2) := ⟨k.toNat, by omega, by omega⟩
    subst hm
    have HCK : Hid (∀ w1 : World, Below w.heap.size w w1 → Calls Tryz.prog 128 #[v] w1 fun e w' => e = .returned (.int .i64 (ckE none L : Nat)) ∧ Below w1.heap.size w1 w') := fun w1 hb => check_any w1 v L (hl.on hb)
    have HSZ : Hid (∀ w1 : World, Below w.heap.size w w1 → Calls Tryz.prog 129 #[v] w1 fun e w' => e = .returned (.int .i64 (szL L)) ∧ Below w1.heap.size w1 w') := fun w1 hb => size_any w1 v L (hl.on hb)
    have d3 : (((m : Int) != 1) && ((m : Int) != 2)) = false := by rcases hm2 with rfl | rfl <;> rfl
    by_cases h2 : ckE none L = 0
    · have hsz := szL_of h2 hz
      rw [h2] at HCK
      rw [hsz] at HSZ
      by_cases h3 : 256 < 2 + sumE L
      · have he : packE (m : Int) L = 16 := by unfold packE; rw [if_neg h1, if_neg (by omega), if_pos h3]
        rw [he]
        have d5 : (256 : Int) < ((2 + sumE L : Nat) : Int) := by omega
        generalize 2 + sumE L = q at *
        clear he h1 h2 hl hz hsz h3
        rcases hm2 with rfl | rfl
        · clear d3
          go_enter Tryz.func75, Tryz.ntmps75
          go_wp2_with (first
            | (go_at_call 128; refine (HCK.out _ (Below.refl _ _)).mono ?_; clear HCK; rintro e w1 ⟨rfl, hb1⟩)
            | (go_at_call 129; refine (HSZ.out _ hb1).mono ?_; clear HSZ; rintro e w2 ⟨rfl, hb2⟩))
          go_ret2
          exact ⟨rfl, hb1.trans (hb2.mono hb1.size)⟩
        · clear d3
          go_enter Tryz.func75, Tryz.ntmps75
          go_wp2_with (first
            | (go_at_call 128; refine (HCK.out _ (Below.refl _ _)).mono ?_; clear HCK; rintro e w1 ⟨rfl, hb1⟩)
            | (go_at_call 129; refine (HSZ.out _ hb1).mono ?_; clear HSZ; rintro e w2 ⟨rfl, hb2⟩))
          go_ret2
          exact ⟨rfl, hb1.trans (hb2.mono hb1.size)⟩
      · have he : packE (m : Int) L = 0 := by unfold packE; rw [if_neg h1, if_neg (by omega), if_neg h3]
        rw [he, if_pos rfl]
        have HWR : Hid (∀ w1 : World, Below w.heap.size w w1 → Calls Tryz.prog 130 #[.int .i64 (m : Nat), v] w1 fun e w' => e = .returned (.string (pageB m L)) ∧ Below w1.heap.size w1 w') := fun w1 hb => write_any w1 m (by omega) v L (hl.on hb) (fits_of h2 (by omega))
        have ht : ((m : Nat) : Int).toNat = m := by omega
        rw [ht]
        have d5 : ¬ (256 : Int) < ((2 + sumE L : Nat) : Int) := by omega
        generalize 2 + sumE L = q at *
        clear he h1 h2 hl hz hsz h3 ht
        rcases hm2 with rfl | rfl
        · clear d3
          generalize pageB 1 L = pg at *
          go_enter Tryz.func75, Tryz.ntmps75
          go_wp2_with (first
            | (go_at_call 128; refine (HCK.out _ (Below.refl _ _)).mono ?_; clear HCK; rintro e w1 ⟨rfl, hb1⟩)
            | (go_at_call 129; refine (HSZ.out _ hb1).mono ?_; clear HSZ; rintro e w2 ⟨rfl, hb2⟩; have HB2 := hid (hb1.trans (hb2.mono hb1.size)))
            | (go_at_call 130; refine (HWR.out _ HB2.out).mono ?_; clear HWR; rintro e w3 ⟨rfl, hb3⟩))
          go_ret2
          exact ⟨rfl, HB2.out.trans (hb3.mono HB2.out.size)⟩
        · clear d3
          generalize pageB 2 L = pg at *
          go_enter Tryz.func75, Tryz.ntmps75
          go_wp2_with (first
            | (go_at_call 128; refine (HCK.out _ (Below.refl _ _)).mono ?_; clear HCK; rintro e w1 ⟨rfl, hb1⟩)
            | (go_at_call 129; refine (HSZ.out _ hb1).mono ?_; clear HSZ; rintro e w2 ⟨rfl, hb2⟩; have HB2 := hid (hb1.trans (hb2.mono hb1.size)))
            | (go_at_call 130; refine (HWR.out _ HB2.out).mono ?_; clear HWR; rintro e w3 ⟨rfl, hb3⟩))
          go_ret2
          exact ⟨rfl, HB2.out.trans (hb3.mono HB2.out.size)⟩
    · have he : packE (m : Int) L = ckE none L := by unfold packE; rw [if_neg h1, if_pos h2]
      rw [he, if_neg h2]
      have hv := ckE_vals L none
      generalize ckE none L = q at *
      have d5 : ((q : Int) == 0) = false := beq_eq_false_iff_ne.2 (by omega)
      have d6 : ((q : Int) != 0) = true := by simp; omega
      have d7 : ¬ (q : Int) = 0 := by omega
      clear he h1 hl hz hv h2
      rcases hm2 with rfl | rfl
      · clear d3
        go_enter Tryz.func75, Tryz.ntmps75
        go_wp2_with (go_at_call 128; refine (HCK.out _ (Below.refl _ _)).mono ?_; clear HCK; rintro e w1 ⟨rfl, hb1⟩)
        go_ret2
        exact ⟨rfl, hb1⟩
      · clear d3
        go_enter Tryz.func75, Tryz.ntmps75
        go_wp2_with (go_at_call 128; refine (HCK.out _ (Below.refl _ _)).mono ?_; clear HCK; rintro e w1 ⟨rfl, hb1⟩)
        go_ret2
        exact ⟨rfl, hb1⟩
end Go.Proofs.YtjcbaiohpdihoaaGreatDoor.Lf

namespace Go.Proofs.YtjcbaiohpdihoaaGreatDoor.Lf
open Go.Proofs.YtjcbaiohpdihoaaGreatDoor.Nu
open Go.RowKit
set_option linter.unusedVariables false
set_option linter.unusedSimpArgs false
set_option maxRecDepth 100000

/-- bytes as a text -/
def bt (l : List UInt8) : ByteArray := ⟨l.toArray⟩
theorem bt_len (l : List UInt8) : (bt l).size = l.length := bt_size l
theorem bt_data (l : List UInt8) : (bt l).data.toList = l := by simp [bt]
theorem bt_self (s : ByteArray) : bt s.data.toList = s := by unfold bt; simp
theorem bt_cut (l : List UInt8) (i j : Nat) : (bt l).extract i j = bt ((l.take j).drop i) := by
  apply ByteArray.ext
  rw [ByteArray.data_extract]
  apply Array.toList_inj.1
  show ((l.toArray).extract i j).toList = ((l.take j).drop i).toArray.toList
  rw [Array.toList_extract, List.extract_eq_take_drop, List.drop_take]

/-- the reader at block r -/
def Rdr (w : World) (r : Nat) (l : List UInt8) (sh : Bool) : Prop := Blk w r #[.string (bt l), .bool sh] 305
def Kr (r : Nat) (w w' : World) : Prop := Keep (fun j => j = r) w w'
section
variable {w W : World} {r : Nat} {l : List UInt8} {sh : Bool}
theorem Rdr.rest (h : Rdr w r l sh) (l' : List UInt8) : Rdr (w.setCell ⟨r, 0, none⟩ (.string (bt l'))) r l' sh := Blk.set h 0 (.string (bt l'))
theorem Rdr.short (h : Rdr w r l sh) : Rdr (w.setCell ⟨r, 1, none⟩ (.bool true)) r l true := Blk.set h 1 (.bool true)
theorem Kr.set (w : World) (r i : Nat) (v : Value) : Kr r w (w.setCell ⟨r, i, none⟩ v) := Keep.set (S := fun j => j = r) w rfl i v
theorem Kr.trans {a b c : World} (h : Kr r a b) (k : Kr r b c) : Kr r a c := Keep.trans h k (fun _ _ h => h)
theorem Kr.of_below (h : Below w.heap.size w W) : Kr r w W := Keep.of_below h
theorem Rdr.on (h : Rdr w r l sh) (hb : Below w.heap.size w W) : Rdr W r l sh := Blk.on h hb h.lt

theorem number_cons (c : UInt8) (l : List UInt8) (hl : l.length ≤ 140737488351232) (h : Rdr w r (c :: l) sh) :
    Calls Tryz.prog 250 #[.pointer (some ⟨r, 0, none⟩)] w fun e w' => e = .returned (.int .i64 (c.toNat : Nat)) ∧ Rdr w' r l sh ∧ Kr r w w' := by
  have c0 : w.cell? ⟨r, 0, none⟩ = some (.string (bt (c :: l))) := Blk.cell h (i := 0) rfl
  have f0 := Blk.free h 0
  have HR := hid (h.rest l)
  have hsz := bt_len (c :: l)
  rw [List.length_cons] at hsz
  have hg := get_ok (bt (c :: l)) 0 1 w (by decide) (by decide) (by unfold maxLen; omega) (by omega)
  have hv : val (sub (bt (c :: l)) 0 1) = c.toNat := by unfold sub; rw [bt_data]; simp [val]
  rw [hv] at hg
  have hcut : (bt (c :: l)).extract 1 (bt (c :: l)).size = bt l := by rw [bt_cut, hsz]; simp
  have hc : c.toNat ≤ 255 := by have := c.toNat_lt; omega
  have hsl : ∀ w1 : World, (Instr.slice 9 (.string (bt (c :: l))) (some (.int .i64 1)) none none).run Tryz.prog w1 = .ok (.string (bt l)) w1 := fun w1 => by
    have := run_slice_string_l (P := Tryz.prog) (w := w1) (t := 9) (s := bt (c :: l)) Tryz.underlying9 .i64 1 (by decide) (by omega)
    rw [this, ← hcut]
    rfl
  have hw : IntKind.i64.wrap (c.toNat : Int) = (c.toNat : Int) := by rw [IntKind.wrap_i64]; omega
  have HK := hid (Kr.set w r 0 (.string (bt l)))
  have hg' : Calls Tryz.prog 155 #[.string (bt (c :: l)), .int .i64 0, .int .i64 1] w fun e w' => e = .returned (.tuple #[.int .u64 (c.toNat : Nat), .int .i64 0]) ∧ w = w' := hg
  clear hg hv hcut h
  generalize bt (c :: l) = s at *
  generalize bt l = s1 at *
  generalize c.toNat = n at *
  go_enter Tryz.func250, Tryz.ntmps250
  go_wp2_with (go_at_call 155; refine hg'.mono ?_; clear hg'; rintro e w1 ⟨rfl, rfl⟩)
  go_ret
  exact ⟨rfl, HR.out, HK.out⟩
theorem number_nil (h : Rdr w r [] sh) :
    Calls Tryz.prog 250 #[.pointer (some ⟨r, 0, none⟩)] w fun e w' => e = .returned (.int .i64 0) ∧ Rdr w' r [] true ∧ Kr r w w' := by
  have c0 : w.cell? ⟨r, 0, none⟩ = some (.string (bt [])) := Blk.cell h (i := 0) rfl
  have c1 : w.cell? ⟨r, 1, none⟩ = some (.bool sh) := Blk.cell h (i := 1) rfl
  have f1 := Blk.free h 1
  have HR := hid h.short
  have hg := get_off (bt []) 0 1 w (by decide) (by decide) (by decide) (by rw [bt_len]; unfold maxLen; decide) (.inr (by rw [bt_len]; decide))
  have HK := hid (Kr.set w r 1 (.bool true))
  have hg' : Calls Tryz.prog 155 #[.string (bt []), .int .i64 0, .int .i64 1] w fun e w' => e = .returned (.tuple #[.int .u64 0, .int .i64 3]) ∧ w = w' := hg
  clear hg
  generalize bt [] = s at *
  go_enter Tryz.func250, Tryz.ntmps250
  go_wp2_with (go_at_call 155; refine hg'.mono ?_; clear hg'; rintro e w1 ⟨rfl, rfl⟩)
  go_ret
  exact ⟨rfl, HR.out, HK.out⟩

/-- a text, as it stands in a page -/
def rdT : List UInt8 → Option (List UInt8 × List UInt8)
  | [] => none
  | c :: l => if l.length < c.toNat then none else some (l.take c.toNat, l.drop c.toNat)
theorem rdT_len {l t m : List UInt8} (h : rdT l = some (t, m)) : t.length ≤ 255 ∧ m.length < l.length := by
  cases l with
  | nil => cases h
  | cons c l =>
    simp only [rdT] at h
    by_cases hc : l.length < c.toNat
    · rw [if_pos hc] at h; cases h
    · rw [if_neg hc] at h
      cases h
      have := c.toNat_lt
      rw [List.length_take, List.length_drop, List.length_cons]
      omega
set_option maxHeartbeats 1000000 in
theorem text_some {l t m : List UInt8} (hl : l.length ≤ 140737488351232) (he : rdT l = some (t, m)) (h : Rdr w r l sh) :
    Calls Tryz.prog 251 #[.pointer (some ⟨r, 0, none⟩)] w fun e w' => e = .returned (.string (bt t)) ∧ Rdr w' r m sh ∧ Kr r w w' := by
  cases l with
  | nil => cases he
  | cons c l =>
    simp only [rdT] at he
    by_cases hc : l.length < c.toNat
    · rw [if_pos hc] at he; cases he
    rw [if_neg hc] at he
    cases he
    rw [List.length_cons] at hl
    have hn := number_cons c l (by omega) h
    have hc9 : c.toNat ≤ 255 := by have := c.toNat_lt; omega
    have HR : Hid (∀ w1 : World, Rdr w1 r l sh → Rdr (w1.setCell ⟨r, 0, none⟩ (.string (bt (l.drop c.toNat)))) r (l.drop c.toNat) sh) := fun w1 h1 => h1.rest _
    have hsz := bt_len l
    have h1 : (bt l).extract 0 c.toNat = bt (l.take c.toNat) := by rw [bt_cut]; simp
    have h2 : (bt l).extract c.toNat (bt l).size = bt (l.drop c.toNat) := by rw [bt_cut, hsz]; simp
    have hs1 : ∀ w1 : World, (Instr.slice 9 (.string (bt l)) none (some (.int .i64 (c.toNat : Nat))) none).run Tryz.prog w1 = .ok (.string (bt (l.take c.toNat))) w1 := fun w1 => by
      have := run_slice_string_h (P := Tryz.prog) (w := w1) (t := 9) (s := bt l) Tryz.underlying9 .i64 (c.toNat : Nat) (by omega) (by omega)
      rw [this, ← h1]
      rfl
    have hs2 : ∀ w1 : World, (Instr.slice 9 (.string (bt l)) (some (.int .i64 (c.toNat : Nat))) none none).run Tryz.prog w1 = .ok (.string (bt (l.drop c.toNat))) w1 := fun w1 => by
      have := run_slice_string_l (P := Tryz.prog) (w := w1) (t := 9) (s := bt l) Tryz.underlying9 .i64 (c.toNat : Nat) (by omega) (by omega)
      rw [this, ← h2]
      rfl
    have HCL : Hid (∀ w1 : World, Calls Tryz.prog 104 #[.string (bt (l.take c.toNat))] w1 fun e w' => e = .returned (.string (bt (l.take c.toNat))) ∧ Below w1.heap.size w1 w') := fun w1 => clone_any _ w1 (by rw [bt_len, List.length_take]; omega)
    have hgt : ¬ ((bt l).size : Int) < (c.toNat : Int) := by omega
    have HCE : Hid (∀ w1 : World, Rdr w1 r l sh → w1.cell? ⟨r, 0, none⟩ = some (.string (bt l)) ∧ w1.frozen? ⟨r, 0, none⟩ = false) := fun w1 h1 => ⟨Blk.cell h1 (i := 0) rfl, Blk.free h1 0⟩
    clear h1 h2 hsz h hc hl
    generalize bt l = s at *
    generalize bt (l.take c.toNat) = s1 at *
    obtain ⟨s2, hs2'⟩ : ∃ s2, bt (l.drop c.toNat) = s2 := ⟨_, rfl⟩
    rw [hs2'] at hs2 HR
    clear hs2'
    generalize l.drop c.toNat = m at *
    generalize c.toNat = n at *
    go_enter Tryz.func251, Tryz.ntmps251
    go_wp2_with (first
      | (go_at_call 250; refine hn.mono ?_; clear hn; rintro e w1 ⟨rfl, hr1, hk1⟩; have HR1 := hid (HR.out _ hr1); obtain ⟨c0, f0⟩ := HCE.out _ hr1; have HK1 := hid (hk1.trans (Kr.set w1 r 0 (.string s2))); clear hr1 hk1)
      | (go_at_call 104; refine (HCL.out _).mono ?_; clear HCL; rintro e w2 ⟨rfl, hb2⟩))
    go_ret
    exact ⟨rfl, HR1.out.on hb2, HK1.out.trans (Kr.of_below hb2)⟩
theorem text_none {l : List UInt8} (hl : l.length ≤ 140737488351232) (he : rdT l = none) (h : Rdr w r l sh) :
    Calls Tryz.prog 251 #[.pointer (some ⟨r, 0, none⟩)] w fun e w' => e = .returned (.string (bt [])) ∧ Rdr w' r [] true ∧ Kr r w w' := by
  cases l with
  | nil =>
    have hn := number_nil h
    have HR : Hid (∀ w1 : World, Rdr w1 r [] true → Rdr (w1.setCell ⟨r, 0, none⟩ (.string (bt []))) r [] true) := fun w1 h1 => h1.rest _
    have hsz : (bt []).size = 0 := rfl
    have hs1 : ∀ w1 : World, (Instr.slice 9 (.string (bt [])) none (some (.int .i64 0)) none).run Tryz.prog w1 = .ok (.string (bt [])) w1 := fun w1 => by
      rw [run_slice_string_h (P := Tryz.prog) (w := w1) (t := 9) (s := bt []) Tryz.underlying9 .i64 0 (by omega) (by omega)]
      rfl
    have hs2 : ∀ w1 : World, (Instr.slice 9 (.string (bt [])) (some (.int .i64 0)) none none).run Tryz.prog w1 = .ok (.string (bt [])) w1 := fun w1 => by
      rw [run_slice_string_l (P := Tryz.prog) (w := w1) (t := 9) (s := bt []) Tryz.underlying9 .i64 0 (by omega) (by omega)]
      rfl
    have HCL : Hid (∀ w1 : World, Calls Tryz.prog 104 #[.string (bt [])] w1 fun e w' => e = .returned (.string (bt [])) ∧ Below w1.heap.size w1 w') := fun w1 => clone_any _ w1 (by rw [bt_len]; decide)
    have HCE : Hid (∀ w1 : World, Rdr w1 r [] true → w1.cell? ⟨r, 0, none⟩ = some (.string (bt [])) ∧ w1.frozen? ⟨r, 0, none⟩ = false) := fun w1 h1 => ⟨Blk.cell h1 (i := 0) rfl, Blk.free h1 0⟩
    have hgt : ¬ ((bt []).size : Int) < 0 := by omega
    clear h hl he hsz
    generalize bt [] = s at *
    go_enter Tryz.func251, Tryz.ntmps251
    go_wp2_with (first
      | (go_at_call 250; refine hn.mono ?_; clear hn; rintro e w1 ⟨rfl, hr1, hk1⟩; have HR1 := hid (HR.out _ hr1); obtain ⟨c0, f0⟩ := HCE.out _ hr1; have HK1 := hid (hk1.trans (Kr.set w1 r 0 (.string s))); clear hr1 hk1)
      | (go_at_call 104; refine (HCL.out _).mono ?_; clear HCL; rintro e w2 ⟨rfl, hb2⟩))
    go_ret
    exact ⟨rfl, HR1.out.on hb2, HK1.out.trans (Kr.of_below hb2)⟩
  | cons c l =>
    simp only [rdT] at he
    by_cases hc : l.length < c.toNat
    · rw [List.length_cons] at hl
      have hn := number_cons c l (by omega) h
      have hsz := bt_len l
      have hgt : ((bt l).size : Int) < (c.toNat : Int) := by omega
      have HR : Hid (∀ w1 : World, Rdr w1 r l sh → Rdr ((w1.setCell ⟨r, 1, none⟩ (.bool true)).setCell ⟨r, 0, none⟩ (.string (bt []))) r [] true) := fun w1 h1 => h1.short.rest _
      have HCE : Hid (∀ w1 : World, Rdr w1 r l sh → w1.cell? ⟨r, 0, none⟩ = some (.string (bt l)) ∧ w1.frozen? ⟨r, 0, none⟩ = false ∧ w1.frozen? ⟨r, 1, none⟩ = false ∧ w1.cell? ⟨r, 1, none⟩ = some (.bool sh)) := fun w1 h1 => ⟨Blk.cell h1 (i := 0) rfl, Blk.free h1 0, Blk.free h1 1, Blk.cell h1 (i := 1) rfl⟩
      clear h hc hl hsz he
      generalize bt l = s at *
      generalize c.toNat = n at *
      have hbn : bt [] = ⟨#[]⟩ := rfl
      rw [hbn] at HR ⊢
      go_enter Tryz.func251, Tryz.ntmps251
      go_wp2_with (go_at_call 250; refine hn.mono ?_; clear hn; rintro e w1 ⟨rfl, hr1, hk1⟩; have HR1 := hid (HR.out _ hr1); obtain ⟨c0, f0, f1, f2⟩ := HCE.out _ hr1; have HK1 := hid (hk1.trans ((Kr.set w1 r 1 (.bool true)).trans (Kr.set _ r 0 (.string ⟨#[]⟩)))); clear hr1 hk1)
      go_ret
      exact ⟨rfl, HR1.out, HK1.out⟩
    · rw [if_neg hc] at he; cases he
end
end Go.Proofs.YtjcbaiohpdihoaaGreatDoor.Lf
