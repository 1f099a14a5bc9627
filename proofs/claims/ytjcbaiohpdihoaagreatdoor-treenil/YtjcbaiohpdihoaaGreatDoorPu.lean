/-
  Put and Take.
-/
import Derived.Test.YtjcbaiohpdihoaaGreatDoorPt
import Derived.Test.YtjcbaiohpdihoaaGreatDoorLj
namespace Go.Proofs.YtjcbaiohpdihoaaGreatDoor.Lf
open Go.Proofs.YtjcbaiohpdihoaaGreatDoor.Nu
open Go.RowKit
set_option linter.unusedVariables false
set_option linter.unusedSimpArgs false
set_option maxRecDepth 100000

theorem LiesE.sub {w : World} {a : Option Addr} {n c : Nat} {L : List Ent} (h : LiesE w (.slice a n c) L) (i j : Nat) (hij : i ≤ j) (hj : j ≤ L.length) : LiesE w (sliced a i j c 2) ((L.drop i).take (j - i)) := by
  have h0 := h
  obtain ⟨a', c', e1, h1, h2, h3⟩ := h
  injection e1 with e1 e2 e3
  subst e1
  subst e3
  have hl : ((L.drop i).take (j - i)).length = j - i := by rw [List.length_take, List.length_drop]; omega
  refine ⟨if c = i then a else a.map (·.add (i * 2)), c - i, by rw [hl]; rfl, by rw [hl]; omega, by omega, fun k x hk => ?_⟩
  have hk' : L[i + k]? = some x ∧ k < j - i := by
    rw [List.getElem?_take] at hk
    split at hk
    · rw [← List.getElem?_drop]; exact ⟨hk, by assumption⟩
    · cases hk
  obtain ⟨b, off, e, hlt, d1, d2, r⟩ := h3 _ x hk'.1
  subst e
  rw [if_neg (by omega)]
  refine ⟨b, off + i * 2, by rw [Option.map_some, add_plain], hlt, ?_, ?_, r⟩
  · rw [show off + i * 2 + k * 2 = off + (i + k) * 2 by omega]; exact d1
  · rw [show off + i * 2 + k * 2 + 1 = off + (i + k) * 2 + 1 by omega]; exact d2
theorem LiesE.cap {w : World} {a : Option Addr} {n c : Nat} {L : List Ent} (h : LiesE w (.slice a n c) L) : n = L.length ∧ n ≤ c ∧ c ≤ maxLen := by
  obtain ⟨a', c', e1, h1, h2, h3⟩ := h
  injection e1 with e1 e2 e3
  omega
/-- where a part of a row stands -/
def sA (a : Option Addr) (i c : Nat) : Option Addr := if c = i then a else a.map (·.add (i * 2))
theorem LiesE.hd {w : World} {a : Option Addr} {n c : Nat} {L : List Ent} (h : LiesE w (.slice a n c) L) {i : Nat} (hi : i ≤ n) : LiesE w (.slice (sA a 0 c) i c) (L.take i) := by
  have := h.sub 0 i (Nat.zero_le _) (by have := h.cap; omega)
  rw [List.drop_zero, Nat.sub_zero] at this
  exact this
theorem LiesE.tl {w : World} {a : Option Addr} {n c : Nat} {L : List Ent} (h : LiesE w (.slice a n c) L) {i : Nat} (hi : i ≤ n) : LiesE w (.slice (sA a i c) (n - i) (c - i)) (L.drop i) := by
  have hn := h.cap
  have := h.sub i n hi (by omega)
  rw [List.take_of_length_le (by rw [List.length_drop]; omega)] at this
  exact this
theorem run_hd (a : Option Addr) (n c i : Nat) (hi : i ≤ c) (w : World) : (Instr.slice 31 (.slice a n c) none (some (.int .i64 (i : Nat))) none).run Tryz.prog w = .ok (.slice (sA a 0 c) i c) w := by
  have ht : Tryz.prog.underlying 31 = some (.slice 59) := Tryz.underlying31
  have hz : (sizeOf (Tryz.prog.elem 31)).run Tryz.prog w = .ok 2 w := by kernel_rfl
  rw [run_slice_h w 31 a n c (by unfold Program.elem; rw [ht]) .i64 i (by omega) (by omega), hz]
  simp [Result.andThen, sliced, sA]
theorem run_tl (a : Option Addr) (n c i : Nat) (hi : i ≤ n) (w : World) : (Instr.slice 31 (.slice a n c) (some (.int .i64 (i : Nat))) none none).run Tryz.prog w = .ok (.slice (sA a i c) (n - i) (c - i)) w := by
  have ht : Tryz.prog.underlying 31 = some (.slice 59) := Tryz.underlying31
  have hz : (sizeOf (Tryz.prog.elem 31)).run Tryz.prog w = .ok 2 w := by kernel_rfl
  rw [run_slice_l w 31 a n c (by unfold Program.elem; rw [ht]) .i64 i (by omega) (by omega), hz]
  simp [Result.andThen, sliced, sA]
theorem LiesL.two {w : World} {x y : Value} {A B : List Ent} {k : Nat} (hb : Blk w k #[x, y] 31) (hx : LiesE w x A) (hy : LiesE w y B) : LiesL w (.slice (some ⟨k, 0, none⟩) 2 2) [A, B] := by
  refine ⟨k, _, rfl, hb, by simp, fun j l hj => ?_⟩
  match j, hj with
  | 0, hj => cases hj; exact ⟨x, rfl, hx⟩
  | 1, hj => cases hj; exact ⟨y, rfl, hy⟩
theorem LiesL.one {w : World} {x : Value} {A : List Ent} {k : Nat} (hb : Blk w k #[x] 31) (hx : LiesE w x A) : LiesL w (.slice (some ⟨k, 0, none⟩) 1 1) [A] := by
  refine ⟨k, _, rfl, hb, by simp, fun j l hj => ?_⟩
  match j, hj with
  | 0, hj => cases hj; exact ⟨x, rfl, hx⟩
theorem LiesL.three {w : World} {x y z : Value} {A B C : List Ent} {k : Nat} (hb : Blk w k #[x, y, z] 31) (hx : LiesE w x A) (hy : LiesE w y B) (hz : LiesE w z C) : LiesL w (.slice (some ⟨k, 0, none⟩) 3 3) [A, B, C] := by
  refine ⟨k, _, rfl, hb, by simp, fun j l hj => ?_⟩
  match j, hj with
  | 0, hj => cases hj; exact ⟨x, rfl, hx⟩
  | 1, hj => cases hj; exact ⟨y, rfl, hy⟩
  | 2, hj => cases hj; exact ⟨z, rfl, hz⟩

set_option maxHeartbeats 1000000 in
theorem put_any (w : World) (v : Value) (L : List Ent) (key value : ByteArray) (hl : LiesE w v L) (hz : L.length ≤ 4398046510976) (hk : Sml key) (hv : Sml value) :
    Calls Tryz.prog 149 #[v, .string key, .string value] w fun e w' => ∃ (i : Nat) (a : Option Addr) (c : Nat), i ≤ L.length ∧ (Mono L key → IsAt L key i) ∧ e = .returned (.slice a (putAt L i (fd (fnd L key i)) ⟨key, value⟩).length c) ∧ RowE w' w.heap.size (.slice a (putAt L i (fd (fnd L key i)) ⟨key, value⟩).length c) (putAt L i (fd (fnd L key i)) ⟨key, value⟩) ∧ Below w.heap.size w w' := by
  have HFD := hid (find_any w v L key hl (by omega))
  obtain ⟨a, c, e1⟩ := hl.form
  subst e1
  have hsm := hl.sml
  obtain ⟨n, hn⟩ : ∃ n, L.length = n := ⟨_, rfl⟩
  rw [hn] at HFD hz hl ⊢
  have HL := hid hl
  have hcap := hl.cap
  have HC := hid (And.intro hcap.2.1 hcap.2.2)
  have HSM := hid hsm
  have HN := hid hn
  have HKV := hid (And.intro hk hv)
  clear hl hcap hsm hn hk hv
  go_enter Tryz.func149, Tryz.ntmps149
  go_wp2_with fail
  go_at_call 112
  refine HFD.out.mono ?_
  clear HFD
  rintro e w1 ⟨i, rfl, hi, hm, hb1⟩
  have HM := hid hm
  have HL1 := hid (HL.out.on hb1)
  have HB1 := hid hb1
  clear hm hb1 HL
  obtain ⟨d, hd⟩ : ∃ d, fd (fnd L key i) = d := ⟨_, rfl⟩
  have hin : i + d ≤ n := by
    rw [← hd]
    cases hf : fnd L key i with
    | false => exact hi
    | true =>
      obtain ⟨x, hx, _⟩ := fnd_iff.1 hf
      have := (List.getElem?_eq_some_iff.1 hx).1
      rw [HN.out] at this
      exact this
  have HLA := hid (HL1.out.hd (i := i) hi)
  have HLB := hid (HL1.out.tl (i := i + d) hin)
  have hr1 := run_hd a n c i (Nat.le_trans hi HC.out.1)
  have hr2 := run_tl a n c (i + d) hin
  generalize sA a 0 c = a1 at *
  generalize sA a (i + d) c = a2 at *
  generalize n - (i + d) = m2 at *
  generalize c - (i + d) = c2 at *
  obtain ⟨P, hP⟩ : ∃ P, putAt L i d ⟨key, value⟩ = P := ⟨_, rfl⟩
  have HP : Hid ([L.take i, [⟨key, value⟩], L.drop (i + d)].flatten = P) := by show _ = _; rw [← hP]; simp [putAt]
  have HPL : Hid (P.length ≤ 4398046511000) := by
    show _ ≤ _
    have := put_len (L := L) (i := i) (d := d) (e := ⟨key, value⟩)
    rw [hP, HN.out] at this
    omega
  have HPS : Hid (SmlL P) := by show SmlL _; rw [← hP]; exact HSM.out.put i d HKV.out.1 HKV.out.2
  have HPQ : Hid (putAt L i (fd (fnd L key i)) ⟨key, value⟩ = P) := by show _ = _; rw [hd]; exact hP
  clear hP
  cases hf : fnd L key i with
  | false =>
    obtain rfl : 0 = d := by rw [← hd, hf]; rfl
    clear hf hd
    rw [Nat.add_zero] at hr2
    go_wp2_with fail
    refine wp_region_d (fun _ => True) (fun _ => true) (by kernel_rfl) ?_
    have HLA1 := hid (HLA.out.on ((Below.refl _ w1).drew))
    have HLB1 := hid (HLB.out.on ((Below.refl _ w1).drew))
    have HB2 := hid (HB1.out.drew)
    clear HLA HLB HL1 HB1
    generalize w1.drew = w2 at *
    refine wpAnyM_pick (i := 0) (some 20) (v := ?vz1) rfl rfl (by kernel_rfl) (by kernel_rfl) (by kernel_rfl) (by kernel_rfl) (fun _ _ _ h => h) (Or.inl ⟨by rfl, ?hz1⟩) trivial ?rz1
    case hz1 => intro w hSw; (try have hs1 := hSw.1); (try have hs2 := hSw.2); go_simp; try with_reducible rfl
    try simp only [Act.put, List.setIfInBounds_toArray, List.set_cons_zero, List.set_cons_succ]
    refine wpAnyM_pick (i := 1) (some 21) (v := ?vz2) rfl rfl (by kernel_rfl) (by kernel_rfl) (by kernel_rfl) (by kernel_rfl) (fun _ _ _ h => h) (Or.inl ⟨by rfl, ?hz2⟩) trivial ?rz2
    case hz2 => intro w hSw; (try have hs1 := hSw.1); (try have hs2 := hSw.2); go_simp; try with_reducible rfl
    try simp only [Act.put, List.setIfInBounds_toArray, List.set_cons_zero, List.set_cons_succ]
    refine wpAnyM_pick (i := 2) (some 22) (v := ?vz3) rfl rfl (by kernel_rfl) (by kernel_rfl) (by kernel_rfl) (by kernel_rfl) (fun _ _ _ h => h) (Or.inl ⟨by rfl, ?hz3⟩) trivial ?rz3
    case hz3 => intro w hSw; (try have hs1 := hSw.1); (try have hs2 := hSw.2); go_simp; try with_reducible rfl
    try simp only [Act.put, List.setIfInBounds_toArray, List.set_cons_zero, List.set_cons_succ]
    refine wpAnyM_pick (i := 3) (some 23) (v := ?vz4) rfl rfl (by kernel_rfl) (by kernel_rfl) (by kernel_rfl) (by kernel_rfl) (fun _ _ _ h => h) (Or.inl ⟨by rfl, ?hz4⟩) trivial ?rz4
    case hz4 => intro w hSw; (try have hs1 := hSw.1); (try have hs2 := hSw.2); go_simp; try with_reducible rfl
    try simp only [Act.put, List.setIfInBounds_toArray, List.set_cons_zero, List.set_cons_succ]
    refine wpAnyM_pick (i := 4) (some 24) (v := ?vz5) rfl rfl (by kernel_rfl) (by kernel_rfl) (by kernel_rfl) (by kernel_rfl) (fun _ _ _ h => h) (Or.inl ⟨by rfl, ?hz5⟩) trivial ?rz5
    case hz5 => intro w hSw; (try have hs1 := hSw.1); (try have hs2 := hSw.2); go_simp; try with_reducible rfl
    try simp only [Act.put, List.setIfInBounds_toArray, List.set_cons_zero, List.set_cons_succ]
    refine wpAnyM_pick (i := 5) (some 25) (v := ?vz6) rfl rfl (by kernel_rfl) (by kernel_rfl) (by kernel_rfl) (by kernel_rfl) (fun _ _ _ h => h) (Or.inl ⟨by rfl, ?hz6⟩) trivial ?rz6
    case hz6 => intro w hSw; (try have hs1 := hSw.1); (try have hs2 := hSw.2); go_simp; try with_reducible rfl
    try simp only [Act.put, List.setIfInBounds_toArray, List.set_cons_zero, List.set_cons_succ]
    refine wpAnyM_pick (i := 7) (some 27) (v := ?vz7) rfl rfl (by kernel_rfl) (by kernel_rfl) (by kernel_rfl) (by kernel_rfl) (fun _ _ _ h => h) (Or.inl ⟨by rfl, ?hz7⟩) trivial ?rz7
    case hz7 => intro w hSw; (try have hs1 := hSw.1); (try have hs2 := hSw.2); go_simp; try with_reducible rfl
    try simp only [Act.put, List.setIfInBounds_toArray, List.set_cons_zero, List.set_cons_succ]
    refine wpAnyM_pick (i := 8) (some 28) (v := ?vz8) rfl rfl (by kernel_rfl) (by kernel_rfl) (by kernel_rfl) (by kernel_rfl) (fun _ _ _ h => h) (Or.inl ⟨by rfl, ?hz8⟩) trivial ?rz8
    case hz8 => intro w hSw; (try have hs1 := hSw.1); (try have hs2 := hSw.2); go_simp; try with_reducible rfl
    try simp only [Act.put, List.setIfInBounds_toArray, List.set_cons_zero, List.set_cons_succ]
    refine wpAnyM_pick (i := 9) (some 29) (v := ?vz9) rfl rfl (by kernel_rfl) (by kernel_rfl) (by kernel_rfl) (by kernel_rfl) (fun _ _ _ h => h) (Or.inl ⟨by rfl, ?hz9⟩) trivial ?rz9
    case hz9 => intro w hSw; (try have hs1 := hSw.1); (try have hs2 := hSw.2); go_simp; try with_reducible rfl
    try simp only [Act.put, List.setIfInBounds_toArray, List.set_cons_zero, List.set_cons_succ]
    clear hr1 hr2
    have HK1 := hid (HKV.out)
    have HO := hid (LiesE.one w2 ⟨key, value⟩ HK1.out.1 HK1.out.2)
    have b3 : Below w2.heap.size w2 (w2.alloc (.cells #[.string key, .string value] 59)) := (Below.refl _ w2).alloc (Nat.le_refl _) _
    have HLA2 := hid (HLA1.out.on b3)
    have HLB2 := hid (HLB1.out.on b3)
    have HB3 := hid (HB2.out.trans (b3.mono HB2.out.size))
    clear b3 HLA1 HLB1 HB2 HK1
    refine wpAnyM_one (i := 6) (by kernel_rfl) rfl (fun K hK => ?_)
    go_simp
    refine hK.out _ _ (fun _ => trivial) ?_
    clear hK K
    try simp only [Act.put, List.setIfInBounds_toArray, List.set_cons_zero, List.set_cons_succ]
    generalize w2.alloc (.cells #[.string key, .string value] 59) = w3 at *
    generalize w2.heap.size = p at *
    have b4 : Below w3.heap.size w3 (w3.alloc (.cells #[.slice a1 i c, .slice (some ⟨p, 0, none⟩) 1 1, .slice a2 m2 c2] 31)) := (Below.refl _ w3).alloc (Nat.le_refl _) _
    have HLL := hid (LiesL.three (Blk.made w3 #[.slice a1 i c, .slice (some ⟨p, 0, none⟩) 1 1, .slice a2 m2 c2] 31) (HLA2.out.on b4) (HO.out.on b4) (HLB2.out.on b4))
    have HB4 := hid (HB3.out.trans (b4.mono HB3.out.size))
    clear b4 HLA2 HLB2 HB3 HO
    refine wpAnyM_one (i := 10) (by kernel_rfl) rfl (fun K hK => ?_)
    go_simp
    refine hK.out _ _ (fun _ => trivial) ?_
    clear hK K
    try simp only [Act.put, List.setIfInBounds_toArray, List.set_cons_zero, List.set_cons_succ]
    generalize w3.alloc (.cells #[.slice a1 i c, .slice (some ⟨p, 0, none⟩) 1 1, .slice a2 m2 c2] 31) = w4 at *
    generalize w3.heap.size = q at *
    have HJ := hid (join_any w4 _ _ HLL.out (by rw [HP.out]; exact HPL.out) (by rw [HP.out]; exact HPS.out))
    rw [HP.out] at HJ
    clear HLL
    refine wpAnyM_one (i := 11) (by kernel_rfl) rfl (fun K hK => ?_)
    go_simp
    go_at_call 213
    refine HJ.out.mono ?_
    clear HJ
    rintro e w5 ⟨ra, rc, rfl, hr5, hb5⟩
    have HR5 := hid (hr5.base HB4.out.size)
    have HB5 := hid (HB4.out.trans (hb5.mono HB4.out.size))
    clear hr5 hb5 HB4
    obtain ⟨pl, hpl⟩ : ∃ pl, P.length = pl := ⟨_, rfl⟩
    rw [hpl] at HR5 ⊢
    have HPL2 := hid hpl
    clear hpl
    go_wp2_with fail
    refine hK.out _ _ (fun _ => trivial) ?_
    clear hK K
    try simp only [Act.put, List.setIfInBounds_toArray, List.set_cons_zero, List.set_cons_succ]
    refine wpAnyM_pick (i := 12) (some 6) (v := ?vz10) rfl rfl (by kernel_rfl) (by kernel_rfl) (by kernel_rfl) (by kernel_rfl) (fun _ _ _ h => h) (Or.inl ⟨by rfl, ?hz10⟩) trivial ?rz10
    case hz10 => intro w hSw; (try have hs1 := hSw.1); (try have hs2 := hSw.2); go_simp; try with_reducible rfl
    try simp only [Act.put, List.setIfInBounds_toArray, List.set_cons_zero, List.set_cons_succ]
    refine wpAnyM_done (by kernel_rfl) ?_ _
    try simp only [Act.put, List.setIfInBounds_toArray, List.set_cons_zero, List.set_cons_succ]
    go_wp2_with fail
    go_ret
    refine ⟨i, ra, rc, hi, HM.out, ?_, ?_, HB5.out⟩
    · rw [HPQ.out, HPL2.out]; rfl
    · rw [HPQ.out, HPL2.out]
      exact HR5.out
  | true =>
    obtain rfl : 1 = d := by rw [← hd, hf]; rfl
    clear hf hd
    have hwi : IntKind.i64.wrap ((i : Int) + 1) = (i : Int) + 1 := by rw [IntKind.wrap_i64]; omega
    rw [show ((i + 1 : Nat) : Int) = (i : Int) + 1 by omega] at hr2
    go_wp2_with fail
    refine wp_region_d (fun _ => True) (fun _ => true) (by kernel_rfl) ?_
    have HLA1 := hid (HLA.out.on ((Below.refl _ w1).drew))
    have HLB1 := hid (HLB.out.on ((Below.refl _ w1).drew))
    have HB2 := hid (HB1.out.drew)
    clear HLA HLB HL1 HB1
    generalize w1.drew = w2 at *
    refine wpAnyM_pick (i := 0) (some 20) (v := ?vz11) rfl rfl (by kernel_rfl) (by kernel_rfl) (by kernel_rfl) (by kernel_rfl) (fun _ _ _ h => h) (Or.inl ⟨by rfl, ?hz11⟩) trivial ?rz11
    case hz11 => intro w hSw; (try have hs1 := hSw.1); (try have hs2 := hSw.2); go_simp; try with_reducible rfl
    try simp only [Act.put, List.setIfInBounds_toArray, List.set_cons_zero, List.set_cons_succ]
    refine wpAnyM_pick (i := 1) (some 21) (v := ?vz12) rfl rfl (by kernel_rfl) (by kernel_rfl) (by kernel_rfl) (by kernel_rfl) (fun _ _ _ h => h) (Or.inl ⟨by rfl, ?hz12⟩) trivial ?rz12
    case hz12 => intro w hSw; (try have hs1 := hSw.1); (try have hs2 := hSw.2); go_simp; try with_reducible rfl
    try simp only [Act.put, List.setIfInBounds_toArray, List.set_cons_zero, List.set_cons_succ]
    refine wpAnyM_pick (i := 2) (some 22) (v := ?vz13) rfl rfl (by kernel_rfl) (by kernel_rfl) (by kernel_rfl) (by kernel_rfl) (fun _ _ _ h => h) (Or.inl ⟨by rfl, ?hz13⟩) trivial ?rz13
    case hz13 => intro w hSw; (try have hs1 := hSw.1); (try have hs2 := hSw.2); go_simp; try with_reducible rfl
    try simp only [Act.put, List.setIfInBounds_toArray, List.set_cons_zero, List.set_cons_succ]
    refine wpAnyM_pick (i := 3) (some 23) (v := ?vz14) rfl rfl (by kernel_rfl) (by kernel_rfl) (by kernel_rfl) (by kernel_rfl) (fun _ _ _ h => h) (Or.inl ⟨by rfl, ?hz14⟩) trivial ?rz14
    case hz14 => intro w hSw; (try have hs1 := hSw.1); (try have hs2 := hSw.2); go_simp; try with_reducible rfl
    try simp only [Act.put, List.setIfInBounds_toArray, List.set_cons_zero, List.set_cons_succ]
    refine wpAnyM_pick (i := 4) (some 24) (v := ?vz15) rfl rfl (by kernel_rfl) (by kernel_rfl) (by kernel_rfl) (by kernel_rfl) (fun _ _ _ h => h) (Or.inl ⟨by rfl, ?hz15⟩) trivial ?rz15
    case hz15 => intro w hSw; (try have hs1 := hSw.1); (try have hs2 := hSw.2); go_simp; try with_reducible rfl
    try simp only [Act.put, List.setIfInBounds_toArray, List.set_cons_zero, List.set_cons_succ]
    refine wpAnyM_pick (i := 5) (some 25) (v := ?vz16) rfl rfl (by kernel_rfl) (by kernel_rfl) (by kernel_rfl) (by kernel_rfl) (fun _ _ _ h => h) (Or.inl ⟨by rfl, ?hz16⟩) trivial ?rz16
    case hz16 => intro w hSw; (try have hs1 := hSw.1); (try have hs2 := hSw.2); go_simp; try with_reducible rfl
    try simp only [Act.put, List.setIfInBounds_toArray, List.set_cons_zero, List.set_cons_succ]
    refine wpAnyM_pick (i := 7) (some 27) (v := ?vz17) rfl rfl (by kernel_rfl) (by kernel_rfl) (by kernel_rfl) (by kernel_rfl) (fun _ _ _ h => h) (Or.inl ⟨by rfl, ?hz17⟩) trivial ?rz17
    case hz17 => intro w hSw; (try have hs1 := hSw.1); (try have hs2 := hSw.2); go_simp; try with_reducible rfl
    try simp only [Act.put, List.setIfInBounds_toArray, List.set_cons_zero, List.set_cons_succ]
    refine wpAnyM_pick (i := 8) (some 28) (v := ?vz18) rfl rfl (by kernel_rfl) (by kernel_rfl) (by kernel_rfl) (by kernel_rfl) (fun _ _ _ h => h) (Or.inl ⟨by rfl, ?hz18⟩) trivial ?rz18
    case hz18 => intro w hSw; (try have hs1 := hSw.1); (try have hs2 := hSw.2); go_simp; try with_reducible rfl
    try simp only [Act.put, List.setIfInBounds_toArray, List.set_cons_zero, List.set_cons_succ]
    refine wpAnyM_pick (i := 9) (some 29) (v := ?vz19) rfl rfl (by kernel_rfl) (by kernel_rfl) (by kernel_rfl) (by kernel_rfl) (fun _ _ _ h => h) (Or.inl ⟨by rfl, ?hz19⟩) trivial ?rz19
    case hz19 => intro w hSw; (try have hs1 := hSw.1); (try have hs2 := hSw.2); go_simp; try with_reducible rfl
    try simp only [Act.put, List.setIfInBounds_toArray, List.set_cons_zero, List.set_cons_succ]
    clear hr1 hr2
    have HK1 := hid (HKV.out)
    have HO := hid (LiesE.one w2 ⟨key, value⟩ HK1.out.1 HK1.out.2)
    have b3 : Below w2.heap.size w2 (w2.alloc (.cells #[.string key, .string value] 59)) := (Below.refl _ w2).alloc (Nat.le_refl _) _
    have HLA2 := hid (HLA1.out.on b3)
    have HLB2 := hid (HLB1.out.on b3)
    have HB3 := hid (HB2.out.trans (b3.mono HB2.out.size))
    clear b3 HLA1 HLB1 HB2 HK1
    refine wpAnyM_one (i := 6) (by kernel_rfl) rfl (fun K hK => ?_)
    go_simp
    refine hK.out _ _ (fun _ => trivial) ?_
    clear hK K
    try simp only [Act.put, List.setIfInBounds_toArray, List.set_cons_zero, List.set_cons_succ]
    generalize w2.alloc (.cells #[.string key, .string value] 59) = w3 at *
    generalize w2.heap.size = p at *
    have b4 : Below w3.heap.size w3 (w3.alloc (.cells #[.slice a1 i c, .slice (some ⟨p, 0, none⟩) 1 1, .slice a2 m2 c2] 31)) := (Below.refl _ w3).alloc (Nat.le_refl _) _
    have HLL := hid (LiesL.three (Blk.made w3 #[.slice a1 i c, .slice (some ⟨p, 0, none⟩) 1 1, .slice a2 m2 c2] 31) (HLA2.out.on b4) (HO.out.on b4) (HLB2.out.on b4))
    have HB4 := hid (HB3.out.trans (b4.mono HB3.out.size))
    clear b4 HLA2 HLB2 HB3 HO
    refine wpAnyM_one (i := 10) (by kernel_rfl) rfl (fun K hK => ?_)
    go_simp
    refine hK.out _ _ (fun _ => trivial) ?_
    clear hK K
    try simp only [Act.put, List.setIfInBounds_toArray, List.set_cons_zero, List.set_cons_succ]
    generalize w3.alloc (.cells #[.slice a1 i c, .slice (some ⟨p, 0, none⟩) 1 1, .slice a2 m2 c2] 31) = w4 at *
    generalize w3.heap.size = q at *
    have HJ := hid (join_any w4 _ _ HLL.out (by rw [HP.out]; exact HPL.out) (by rw [HP.out]; exact HPS.out))
    rw [HP.out] at HJ
    clear HLL
    refine wpAnyM_one (i := 11) (by kernel_rfl) rfl (fun K hK => ?_)
    go_simp
    go_at_call 213
    refine HJ.out.mono ?_
    clear HJ
    rintro e w5 ⟨ra, rc, rfl, hr5, hb5⟩
    have HR5 := hid (hr5.base HB4.out.size)
    have HB5 := hid (HB4.out.trans (hb5.mono HB4.out.size))
    clear hr5 hb5 HB4
    obtain ⟨pl, hpl⟩ : ∃ pl, P.length = pl := ⟨_, rfl⟩
    rw [hpl] at HR5 ⊢
    have HPL2 := hid hpl
    clear hpl
    go_wp2_with fail
    refine hK.out _ _ (fun _ => trivial) ?_
    clear hK K
    try simp only [Act.put, List.setIfInBounds_toArray, List.set_cons_zero, List.set_cons_succ]
    refine wpAnyM_pick (i := 12) (some 6) (v := ?vz20) rfl rfl (by kernel_rfl) (by kernel_rfl) (by kernel_rfl) (by kernel_rfl) (fun _ _ _ h => h) (Or.inl ⟨by rfl, ?hz20⟩) trivial ?rz20
    case hz20 => intro w hSw; (try have hs1 := hSw.1); (try have hs2 := hSw.2); go_simp; try with_reducible rfl
    try simp only [Act.put, List.setIfInBounds_toArray, List.set_cons_zero, List.set_cons_succ]
    refine wpAnyM_done (by kernel_rfl) ?_ _
    try simp only [Act.put, List.setIfInBounds_toArray, List.set_cons_zero, List.set_cons_succ]
    go_wp2_with fail
    go_ret
    refine ⟨i, ra, rc, hi, HM.out, ?_, ?_, HB5.out⟩
    · rw [HPQ.out, HPL2.out]; rfl
    · rw [HPQ.out, HPL2.out]
      exact HR5.out

set_option maxHeartbeats 1000000 in
theorem take_any (w : World) (v : Value) (L : List Ent) (key : ByteArray) (hl : LiesE w v L) (hz : L.length ≤ 4398046511000) :
    Calls Tryz.prog 154 #[v, .string key] w fun e w' => ∃ (i : Nat) (a : Option Addr) (c : Nat), i ≤ L.length ∧ (Mono L key → IsAt L key i) ∧ e = .returned (.tuple #[.slice a (cutOut L i (fd (fnd L key i))).length c, .bool (fnd L key i)]) ∧ RowE w' w.heap.size (.slice a (cutOut L i (fd (fnd L key i))).length c) (cutOut L i (fd (fnd L key i))) ∧ Below w.heap.size w w' := by
  have HFD := hid (find_any w v L key hl (by omega))
  obtain ⟨a, c, e1⟩ := hl.form
  subst e1
  have hsm := hl.sml
  obtain ⟨n, hn⟩ : ∃ n, L.length = n := ⟨_, rfl⟩
  rw [hn] at HFD hz hl ⊢
  have HL := hid hl
  have hcap := hl.cap
  have HC := hid (And.intro hcap.2.1 hcap.2.2)
  have HSM := hid hsm
  have HN := hid hn
  clear hl hcap hsm hn
  go_enter Tryz.func154, Tryz.ntmps154
  go_wp2_with fail
  go_at_call 112
  refine HFD.out.mono ?_
  clear HFD
  rintro e w1 ⟨i, rfl, hi, hm, hb1⟩
  have HM := hid hm
  have HL1 := hid (HL.out.on hb1)
  have HB1 := hid hb1
  clear hm hb1 HL
  cases hf : fnd L key i with
  | false =>
    have HPQ : Hid (cutOut L i (fd (fnd L key i)) = L) := by show _ = _; rw [hf]; exact out_none
    have HF := hid hf
    clear hf
    have b4 : Below w1.heap.size w1 (w1.alloc (.cells #[.slice a n c] 31)) := (Below.refl _ w1).alloc (Nat.le_refl _) _
    have HLL := hid (LiesL.one (Blk.made w1 #[.slice a n c] 31) (HL1.out.on b4))
    have HB4 := hid (HB1.out.trans (b4.mono HB1.out.size))
    have HJ := hid (join_any _ _ _ HLL.out (by simp; rw [HN.out]; exact hz) (by simp; exact HSM.out))
    rw [show [L].flatten = L by simp] at HJ
    rw [HN.out] at HJ
    clear b4 HLL HB1 HL1
    go_wp2_with (go_at_call 213; refine HJ.out.mono ?_; clear HJ; rintro e w5 ⟨ra, rc, rfl, hr5, hb5⟩; have HR5 := hid (hr5.base HB4.out.size); have HB5 := hid (HB4.out.trans (hb5.mono HB4.out.size)); clear hr5 hb5 HB4)
    go_ret2
    refine ⟨i, ra, rc, hi, HM.out, ?_, ?_, HB5.out⟩
    · rw [HPQ.out, HN.out, HF.out]; rfl
    · rw [HPQ.out, HN.out]; exact HR5.out
  | true =>
    have hin : i + 1 ≤ n := by
      obtain ⟨x, hx, _⟩ := fnd_iff.1 hf
      have := (List.getElem?_eq_some_iff.1 hx).1
      rw [HN.out] at this
      exact this
    have HLA := hid (HL1.out.hd (i := i) hi)
    have HLB := hid (HL1.out.tl (i := i + 1) hin)
    have hr1 := run_hd a n c i (Nat.le_trans hi HC.out.1)
    have hr2 := run_tl a n c (i + 1) hin
    generalize sA a 0 c = a1 at *
    generalize sA a (i + 1) c = a2 at *
    generalize n - (i + 1) = m2 at *
    generalize c - (i + 1) = c2 at *
    obtain ⟨P, hP⟩ : ∃ P, cutOut L i 1 = P := ⟨_, rfl⟩
    have HP : Hid ([L.take i, L.drop (i + 1)].flatten = P) := by show _ = _; rw [← hP]; simp [cutOut]
    have HPL : Hid (P.length ≤ 4398046511000) := by
      show _ ≤ _
      have := out_len (L := L) (i := i) (d := 1)
      rw [hP, HN.out] at this
      omega
    have HPS : Hid (SmlL P) := by show SmlL _; rw [← hP]; exact HSM.out.out i 1
    have HPQ : Hid (cutOut L i (fd (fnd L key i)) = P) := by show _ = _; rw [hf]; exact hP
    have HF := hid hf
    clear hP hf
    have hwi : IntKind.i64.wrap ((i : Int) + 1) = (i : Int) + 1 := by rw [IntKind.wrap_i64]; omega
    rw [show ((i + 1 : Nat) : Int) = (i : Int) + 1 by omega] at hr2
    go_wp2_with fail
    refine wp_region_d (fun _ => True) (fun _ => true) (by kernel_rfl) ?_
    have HLA1 := hid (HLA.out.on ((Below.refl _ w1).drew))
    have HLB1 := hid (HLB.out.on ((Below.refl _ w1).drew))
    have HB3 := hid (HB1.out.drew)
    clear HLA HLB HL1 HB1
    generalize w1.drew = w3 at *
    refine wpAnyM_pick (i := 0) (some 19) (v := ?vz21) rfl rfl (by kernel_rfl) (by kernel_rfl) (by kernel_rfl) (by kernel_rfl) (fun _ _ _ h => h) (Or.inl ⟨by rfl, ?hz21⟩) trivial ?rz21
    case hz21 => intro w hSw; (try have hs1 := hSw.1); (try have hs2 := hSw.2); go_simp; try with_reducible rfl
    try simp only [Act.put, List.setIfInBounds_toArray, List.set_cons_zero, List.set_cons_succ]
    refine wpAnyM_pick (i := 1) (some 20) (v := ?vz22) rfl rfl (by kernel_rfl) (by kernel_rfl) (by kernel_rfl) (by kernel_rfl) (fun _ _ _ h => h) (Or.inl ⟨by rfl, ?hz22⟩) trivial ?rz22
    case hz22 => intro w hSw; (try have hs1 := hSw.1); (try have hs2 := hSw.2); go_simp; try with_reducible rfl
    try simp only [Act.put, List.setIfInBounds_toArray, List.set_cons_zero, List.set_cons_succ]
    refine wpAnyM_pick (i := 2) (some 21) (v := ?vz23) rfl rfl (by kernel_rfl) (by kernel_rfl) (by kernel_rfl) (by kernel_rfl) (fun _ _ _ h => h) (Or.inl ⟨by rfl, ?hz23⟩) trivial ?rz23
    case hz23 => intro w hSw; (try have hs1 := hSw.1); (try have hs2 := hSw.2); go_simp; try with_reducible rfl
    try simp only [Act.put, List.setIfInBounds_toArray, List.set_cons_zero, List.set_cons_succ]
    refine wpAnyM_pick (i := 3) (some 22) (v := ?vz24) rfl rfl (by kernel_rfl) (by kernel_rfl) (by kernel_rfl) (by kernel_rfl) (fun _ _ _ h => h) (Or.inl ⟨by rfl, ?hz24⟩) trivial ?rz24
    case hz24 => intro w hSw; (try have hs1 := hSw.1); (try have hs2 := hSw.2); go_simp; try with_reducible rfl
    try simp only [Act.put, List.setIfInBounds_toArray, List.set_cons_zero, List.set_cons_succ]
    refine wpAnyM_pick (i := 4) (some 23) (v := ?vz25) rfl rfl (by kernel_rfl) (by kernel_rfl) (by kernel_rfl) (by kernel_rfl) (fun _ _ _ h => h) (Or.inl ⟨by rfl, ?hz25⟩) trivial ?rz25
    case hz25 => intro w hSw; (try have hs1 := hSw.1); (try have hs2 := hSw.2); go_simp; try with_reducible rfl
    try simp only [Act.put, List.setIfInBounds_toArray, List.set_cons_zero, List.set_cons_succ]
    refine wpAnyM_pick (i := 5) (some 24) (v := ?vz26) rfl rfl (by kernel_rfl) (by kernel_rfl) (by kernel_rfl) (by kernel_rfl) (fun _ _ _ h => h) (Or.inl ⟨by rfl, ?hz26⟩) trivial ?rz26
    case hz26 => intro w hSw; (try have hs1 := hSw.1); (try have hs2 := hSw.2); go_simp; try with_reducible rfl
    try simp only [Act.put, List.setIfInBounds_toArray, List.set_cons_zero, List.set_cons_succ]
    refine wpAnyM_pick (i := 6) (some 25) (v := ?vz27) rfl rfl (by kernel_rfl) (by kernel_rfl) (by kernel_rfl) (by kernel_rfl) (fun _ _ _ h => h) (Or.inl ⟨by rfl, ?hz27⟩) trivial ?rz27
    case hz27 => intro w hSw; (try have hs1 := hSw.1); (try have hs2 := hSw.2); go_simp; try with_reducible rfl
    try simp only [Act.put, List.setIfInBounds_toArray, List.set_cons_zero, List.set_cons_succ]
    clear hr1 hr2
    have b4 : Below w3.heap.size w3 (w3.alloc (.cells #[.slice a1 i c, .slice a2 m2 c2] 31)) := (Below.refl _ w3).alloc (Nat.le_refl _) _
    have HLL := hid (LiesL.two (Blk.made w3 #[.slice a1 i c, .slice a2 m2 c2] 31) (HLA1.out.on b4) (HLB1.out.on b4))
    have HB4 := hid (HB3.out.trans (b4.mono HB3.out.size))
    clear b4 HLA1 HLB1 HB3
    refine wpAnyM_one (i := 7) (by kernel_rfl) rfl (fun K hK => ?_)
    go_simp
    refine hK.out _ _ (fun _ => trivial) ?_
    clear hK K
    try simp only [Act.put, List.setIfInBounds_toArray, List.set_cons_zero, List.set_cons_succ]
    generalize w3.alloc (.cells #[.slice a1 i c, .slice a2 m2 c2] 31) = w4 at *
    generalize w3.heap.size = q at *
    have HJ := hid (join_any w4 _ _ HLL.out (by rw [HP.out]; exact HPL.out) (by rw [HP.out]; exact HPS.out))
    rw [HP.out] at HJ
    clear HLL
    refine wpAnyM_one (i := 8) (by kernel_rfl) rfl (fun K hK => ?_)
    go_simp
    go_at_call 213
    refine HJ.out.mono ?_
    clear HJ
    rintro e w5 ⟨ra, rc, rfl, hr5, hb5⟩
    have HR5 := hid (hr5.base HB4.out.size)
    have HB5 := hid (HB4.out.trans (hb5.mono HB4.out.size))
    clear hr5 hb5 HB4
    obtain ⟨pl, hpl⟩ : ∃ pl, P.length = pl := ⟨_, rfl⟩
    rw [hpl] at HR5 ⊢
    have HPL2 := hid hpl
    clear hpl
    go_wp2_with fail
    refine hK.out _ _ (fun _ => trivial) ?_
    clear hK K
    try simp only [Act.put, List.setIfInBounds_toArray, List.set_cons_zero, List.set_cons_succ]
    refine wpAnyM_pick (i := 9) (some 4) (v := ?vz28) rfl rfl (by kernel_rfl) (by kernel_rfl) (by kernel_rfl) (by kernel_rfl) (fun _ _ _ h => h) (Or.inl ⟨by rfl, ?hz28⟩) trivial ?rz28
    case hz28 => intro w hSw; (try have hs1 := hSw.1); (try have hs2 := hSw.2); go_simp; try with_reducible rfl
    try simp only [Act.put, List.setIfInBounds_toArray, List.set_cons_zero, List.set_cons_succ]
    refine wpAnyM_pick (i := 10) (some 5) (v := ?vz29) rfl rfl (by kernel_rfl) (by kernel_rfl) (by kernel_rfl) (by kernel_rfl) (fun _ _ _ h => h) (Or.inl ⟨by rfl, ?hz29⟩) trivial ?rz29
    case hz29 => intro w hSw; (try have hs1 := hSw.1); (try have hs2 := hSw.2); go_simp; try with_reducible rfl
    try simp only [Act.put, List.setIfInBounds_toArray, List.set_cons_zero, List.set_cons_succ]
    refine wpAnyM_done (by kernel_rfl) ?_ _
    try simp only [Act.put, List.setIfInBounds_toArray, List.set_cons_zero, List.set_cons_succ]
    go_wp2_with fail
    go_ret2
    refine ⟨i, ra, rc, hi, HM.out, ?_, ?_, HB5.out⟩
    · rw [HPQ.out, HPL2.out, HF.out]; rfl
    · rw [HPQ.out, HPL2.out]
      exact HR5.out
end Go.Proofs.YtjcbaiohpdihoaaGreatDoor.Lf

