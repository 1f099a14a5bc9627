/-
  Cut of lists that are right.
-/
import Derived.Test.YtjcbaiohpdihoaaGreatDoorPt
import Derived.Test.YtjcbaiohpdihoaaGreatDoorRs
import Derived.Test.YtjcbaiohpdihoaaGreatDoorPu
import Derived.Test.YtjcbaiohpdihoaaGreatDoorCu
namespace Go.Proofs.YtjcbaiohpdihoaaGreatDoor.Lf
open Go.Proofs.YtjcbaiohpdihoaaGreatDoor.Nu
open Go.RowKit
set_option linter.unusedVariables false
set_option linter.unusedSimpArgs false
set_option maxRecDepth 100000

theorem filter_yes {p : Ent → Bool} {L : List Ent} {j : Nat} {x : Ent} (h : L[j]? = some x) (hp : p x = true) : (L.take (j + 1)).filter p = (L.take j).filter p ++ [x] := by
  rw [take_snoc h, List.filter_append, List.filter_cons_of_pos hp, List.filter_nil]
theorem filter_no {p : Ent → Bool} {L : List Ent} {j : Nat} {x : Ent} (h : L[j]? = some x) (hp : p x = false) : (L.take (j + 1)).filter p = (L.take j).filter p := by
  rw [take_snoc h, List.filter_append, List.filter_cons_of_neg (by rw [hp]; simp), List.filter_nil, List.append_nil]
theorem filter_le (p : Ent → Bool) (L : List Ent) (j : Nat) : ((L.take j).filter p).length ≤ (L.filter p).length := List.Sublist.length_le ((List.take_sublist j L).filter p)
theorem two_filters {p q : Ent → Bool} (h : ∀ x, p x = true → q x = false) : ∀ L : List Ent, (L.filter p).length + (L.filter q).length ≤ L.length
  | [] => by simp
  | x :: r => by
    have ih := two_filters h r
    cases hp : p x with
    | true => rw [List.filter_cons_of_pos hp, List.filter_cons_of_neg (by rw [h x hp]; simp), List.length_cons, List.length_cons]; omega
    | false =>
      rw [List.filter_cons_of_neg (by rw [hp]; simp)]
      cases hq : q x with
      | true => rw [List.filter_cons_of_pos hq, List.length_cons, List.length_cons]; omega
      | false => rw [List.filter_cons_of_neg (by rw [hq]; simp), List.length_cons]; omega

set_option maxHeartbeats 1000000 in
theorem rTake_any (w : World) (v : Value) (L : List Ent) (key : ByteArray) (hl : LiesE w v L) (hz : L.length ≤ 4398046510976) :
    Calls Tryz.prog 40 #[v, .string key] w fun e w' => ∃ a c, e = .returned (.slice a (others L key).length c) ∧ RowE w' w.heap.size (.slice a (others L key).length c) (others L key) ∧ Below w.heap.size w w' := by
  have HL := hid hl
  obtain ⟨a, c, e1⟩ := hl.form
  subst e1
  obtain ⟨n, hn⟩ : ∃ n, L.length = n := ⟨_, rfl⟩
  have HN := hid hn
  rw [hn] at HL hz ⊢
  clear hl hn
  unfold others
  have HP : Hid (∀ x : Ent, (fun x : Ent => !decide (x.k = key)) x = !decide (x.k = key)) := fun _ => rfl
  generalize (fun x : Ent => !decide (x.k = key)) = p at *
  have HLE : Hid (∀ j, ((L.take j).filter p).length ≤ n) := fun j => by have h1 := filter_le p L j; have h2 := List.length_filter_le p L; have h3 := HN.out; omega
  obtain ⟨r, hr⟩ : ∃ r, (L.filter p).length = r := ⟨_, rfl⟩
  have HR := hid hr
  rw [hr]
  clear hr
  go_enter Tryz.func40, Tryz.ntmps40
  go_wp2_with fail
  go_loopw [5, 9] (fun o i wr => ∃ (j m : Nat) (ba : Option Addr) (bc : Nat), j ≤ n ∧ i = .int .i64 (j : Nat) ∧ o = .slice ba m bc ∧ Hid (((L.take j).filter p).length = m) ∧ Hid (RowE wr w.heap.size (.slice ba m bc) ((L.take j).filter p)) ∧ Hid (Below w.heap.size w wr)) (fun _ i _ => n - (intOf i).toNat)
  case atStart => exact ⟨0, 0, none, 0, Nat.zero_le _, rfl, rfl, (by show _ = _; simp), RowE.nil _ _, Below.refl _ _⟩
  case round =>
    obtain ⟨j, m, ba, bc, hj, rfl, rfl, HLN, HO, HB⟩ := hrel
    by_cases hjm : j < n
    · have hji : (j : Int) < (n : Int) := by omega
      obtain ⟨x, hx⟩ : ∃ x, L[j]? = some x := ⟨_, List.getElem?_eq_getElem (by rw [HN.out]; exact hjm)⟩
      obtain ⟨b, off, e1, hbl, c1, c2, s1, s2⟩ := (HL.out.on HB.out).at hx
      subst e1
      have HX := hid hx
      clear hx
      cases hk : p x with
      | true =>
        have HF : Hid ((L.take (j + 1)).filter p = ((L.take j).filter p) ++ [x]) := by show _ = _; rw [filter_yes HX.out hk]
        have hml : m ≤ 4398046510990 := by rw [← HLN.out]; exact (by have := HLE.out j; omega)
        have hba : Below wr.heap.size wr (wr.alloc (.cells #[.string x.k, .string x.v] 59)) := (Below.refl _ wr).alloc (Nat.le_refl _) _
        have HOa := hid (HO.out.on hba)
        have HBa := hid (HB.out.trans (hba.mono HB.out.size))
        have HLx := hid (LiesE.one wr x s1 s2)
        have hcp : (x.k.toList == key.toList) = false := by rw [eq_iff]; have := HP.out x; rw [hk] at this; simpa using this.symm
        clear HX hk hba HO HB hbl s1 s2
        obtain ⟨xk, xv⟩ := x
        simp only at c1 c2 hcp HOa HBa HLx HF
        go_wp2_with (at_builtin; refine wpList_more _ w rfl (.tmp 19) (.tmp 24) rfl (.slice ba m bc) ((L.take j).filter p) m HLN.out rfl HOa.out HBa.out (.slice (some ⟨wr.heap.size, 0, none⟩) 1 1) [⟨xk, xv⟩] 1 rfl rfl HLx.out (by omega) ?_; intro va vc w6 hr6 hb6 _; have HO6 := hid hr6; have HB6 := hid hb6; clear hr6 hb6)
        go_roundw
        case rel => exact ⟨j + 1, m + 1, va, vc, by omega, by go_num, rfl, (by show _ = _; rw [HF.out, List.length_append, HLN.out]; rfl), (by show RowE _ _ _ _; rw [HF.out]; exact HO6.out), HB6⟩
        case measure => simp [intOf]; omega
      | false =>
        have HF : Hid ((L.take (j + 1)).filter p = (L.take j).filter p) := by show _ = _; rw [filter_no HX.out hk]
        have hcp : (x.k.toList == key.toList) = true := by rw [eq_iff]; have := HP.out x; rw [hk] at this; simpa using this.symm
        clear HX hk hbl s1 s2
        obtain ⟨xk, xv⟩ := x
        simp only at c1 c2 hcp
        go_wp2_with fail
        go_roundw
        case rel => exact ⟨j + 1, m, ba, bc, by omega, by go_num, rfl, (by show _ = _; rw [HF.out]; exact HLN.out), (by show RowE _ _ _ _; rw [HF.out]; exact HO.out), HB⟩
        case measure => simp [intOf]; omega
    · obtain rfl : j = n := by omega
      have hji : ¬ (j : Int) < (j : Int) := by omega
      have hE : L.take j = L := List.take_of_length_le (by rw [HN.out]; exact Nat.le_refl _)
      rw [hE] at HLN HO
      clear hE
      obtain rfl : m = r := by rw [← HLN.out, HR.out]
      go_wp2_with fail
      go_ret
      exact ⟨_, _, rfl, HO.out, HB.out⟩

set_option maxHeartbeats 2000000 in
theorem rPut_any (w : World) (v : Value) (L : List Ent) (key value : ByteArray) (hl : LiesE w v L) (hz : L.length ≤ 4398046510976) (hk : Sml key) (hv : Sml value) :
    Calls Tryz.prog 29 #[v, .string key, .string value] w fun e w' => ∃ a c, e = .returned (.slice a (below L key ++ [(⟨key, value⟩ : Ent)] ++ above L key).length c) ∧ RowE w' w.heap.size (.slice a (below L key ++ [(⟨key, value⟩ : Ent)] ++ above L key).length c) (below L key ++ [(⟨key, value⟩ : Ent)] ++ above L key) ∧ Below w.heap.size w w' := by
  have HL := hid hl
  obtain ⟨a, c, e1⟩ := hl.form
  subst e1
  obtain ⟨n, hn⟩ : ∃ n, L.length = n := ⟨_, rfl⟩
  have HN := hid hn
  rw [hn] at HL hz ⊢
  clear hl hn
  have HKV := hid (And.intro hk hv)
  clear hk hv
  unfold below above
  have HP : Hid (∀ x : Ent, (fun x : Ent => lt x.k key) x = lt x.k key) := fun _ => rfl
  have HQ : Hid (∀ x : Ent, (fun x : Ent => lt key x.k) x = lt key x.k) := fun _ => rfl
  generalize (fun x : Ent => lt x.k key) = p at *
  generalize (fun x : Ent => lt key x.k) = q at *
  have HT := hid (two_filters (p := p) (q := q) (fun x hx => by rw [HQ.out]; rw [HP.out] at hx; exact lt_asymm hx) L)
  have HLE : Hid (∀ j, ((L.take j).filter p).length ≤ n) := fun j => by have h1 := filter_le p L j; have h2 := List.length_filter_le p L; have h3 := HN.out; omega
  have HLQ : Hid (∀ j, (L.filter p ++ [(⟨key, value⟩ : Ent)] ++ (L.take j).filter q).length ≤ n + 1) := fun j => by have h1 := filter_le q L j; have h2 := HT.out; have h3 := HN.out; rw [List.length_append, List.length_append, List.length_singleton]; omega
  obtain ⟨r, hr⟩ : ∃ r, (L.filter p ++ [(⟨key, value⟩ : Ent)] ++ L.filter q).length = r := ⟨_, rfl⟩
  have HR := hid hr
  rw [hr]
  clear hr
  go_enter Tryz.func29, Tryz.ntmps29
  go_wp2_with fail
  go_loopw [7, 12] (fun o i wr => ∃ (j m : Nat) (ba : Option Addr) (bc : Nat), j ≤ n ∧ i = .int .i64 (j : Nat) ∧ o = .slice ba m bc ∧ Hid (((L.take j).filter p).length = m) ∧ Hid (RowE wr w.heap.size (.slice ba m bc) ((L.take j).filter p)) ∧ Hid (Below w.heap.size w wr)) (fun _ i _ => n - (intOf i).toNat)
  case atStart => exact ⟨0, 0, none, 0, Nat.zero_le _, rfl, rfl, (by show _ = _; simp), RowE.nil _ _, Below.refl _ _⟩
  case round =>
    obtain ⟨j, m, ba, bc, hj, rfl, rfl, HLN, HO, HB⟩ := hrel
    by_cases hjm : j < n
    · have hji : (j : Int) < (n : Int) := by omega
      obtain ⟨x, hx⟩ : ∃ x, L[j]? = some x := ⟨_, List.getElem?_eq_getElem (by rw [HN.out]; exact hjm)⟩
      obtain ⟨b, off, e1, hbl, c1, c2, s1, s2⟩ := (HL.out.on HB.out).at hx
      subst e1
      have HX := hid hx
      clear hx
      cases hk : p x with
      | true =>
        have HF : Hid ((L.take (j + 1)).filter p = ((L.take j).filter p) ++ [x]) := by show _ = _; rw [filter_yes HX.out hk]
        have hml : m ≤ 4398046510990 := by rw [← HLN.out]; exact (by have := HLE.out j; omega)
        have hba : Below wr.heap.size wr (wr.alloc (.cells #[.string x.k, .string x.v] 59)) := (Below.refl _ wr).alloc (Nat.le_refl _) _
        have HOa := hid (HO.out.on hba)
        have HBa := hid (HB.out.trans (hba.mono HB.out.size))
        have HLx := hid (LiesE.one wr x s1 s2)
        have hcp : Op.bytesLess x.k.toList key.toList = true := by have := HP.out x; rw [hk] at this; exact this.symm
        clear HX hk hba HO HB hbl s1 s2
        obtain ⟨xk, xv⟩ := x
        simp only at c1 c2 hcp HOa HBa HLx HF
        go_wp2_with (at_builtin; refine wpList_more _ w rfl (.tmp 22) (.tmp 27) rfl (.slice ba m bc) ((L.take j).filter p) m HLN.out rfl HOa.out HBa.out (.slice (some ⟨wr.heap.size, 0, none⟩) 1 1) [⟨xk, xv⟩] 1 rfl rfl HLx.out (by omega) ?_; intro va vc w6 hr6 hb6 _; have HO6 := hid hr6; have HB6 := hid hb6; clear hr6 hb6)
        go_roundw
        case rel => exact ⟨j + 1, m + 1, va, vc, by omega, by go_num, rfl, (by show _ = _; rw [HF.out, List.length_append, HLN.out]; rfl), (by show RowE _ _ _ _; rw [HF.out]; exact HO6.out), HB6⟩
        case measure => simp [intOf]; omega
      | false =>
        have HF : Hid ((L.take (j + 1)).filter p = (L.take j).filter p) := by show _ = _; rw [filter_no HX.out hk]
        have hcp : Op.bytesLess x.k.toList key.toList = false := by have := HP.out x; rw [hk] at this; exact this.symm
        clear HX hk hbl s1 s2
        obtain ⟨xk, xv⟩ := x
        simp only at c1 c2 hcp
        go_wp2_with fail
        go_roundw
        case rel => exact ⟨j + 1, m, ba, bc, by omega, by go_num, rfl, (by show _ = _; rw [HF.out]; exact HLN.out), (by show RowE _ _ _ _; rw [HF.out]; exact HO.out), HB⟩
        case measure => simp [intOf]; omega
    · obtain rfl : j = n := by omega
      have hji : ¬ (j : Int) < (j : Int) := by omega
      have hE : L.take j = L := List.take_of_length_le (by rw [HN.out]; exact Nat.le_refl _)
      rw [hE] at HLN HO
      clear hE
      have HKL := hid (HLE.out j)
      rw [List.take_of_length_le (by rw [HN.out]; exact Nat.le_refl _), HLN.out] at HKL
      have hmj := HKL.out
      have hba : Below wr.heap.size wr (wr.alloc (.cells #[.string key, .string value] 59)) := (Below.refl _ wr).alloc (Nat.le_refl _) _
      have HOa := hid (HO.out.on hba)
      have HBa := hid (HB.out.trans (hba.mono HB.out.size))
      have HLx := hid (LiesE.one wr ⟨key, value⟩ HKV.out.1 HKV.out.2)
      simp only at HOa HBa HLx
      clear hba HO HB HKL
      go_wp2_with (at_builtin; refine wpList_more _ w rfl (.tmp 30) (.tmp 34) rfl (.slice ba m bc) (L.filter p) m HLN.out rfl HOa.out HBa.out (.slice (some ⟨wr.heap.size, 0, none⟩) 1 1) [(⟨key, value⟩ : Ent)] 1 rfl rfl HLx.out (by omega) ?_; intro va0 vc0 w6 hr6 hb6 _; have HO6 := hid hr6; have HB6 := hid hb6; clear hr6 hb6)
      clear HOa HBa HLx
      have HM6 : Hid ((L.filter p ++ [(⟨key, value⟩ : Ent)] ++ (L.take 0).filter q).length = m + 1) := by show _ = _; rw [List.take_zero, List.filter_nil, List.append_nil, List.length_append, HLN.out]; rfl
      have HO7 : Hid (RowE w6 w.heap.size (.slice va0 (m + 1) vc0) (L.filter p ++ [(⟨key, value⟩ : Ent)] ++ (L.take 0).filter q)) := by show RowE _ _ _ _; rw [List.take_zero, List.filter_nil, List.append_nil]; exact HO6.out
      clear HO6 HLN
      obtain ⟨m1, hm1⟩ : ∃ m1, m + 1 = m1 := ⟨_, rfl⟩
      rw [hm1] at HM6 HO7 ⊢
      clear hm1 hmj
      obtain ⟨PR, hPR⟩ : ∃ PR, L.filter p ++ [(⟨key, value⟩ : Ent)] = PR := ⟨_, rfl⟩
      rw [hPR] at HM6 HO7 HR HLQ
      have HPR := hid hPR
      clear hPR hji hjm
      obtain ⟨n, hnj⟩ : ∃ n, n = j := ⟨_, rfl⟩
      subst hnj
      go_loopw [7, 38] (fun o i wr => ∃ (j m : Nat) (ba : Option Addr) (bc : Nat), j ≤ n ∧ i = .int .i64 (j : Nat) ∧ o = .slice ba m bc ∧ Hid ((PR ++ (L.take j).filter q).length = m) ∧ Hid (RowE wr w.heap.size (.slice ba m bc) (PR ++ (L.take j).filter q)) ∧ Hid (Below w.heap.size w wr)) (fun _ i _ => n - (intOf i).toNat)
      case atStart => exact ⟨0, m1, va0, vc0, Nat.zero_le _, rfl, rfl, HM6, HO7, HB6⟩
      case round =>
        obtain ⟨j, m, ba, bc, hj, rfl, rfl, HLN, HO, HB⟩ := hrel
        clear HM6 HO7 HB6
        by_cases hjm : j < n
        · have hji : (j : Int) < (n : Int) := by omega
          obtain ⟨x, hx⟩ : ∃ x, L[j]? = some x := ⟨_, List.getElem?_eq_getElem (by rw [HN.out]; exact hjm)⟩
          obtain ⟨b, off, e1, hbl, c1, c2, s1, s2⟩ := (HL.out.on HB.out).at hx
          subst e1
          have HX := hid hx
          clear hx
          cases hk : q x with
          | true =>
            have HF : Hid (PR ++ (L.take (j + 1)).filter q = (PR ++ (L.take j).filter q) ++ [x]) := by show _ = _; rw [filter_yes HX.out hk, List.append_assoc]
            have hml : m ≤ 4398046510990 := by rw [← HLN.out]; exact (by have := HLQ.out j; omega)
            have hba : Below wr.heap.size wr (wr.alloc (.cells #[.string x.k, .string x.v] 59)) := (Below.refl _ wr).alloc (Nat.le_refl _) _
            have HOa := hid (HO.out.on hba)
            have HBa := hid (HB.out.trans (hba.mono HB.out.size))
            have HLx := hid (LiesE.one wr x s1 s2)
            have hq : lt key x.k = true := by have := HQ.out x; rw [hk] at this; exact this.symm
            have hcp : Op.bytesLess x.k.toList key.toList = false := lt_asymm hq
            have hcp2 : (x.k.toList == key.toList) = false := by rw [eq_iff]; exact decide_eq_false (lt_ne hq).symm
            clear hq
            clear HX hk hba HO HB hbl s1 s2
            obtain ⟨xk, xv⟩ := x
            simp only at c1 c2 hcp hcp2 HOa HBa HLx HF
            go_wp2_with (at_builtin; refine wpList_more _ w rfl (.tmp 48) (.tmp 53) rfl (.slice ba m bc) (PR ++ (L.take j).filter q) m HLN.out rfl HOa.out HBa.out (.slice (some ⟨wr.heap.size, 0, none⟩) 1 1) [⟨xk, xv⟩] 1 rfl rfl HLx.out (by omega) ?_; intro va vc w6 hr6 hb6 _; have HO6 := hid hr6; have HB6 := hid hb6; clear hr6 hb6)
            go_roundw
            case rel => exact ⟨j + 1, m + 1, va, vc, by omega, by go_num, rfl, (by show _ = _; rw [HF.out, List.length_append, HLN.out]; rfl), (by show RowE _ _ _ _; rw [HF.out]; exact HO6.out), HB6⟩
            case measure => simp [intOf]; omega
          | false =>
            have HF : Hid (PR ++ (L.take (j + 1)).filter q = PR ++ (L.take j).filter q) := by show _ = _; rw [filter_no HX.out hk]
            have hq : Op.bytesLess x.k.toList key.toList = true ∨ (Op.bytesLess x.k.toList key.toList = false ∧ (x.k.toList == key.toList) = true) := by
              have h1 := HQ.out x
              rw [hk] at h1
              rcases lt_total x.k key with h2 | h2 | h2
              · exact .inl h2
              · refine .inr ⟨?_, by rw [eq_iff]; exact decide_eq_true h2⟩
                rw [h2]
                exact lt_self key
              · rw [h2] at h1
                cases h1
            rcases hq with hcp | ⟨hcp, hcp2⟩
            · skip
              clear HX hk hbl s1 s2
              obtain ⟨xk, xv⟩ := x
              simp only at c1 c2 hcp
              go_wp2_with fail
              go_roundw
              case rel => exact ⟨j + 1, m, ba, bc, by omega, by go_num, rfl, (by show _ = _; rw [HF.out]; exact HLN.out), (by show RowE _ _ _ _; rw [HF.out]; exact HO.out), HB⟩
              case measure => simp [intOf]; omega
            · skip
              clear HX hk hbl s1 s2
              obtain ⟨xk, xv⟩ := x
              simp only at c1 c2 hcp hcp2
              go_wp2_with fail
              go_roundw
              case rel => exact ⟨j + 1, m, ba, bc, by omega, by go_num, rfl, (by show _ = _; rw [HF.out]; exact HLN.out), (by show RowE _ _ _ _; rw [HF.out]; exact HO.out), HB⟩
              case measure => simp [intOf]; omega
        · obtain rfl : j = n := by omega
          have hji : ¬ (j : Int) < (j : Int) := by omega
          have hE : L.take j = L := List.take_of_length_le (by rw [HN.out]; exact Nat.le_refl _)
          rw [hE] at HLN HO
          clear hE
          obtain rfl : m = r := by rw [← HLN.out, HR.out]
          go_wp2_with fail
          go_ret
          exact ⟨_, _, rfl, (by rw [show L.filter p ++ (⟨key, value⟩ : Ent) :: L.filter q = L.filter p ++ [(⟨key, value⟩ : Ent)] ++ L.filter q by simp, HPR.out]; exact HO.out), HB.out⟩
end Go.Proofs.YtjcbaiohpdihoaaGreatDoor.Lf

namespace Go.Proofs.YtjcbaiohpdihoaaGreatDoor.Lf
open Go.Proofs.YtjcbaiohpdihoaaGreatDoor.Nu
open Go.RowKit
set_option linter.unusedVariables false
set_option linter.unusedSimpArgs false
set_option maxRecDepth 100000

theorem lowA_ex (L : List Ent) (key : ByteArray) : ∀ j, j ≤ L.length → ∃ n, lowA L key j n
  | 0, _ => ⟨0, lowA_zero L key⟩
  | j + 1, h => by
    obtain ⟨n, hn⟩ := lowA_ex L key j (by omega)
    obtain ⟨x, hx⟩ : ∃ x, L[j]? = some x := ⟨_, List.getElem?_eq_getElem (by omega)⟩
    cases hk : lt x.k key with
    | true => exact ⟨_, lowA_yes hn hx hk⟩
    | false => exact ⟨_, lowA_no hn hx hk⟩
theorem at_ex {L : List Ent} (hc : ckE none L = 0) (key : ByteArray) : ∃ i, i ≤ L.length ∧ IsAt L key i := by
  obtain ⟨n, hn⟩ := lowA_ex L key L.length (Nat.le_refl _)
  exact ⟨n, hn.1, lowA_is hn (mono_of hc key)⟩
def putL (L : List Ent) (key value : ByteArray) : List Ent := below L key ++ [⟨key, value⟩] ++ above L key
theorem put_right (w : World) (v : Value) (L : List Ent) (key value : ByteArray) (hc : ckE none L = 0) (hl : LiesE w v L) (hz : L.length ≤ 4398046510976) (hk : Sml key) (hv : Sml value) (p : Nat) (hp : (putL L key value).length = p) :
    Calls Tryz.prog 149 #[v, .string key, .string value] w fun e w' => ∃ a c, e = .returned (.slice a p c) ∧ RowE w' w.heap.size (.slice a p c) (putL L key value) ∧ Below w.heap.size w w' := by
  refine (put_any w v L key value hl hz hk hv).mono ?_
  rintro e w' ⟨i, a, c, hi, hm, rfl, hr, hb⟩
  have hA := hm (mono_of hc key)
  rw [put_is hc hA] at hr ⊢
  rw [← hp]
  exact ⟨a, c, rfl, hr, hb⟩
theorem take_right (w : World) (v : Value) (L : List Ent) (key : ByteArray) (hc : ckE none L = 0) (hl : LiesE w v L) (hz : L.length ≤ 4398046510976) (q : Nat) (hq : (others L key).length = q) :
    Calls Tryz.prog 154 #[v, .string key] w fun e w' => ∃ a c, e = .returned (.tuple #[.slice a q c, .bool (hasL L key)]) ∧ RowE w' w.heap.size (.slice a q c) (others L key) ∧ Below w.heap.size w w' := by
  refine (take_any w v L key hl (by omega)).mono ?_
  rintro e w' ⟨i, a, c, hi, hm, rfl, hr, hb⟩
  have hA := hm (mono_of hc key)
  rw [← others_is hc hA] at hr ⊢
  rw [fnd_has hc hA, ← hq]
  exact ⟨a, c, rfl, hr, hb⟩
theorem putL_len {L : List Ent} (hc : ckE none L = 0) (key value : ByteArray) : (putL L key value).length ≤ L.length + 1 := by
  obtain ⟨i, hi, hA⟩ := at_ex hc key
  unfold putL
  rw [← put_is (value := value) hc hA]
  exact put_len
theorem putL_sml {L : List Ent} (h : SmlL L) {key value : ByteArray} (hk : Sml key) (hv : Sml value) : SmlL (putL L key value) := ((h.filter _).append (.one hk hv)).append (h.filter _)
theorem take_put (w : World) (v : Value) (L : List Ent) (key value : ByteArray) (hc : ckE none L = 0) (hl : LiesE w v (putL L key value)) (hz : L.length ≤ 4398046510976) (q : Nat) (hq : (others L key).length = q) :
    Calls Tryz.prog 154 #[v, .string key] w fun e w' => ∃ a c, e = .returned (.tuple #[.slice a q c, .bool true]) ∧ RowE w' w.heap.size (.slice a q c) (others L key) ∧ Below w.heap.size w w' := by
  have hlen := putL_len hc key value
  obtain ⟨i, hi, hA⟩ := at_ex hc key
  refine (take_any w v _ key hl (by omega)).mono ?_
  have hP : putL L key value = putAt L i (fd (fnd L key i)) ⟨key, value⟩ := (put_is hc hA).symm
  rw [hP]
  obtain ⟨p1, p2, p3⟩ := put_at (value := value) hc hA hi
  rintro e w' ⟨j, a, c, hj, hm, rfl, hr, hb⟩
  obtain rfl : j = i := (hm p1).uniq p2 hj (by have := (List.getElem?_eq_some_iff.1 p3).1; omega)
  have hf : fnd (putAt L j (fd (fnd L key j)) ⟨key, value⟩) key j = true := fnd_iff.2 ⟨_, p3, rfl⟩
  rw [hf, show fd true = 1 from rfl, put_out L j _ _ hi, ← others_is hc hA] at hr ⊢
  rw [← hq]
  exact ⟨a, c, rfl, hr, hb⟩
end Go.Proofs.YtjcbaiohpdihoaaGreatDoor.Lf

namespace Go.Proofs.YtjcbaiohpdihoaaGreatDoor.Lf
open Go.Proofs.YtjcbaiohpdihoaaGreatDoor.Nu
open Go.RowKit
set_option linter.unusedVariables false
set_option linter.unusedSimpArgs false
set_option maxRecDepth 100000

theorem best_ex (L : List Ent) : ∀ j, ∃ b, Best L (j + 2) b
  | 0 => ⟨1, Best.one L⟩
  | j + 1 => by
    obtain ⟨b, hb⟩ := best_ex L j
    by_cases h : gre L (j + 2) < gre L b
    · exact ⟨_, hb.yes (by omega) h⟩
    · exact ⟨_, hb.no h⟩
theorem cut_ex (L : List Ent) : ∃ k, cutAt L k := by
  by_cases h : L.length < 2
  · exact ⟨_, .inl ⟨h, rfl⟩⟩
  · obtain ⟨b, hb⟩ := best_ex L (L.length - 2)
    rw [show L.length - 2 + 2 = L.length by omega] at hb
    exact ⟨b, .inr ⟨by omega, hb⟩⟩
theorem cut_right (w : World) (v : Value) (L : List Ent) (k p q : Nat) (hc : ckE none L = 0) (hl : LiesE w v L) (hz : L.length ≤ 4398046511000) (hk : cutAt L k) (hp : (L.take k).length = p) (hq : (L.drop k).length = q) :
    Calls Tryz.prog 212 #[v] w fun e w' => ∃ a c a2 c2, e = .returned (.tuple #[.slice a p c, .slice a2 q c2]) ∧ RowE w' w.heap.size (.slice a p c) (L.take k) ∧ RowE w' w.heap.size (.slice a2 q c2) (L.drop k) ∧ Below w.heap.size w w' := by
  refine (cut_any w v L hl hz).mono ?_
  rintro e w' ⟨j, a, c, a2, c2, hj, hm, rfl, hr, hr2, _, hb⟩
  obtain rfl : j = k := (hm hc).uniq hk
  rw [hp] at hr ⊢
  rw [hq] at hr2 ⊢
  exact ⟨a, c, a2, c2, rfl, hr, hr2, hb⟩
theorem run_one (a : Option Addr) (n c i : Nat) (hi : i + 1 ≤ c) (w : World) : (Instr.slice 31 (.slice a n c) (some (.int .i64 (i : Nat))) (some (.int .i64 ((i : Int) + 1))) none).run Tryz.prog w = .ok (.slice (sA a i c) 1 (c - i)) w := by
  have ht : Tryz.prog.underlying 31 = some (.slice 59) := Tryz.underlying31
  have hz : (sizeOf (Tryz.prog.elem 31)).run Tryz.prog w = .ok 2 w := by kernel_rfl
  rw [run_slice_lh w 31 a n c (by unfold Program.elem; rw [ht]) .i64 .i64 i ((i : Int) + 1) (by omega) (by omega) (by omega), hz]
  have h1 : ((i : Int) + 1).toNat = i + 1 := by omega
  have h2 : i + 1 - i = 1 := by omega
  simp [Result.andThen, sliced, sA, h1, h2]
theorem LiesE.one_at {w : World} {a : Option Addr} {n c : Nat} {L : List Ent} (h : LiesE w (.slice a n c) L) {i : Nat} {x : Ent} (hx : L[i]? = some x) : LiesE w (.slice (sA a i c) 1 (c - i)) [x] := by
  have hi := (List.getElem?_eq_some_iff.1 hx).1
  have := h.sub i (i + 1) (by omega) (by omega)
  rw [drop_cons hx, show i + 1 - i = 1 by omega] at this
  have e : sliced a i (i + 1) c 2 = .slice (sA a i c) 1 (c - i) := by
    unfold sliced sA
    rw [show i + 1 - i = 1 by omega]
  rw [e] at this
  exact this
theorem szL_one (x : Ent) (h : x.sz ≤ 98) : szL [x] = ((2 + x.sz : Nat) : Int) := by
  unfold szL
  rw [wr64_in (by simp [sumE]; omega)]
  simp [sumE]
end Go.Proofs.YtjcbaiohpdihoaaGreatDoor.Lf
