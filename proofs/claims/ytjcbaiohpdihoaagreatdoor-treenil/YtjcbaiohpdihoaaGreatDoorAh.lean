/-
  The document's At and Has.
-/
import Derived.Test.YtjcbaiohpdihoaaGreatDoorRs
import Derived.Test.YtjcbaiohpdihoaaGreatDoorFe
namespace Go.Proofs.YtjcbaiohpdihoaaGreatDoor.Lf
open Go.Proofs.YtjcbaiohpdihoaaGreatDoor.Nu
open Go.RowKit
set_option linter.unusedVariables false
set_option linter.unusedSimpArgs false
set_option maxRecDepth 100000

def unp (l : List UInt8) : Option (Nat × List Ent) :=
  if (rdS l).2.2 = true ∧ packE ((rdS l).1 : Nat) (rdS l).2.1 = 0 ∧ packS ((rdS l).1 : Nat) (rdS l).2.1 = bt l then some ((rdS l).1, (rdS l).2.1) else none
theorem other_texts {s t : ByteArray} (h : ¬ s = t) : (s.toList == t.toList) = false := by
  rw [eq_iff]; exact decide_eq_false h
theorem rdS_sml (l : List UInt8) : SmlL (rdS l).2.1 ∧ (rdS l).2.1.length ≤ 255 := by
  refine ⟨goR_sml _ _, ?_⟩
  show (goR _ _).1.length ≤ 255
  rw [goR_len]
  exact (numb_len _ _).1

set_option maxHeartbeats 1000000 in
theorem unpack_any (w : World) (l : List UInt8) (hl : l.length ≤ 140737488351232) :
    Calls Tryz.prog 166 #[.string (bt l)] w fun e w' => ∃ a c, e = .returned (.tuple #[.int .i64 (((unp l).getD (0, [])).1 : Nat), .slice a ((unp l).getD (0, [])).2.length c, .int .i64 (if unp l = none then 3 else 0)]) ∧ RowE w' w.heap.size (.slice a ((unp l).getD (0, [])).2.length c) ((unp l).getD (0, [])).2 ∧ Below w.heap.size w w' := by
  have hr := read_any w l hl
  obtain ⟨hs, hn⟩ := rdS_sml l
  have HLS := hid hs
  clear hs
  unfold unp
  generalize (rdS l).1 = kd at *
  generalize (rdS l).2.2 = ok at *
  generalize (rdS l).2.1 = M at *
  obtain ⟨n, hnn⟩ : ∃ n, M.length = n := ⟨_, rfl⟩
  have HN := hid hnn
  rw [hnn] at hr hn
  cases ok with
  | false =>
    have e1 : (if false = true ∧ packE (kd : Int) M = 0 ∧ packS (kd : Int) M = bt l then some (kd, M) else none) = (none : Option (Nat × List Ent)) := if_neg (fun h => by cases h.1)
    rw [e1]
    have HRW : Hid (∀ w1 : World, RowE w1 w.heap.size (.slice none 0 0) []) := fun w1 => RowE.nil w1 _
    clear e1 hl hnn
    go_enter Tryz.func166, Tryz.ntmps166
    go_wp2_with (go_at_call 225; refine hr.mono ?_; clear hr; rintro e w1 ⟨a1, c1, rfl, hr1, hb1⟩; have HB1 := hid hb1; clear hb1 hr1)
    go_ret3
    exact ⟨none, 0, rfl, HRW.out _, HB1.out⟩
  | true =>
    have HPK : Hid (∀ (w1 : World) (v : Value), RowE w1 w.heap.size v M → Calls Tryz.prog 75 #[.int .i64 (kd : Nat), v] w1 fun e w' => e = .returned (.tuple #[.string (packS (kd : Int) M), .int .i64 (packE (kd : Int) M : Nat)]) ∧ Below w1.heap.size w1 w') := fun w1 v h1 => pack_any w1 kd v M (h1.lies HLS.out) (by omega)
    by_cases he : packE (kd : Int) M = 0
    · rw [he] at HPK
      by_cases hp : packS (kd : Int) M = bt l
      · have e1 : (if true = true ∧ packE (kd : Int) M = 0 ∧ packS (kd : Int) M = bt l then some (kd, M) else none) = some (kd, M) := if_pos ⟨rfl, he, hp⟩
        rw [e1]
        show Calls Tryz.prog 166 #[.string (bt l)] w fun e w' => ∃ a c, e = .returned (.tuple #[.int .i64 (kd : Nat), .slice a M.length c, .int .i64 0]) ∧ RowE w' w.heap.size (.slice a M.length c) M ∧ Below w.heap.size w w'
        rw [hnn]
        rw [hp] at HPK
        clear e1 hl hnn he hp
        generalize bt l = s at *
        go_enter Tryz.func166, Tryz.ntmps166
        go_wp2_with (first
          | (go_at_call 225; refine hr.mono ?_; clear hr; rintro e w1 ⟨a1, c1, rfl, hr1, hb1⟩; have HB1 := hid hb1; have HR1 := hid hr1; clear hb1 hr1)
          | (go_at_call 75; refine (HPK.out _ _ HR1.out).mono ?_; clear HPK; rintro e w2 ⟨rfl, hb2⟩; have HB2 := hid (HB1.out.trans (hb2.mono HB1.out.size)); have HR2 := hid (HR1.out.on hb2); clear hb2 HB1 HR1))
        go_ret3
        exact ⟨a1, c1, rfl, HR2.out, HB2.out⟩
      · have e1 : (if true = true ∧ packE (kd : Int) M = 0 ∧ packS (kd : Int) M = bt l then some (kd, M) else none) = (none : Option (Nat × List Ent)) := if_neg (fun h => hp h.2.2)
        rw [e1]
        have hot := other_texts hp
        have HRW : Hid (∀ w1 : World, RowE w1 w.heap.size (.slice none 0 0) []) := fun w1 => RowE.nil w1 _
        clear e1 hl hnn he hp
        generalize bt l = s at *
        generalize packS (kd : Int) M = s2 at *
        go_enter Tryz.func166, Tryz.ntmps166
        go_wp2_with (first
          | (go_at_call 225; refine hr.mono ?_; clear hr; rintro e w1 ⟨a1, c1, rfl, hr1, hb1⟩; have HB1 := hid hb1; have HR1 := hid hr1; clear hb1 hr1)
          | (go_at_call 75; refine (HPK.out _ _ HR1.out).mono ?_; clear HPK; rintro e w2 ⟨rfl, hb2⟩; have HB2 := hid (HB1.out.trans (hb2.mono HB1.out.size)); clear hb2 HB1 HR1))
        go_ret3
        exact ⟨none, 0, rfl, HRW.out _, HB2.out⟩
    · have e1 : (if true = true ∧ packE (kd : Int) M = 0 ∧ packS (kd : Int) M = bt l then some (kd, M) else none) = (none : Option (Nat × List Ent)) := if_neg (fun h => he h.2.1)
      rw [e1]
      have HRW : Hid (∀ w1 : World, RowE w1 w.heap.size (.slice none 0 0) []) := fun w1 => RowE.nil w1 _
      clear e1 hl hnn
      generalize bt l = s at *
      generalize packS (kd : Int) M = s2 at *
      generalize packE (kd : Int) M = q at *
      have d5 : ((q : Int) == 0) = false := beq_eq_false_iff_ne.2 (by omega)
      have d6 : ((q : Int) != 0) = true := by simp; omega
      have d7 : ¬ (q : Int) = 0 := by omega
      clear he
      go_enter Tryz.func166, Tryz.ntmps166
      go_wp2_with (first
        | (go_at_call 225; refine hr.mono ?_; clear hr; rintro e w1 ⟨a1, c1, rfl, hr1, hb1⟩; have HB1 := hid hb1; have HR1 := hid hr1; clear hb1 hr1)
        | (go_at_call 75; refine (HPK.out _ _ HR1.out).mono ?_; clear HPK; rintro e w2 ⟨rfl, hb2⟩; have HB2 := hid (HB1.out.trans (hb2.mono HB1.out.size)); clear hb2 HB1 HR1))
      go_ret3
      exact ⟨none, 0, rfl, HRW.out _, HB2.out⟩
end Go.Proofs.YtjcbaiohpdihoaaGreatDoor.Lf

namespace Go.Proofs.YtjcbaiohpdihoaaGreatDoor.Lf
open Go.Proofs.YtjcbaiohpdihoaaGreatDoor.Nu
open Go.RowKit
set_option linter.unusedVariables false
set_option linter.unusedSimpArgs false
set_option maxRecDepth 100000

theorem goR_cons : ∀ n p, goR (n + 1) p = ((ent1 p).1 :: (goR n (ent1 p).2).1, (goR n (ent1 p).2).2)
  | 0, p => rfl
  | n + 1, p => by
    rw [show goR (n + 1 + 1) p = ((goR (n + 1) p).1 ++ [(ent1 (goR (n + 1) p).2).1], (ent1 (goR (n + 1) p).2).2) from rfl, goR_cons n p]
    rfl
theorem rdT_by (s R : List UInt8) (h : s.length ≤ 255) : rdT (by1 s.length ++ s ++ R) = some (s, R) := by
  have e : (UInt8.ofNat s.length).toNat = s.length := by rw [UInt8.toNat_ofNat']; omega
  show rdT (UInt8.ofNat s.length :: (s ++ R)) = _
  simp only [rdT]
  rw [e, if_neg (by rw [List.length_append]; omega)]
  simp
theorem data_len (s : ByteArray) : s.data.toList.length = s.size := by rw [Array.length_toList]; rfl
theorem ent1_of (x : Ent) (R : List UInt8) (h1 : x.k.size ≤ 255) (h2 : x.v.size ≤ 255) : ent1 (entB x ++ R, false) = (x, R, false) := by
  have e1 : entB x ++ R = by1 x.k.data.toList.length ++ x.k.data.toList ++ (by1 x.v.data.toList.length ++ x.v.data.toList ++ R) := by
    rw [data_len, data_len]
    unfold entB
    simp [List.append_assoc]
  have t1 := rdT_by x.k.data.toList (by1 x.v.data.toList.length ++ x.v.data.toList ++ R) (by rw [data_len]; exact h1)
  have t2 := rdT_by x.v.data.toList R (by rw [data_len]; exact h2)
  unfold ent1
  show ((⟨bt (txt (entB x ++ R) false).1, bt (txt (txt (entB x ++ R) false).2.1 (txt (entB x ++ R) false).2.2).1⟩ : Ent), (txt (txt (entB x ++ R) false).2.1 (txt (entB x ++ R) false).2.2).2) = _
  rw [e1, txt_some t1]
  show ((⟨bt x.k.data.toList, bt (txt (by1 x.v.data.toList.length ++ x.v.data.toList ++ R) false).1⟩ : Ent), (txt (by1 x.v.data.toList.length ++ x.v.data.toList ++ R) false).2) = _
  rw [txt_some t2, bt_self]
  show ((⟨x.k, bt x.v.data.toList⟩ : Ent), R, false) = _
  rw [bt_self]
theorem goR_of : ∀ (L : List Ent) (R : List UInt8), (∀ x ∈ L, x.k.size ≤ 255 ∧ x.v.size ≤ 255) → goR L.length (entsB L ++ R, false) = (L, R, false)
  | [], R, _ => rfl
  | x :: r, R, h => by
    have hx := h x List.mem_cons_self
    have ih := goR_of r R (fun y hy => h y (List.mem_cons_of_mem _ hy))
    rw [List.length_cons, goR_cons]
    have e : entsB (x :: r) ++ R = entB x ++ (entsB r ++ R) := by simp [entsB, List.append_assoc]
    rw [e, ent1_of x _ hx.1 hx.2]
    show (x :: (goR r.length (entsB r ++ R, false)).1, (goR r.length (entsB r ++ R, false)).2) = _
    rw [ih]
theorem page_data (k : Nat) (L : List Ent) : (pageB k L).data.toList = by1 k ++ by1 L.length ++ entsB L ++ List.replicate (256 - (2 + sumE L)) 0 := by
  unfold pageB
  rw [padOf_list, bt_size, frontB_len]
  show (bt (frontB k L)).data.toList ++ _ = _
  rw [bt_data]
  rfl
theorem page_size {k : Nat} {L : List Ent} (h : 2 + sumE L ≤ 256) : (pageB k L).size = 256 := padOf_size _ _ (by rw [bt_size, frontB_len]; exact h)
theorem rdS_page {k : Nat} {L : List Ent} (hk : k ≤ 255) (hf : Fits L) : rdS (pageB k L).data.toList = (k, L, true) := by
  have e1 : (UInt8.ofNat k).toNat = k := by rw [UInt8.toNat_ofNat']; omega
  have e2 : (UInt8.ofNat L.length).toNat = L.length := by have := hf.len; rw [UInt8.toNat_ofNat']; omega
  have hg := goR_of L (List.replicate (256 - (2 + sumE L)) 0) (fun x hx => ⟨by have := hf.key x hx; omega, by have := hf.val x hx; omega⟩)
  rw [page_data]
  have e3 : (by1 k ++ by1 L.length ++ entsB L ++ List.replicate (256 - (2 + sumE L)) (0 : UInt8) : List UInt8) = UInt8.ofNat k :: UInt8.ofNat L.length :: (entsB L ++ List.replicate (256 - (2 + sumE L)) (0 : UInt8)) := by unfold by1; simp [List.append_assoc]
  rw [e3]
  generalize List.replicate (256 - (2 + sumE L)) (0 : UInt8) = R at *
  unfold rdS
  show ((UInt8.ofNat k).toNat, (goR (UInt8.ofNat L.length).toNat (entsB L ++ R, false)).1, !(goR (UInt8.ofNat L.length).toNat (entsB L ++ R, false)).2.2) = _
  rw [e1, e2, hg]
  rfl
/-- what is packed is unpacked -/
theorem unp_page {k : Int} {L : List Ent} (h : packE k L = 0) : unp (packS k L).data.toList = some (k.toNat, L) := by
  obtain ⟨h1, h2, h3⟩ := packE_zero h
  have hk : ((k.toNat : Nat) : Int) = k := by omega
  have e : packS k L = pageB k.toNat L := by unfold packS; rw [if_pos h]
  unfold unp
  rw [e, rdS_page (by omega) (fits_of h2 h3)]
  show (if true = true ∧ packE ((k.toNat : Nat) : Int) L = 0 ∧ packS ((k.toNat : Nat) : Int) L = bt (pageB k.toNat L).data.toList then some (k.toNat, L) else none) = _
  rw [hk, if_pos ⟨rfl, h, by rw [bt_self, e]⟩]
theorem unp_some {l : List UInt8} {k : Nat} {M : List Ent} (h : unp l = some (k, M)) : packE (k : Int) M = 0 ∧ packS (k : Int) M = bt l := by
  unfold unp at h
  by_cases hc : (rdS l).2.2 = true ∧ packE ((rdS l).1 : Nat) (rdS l).2.1 = 0 ∧ packS ((rdS l).1 : Nat) (rdS l).2.1 = bt l
  · rw [if_pos hc] at h
    have e1 : (rdS l).1 = k := by injection h with h; exact congrArg Prod.fst h
    have e2 : (rdS l).2.1 = M := by injection h with h; exact congrArg Prod.snd h
    rw [e1, e2] at hc
    exact hc.2
  · rw [if_neg hc] at h; cases h
theorem unp_sml {l : List UInt8} {k : Nat} {M : List Ent} (h : unp l = some (k, M)) : SmlL M ∧ M.length ≤ 255 := by
  unfold unp at h
  by_cases hc : (rdS l).2.2 = true ∧ packE ((rdS l).1 : Nat) (rdS l).2.1 = 0 ∧ packS ((rdS l).1 : Nat) (rdS l).2.1 = bt l
  · rw [if_pos hc] at h
    have e2 : (rdS l).2.1 = M := by injection h with h; exact congrArg Prod.snd h
    rw [← e2]
    exact rdS_sml l
  · rw [if_neg hc] at h; cases h

/-- keys rise -/
theorem ckE_rise : ∀ {L : List Ent} {p : Option ByteArray}, ckE p L = 0 → (∀ q, p = some q → ∀ x ∈ L, lt q x.k = true) ∧ ∀ (a b : Nat) (x y : Ent), a < b → L[a]? = some x → L[b]? = some y → lt x.k y.k = true
  | [], p, _ => ⟨fun _ _ x hx => absurd hx List.not_mem_nil, fun a b x y _ hx _ => by rw [List.getElem?_nil] at hx; cases hx⟩
  | z :: r, p, h => by
    have hy : ¬ (32 < z.k.size ∨ 64 < z.v.size) := fun c => by cases p <;> simp [ckE, c] at h
    have hr : ckE (some z.k) r = 0 ∧ ∀ q, p = some q → lt q z.k = true := by
      cases p with
      | none => simp only [ckE] at h; rw [if_neg hy] at h; exact ⟨h, fun q hq => by cases hq⟩
      | some q =>
        simp only [ckE] at h
        rw [if_neg hy] at h
        by_cases hq : lt q z.k = true
        · rw [if_pos hq] at h; exact ⟨h, fun q' e => by cases e; exact hq⟩
        · rw [if_neg hq] at h; cases h
    obtain ⟨i1, i2⟩ := ckE_rise hr.1
    refine ⟨fun q hq x hx => ?_, fun a b x y hab hx hy => ?_⟩
    · rcases List.mem_cons.1 hx with rfl | hx
      · exact hr.2 q hq
      · exact lt_trans (hr.2 q hq) (i1 z.k rfl x hx)
    · cases b with
      | zero => omega
      | succ b =>
        rw [List.getElem?_cons_succ] at hy
        cases a with
        | zero =>
          simp at hx
          subst hx
          exact i1 _ rfl y (List.mem_of_getElem? hy)
        | succ a =>
          rw [List.getElem?_cons_succ] at hx
          exact i2 a b x y (by omega) hx hy
theorem mono_of {L : List Ent} (h : ckE none L = 0) (key : ByteArray) : Mono L key := fun a b x y hab hx hy hk => by
  rcases Nat.lt_or_ge a b with h1 | h1
  · exact lt_trans ((ckE_rise h).2 a b x y h1 hx hy) hk
  · obtain rfl : a = b := by omega
    rw [hx] at hy
    cases hy
    exact hk
theorem IsAt.uniq {L : List Ent} {key : ByteArray} {i j : Nat} (h : IsAt L key i) (k : IsAt L key j) (hi : i ≤ L.length) (hj : j ≤ L.length) : i = j := by
  rcases Nat.lt_trichotomy i j with c | c | c
  · obtain ⟨x, hx⟩ : ∃ x, L[i]? = some x := ⟨_, List.getElem?_eq_getElem (by omega)⟩
    have h1 := h.2 i x (Nat.le_refl _) hx
    rw [k.1 i x c hx] at h1
    cases h1
  · exact c
  · obtain ⟨x, hx⟩ : ∃ x, L[j]? = some x := ⟨_, List.getElem?_eq_getElem (by omega)⟩
    have h1 := k.2 j x (Nat.le_refl _) hx
    rw [h.1 j x c hx] at h1
    cases h1
end Go.Proofs.YtjcbaiohpdihoaaGreatDoor.Lf

namespace Go.Proofs.YtjcbaiohpdihoaaGreatDoor.Lf
open Go.Proofs.YtjcbaiohpdihoaaGreatDoor.Nu
open Go.RowKit
set_option linter.unusedVariables false
set_option linter.unusedSimpArgs false
set_option maxRecDepth 100000

/-- behind j rounds n is the place behind the last key that is below -/
def lowA (L : List Ent) (key : ByteArray) (j n : Nat) : Prop := n ≤ j ∧ (∀ (i : Nat) (x : Ent), n ≤ i → i < j → L[i]? = some x → lt x.k key = false) ∧ (n = 0 ∨ ∃ (i : Nat) (x : Ent), i + 1 = n ∧ L[i]? = some x ∧ lt x.k key = true)
theorem lowA_zero (L : List Ent) (key : ByteArray) : lowA L key 0 0 := ⟨Nat.le_refl _, fun i x h1 h2 => absurd h2 (Nat.not_lt_zero _), .inl rfl⟩
theorem lowA_yes {L : List Ent} {key : ByteArray} {j n : Nat} {x : Ent} (h : lowA L key j n) (hx : L[j]? = some x) (hk : lt x.k key = true) : lowA L key (j + 1) (j + 1) :=
  ⟨Nat.le_refl _, fun i y h1 h2 => by omega, .inr ⟨j, x, rfl, hx, hk⟩⟩
theorem lowA_no {L : List Ent} {key : ByteArray} {j n : Nat} {x : Ent} (h : lowA L key j n) (hx : L[j]? = some x) (hk : lt x.k key = false) : lowA L key (j + 1) n :=
  ⟨by have := h.1; omega, fun i y h1 h2 hy => by
    rcases Nat.lt_or_ge i j with c | c
    · exact h.2.1 i y h1 c hy
    · obtain rfl : i = j := by omega
      rw [hx] at hy
      cases hy
      exact hk, h.2.2⟩
theorem lowA_is {L : List Ent} {key : ByteArray} {n : Nat} (h : lowA L key L.length n) (hm : Mono L key) : IsAt L key n := by
  refine ⟨fun j x hj hx => ?_, fun j x hj hx => h.2.1 j x hj (List.getElem?_eq_some_iff.1 hx).1 hx⟩
  rcases h.2.2 with h0 | ⟨i, y, hi, hy, hk⟩
  · omega
  · exact hm j i x y (by omega) hx hy hk
def hasL (L : List Ent) (key : ByteArray) : Bool := L.any fun x => decide (x.k = key)
theorem hasL_iff {L : List Ent} {key : ByteArray} : hasL L key = true ↔ ∃ (j : Nat) (x : Ent), L[j]? = some x ∧ x.k = key := by
  unfold hasL
  rw [List.any_eq_true]
  constructor
  · rintro ⟨x, hx, hk⟩
    obtain ⟨j, hj⟩ := List.mem_iff_getElem?.1 hx
    exact ⟨j, x, hj, of_decide_eq_true hk⟩
  · rintro ⟨j, x, hj, hk⟩
    exact ⟨x, List.mem_of_getElem? hj, decide_eq_true hk⟩
theorem fnd_iff {L : List Ent} {key : ByteArray} {i : Nat} : fnd L key i = true ↔ ∃ x, L[i]? = some x ∧ x.k = key := by
  unfold fnd
  cases h : L[i]? with
  | none => simp
  | some x => simp
theorem fnd_has {L : List Ent} {key : ByteArray} {i : Nat} (h : ckE none L = 0) (ha : IsAt L key i) : fnd L key i = hasL L key := by
  rw [Bool.eq_iff_iff, fnd_iff, hasL_iff]
  constructor
  · rintro ⟨x, hx, hk⟩
    exact ⟨i, x, hx, hk⟩
  · rintro ⟨j, x, hx, rfl⟩
    have h1 : ¬ j < i := fun hj => by
      have := ha.1 j x hj hx
      rw [lt_self] at this
      cases this
    have h2 : ¬ i < j := fun hj => by
      obtain ⟨y, hy⟩ : ∃ y, L[i]? = some y := ⟨_, List.getElem?_eq_getElem (by have := (List.getElem?_eq_some_iff.1 hx).1; omega)⟩
      have h3 := ha.2 i y (Nat.le_refl _) hy
      rw [(ckE_rise h).2 i j y x hj hy hx] at h3
      cases h3
    obtain rfl : i = j := by omega
    exact ⟨x, hx, rfl⟩

set_option maxHeartbeats 1000000 in
theorem at_any (w : World) (v : Value) (L : List Ent) (key : ByteArray) (hl : LiesE w v L) :
    Calls Tryz.prog 33 #[v, .string key] w fun e w' => ∃ n : Nat, e = .returned (.int .i64 (n : Nat)) ∧ lowA L key L.length n ∧ Below w.heap.size w w' := by
  obtain ⟨a, c, hv⟩ := hl.form
  subst hv
  have hlen := hl.len
  unfold maxLen at hlen
  have HL := hid hl
  obtain ⟨m, hm⟩ : ∃ m, L.length = m := ⟨_, rfl⟩
  have HM := hid hm
  rw [hm] at HL hlen ⊢
  clear hm hl
  have H0 := hid (lowA_zero L key)
  go_enter Tryz.func33, Tryz.ntmps33
  go_wp2_with fail
  go_loopw [5, 9] (fun y i wr => ∃ (j n : Nat), j ≤ m ∧ y = .int .i64 (n : Nat) ∧ i = .int .i64 (j : Nat) ∧ Hid (lowA L key j n) ∧ Hid (Below w.heap.size w wr)) (fun _ i _ => m - (intOf i).toNat)
  case atStart => exact ⟨0, 0, Nat.zero_le _, rfl, rfl, H0, Below.refl _ _⟩
  case round =>
    obtain ⟨j, n, hj, rfl, rfl, HI, HB⟩ := hrel
    clear H0
    by_cases hjm : j < m
    · have hji : (j : Int) < (m : Int) := by omega
      obtain ⟨x, hx⟩ : ∃ x, L[j]? = some x := ⟨_, List.getElem?_eq_getElem (by rw [HM.out]; exact hjm)⟩
      obtain ⟨b, off, e1, hbl, c1, c2, _, _⟩ := (HL.out.on HB.out).at hx
      subst e1
      have HX := hid hx
      have hlt : Op.bytesLess x.k.toList key.toList = lt x.k key := rfl
      clear hx
      cases hk : lt x.k key with
      | true =>
        have HI2 := hid (lowA_yes HI.out HX.out hk)
        rw [hk] at hlt
        clear HX HI hk
        generalize x.k = xk at *
        generalize x.v = xv at *
        go_wp2_with fail
        go_roundw
        case rel => exact ⟨j + 1, j + 1, by omega, by go_num, by go_num, HI2, HB⟩
        case measure => simp [intOf]; omega
      | false =>
        have HI2 := hid (lowA_no HI.out HX.out hk)
        rw [hk] at hlt
        clear HX HI hk
        generalize x.k = xk at *
        generalize x.v = xv at *
        go_wp2_with fail
        go_roundw
        case rel => exact ⟨j + 1, n, by omega, rfl, by go_num, HI2, HB⟩
        case measure => simp [intOf]; omega
    · obtain rfl : j = m := by omega
      have hji : ¬ (j : Int) < (j : Int) := by omega
      go_wp2_with fail
      go_ret
      exact ⟨n, rfl, HI.out, HB.out⟩

set_option maxHeartbeats 1000000 in
theorem has_any (w : World) (v : Value) (L : List Ent) (key : ByteArray) (hl : LiesE w v L) :
    Calls Tryz.prog 32 #[v, .string key] w fun e w' => e = .returned (.bool (hasL L key)) ∧ Below w.heap.size w w' := by
  obtain ⟨a, c, hv⟩ := hl.form
  subst hv
  have hlen := hl.len
  unfold maxLen at hlen
  have HL := hid hl
  obtain ⟨m, hm⟩ : ∃ m, L.length = m := ⟨_, rfl⟩
  have HM := hid hm
  obtain ⟨r, hr⟩ : ∃ r, hasL L key = r := ⟨_, rfl⟩
  have HR := hid hr
  rw [hr]
  rw [hm] at HL hlen ⊢
  clear hm hl hr
  have H0 : Hid (∀ (i : Nat) (x : Ent), i < 0 → L[i]? = some x → x.k ≠ key) := fun i x h => absurd h (Nat.not_lt_zero _)
  go_enter Tryz.func32, Tryz.ntmps32
  go_wp2_with fail
  go_loopw [8] (fun i wr => ∃ j : Nat, j ≤ m ∧ i = .int .i64 (j : Nat) ∧ Hid (∀ (i : Nat) (x : Ent), i < j → L[i]? = some x → x.k ≠ key) ∧ Hid (Below w.heap.size w wr)) (fun i _ => m - (intOf i).toNat)
  case atStart => exact ⟨0, Nat.zero_le _, rfl, H0, Below.refl _ _⟩
  case round =>
    obtain ⟨j, hj, rfl, HI, HB⟩ := hrel
    clear H0
    by_cases hjm : j < m
    · have hji : (j : Int) < (m : Int) := by omega
      obtain ⟨x, hx⟩ : ∃ x, L[j]? = some x := ⟨_, List.getElem?_eq_getElem (by rw [HM.out]; exact hjm)⟩
      obtain ⟨b, off, e1, hbl, c1, c2, _, _⟩ := (HL.out.on HB.out).at hx
      subst e1
      have HX := hid hx
      have hq := eq_iff x.k key
      clear hx
      by_cases hk : x.k = key
      · obtain rfl : true = r := by rw [← HR.out, hasL_iff.2 ⟨j, x, HX.out, hk⟩]
        rw [decide_eq_true hk] at hq
        clear HX HI hk HR
        generalize x.k = xk at *
        generalize x.v = xv at *
        go_wp2_with fail
        go_ret
        exact ⟨rfl, HB.out⟩
      · have HI2 : Hid (∀ (i : Nat) (x : Ent), i < j + 1 → L[i]? = some x → x.k ≠ key) := fun i y hi hy => by
          rcases Nat.lt_or_ge i j with c | c
          · exact HI.out i y c hy
          · obtain rfl : i = j := by omega
            have := HX.out
            rw [hy] at this
            cases this
            exact hk
        rw [decide_eq_false hk] at hq
        clear HX HI hk
        generalize x.k = xk at *
        generalize x.v = xv at *
        go_wp2_with fail
        go_roundw
        case rel => exact ⟨j + 1, by omega, by go_num, HI2, HB⟩
        case measure => simp [intOf]; omega
    · obtain rfl : j = m := by omega
      have hji : ¬ (j : Int) < (j : Int) := by omega
      obtain rfl : false = r := by
        rw [← HR.out]
        symm
        rw [← Bool.not_eq_true]
        rw [hasL_iff]
        rintro ⟨i, x, hi, hk⟩
        exact HI.out i x (by have := (List.getElem?_eq_some_iff.1 hi).1; rw [HM.out] at this; exact this) hi hk
      go_wp2_with fail
      go_ret
      exact ⟨rfl, HB.out⟩
end Go.Proofs.YtjcbaiohpdihoaaGreatDoor.Lf
