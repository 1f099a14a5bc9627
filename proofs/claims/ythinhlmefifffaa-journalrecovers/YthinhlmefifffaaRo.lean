/-
  What the document's Told answers.
-/
import Derived.Test.YthinhlmefifffaaRm
namespace Go.Proofs.Ythinhlmefifffaa
open Go.RowKit
set_option linter.unusedVariables false
set_option linter.unusedSimpArgs false
set_option maxRecDepth 100000

theorem two_bytes (h : ByteArray) (hs : h.size = 256) : Nu.val ((h.data.toList.drop 4).take 2) = (h[4]'(by omega)).toNat * 256 + (h[5]'(by omega)).toNat := by
  have e2 := Nu.sub_snoc h 4 1 (by omega)
  have e1 := Nu.sub_snoc h 4 0 (by omega)
  show Nu.val (Nu.sub h 4 2) = _
  rw [e2, Nu.val_snoc, e1, Nu.val_snoc]
  show (0 * 256 + _) * 256 + _ = _
  rw [Nat.zero_mul, Nat.zero_add]
theorem hdOf_eq {bs : List ByteArray} {h : ByteArray} (hh : bs[1]? = some h) : hdOf bs = h := by
  unfold hdOf
  rw [List.getD_eq_getElem?_getD, hh]
  rfl
theorem first_four (h : ByteArray) : (h.extract 0 4).toList = h.data.toList.take 4 := by
  rw [ByteArray.toList_eq, Lib.extract_data]
  simp
theorem rows_all {bs lst R : List ByteArray} (h : lst.length = R.length) (hp : ∀ i : Nat, i < R.length → lst[i]? = R[i]?) : lst = R := by
  apply List.ext_getElem?
  intro i
  by_cases hi : i < R.length
  · exact hp i hi
  · rw [List.getElem?_eq_none (by omega), List.getElem?_eq_none (by omega)]

def PePost1 (w : World) (L : List Pg) (e : Ending) (w' : World) : Prop := ∃ v', e = .returned v' ∧ RowP w' w.heap.size v' L ∧ Below w.heap.size w w'
theorem ckL_vals (n : Nat) : ∀ (L : List Pg) (seen : List Int), ckL n seen L = 0 ∨ ckL n seen L = 1 ∨ ckL n seen L = 3 ∨ ckL n seen L = 9
  | [], _ => .inl rfl
  | p :: r, seen => by
    unfold ckL
    split
    · exact .inr (.inl rfl)
    split
    · exact .inr (.inr (.inl rfl))
    split
    · exact .inr (.inr (.inr rfl))
    · exact ckL_vals n r _
theorem ck_vals (n : Nat) (L : List Pg) : ck n L = 0 ∨ ck n L = 1 ∨ ck n L = 3 ∨ ck n L = 9 ∨ ck n L = 10 := by
  unfold ck
  split
  · exact .inr (.inr (.inr (.inr rfl)))
  · rcases ckL_vals n L [] with h | h | h | h
    · exact .inl h
    · exact .inr (.inl h)
    · exact .inr (.inr (.inl h))
    · exact .inr (.inr (.inr (.inl h)))
/-- the head tells of no group -/
theorem rTold_no (w : World) (B : Nat) (v : Value) (bs : List ByteArray) (hv : RowS w B v bs) (hlo : 64 ≤ bs.length) (hhi : bs.length ≤ 2048) (hbs : ∀ s ∈ bs, s.size = 256) (hr : ¬ (1 ≤ told (hdOf bs) ∧ told (hdOf bs) ≤ pgs bs.length)) :
    Calls Try.prog 76 #[v] w fun e w' => e = .returned (.slice none 0 0) ∧ Below w.heap.size w w' := by
  obtain ⟨a, c, e1⟩ := hv.form
  subst e1
  obtain ⟨g, hab, _, hgl⟩ := row_some (hv : w.ownsRow _ 9 1 _ _ _) (by omega)
  subst hab
  obtain ⟨h, hh⟩ : ∃ h, bs[1]? = some h := ⟨_, List.getElem?_eq_getElem (show 1 < bs.length by omega)⟩
  have h256 : h.size = 256 := hbs _ (List.mem_of_getElem? hh)
  obtain ⟨ch, _⟩ := RowS.at hv hh
  rw [hdOf_eq hh] at hr
  have hpg : ∀ w1, _ := fun w1 => rPages_any bs.length hlo hhi w1
  have b2 := pgs_hi hhi
  have HT : Hid (told h = if h.data.toList.take 4 = [106, 114, 110, 108] then (h[4]'(by omega)).toNat * 256 + (h[5]'(by omega)).toNat else 0) := by
    show _ = _
    unfold told
    rw [two_bytes _ h256]
  have hb4 : (h[4]'(by omega)).toNat ≤ 255 := by have := (h[4]'(by omega)).toNat_lt; omega
  have hb5 : (h[5]'(by omega)).toNat ≤ 255 := by have := (h[5]'(by omega)).toNat_lt; omega
  have h4 : 4 < h.size := by omega
  have h5 : 5 < h.size := by omega
  have HFF := hid (first_four h)
  obtain ⟨tk, htk⟩ : ∃ tk, told h = tk := ⟨_, rfl⟩
  rw [htk] at hr HT
  obtain ⟨q, hq⟩ : ∃ q, pgs bs.length = q := ⟨_, rfl⟩
  rw [hq] at hr hpg b2
  obtain ⟨n, hn⟩ : ∃ n, bs.length = n := ⟨_, rfl⟩
  rw [hn] at hpg hlo hhi ⊢
  clear hv hbs htk hq hn hh
  go_enter Try.func76, Try.ntmps76
  go_upto_region 3 with (go_at_call 12; refine (hpg _).mono ?_; clear hpg; rintro e w1 ⟨rfl, rfl⟩)
  go_region
  have hbd : Below w.heap.size w w.drew := (Below.refl _ w).drew
  generalize hX : ((h[4].toNat : Int) * 256 + (h[5].toNat : Int)) = X
  by_cases hj : h.data.toList.take 4 = [106, 114, 110, 108]
  · have hj2 : (h.extract 0 4).toList = [106, 114, 110, 108] := by rw [HFF.out]; exact hj
    have hT := HT.out
    rw [if_pos hj] at hT
    obtain rfl : X = (tk : Int) := by omega
    clear hT HT HFF hX hj hb4 hb5
    by_cases h1 : tk < 1
    · have d1 : decide ((tk : Int) < 1) = true := decide_eq_true (by omega)
      go_wp2_with fail
      go_ret
      exact ⟨rfl, hbd⟩
    · have d1 : decide ((tk : Int) < 1) = false := decide_eq_false (by omega)
      have d2 : decide ((q : Int) < (tk : Int)) = true := decide_eq_true (by omega)
      go_wp2_with fail
      go_ret
      exact ⟨rfl, hbd⟩
  · have hj2 : ¬ (h.extract 0 4).toList = [106, 114, 110, 108] := by rw [HFF.out]; exact hj
    have hj3 : ((h.extract 0 4).toList == [106, 114, 110, 108]) = false := by simpa using hj2
    clear HT HFF hX hj hb4 hb5
    go_wp2_with fail
    go_ret
    exact ⟨rfl, hbd⟩

set_option maxHeartbeats 8000000 in
theorem rTold_yes (w : World) (B : Nat) (v : Value) (bs : List ByteArray) (hv : RowS w B v bs) (hlo : 64 ≤ bs.length) (hhi : bs.length ≤ 2048) (hbs : ∀ s ∈ bs, s.size = 256) (hr : 1 ≤ told (hdOf bs) ∧ told (hdOf bs) ≤ pgs bs.length) :
    Calls Try.prog 76 #[v] w fun e w' => PePost1 w (pend bs) e w' := by
  have hpe : pend bs = if ck bs.length (gpOf bs) = 0 ∧ lsOf bs = rows (gpOf bs) ∧ hdOf bs = hdB (lsOf bs) (gpOf bs) then gpOf bs else [] := by unfold pend; rw [if_pos hr]
  have HPE := hid hpe
  clear hpe
  obtain ⟨a, c, e1⟩ := hv.form
  subst e1
  obtain ⟨g, hab, _, hgl⟩ := row_some (hv : w.ownsRow _ 9 1 _ _ _) (by omega)
  subst hab
  obtain ⟨h, hh⟩ : ∃ h, bs[1]? = some h := ⟨_, List.getElem?_eq_getElem (show 1 < bs.length by omega)⟩
  have h256 : h.size = 256 := hbs _ (List.mem_of_getElem? hh)
  obtain ⟨ch, _⟩ := RowS.at hv hh
  have hhd := hdOf_eq hh
  have hpg : ∀ w1, _ := fun w1 => rPages_any bs.length hlo hhi w1
  have b2 := pgs_hi hhi
  have f1 := pgs_fit hlo
  obtain ⟨tk, htk⟩ : ∃ tk, told (hdOf bs) = tk := ⟨_, rfl⟩
  have l1 : lb (told (hdOf bs)) ≤ lb (pgs bs.length) := lb_mono hr.2
  have hll : (lsOf bs).length = lb (told (hdOf bs)) := cutB_len (by omega)
  have hcl : (cpOf bs).length = told (hdOf bs) := cutB_len (by omega)
  have hls : ∀ s ∈ lsOf bs, s.size = 256 := fun s hs => hbs s (cutB_mem hs)
  have hcs : ∀ s ∈ cpOf bs, s.size = 256 := fun s hs => hbs s (cutB_mem hs)
  have hgl0 : (gpOf bs).length = told (hdOf bs) := by unfold gpOf; rw [grpL_len, hcl]
  have HLA : Hid (∀ i, i < lb tk → (lsOf bs)[i]? = bs[2 + i]?) := fun i hi => by unfold lsOf; rw [htk]; exact cutB_at hi
  have HCA : Hid (∀ i, i < tk → (cpOf bs)[i]? = bs[2 + lb (pgs bs.length) + i]?) := fun i hi => by unfold cpOf; rw [htk]; exact cutB_at hi
  rw [htk] at hr l1 hll hcl hgl0
  have hrw : ∀ w1, _ := fun w1 => rRows_any (pgs bs.length) (by omega) w1
  have HT : Hid (tk = if h.data.toList.take 4 = [106, 114, 110, 108] then (h[4]'(by omega)).toNat * 256 + (h[5]'(by omega)).toNat else 0) := by
    show _ = _
    rw [← htk, hhd]
    unfold told
    rw [two_bytes _ h256]
  have hj : h.data.toList.take 4 = [106, 114, 110, 108] := by
    by_cases hj : h.data.toList.take 4 = [106, 114, 110, 108]
    · exact hj
    · have := HT.out
      rw [if_neg hj] at this
      omega
  have hj2 : (h.extract 0 4).toList = [106, 114, 110, 108] := by rw [first_four h]; exact hj
  rw [if_pos hj] at HT
  have hb4 : (h[4]'(by omega)).toNat ≤ 255 := by have := (h[4]'(by omega)).toNat_lt; omega
  have hb5 : (h[5]'(by omega)).toNat ≤ 255 := by have := (h[5]'(by omega)).toNat_lt; omega
  have h4 : 4 < h.size := by omega
  have h5 : 5 < h.size := by omega
  have HF : Hid (∀ w1 B v, RowP w1 B v (gpOf bs) → LiesO w1 (fun _ => False) v (gpOf bs)) := fun w1 B v hv => hv.lies (fun _ _ h => h) (fun p hp => by
    obtain ⟨h1, h2⟩ := grpL_mem hp
    exact ⟨by omega, by rw [hcs _ h2]; decide⟩)
  have HLO : Hid (∀ w1 B v, RowP w1 B v (gpOf bs) → Calls Try.prog 68 #[v] w1 fun e w' => ∃ v', e = .returned v' ∧ RowS w' w1.heap.size v' (rows (gpOf bs)) ∧ Below w1.heap.size w1 w') := fun w1 B v hv => rList_any w1 _ v (gpOf bs) (HF.out w1 B v hv) (by omega) (fun p hp => (grpL_mem hp).1)
  have HMY : Hid (∀ w1 B v, RowP w1 B v (gpOf bs) → Calls Try.prog 44 #[.int .i64 (bs.length : Nat), v] w1 fun e w' => e = .returned (.int .i64 (ck bs.length (gpOf bs) : Nat)) ∧ Below w1.heap.size w1 w') := fun w1 B v hv => rMay_any bs.length hlo hhi w1 _ v (gpOf bs) (HF.out w1 B v hv)
  have HHD : Hid (∀ w1 B v, RowP w1 B v (gpOf bs) → Calls Try.prog 69 #[v] w1 fun e w' => e = .returned (.string (hdB (rows (gpOf bs)) (gpOf bs))) ∧ Below w1.heap.size w1 w') := fun w1 B v hv => rHead_any w1 _ v (gpOf bs) (HF.out w1 B v hv) (by omega) (fun p hp => (grpL_mem hp).1)
  have HGE : Hid (gpOf bs = grpL (lsOf bs) ((cpOf bs).take tk)) := by show _ = _; unfold gpOf; rw [List.take_of_length_le (by omega)]
  have HGT : Hid (∀ j, j ≤ tk → (grpL (lsOf bs) ((cpOf bs).take j)).length = j) := fun j hj => by rw [grpL_len, List.length_take]; omega
  have HSZ := hid hls
  have HRL : Hid ((rows (gpOf bs)).length = lb tk) := by show _ = _; rw [rows_len, hgl0]
  have HV := hid hv
  have HBS : Hid (bs.length = bs.length) := rfl
  rw [hhd] at HPE
  have hlb : lb tk ≤ 20 := by unfold lb; omega
  obtain ⟨q, hq⟩ : ∃ q, pgs bs.length = q := ⟨_, rfl⟩
  rw [hq] at hpg hrw hr HCA b2 f1 l1
  obtain ⟨y, hy⟩ : ∃ y, lb q = y := ⟨_, rfl⟩
  rw [hy] at hrw HCA f1 l1
  obtain ⟨M, hM⟩ : ∃ M, lb tk = M := ⟨_, rfl⟩
  have HMK : Hid (∀ j, j < tk → j / 128 < M) := fun j hj => by rw [← hM]; unfold lb; omega
  rw [hM] at HLA HRL hll hlb l1
  obtain ⟨n, hn⟩ : ∃ n, bs.length = n := ⟨_, rfl⟩
  have HN := hid hn
  rw [hn] at hpg HMY HPE hlo hhi f1 ⊢
  clear hh hhd htk hq hy hM hn hbs hls hcs hcl hgl0 hv HBS hj
  generalize lsOf bs = lst at *
  generalize cpOf bs = cps at *
  generalize gpOf bs = L at *
  generalize pend bs = PD at *
  go_enter Try.func76, Try.ntmps76
  go_upto_region 3 with (go_at_call 12; refine (hpg _).mono ?_; clear hpg; rintro e w1 ⟨rfl, rfl⟩)
  go_region
  have HBD : Hid (Below w.heap.size w w.drew) := (Below.refl _ w).drew
  generalize hX : ((h[4].toNat : Int) * 256 + (h[5].toNat : Int)) = X
  obtain rfl : X = (tk : Int) := by have := HT.out; omega
  clear HT hX hb4 hb5
  have d1 : decide ((tk : Int) < 1) = false := decide_eq_false (by omega)
  have d2 : ¬ (q : Int) < (tk : Int) := by omega
  go_wp2_with fail
  go_loopw [6, 7] (fun x i wr => ∃ (j : Nat) (ba : Option Addr) (bc : Nat), j ≤ tk ∧ i = .int .i64 (j : Nat) ∧ x = .slice ba j bc ∧ Hid (RowP wr w.heap.size (.slice ba j bc) (grpL lst (cps.take j))) ∧ Hid (Below w.heap.size w wr)) (fun _ i _ => tk - (intOf i).toNat)
  case atStart => exact ⟨0, none, 0, Nat.zero_le _, rfl, rfl, World.ownsRow_nil _ _ _ _, HBD⟩
  case round =>
    obtain ⟨j, ba, bc, hj, rfl, rfl, HR, HB⟩ := hrel
    clear HBD
    by_cases hlt : j < tk
    · have hji : (j : Int) < (tk : Int) := by omega
      obtain ⟨k, hk⟩ : ∃ k, j / 128 = k := ⟨_, rfl⟩
      have hkM : k < M := by rw [← hk]; exact HMK.out j hlt
      obtain ⟨t, ht⟩ : ∃ t, bs[2 + k]? = some t := ⟨_, List.getElem?_eq_getElem (by rw [HN.out]; omega)⟩
      have htl : lst[k]? = some t := (HLA.out k hkM).trans ht
      obtain ⟨s, hs⟩ : ∃ s, bs[2 + y + j]? = some s := ⟨_, List.getElem?_eq_getElem (by rw [HN.out]; omega)⟩
      have hsl : cps[j]? = some s := (HCA.out j hlt).trans hs
      have ct : wr.cell? ⟨g, 2 + k, none⟩ = some (.string t) := (HB.out.cell (p := ⟨g, 2 + k, none⟩) hgl).trans (HV.out.at ht).1
      have cs : wr.cell? ⟨g, 2 + y + j, none⟩ = some (.string s) := (HB.out.cell (p := ⟨g, 2 + y + j, none⟩) hgl).trans (HV.out.at hs).1
      have HCS : Hid (∀ w1, wr = w1 → w1.cell? ⟨g, 2 + y + j, none⟩ = some (.string s)) := fun w1 e => e ▸ cs
      have hki : (j : Int) / 128 = (k : Int) := by omega
      obtain ⟨r, hr2⟩ : ∃ r, j % 128 * 2 = r := ⟨_, rfl⟩
      have hri : (j : Int) % 128 * 2 = (r : Int) := by omega
      have htz : t.size = 256 := HSZ.out t (List.mem_of_getElem? htl)
      have hgt : ∀ w1, _ := fun w1 => Nu.rGet_ok t r 2 w1 (by omega) (by omega) (by rw [htz]; decide) (by omega)
      have HNA : Hid (numAt lst j = Nu.val (Nu.sub t r 2)) := by
        show _ = _
        unfold numAt Nu.sub
        rw [hk, hr2, List.getD_eq_getElem?_getD, htl]
        rfl
      have hxl : numAt lst j < 65536 := numAt_lt lst j
      have HSN := hid (grpL_snoc (lst := lst) hsl)
      rw [HNA.out] at HSN hxl
      have HLJ := hid (HGT.out j hj)
      generalize Nu.val (Nu.sub t r 2) = x at hgt HSN hxl
      have hxw : IntKind.i64.wrap (x : Int) = (x : Int) := by rw [IntKind.wrap_i64]; omega
      have hlt1 : 2 + k < n := by omega
      have hlt2 : 2 + y + j < n := by omega
      clear htl hsl hs ht hk hr2 HNA cs
      go_wp2_with (first
        | (go_at_call 92; refine (hgt _).mono ?_; clear hgt; rintro e w1 ⟨rfl, rfl⟩)
        | (go_at_call 28; refine (hrw _).mono ?_; rintro e w1 ⟨rfl, rfl⟩; have cs := HCS.out _ rfl; clear HCS)
        | (at_builtin; refine wpList_pgs _ w rfl (.tmp 62) (.tmp 74) rfl (.slice ba j bc) (grpL lst (cps.take j)) j HLJ.out rfl (HR.out.alloc (.cells #[.int .i64 (x : Nat), .string s] 54)) (HB.out.alloc HB.out.size _) ⟨wr.heap.size, 0, none⟩ [⟨(x : Nat), s⟩] 1 1 rfl (by decide) rfl (cells_two wr _ _ 54) (by omega) ?_))
      intro va vc w5 hr5 hb5 _
      have HR5 : Hid (RowP w5 w.heap.size (.slice va (j + 1) vc) (grpL lst (cps.take (j + 1)))) := by
        show RowP _ _ _ _
        rw [HSN.out]
        exact hr5
      have HB5 := hid hb5
      clear hr5 hb5 ct cs HR HB
      go_wp2_with fail
      go_roundw
      case rel => exact ⟨j + 1, va, vc, by omega, by go_num, rfl, HR5, HB5⟩
      case measure => simp [intOf]; omega
    · obtain rfl : j = tk := by omega
      have hji : ¬ (j : Int) < (j : Int) := by omega
      rw [← HGE.out] at HR
      clear hrw HCA HGT HMK HSZ HGE
      go_wp2_with (go_at_call 68; refine (HLO.out _ _ _ HR.out).mono ?_; clear HLO; rintro e w1 ⟨v1, rfl, hr1, hb1⟩; have HL1 := hid hr1; have HR1 := hid (HR.out.on hb1); have HB1 := hid (HB.out.trans (hb1.mono HB.out.size)); obtain ⟨la, lc, hlv⟩ := hr1.form; subst hlv; rw [HRL.out] at HL1 ⊢; clear hr1 hb1 HR HB)
      have HX : Hid ((∀ i : Nat, i < M → bs[2 + i]? = (rows L)[i]?) → lst = rows L) := fun hp => rows_all (bs := bs) (by rw [HRL.out]; exact hll) (fun i hi => by rw [HRL.out] at hi; rw [HLA.out i hi]; exact hp i hi)
      have HXN : Hid (∀ i : Nat, i < M → bs[2 + i]? ≠ (rows L)[i]? → PD = []) := fun i hi hne => by
        rw [HPE.out, if_neg]
        rintro ⟨_, h2, _⟩
        exact hne (by rw [← HLA.out i hi, h2])
      obtain ⟨w1', hw1⟩ : ∃ w1', w1 = w1' := ⟨_, rfl⟩
      subst hw1
      go_loopw [80] (fun i wq => ∃ k : Nat, k ≤ M ∧ i = .int .i64 (k : Nat) ∧ Hid (Below w1.heap.size w1 wq) ∧ Hid (∀ i : Nat, i < k → bs[2 + i]? = (rows L)[i]?)) (fun i _ => M - (intOf i).toNat)
      case atStart => exact ⟨0, Nat.zero_le _, rfl, Below.refl _ _, fun i hi => by omega⟩
      case round =>
        obtain ⟨k, hk, rfl, HB2, HP⟩ := hrel
        by_cases hkM : k < M
        · have hki : (k : Int) < (M : Int) := by omega
          obtain ⟨s, hs⟩ : ∃ s, bs[2 + k]? = some s := ⟨_, List.getElem?_eq_getElem (by rw [HN.out]; omega)⟩
          obtain ⟨t, ht⟩ : ∃ t, (rows L)[k]? = some t := ⟨_, List.getElem?_eq_getElem (by rw [HRL.out]; exact hkM)⟩
          obtain ⟨g2, hab, _, hgl2⟩ := row_some (HL1.out : w1.ownsRow _ 9 1 _ _ _) (by rw [HRL.out]; omega)
          subst hab
          have cs : wr.cell? ⟨g, 2 + k, none⟩ = some (.string s) := (HB2.out.cell (p := ⟨g, 2 + k, none⟩) (Nat.lt_of_lt_of_le hgl HB1.out.size)).trans ((HB1.out.cell (p := ⟨g, 2 + k, none⟩) hgl).trans (HV.out.at hs).1)
          have ct : wr.cell? ⟨g2, k, none⟩ = some (.string t) := (HB2.out.cell (p := ⟨g2, k, none⟩) hgl2).trans (HL1.out.at ht).1
          have hlt1 : 2 + k < n := by omega
          by_cases hst : s = t
          · subst hst
            have HP2 : Hid (∀ i : Nat, i < k + 1 → bs[2 + i]? = (rows L)[i]?) := fun i hi => by
              by_cases hik : i < k
              · exact HP.out i hik
              · obtain rfl : i = k := by omega
                rw [hs, ht]
            clear hs ht HP
            go_wp2
            go_region
            have HB3 := hid (HB2.out.drew)
            clear cs ct
            go_wp2
            go_roundw
            case rel => exact ⟨k + 1, by omega, by go_num, HB3, HP2⟩
            case measure => simp [intOf]; omega
          · have hne := other_texts hst
            have hp0 := HXN.out k hkM (by rw [hs, ht]; exact fun e => hst (Option.some.inj e))
            have HP0 := hid hp0
            have HB3 := hid (HB1.out.trans ((HB2.out.drew).mono HB1.out.size))
            clear hs ht HP hst hp0
            go_wp2
            go_region
            clear cs ct
            go_wp2
            go_ret
            refine ⟨_, rfl, ?_, HB3.out⟩
            rw [HP0.out]
            exact World.ownsRow_nil _ _ _ _
        · obtain rfl : k = M := by omega
          have hki : ¬ (k : Int) < (k : Int) := by omega
          have HLR := hid (HX.out HP.out)
          have HB3 := hid (HB1.out.trans (HB2.out.mono HB1.out.size))
          have HR3 := hid (HR1.out.on HB2.out)
          clear HX HXN HP HL1 HR1 HLA HB1 HB2
          have HK : Hid (∀ w5, Below w.heap.size w w5 → w5.cell? ⟨g, 1, none⟩ = some (.string h)) := fun w5 hb => (hb.cell (p := ⟨g, 1, none⟩) hgl).trans ch
          have hn1 : (1 : Int) < (n : Int) := by omega
          have HMY1 := hid (HMY.out _ _ _ (HR3.out.on (Below.drew (Below.refl _ wr))))
          have HBd := hid (HB3.out.drew)
          have HRd := hid (HR3.out.on (Below.drew (Below.refl _ wr)))
          have HS0 := HK.out _ HBd.out
          clear HMY ch
          obtain ⟨x, hx⟩ : ∃ x, ck n L = x := ⟨_, rfl⟩
          have hcv := ck_vals n L
          rw [hx] at HMY1 HPE hcv
          clear hx
          by_cases hx0 : x = 0
          · subst hx0
            by_cases hhd : hdB (rows L) L = h
            · have HPD : Hid (PD = L) := by show _ = _; rw [HPE.out, if_pos ⟨rfl, HLR.out, by rw [HLR.out]; exact hhd.symm⟩]
              rw [hhd] at HHD
              clear HPE hhd HLR
              go_upto_region 20 with fail
              go_region_held3 (fun w' => w'.cell? ⟨g, 1, none⟩ = some (.string h)) (first | exact HS0 | exact HS1 | exact HS2)
                (first
                  | (go_at_call 44; refine HMY1.out.mono ?_; clear HMY1; rintro e w5 ⟨rfl, hb5⟩; have HB5 := hid (HBd.out.trans (hb5.mono HBd.out.size)); have HR5 := hid (HRd.out.on hb5); have HS1 := HK.out w5 HB5.out; clear hb5)
                  | (go_at_call 69; refine (HHD.out _ _ _ HR5.out).mono ?_; clear HHD; rintro e w6 ⟨rfl, hb6⟩; have HB6 := hid (HB5.out.trans (hb6.mono HB5.out.size)); have HR6 := hid (HR5.out.on hb6); have HS2 := HK.out w6 HB6.out; clear hb6))
              go_wp2_with fail
              go_ret
              refine ⟨_, rfl, ?_, HB6.out⟩
              rw [HPD.out]
              exact HR6.out
            · have HPD : Hid (PD = []) := by show _ = _; rw [HPE.out, if_neg]; rintro ⟨_, h2, h3⟩; rw [h2] at h3; exact hhd h3.symm
              have hne := other_texts hhd
              generalize hdB (rows L) L = hd at *
              clear HPE hhd HLR
              go_upto_region 20 with fail
              go_region_held3 (fun w' => w'.cell? ⟨g, 1, none⟩ = some (.string h)) (first | exact HS0 | exact HS1 | exact HS2)
                (first
                  | (go_at_call 44; refine HMY1.out.mono ?_; clear HMY1; rintro e w5 ⟨rfl, hb5⟩; have HB5 := hid (HBd.out.trans (hb5.mono HBd.out.size)); have HR5 := hid (HRd.out.on hb5); have HS1 := HK.out w5 HB5.out; clear hb5)
                  | (go_at_call 69; refine (HHD.out _ _ _ HR5.out).mono ?_; clear HHD; rintro e w6 ⟨rfl, hb6⟩; have HB6 := hid (HB5.out.trans (hb6.mono HB5.out.size)); have HR6 := hid (HR5.out.on hb6); have HS2 := HK.out w6 HB6.out; clear hb6))
              go_wp2_with fail
              go_ret
              refine ⟨_, rfl, ?_, HB6.out⟩
              rw [HPD.out]
              exact World.ownsRow_nil _ _ _ _
          · have HPD : Hid (PD = []) := by show _ = _; rw [HPE.out, if_neg]; rintro ⟨h2, _⟩; exact hx0 h2
            clear HPE HLR HHD
            have hxb : ((x : Int) == 0) = false := by simp; omega
            have hxn : ((x : Int) != 0) = true := by simp; omega
            have hxz : ¬ (x : Int) = 0 := by omega
            clear hcv
            go_upto_region 20 with fail
            go_wp2_with fail
            refine wp_region_d (fun _ => True) (fun _ => true) (by kernel_rfl) ?_
            refine wpAnyM_pick (i := 0) (some 94) (v := ?vz1) rfl rfl (by kernel_rfl) (by kernel_rfl) (by kernel_rfl) (by kernel_rfl) (fun _ _ _ h => h) (Or.inl ⟨by rfl, ?hz1⟩) trivial ?rz1
            case hz1 => intro w hSw; go_simp; try with_reducible rfl
            try simp only [Act.put, List.setIfInBounds_toArray, List.set_cons_zero, List.set_cons_succ]
            refine wpAnyM_pick (i := 1) (some 95) (v := ?vz2) rfl rfl (by kernel_rfl) (by kernel_rfl) (by kernel_rfl) (by kernel_rfl) (fun _ _ _ h => h) (Or.inl ⟨by rfl, ?hz2⟩) trivial ?rz2
            case hz2 => intro w hSw; go_simp; try with_reducible rfl
            try simp only [Act.put, List.setIfInBounds_toArray, List.set_cons_zero, List.set_cons_succ]
            refine wpAnyM_one (i := 2) (by kernel_rfl) rfl (fun K hK => ?_)
            go_simp
            go_at_call 44
            refine HMY1.out.mono ?_
            clear HMY1
            rintro e w5 ⟨rfl, hb5⟩
            have HB5 := hid (HBd.out.trans (hb5.mono HBd.out.size))
            clear hb5
            try go_simp
            refine hK.out _ _ (fun _ => trivial) ?_
            clear hK K
            try simp only [Act.put, List.setIfInBounds_toArray, List.set_cons_zero, List.set_cons_succ]
            refine wpAnyM_pick (i := 3) (some 97) (v := ?vz3) rfl rfl (by kernel_rfl) (by kernel_rfl) (by kernel_rfl) (by kernel_rfl) (fun _ _ _ h => h) (Or.inl ⟨by rfl, ?hz3⟩) trivial ?rz3
            case hz3 => intro w hSw; go_simp; try with_reducible rfl
            try simp only [Act.put, List.setIfInBounds_toArray, List.set_cons_zero, List.set_cons_succ]
            refine wpAnyM_pick (i := 4) (some 98) (v := ?vz4) rfl rfl (by kernel_rfl) (by kernel_rfl) (by kernel_rfl) (by kernel_rfl) (fun _ _ _ h => h) (Or.inl ⟨by rfl, ?hz4⟩) trivial ?rz4
            case hz4 => intro w hSw; go_simp; try with_reducible rfl
            try simp only [Act.put, List.setIfInBounds_toArray, List.set_cons_zero, List.set_cons_succ]
            refine wpAnyM_pick (i := 5) (some 99) (v := undef) rfl rfl (by kernel_rfl) (by kernel_rfl) (by kernel_rfl) (by kernel_rfl) (fun _ _ _ h => h) (Or.inr ⟨by rfl, rfl⟩) trivial ?rz5
            try simp only [Act.put, List.setIfInBounds_toArray, List.set_cons_zero, List.set_cons_succ]
            refine wpAnyM_pick (i := 6) (some 100) (v := undef) rfl rfl (by kernel_rfl) (by kernel_rfl) (by kernel_rfl) (by kernel_rfl) (fun _ _ _ h => h) (Or.inr ⟨by rfl, rfl⟩) trivial ?rz6
            try simp only [Act.put, List.setIfInBounds_toArray, List.set_cons_zero, List.set_cons_succ]
            refine wpAnyM_pick (i := 7) (some 101) (v := undef) rfl rfl (by kernel_rfl) (by kernel_rfl) (by kernel_rfl) (by kernel_rfl) (fun _ _ _ h => h) (Or.inr ⟨by rfl, rfl⟩) trivial ?rz7
            try simp only [Act.put, List.setIfInBounds_toArray, List.set_cons_zero, List.set_cons_succ]
            refine wpAnyM_pick (i := 8) (some 102) (v := undef) rfl rfl (by kernel_rfl) (by kernel_rfl) (by kernel_rfl) (by kernel_rfl) (fun _ _ _ h => h) (Or.inr ⟨by rfl, rfl⟩) trivial ?rz8
            try simp only [Act.put, List.setIfInBounds_toArray, List.set_cons_zero, List.set_cons_succ]
            refine wpAnyM_pick (i := 9) (some 103) (v := undef) rfl rfl (by kernel_rfl) (by kernel_rfl) (by kernel_rfl) (by kernel_rfl) (fun _ _ _ h => h) (Or.inr ⟨by rfl, rfl⟩) trivial ?rz9
            try simp only [Act.put, List.setIfInBounds_toArray, List.set_cons_zero, List.set_cons_succ]
            refine wpAnyM_pick (i := 10) (some 104) (v := undef) rfl rfl (by kernel_rfl) (by kernel_rfl) (by kernel_rfl) (by kernel_rfl) (fun _ _ _ h => h) (Or.inr ⟨by rfl, rfl⟩) trivial ?rz10
            try simp only [Act.put, List.setIfInBounds_toArray, List.set_cons_zero, List.set_cons_succ]
            refine wpAnyM_pick (i := 11) (some 105) (v := ?vz11) rfl rfl (by kernel_rfl) (by kernel_rfl) (by kernel_rfl) (by kernel_rfl) (fun _ _ _ h => h) (Or.inl ⟨by rfl, ?hz11⟩) trivial ?rz11
            case hz11 => intro w hSw; go_simp; try with_reducible rfl
            try simp only [Act.put, List.setIfInBounds_toArray, List.set_cons_zero, List.set_cons_succ]
            refine wpAnyM_done (by kernel_rfl) ?_ _
            try simp only [Act.put, List.setIfInBounds_toArray, List.set_cons_zero, List.set_cons_succ]
            go_wp2_with fail
            go_ret
            refine ⟨_, rfl, ?_, HB5.out⟩
            rw [HPD.out]
            exact World.ownsRow_nil _ _ _ _

theorem rTold_any (w : World) (B : Nat) (v : Value) (bs : List ByteArray) (hv : RowS w B v bs) (hlo : 64 ≤ bs.length) (hhi : bs.length ≤ 2048) (hbs : ∀ s ∈ bs, s.size = 256) :
    Calls Try.prog 76 #[v] w fun e w' => PePost1 w (pend bs) e w' := by
  by_cases hr : 1 ≤ told (hdOf bs) ∧ told (hdOf bs) ≤ pgs bs.length
  · exact rTold_yes w B v bs hv hlo hhi hbs hr
  · refine (rTold_no w B v bs hv hlo hhi hbs hr).mono ?_
    rintro e w' ⟨rfl, hb⟩
    refine ⟨_, rfl, ?_, hb⟩
    rw [show pend bs = [] by unfold pend; rw [if_neg hr]]
    exact World.ownsRow_nil _ _ _ _

end Go.Proofs.Ythinhlmefifffaa
