/-
  How blocks stand behind a group that was cut, and behind what put it right.
-/
import Derived.Test.YtjcbaiohpdihoaaGreatDoorEq
import Derived.Test.YtjcbaiohpdihoaaGreatDoorWr
import Derived.Test.YtjcbaiohpdihoaaGreatDoorRc
namespace Go.Proofs.YtjcbaiohpdihoaaGreatDoor
open Go.RowKit Go.Shelf
set_option linter.unusedVariables false
set_option linter.unusedSimpArgs false
set_option maxRecDepth 100000

/-- writes, done to blocks -/
def appl (bs : List ByteArray) (W : List Pg) : List ByteArray := W.foldl (fun b p => b.set p.pl.toNat p.data) bs
theorem appl_nil (bs : List ByteArray) : appl bs [] = bs := rfl
theorem appl_cons (bs : List ByteArray) (p : Pg) (W : List Pg) : appl bs (p :: W) = appl (bs.set p.pl.toNat p.data) W := rfl
theorem appl_append (bs : List ByteArray) (A B : List Pg) : appl bs (A ++ B) = appl (appl bs A) B := by unfold appl; rw [List.foldl_append]
theorem appl_len : ∀ (W : List Pg) (bs : List ByteArray), (appl bs W).length = bs.length
  | [], bs => rfl
  | p :: W, bs => by rw [appl_cons, appl_len W]; simp
/-- where nothing is written all stands -/
theorem appl_ne : ∀ (W : List Pg) (bs : List ByteArray) (i : Nat), (∀ p ∈ W, p.pl.toNat ≠ i) → (appl bs W)[i]? = bs[i]?
  | [], bs, i, _ => rfl
  | p :: W, bs, i, h => by
    rw [appl_cons, appl_ne W _ i (fun q hq => h q (by simp [hq])), List.getElem?_set_ne (h p (by simp))]
/-- where it is written once it is what was written -/
theorem appl_at {A B : List Pg} {bs : List ByteArray} {p : Pg} {i : Nat} (hi : p.pl.toNat = i) (hl : i < bs.length) (hB : ∀ q ∈ B, q.pl.toNat ≠ i) : (appl bs (A ++ p :: B))[i]? = some p.data := by
  rw [appl_append, appl_cons, appl_ne B _ i hB, hi, List.getElem?_set_self (by rw [appl_len]; exact hl)]
theorem appl_once {W : List Pg} {bs : List ByteArray} {p : Pg} {i j : Nat} (hj : W[j]? = some p) (hi : p.pl.toNat = i) (hl : i < bs.length) (hB : ∀ q ∈ W.drop (j + 1), q.pl.toNat ≠ i) : (appl bs W)[i]? = some p.data := by
  have h := appl_at (A := W.take j) (B := W.drop (j + 1)) hi hl hB
  rw [← drop_cons hj, List.take_append_drop] at h
  exact h
/-- blocks that may be written -/
def VW (n : Nat) (W : List Pg) : Prop := ∀ p ∈ W, (0 ≤ p.pl ∧ p.pl < n) ∧ p.data.size = 256
theorem Ds.wr_on {d : Ds} (h : d.dn = false) {p : Pg} (hp : (0 ≤ p.pl ∧ p.pl < d.bs.length) ∧ p.data.size = 256) (hl : ¬ d.lf = 0) : d.wrE p.pl p.data = 0 ∧ d.wr p.pl p.data = d.put p.pl p.data :=
  Ds.wrE_ok h (by unfold Ds.out; omega) hp.2 hl
theorem Ds.wrs_on : ∀ (W : List Pg) (d : Ds), d.dn = false → d.lf < 0 → VW d.bs.length W → d.wrs W = (0, { d with bs := appl d.bs W, lg := d.lg ++ W })
  | [], d, _, _, _ => by simp [Ds.wrs, appl_nil]
  | p :: W, d, h, hl, hv => by
    obtain ⟨e1, e2⟩ := Ds.wr_on h (hv p (by simp)) (by omega)
    rw [Ds.wrs_cons, e1, e2, if_pos rfl, Ds.wrs_on W (d.put p.pl p.data) h (by simp only [Ds.put]; split <;> omega) (fun q hq => by simp only [Ds.put, List.length_set]; exact hv q (by simp [hq]))]
    simp only [Ds.put, appl_cons, List.append_assoc, List.singleton_append]
    rw [if_neg (by omega)]
theorem Ds.wrs_cut : ∀ (W : List Pg) (d : Ds) (c : Nat), d.dn = false → d.lf = (c : Int) → VW d.bs.length W → d.wrs W = if W.length ≤ c then (0, { d with bs := appl d.bs W, lg := d.lg ++ W, lf := ((c - W.length : Nat) : Int) }) else (17, ⟨appl d.bs (W.take c), d.lg ++ W.take c, 0, true⟩)
  | [], d, c, _, hl, _ => by
    rw [if_pos (by simp)]
    simp [Ds.wrs, appl_nil, ← hl]
  | p :: W, d, 0, h, hl, hv => by
    obtain ⟨e1, e2⟩ := Ds.wrE_cut (a := p.pl) (s := p.data) h (by have := (hv p (by simp)).1; unfold Ds.out; omega) (hv p (by simp)).2 hl
    rw [Ds.wrs_cons, e1, e2, if_neg (by decide), if_neg (by simp)]
    simp [appl_nil, hl]
  | p :: W, d, c + 1, h, hl, hv => by
    obtain ⟨e1, e2⟩ := Ds.wr_on h (hv p (by simp)) (by omega)
    rw [Ds.wrs_cons, e1, e2, if_pos rfl, Ds.wrs_cut W (d.put p.pl p.data) c h (by simp only [Ds.put]; rw [if_pos (by omega)]; omega) (fun q hq => by simp only [Ds.put, List.length_set]; exact hv q (by simp [hq]))]
    by_cases hc : W.length ≤ c
    · rw [if_pos hc, if_pos (by simp; omega)]
      simp only [Ds.put, appl_cons, List.append_assoc, List.singleton_append, List.length_cons]
      rw [show c + 1 - (W.length + 1) = c - W.length by omega]
    · rw [if_neg hc, if_neg (by simp; omega)]
      simp only [Ds.put, appl_cons, List.append_assoc, List.singleton_append, List.take_succ_cons]

/-- a group that may be written -/
structure Gp (n : Nat) (L : List Pg) : Prop where
  lo : 64 ≤ n
  hi : n ≤ 2048
  len : L.length ≤ pgs n
  ok : ∀ p ∈ L, isPg n p.pl ∧ p.data.size = 256
  nd : (L.map Pg.pl).Nodup
theorem Gp.ck {n : Nat} {L : List Pg} (h : Gp n L) : ck n L = 0 := by
  unfold Go.Proofs.YtjcbaiohpdihoaaGreatDoor.ck
  rw [if_neg (by have := h.len; omega)]
  exact ckL_ok (fun p hp => ⟨(h.ok p hp).1, (h.ok p hp).2, by simp⟩) h.nd
theorem Gp.pl {n : Nat} {L : List Pg} (h : Gp n L) {p : Pg} (hp : p ∈ L) : 0 ≤ p.pl ∧ p.pl < n := isPg_lt h.lo (h.ok p hp).1
theorem Gp.far {n : Nat} {L : List Pg} (h : Gp n L) {p : Pg} (hp : p ∈ L) : p.pl.toNat = 0 ∨ 2 + lb (pgs n) + pgs n ≤ p.pl.toNat := by
  have h1 := (h.ok p hp).1
  unfold isPg frs at h1
  omega
theorem enumP_mem {b : Nat} {l : List ByteArray} {p : Pg} (h : p ∈ enumP b l) : ∃ i s, l[i]? = some s ∧ p = ⟨((b + i : Nat) : Int), s⟩ := by
  obtain ⟨i, hi⟩ := List.mem_iff_getElem?.1 h
  have hlt : i < l.length := by have := (List.getElem?_eq_some_iff.1 hi).1; rw [enumP_len] at this; exact this
  rw [enumP_at (List.getElem?_eq_getElem hlt)] at hi
  exact ⟨i, _, List.getElem?_eq_getElem hlt, (Option.some.inj hi).symm⟩
/-- what is saved stands ahead of the pages, the head last -/
theorem Gp.saved {n : Nat} {L : List Pg} (h : Gp n L) {p : Pg} (hp : p ∈ copiesL n L ++ enumP 2 (rows L)) : (2 ≤ p.pl.toNat ∧ p.pl.toNat < 2 + lb (pgs n) + pgs n) ∧ 0 ≤ p.pl ∧ p.data.size = 256 := by
  have hlb := lb_mono h.len
  have hln := h.len
  rcases List.mem_append.1 hp with hp | hp
  · obtain ⟨i, s, hi, rfl⟩ := enumP_mem hp
    have hlt : i < L.length := by have := (List.getElem?_eq_some_iff.1 hi).1; rwa [List.length_map] at this
    rw [List.getElem?_map, List.getElem?_eq_getElem hlt] at hi
    cases hi
    refine ⟨⟨?_, ?_⟩, by simp only; omega, (h.ok _ (List.getElem_mem hlt)).2⟩ <;> simp only [Int.toNat_natCast] <;> omega
  · obtain ⟨i, s, hi, rfl⟩ := enumP_mem hp
    have hlt : i < lb L.length := by have := (List.getElem?_eq_some_iff.1 hi).1; rwa [rows_len] at this
    refine ⟨⟨?_, ?_⟩, by simp only; omega, rows_size (List.mem_of_getElem? hi)⟩ <;> simp only [Int.toNat_natCast] <;> omega
theorem Gp.vw {n : Nat} {L : List Pg} (h : Gp n L) : VW n (savedL n L ++ settledL L) := by
  have hf := pgs_fit h.lo
  have hlo := pgs_lo h.lo
  have hn := h.lo
  intro p hp
  unfold savedL settledL at hp
  rcases List.mem_append.1 hp with hp | hp
  · rcases List.mem_append.1 hp with hp | hp
    · obtain ⟨h1, h2, h3⟩ := h.saved hp
      exact ⟨by omega, h3⟩
    · simp at hp
      subst hp
      exact ⟨by simp only; omega, hdB_size _ _⟩
  · rcases List.mem_append.1 hp with hp | hp
    · exact ⟨h.pl hp, (h.ok p hp).2⟩
    · simp at hp
      subst hp
      exact ⟨by simp only; omega, Z_size⟩

/-- the pages are alike -/
structure PgEq (n : Nat) (a b : List ByteArray) : Prop where
  la : a.length = n
  lb : b.length = n
  at' : ∀ i : Nat, isPg n (i : Int) → a[i]? = b[i]?
theorem PgEq.refl {n : Nat} {a : List ByteArray} (h : a.length = n) : PgEq n a a := ⟨h, h, fun _ _ => rfl⟩
theorem PgEq.trans {n : Nat} {a b c : List ByteArray} (h : PgEq n a b) (k : PgEq n b c) : PgEq n a c := ⟨h.la, k.lb, fun i hi => (h.at' i hi).trans (k.at' i hi)⟩
theorem PgEq.symm {n : Nat} {a b : List ByteArray} (h : PgEq n a b) : PgEq n b a := ⟨h.lb, h.la, fun i hi => (h.at' i hi).symm⟩
theorem Gp.two {n : Nat} {L : List Pg} (h : Gp n L) {j : Nat} {p q : Pg} (hj : L[j]? = some p) (hq : q ∈ L.drop (j + 1)) : q.pl.toNat ≠ p.pl.toNat := by
  intro e
  have hp := h.pl (List.mem_of_getElem? hj)
  have hq' := h.pl (List.mem_of_mem_drop hq)
  have e2 : q.pl = p.pl := by omega
  have hnd := h.nd
  rw [← List.take_append_drop j L, drop_cons hj, List.map_append, List.map_cons] at hnd
  have h3 := (List.nodup_append.1 hnd).2.1
  rw [List.nodup_cons] at h3
  exact h3.1 (List.mem_map.2 ⟨q, hq, e2⟩)
theorem Gp.at {n : Nat} {L : List Pg} (h : Gp n L) {p : Pg} (hp : p ∈ L) {bs : List ByteArray} (hb : bs.length = n) : (appl bs L)[p.pl.toNat]? = some p.data := by
  obtain ⟨j, hj⟩ := List.mem_iff_getElem?.1 hp
  have hpl := h.pl hp
  exact appl_once hj rfl (by omega) (fun q hq => h.two hj hq)
/-- where the pages that aren't written are alike all are alike behind the group -/
theorem Gp.sync {n : Nat} {L : List Pg} (h : Gp n L) {a b : List ByteArray} (ha : a.length = n) (hb : b.length = n) (he : ∀ i : Nat, isPg n (i : Int) → (∀ p ∈ L, p.pl.toNat ≠ i) → a[i]? = b[i]?) : PgEq n (appl a L) (appl b L) := by
  refine ⟨by rw [appl_len, ha], by rw [appl_len, hb], fun i hi => ?_⟩
  by_cases hw : ∃ p ∈ L, p.pl.toNat = i
  · obtain ⟨p, hp, rfl⟩ := hw
    rw [h.at hp ha, h.at hp hb]
  · have hw' : ∀ p ∈ L, p.pl.toNat ≠ i := fun p hp e => hw ⟨p, hp, e⟩
    rw [appl_ne L a i hw', appl_ne L b i hw']
    exact he i hi hw'
theorem Gp.page_ne {n : Nat} {L : List Pg} (h : Gp n L) {i : Nat} (hi : isPg n (i : Int)) {p : Pg} (hp : p ∈ savedL n L) : p.pl.toNat ≠ i := by
  have hplo := pgs_lo h.lo
  have hpi : i = 0 ∨ 2 + lb (pgs n) + pgs n ≤ i := by unfold isPg frs at hi; omega
  unfold savedL at hp
  rcases List.mem_append.1 hp with hp | hp
  · have := (h.saved hp).1
    omega
  · simp at hp
    subst hp
    show (1 : Int).toNat ≠ i
    omega

/-- nothing waits, and the pages are as those of others -/
structure Old (n : Nat) (b0 bs : List ByteArray) : Prop where
  head : bs[1]? = some Z
  eq : PgEq n bs b0
theorem settle_new {n : Nat} {L : List Pg} (h : Gp n L) {b0 bs : List ByteArray} (hb : bs.length = n) (he : PgEq n (appl bs L) (appl b0 L)) : Old n (appl b0 L) (appl bs (settledL L)) := by
  have hn := h.lo
  have hplo := pgs_lo h.lo
  unfold settledL
  rw [appl_append, appl_cons, appl_nil]
  refine ⟨?_, ?_, he.lb, fun i hi => ?_⟩
  · show ((appl bs L).set (1 : Int).toNat Z)[1]? = _
    exact List.getElem?_set_self (by rw [appl_len, hb]; omega)
  · rw [List.length_set, appl_len, hb]
  · have hi1 : (1 : Int).toNat ≠ i := by unfold isPg frs at hi; show 1 ≠ i; omega
    show ((appl bs L).set (1 : Int).toNat Z)[i]? = _
    rw [List.getElem?_set_ne hi1]
    exact he.at' i hi
theorem cmt_new {n : Nat} {L : List Pg} (h : Gp n L) {b0 : List ByteArray} (hb : b0.length = n) : Old n (appl b0 L) (appl b0 (savedL n L ++ settledL L)) := by
  rw [appl_append]
  have hs : (appl b0 (savedL n L)).length = n := by rw [appl_len, hb]
  exact settle_new h hs (h.sync hs hb (fun i hi _ => appl_ne _ _ i (fun p hp => h.page_ne hi hp)))
theorem ck_nil (n : Nat) : ck n [] = 0 := by unfold ck; rw [if_neg (by simp)]; rfl
theorem cmt_nil (d : Ds) : cmt d [] = (0, d) := by unfold cmt; rw [if_pos (ck_nil _), if_pos rfl]
theorem cmt_on {d : Ds} {L : List Pg} (h : Gp d.bs.length L) (hL : L ≠ []) (hdn : d.dn = false) (hl : d.lf < 0) : cmt d L = (0, { d with bs := appl d.bs (savedL d.bs.length L ++ settledL L), lg := d.lg ++ (savedL d.bs.length L ++ settledL L) }) := by
  unfold cmt
  rw [if_pos h.ck, if_neg hL, Ds.wrs_on _ d hdn hl h.vw]

/-- a group that waits on blocks -/
structure Hold (n : Nat) (L : List Pg) (bs : List ByteArray) : Prop where
  len : bs.length = n
  head : bs[1]? = some (hdB (rows L) L)
  list : ∀ j, j < lb L.length → bs[2 + j]? = some (rowB L j)
  copy : ∀ i p, L[i]? = some p → bs[2 + lb (pgs n) + i]? = some p.data
theorem Gp.hold {n : Nat} {L : List Pg} (h : Gp n L) {bs : List ByteArray} (hb : bs.length = n) : Hold n L (appl bs (savedL n L)) := by
  have hf := pgs_fit h.lo
  have hlb := lb_mono h.len
  have hln := h.len
  have hn := h.lo
  have hplo := pgs_lo h.lo
  refine ⟨by rw [appl_len, hb], ?_, fun j hj => ?_, fun i p hp => ?_⟩
  · have := appl_once (bs := bs) (i := 1) (saved_head n L) rfl (by omega) (by
      intro q hq
      rw [List.drop_eq_nil_of_le (by rw [savedL_len, rows_len]; omega)] at hq
      cases hq)
    exact this
  · have hr := rows_at (L := L) hj
    refine appl_once (bs := bs) (saved_row (n := n) hr) (Int.toNat_natCast _) (by omega) (fun q hq => ?_)
    obtain ⟨k, hk⟩ := List.mem_iff_getElem?.1 hq
    rw [List.getElem?_drop] at hk
    by_cases hlast : j + 1 + k < lb L.length
    · rw [show L.length + j + 1 + k = L.length + (j + 1 + k) by omega, saved_row (rows_at hlast)] at hk
      cases hk
      simp only [Int.toNat_natCast]
      omega
    · have hlt := (List.getElem?_eq_some_iff.1 hk).1
      rw [savedL_len] at hlt
      rw [show L.length + j + 1 + k = L.length + (rows L).length by rw [rows_len]; omega, saved_head] at hk
      cases hk
      show (1 : Int).toNat ≠ _
      omega
  · have hil := (List.getElem?_eq_some_iff.1 hp).1
    refine appl_once (bs := bs) (p := ⟨((2 + lb (pgs n) + i : Nat) : Int), p.data⟩) (saved_copy (n := n) hp) (Int.toNat_natCast _) (by omega) (fun q hq => ?_)
    obtain ⟨k, hk⟩ := List.mem_iff_getElem?.1 hq
    rw [List.getElem?_drop] at hk
    have hlt := (List.getElem?_eq_some_iff.1 hk).1
    rw [savedL_len] at hlt
    by_cases h1 : i + 1 + k < L.length
    · rw [saved_copy (List.getElem?_eq_getElem h1)] at hk
      cases hk
      simp only [Int.toNat_natCast]
      omega
    · by_cases h2 : i + 1 + k < L.length + lb L.length
      · obtain ⟨j, hj⟩ : ∃ j, i + 1 + k = L.length + j := ⟨i + 1 + k - L.length, by omega⟩
        rw [hj, saved_row (rows_at (by omega))] at hk
        cases hk
        simp only [Int.toNat_natCast]
        omega
      · rw [show i + 1 + k = L.length + (rows L).length by rw [rows_len]; omega, saved_head] at hk
        cases hk
        show (1 : Int).toNat ≠ _
        omega
theorem Hold.pages {n : Nat} {L M : List Pg} {bs : List ByteArray} (h : Hold n L bs) (hg : Gp n L) (hM : ∀ p ∈ M, p ∈ L) : Hold n L (appl bs M) := by
  have hlb := lb_mono hg.len
  have hln := hg.len
  have hlo := pgs_lo hg.lo
  refine ⟨by rw [appl_len, h.len], ?_, fun j hj => ?_, fun i p hp => ?_⟩
  · rw [appl_ne M bs 1 (fun p hp => by have := hg.far (hM p hp); omega)]; exact h.head
  · rw [appl_ne M bs _ (fun p hp => by have := hg.far (hM p hp); omega)]; exact h.list j hj
  · have hil := (List.getElem?_eq_some_iff.1 hp).1
    rw [appl_ne M bs _ (fun p hp => by have := hg.far (hM p hp); omega)]; exact h.copy i p hp
theorem nums_at : ∀ (A : List Pg) (r : Nat) (p : Pg), A[r]? = some p → ((nums A).drop (2 * r)).take 2 = Nu.be p.pl.toNat 2
  | [], r, p, h => by simp at h
  | q :: A, 0, p, h => by
    simp at h
    subst h
    show (Nu.be q.pl.toNat 2 ++ nums A).take 2 = _
    rw [List.take_append_of_le_length (by rw [Nu.be_length]; omega), List.take_of_length_le (by rw [Nu.be_length]; omega)]
  | q :: A, r + 1, p, h => by
    show ((Nu.be q.pl.toNat 2 ++ nums A).drop (2 * (r + 1))).take 2 = _
    rw [List.drop_append, Nu.be_length, List.drop_eq_nil_of_le (by rw [Nu.be_length]; omega), List.nil_append, show 2 * (r + 1) - 2 = 2 * r by omega]
    exact nums_at A r p (by simpa using h)
theorem numAt_rows {L : List Pg} {i : Nat} {p : Pg} (h : L[i]? = some p) (hp : 0 ≤ p.pl ∧ p.pl < 65536) : ((numAt (rows L) i : Nat) : Int) = p.pl := by
  have hil := (List.getElem?_eq_some_iff.1 h).1
  have hq : i / 128 < lb L.length := by unfold lb; omega
  unfold numAt
  rw [List.getD_eq_getElem?_getD, rows_at hq]
  show ((Nu.val ((((rowB L (i / 128)).data.toList).drop (i % 128 * 2)).take 2) : Nat) : Int) = _
  unfold rowB
  have hpart : (part L (i / 128))[i % 128]? = some p := by
    unfold part
    rw [List.getElem?_take, if_pos (by omega), List.getElem?_drop, show 128 * (i / 128) + i % 128 = i by omega]
    exact h
  have hpl := (List.getElem?_eq_some_iff.1 hpart).1
  rw [pad_data, List.drop_append, List.take_append, List.length_drop, nums_len]
  rw [show 2 - (2 * (part L (i / 128)).length - i % 128 * 2) = 0 by omega, List.take_zero, List.append_nil, Nat.mul_comm (i % 128) 2, nums_at _ _ _ hpart, Nu.val_be_of_lt (by omega)]
  omega
theorem told_hd {lst : List ByteArray} {L : List Pg} (h : L.length < 65536) : told (hdB lst L) = L.length := by
  unfold told hdB
  rw [pad_data]
  have h4 : (hdL lst L ++ List.replicate (256 - (hdL lst L).length) 0).take 4 = [106, 114, 110, 108] := by
    unfold hdL; simp
  have h2 : ((hdL lst L ++ List.replicate (256 - (hdL lst L).length) 0).drop 4).take 2 = Nu.be L.length 2 := by
    unfold hdL
    rw [List.append_assoc, List.append_assoc, List.drop_append, List.append_assoc]
    simp only [List.length_cons, List.length_nil, Nat.reduceAdd, Nat.sub_self, List.drop_zero]
    rw [List.drop_eq_nil_of_le (by simp), List.nil_append, List.take_append_of_le_length (by rw [Nu.be_length]; omega), List.take_of_length_le (by rw [Nu.be_length]; omega)]
  rw [if_pos h4, h2, Nu.val_be_of_lt (by omega)]
theorem told_Z : told Z = 0 := by unfold told; rw [if_neg (by decide)]
theorem cutB_eq {bs l : List ByteArray} {a : Nat} (h : ∀ i, i < l.length → bs[a + i]? = l[i]?) : cutB bs a l.length = l := by
  apply List.ext_getElem?
  intro i
  by_cases hi : i < l.length
  · rw [cutB_at hi, h i hi]
  · rw [List.getElem?_eq_none (by unfold cutB; rw [List.length_take]; omega), List.getElem?_eq_none (by omega)]
/-- what waits is told -/
theorem Hold.pend {n : Nat} {L : List Pg} {bs : List ByteArray} (h : Hold n L bs) (hg : Gp n L) (hL : L ≠ []) : pend bs = L := by
  have hq := pgs_hi hg.hi
  have hln := hg.len
  have h0 : 0 < L.length := by cases L with | nil => exact absurd rfl hL | cons _ _ => simp
  have hhd : hdOf bs = hdB (rows L) L := by unfold hdOf; rw [List.getD_eq_getElem?_getD, h.head]; rfl
  have ht : told (hdOf bs) = L.length := by rw [hhd]; exact told_hd (by omega)
  have hls : lsOf bs = rows L := by
    unfold lsOf
    rw [ht, ← rows_len]
    exact cutB_eq (fun j hj => by rw [rows_len] at hj; rw [h.list j hj, rows_at hj])
  have hcp : cpOf bs = L.map Pg.data := by
    unfold cpOf
    rw [ht, h.len]
    have := cutB_eq (bs := bs) (l := L.map Pg.data) (a := 2 + lb (pgs n)) (fun i hi => by
      rw [List.length_map] at hi
      rw [h.copy i _ (List.getElem?_eq_getElem hi), List.getElem?_map, List.getElem?_eq_getElem hi]
      rfl)
    rwa [List.length_map] at this
  have hgp : gpOf bs = L := by
    unfold gpOf
    rw [hls, hcp]
    apply List.ext_getElem?
    intro i
    by_cases hi : i < L.length
    · have hp := List.getElem?_eq_getElem hi
      have hpl := hg.pl (List.getElem_mem hi)
      have hhi := hg.hi
      rw [grpL_at (s := L[i].data) (by rw [List.getElem?_map, hp]; rfl), hp, numAt_rows hp (by omega)]
    · rw [List.getElem?_eq_none (by rw [grpL_len, List.length_map]; omega), List.getElem?_eq_none (by omega)]
  unfold Go.Proofs.YtjcbaiohpdihoaaGreatDoor.pend
  rw [ht, h.len, hgp, hls, hhd, if_pos (by omega), if_pos ⟨hg.ck, rfl, rfl⟩]
theorem pend_Z {bs : List ByteArray} (h : bs[1]? = some Z) : pend bs = [] := by
  have hhd : hdOf bs = Z := by unfold hdOf; rw [List.getD_eq_getElem?_getD, h]; rfl
  unfold pend
  rw [hhd, told_Z, if_neg (by omega)]

/-- the pages of blocks, as a list -/
def pgB (bs : List ByteArray) : List ByteArray := bs.take 1 ++ cutB bs (frs bs.length) (pgs bs.length - 1)
theorem PgEq.pgB {n : Nat} {a b : List ByteArray} (h : PgEq n a b) (hn : 64 ≤ n) : pgB a = pgB b := by
  unfold Go.Proofs.YtjcbaiohpdihoaaGreatDoor.pgB
  rw [h.la, h.lb]
  have hp := pgs_lo hn
  congr 1
  · apply List.ext_getElem?
    intro i
    rw [List.getElem?_take, List.getElem?_take]
    split
    · have : i = 0 := by omega
      subst this
      exact h.at' 0 (.inl rfl)
    · rfl
  · apply List.ext_getElem?
    intro i
    by_cases hi : i < pgs n - 1
    · rw [cutB_at hi, cutB_at hi]
      refine h.at' _ (.inr ?_)
      omega
    · unfold cutB
      rw [List.getElem?_take, List.getElem?_take, if_neg hi, if_neg hi]

/-- the group waits -/
structure Mdl (n : Nat) (L : List Pg) (b0 bs : List ByteArray) : Prop where
  hold : Hold n L bs
  eq : PgEq n (appl bs L) (appl b0 L)

theorem take_saved_front {n : Nat} {L : List Pg} {c : Nat} (hc : c ≤ L.length + lb L.length) : (savedL n L ++ settledL L).take c = (copiesL n L ++ enumP 2 (rows L)).take c := by
  have hl : (copiesL n L ++ enumP 2 (rows L)).length = L.length + lb L.length := by
    unfold copiesL
    rw [List.length_append, enumP_len, enumP_len, List.length_map, rows_len]
  unfold savedL
  rw [List.append_assoc, List.take_append_of_le_length (by rw [hl]; exact hc)]
theorem cmt_old {n : Nat} {L : List Pg} (h : Gp n L) {b0 : List ByteArray} (hb : b0.length = n) (hz : b0[1]? = some Z) {c : Nat} (hc : c ≤ L.length + lb L.length) : Old n b0 (appl b0 ((savedL n L ++ settledL L).take c)) := by
  rw [take_saved_front hc]
  have hw : ∀ p ∈ (copiesL n L ++ enumP 2 (rows L)).take c, 2 ≤ p.pl.toNat ∧ p.pl.toNat < 2 + lb (pgs n) + pgs n := fun p hp => (h.saved (List.mem_of_mem_take hp)).1
  have hplo := pgs_lo h.lo
  refine ⟨?_, by rw [appl_len, hb], hb, fun i hi => ?_⟩
  · rw [appl_ne _ _ 1 (fun p hp => by have := hw p hp; omega)]; exact hz
  · have hpi : i = 0 ∨ 2 + lb (pgs n) + pgs n ≤ i := by unfold isPg frs at hi; omega
    exact appl_ne _ _ i (fun p hp => by have := hw p hp; omega)
theorem settled_take {L : List Pg} {j : Nat} (h : j ≤ L.length) : (settledL L).take j = L.take j := by
  unfold settledL
  rw [List.take_append_of_le_length h]
theorem cmt_mdl {n : Nat} {L : List Pg} (h : Gp n L) {b0 : List ByteArray} (hb : b0.length = n) {c : Nat} (h1 : L.length + lb L.length + 1 ≤ c) (h2 : c ≤ 2 * L.length + lb L.length + 1) : Mdl n L b0 (appl b0 ((savedL n L ++ settledL L).take c)) := by
  obtain ⟨j, rfl⟩ : ∃ j, c = (savedL n L).length + j := ⟨c - (L.length + lb L.length + 1), by rw [savedL_len]; omega⟩
  rw [savedL_len] at h2
  rw [List.take_length_add_append, settled_take (by omega), appl_append]
  have hs : (appl b0 (savedL n L)).length = n := by rw [appl_len, hb]
  refine ⟨(h.hold hb).pages h (fun p hp => List.mem_of_mem_take hp), h.sync (by rw [appl_len, hs]) hb (fun i hi hn => ?_)⟩
  rw [appl_ne _ _ i (fun p hp => hn p (List.mem_of_mem_take hp)), appl_ne _ _ i (fun p hp => h.page_ne hi hp)]
theorem mdl_step {n : Nat} {L : List Pg} (h : Gp n L) {b0 bs : List ByteArray} (hb : b0.length = n) (hm : Mdl n L b0 bs) {c : Nat} (hc : c ≤ L.length) : Mdl n L b0 (appl bs ((settledL L).take c)) := by
  rw [settled_take hc]
  refine ⟨hm.hold.pages h (fun p hp => List.mem_of_mem_take hp), h.sync (by rw [appl_len, hm.hold.len]) hb (fun i hi hn => ?_)⟩
  rw [appl_ne _ _ i (fun p hp => hn p (List.mem_of_mem_take hp))]
  have := hm.eq.at' i hi
  rwa [appl_ne L bs i hn, appl_ne L b0 i hn] at this

/-! ## on disks -/

theorem saved_settled_len (n : Nat) (L : List Pg) : (savedL n L ++ settledL L).length = 2 * L.length + lb L.length + 2 := by
  rw [List.length_append, savedL_len, settledL_len]; omega
theorem cmt_cut {d : Ds} {L : List Pg} (h : Gp d.bs.length L) (hL : L ≠ []) (hdn : d.dn = false) {c : Nat} (hl : d.lf = (c : Int)) :
    cmt d L = if 2 * L.length + lb L.length + 2 ≤ c then (0, { d with bs := appl d.bs (savedL d.bs.length L ++ settledL L), lg := d.lg ++ (savedL d.bs.length L ++ settledL L), lf := ((c - (2 * L.length + lb L.length + 2) : Nat) : Int) }) else (17, ⟨appl d.bs ((savedL d.bs.length L ++ settledL L).take c), d.lg ++ (savedL d.bs.length L ++ settledL L).take c, 0, true⟩) := by
  unfold cmt
  rw [if_pos h.ck, if_neg hL, Ds.wrs_cut _ d c hdn hl h.vw, saved_settled_len]
theorem recv_old {d : Ds} (hdn : d.dn = false) (hz : d.bs[1]? = some Z) : recv d = (0, 0, d) := by
  unfold recv
  rw [if_neg (by rw [hdn]; decide), if_pos (pend_Z hz)]
theorem Gp.vs {n : Nat} {L : List Pg} (h : Gp n L) : VW n (settledL L) := fun p hp => h.vw p (List.mem_append.2 (.inr hp))
theorem recv_mdl {d : Ds} {L : List Pg} {b0 : List ByteArray} (h : Gp d.bs.length L) (hL : L ≠ []) (hm : Mdl d.bs.length L b0 d.bs) (hdn : d.dn = false) {c : Nat} (hl : d.lf = (c : Int)) :
    recv d = if L.length + 1 ≤ c then (L.length, 0, { d with bs := appl d.bs (settledL L), lg := d.lg ++ settledL L, lf := ((c - (L.length + 1) : Nat) : Int) }) else (0, 17, ⟨appl d.bs ((settledL L).take c), d.lg ++ (settledL L).take c, 0, true⟩) := by
  unfold recv
  rw [if_neg (by rw [hdn]; decide), hm.hold.pend h hL, if_neg hL, Ds.wrs_cut _ d c hdn hl h.vs, settledL_len]
  by_cases hc : L.length + 1 ≤ c
  · rw [if_pos hc, if_pos hc]; rfl
  · rw [if_neg hc, if_neg hc]; rfl
theorem recv_on {d : Ds} {L : List Pg} {b0 : List ByteArray} (h : Gp d.bs.length L) (hL : L ≠ []) (hm : Mdl d.bs.length L b0 d.bs) (hdn : d.dn = false) (hl : d.lf < 0) :
    recv d = (L.length, 0, { d with bs := appl d.bs (settledL L), lg := d.lg ++ settledL L }) := by
  unfold recv
  rw [if_neg (by rw [hdn]; decide), hm.hold.pend h hL, if_neg hL, Ds.wrs_on _ d hdn hl h.vs]
  rfl

/-! ## a fixed group -/

def fx : List Pg := [⟨34, blk ⟨#[120]⟩⟩, ⟨0, blk ⟨#[121]⟩⟩]
theorem fx_gp : Gp 64 fx := by
  refine ⟨by omega, by omega, by decide, ?_, by decide⟩
  intro p hp
  simp only [fx, List.mem_cons, List.not_mem_nil, or_false] at hp
  rcases hp with rfl | rfl
  · exact ⟨by decide, blk_size ⟨#[120]⟩⟩
  · exact ⟨by decide, blk_size ⟨#[121]⟩⟩
theorem nw_bs (n : Nat) : (nw n).bs.length = n := by simp [nw]
theorem nw_Z {n : Nat} (h : 1 < n) : (nw n).bs[1]? = some Z := by simp [nw, h]
/-- behind it: seven writes, the page is there, nothing waits -/
theorem fx_done : ∃ d1, cmt (nw 64) fx = (0, d1) ∧ d1.dn = false ∧ d1.lg.length = 7 ∧ d1.bs.length = 64 ∧ d1.bs[34]? = some (blk ⟨#[120]⟩) ∧ d1.bs[1]? = some Z := by
  have hg : Gp (nw 64).bs.length fx := by rw [nw_bs]; exact fx_gp
  have hL : fx ≠ [] := by unfold fx; simp
  refine ⟨_, cmt_on hg hL rfl (by simp [nw]), rfl, ?_, ?_, ?_, ?_⟩
  · show ((nw 64).lg ++ _).length = 7
    rw [List.length_append, saved_settled_len]
    rfl
  · show (appl (nw 64).bs _).length = 64
    rw [appl_len, nw_bs]
  · show (appl (nw 64).bs _)[34]? = _
    rw [nw_bs]
    rw [(cmt_new fx_gp (nw_bs 64)).eq.at' 34 (by decide)]
    exact fx_gp.at (p := ⟨34, blk ⟨#[120]⟩⟩) (by simp [fx]) (nw_bs 64)
  · show (appl (nw 64).bs _)[1]? = _
    rw [nw_bs]
    exact (cmt_new fx_gp (nw_bs 64)).head

end Go.Proofs.YtjcbaiohpdihoaaGreatDoor
