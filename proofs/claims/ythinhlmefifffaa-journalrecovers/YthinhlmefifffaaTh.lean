/-
  What a cut leaves of a group: plain facts on blocks and writes.
-/
import Derived.Test.YthinhlmefifffaaRc
namespace Go.Proofs.Ythinhlmefifffaa
open Go.RowKit Go.Shelf
set_option linter.unusedVariables false
set_option linter.unusedSimpArgs false
set_option maxRecDepth 100000

/-- writes, done to blocks -/
def appl (bs : List ByteArray) (W : List Pg) : List ByteArray := W.foldl (fun b p => b.set p.pl.toNat p.data) bs
theorem appl_nil (bs : List ByteArray) : appl bs [] = bs := rfl
theorem appl_cons (bs : List ByteArray) (p : Pg) (W : List Pg) : appl bs (p :: W) = appl (bs.set p.pl.toNat p.data) W := rfl
theorem appl_append (bs : List ByteArray) (A B : List Pg) : appl bs (A ++ B) = appl (appl bs A) B := by unfold appl; rw [List.foldl_append]
theorem appl_len : ∀ (W : List Pg) (bs : List ByteArray), (appl bs W).length = bs.length
  | [], bs => rfl
  | p :: W, bs => by rw [appl_cons, appl_len W]; simp
/-- where nothing is written all stands -/
theorem appl_ne : ∀ (W : List Pg) (bs : List ByteArray) (i : Nat), (∀ p ∈ W, p.pl.toNat ≠ i) → (appl bs W)[i]? = bs[i]?
  | [], bs, i, _ => rfl
  | p :: W, bs, i, h => by
    rw [appl_cons, appl_ne W _ i (fun q hq => h q (by simp [hq])), List.getElem?_set_ne (h p (by simp))]
/-- where it is written once it is what was written -/
theorem appl_at {A B : List Pg} {bs : List ByteArray} {p : Pg} {i : Nat} (hi : p.pl.toNat = i) (hl : i < bs.length) (hB : ∀ q ∈ B, q.pl.toNat ≠ i) : (appl bs (A ++ p :: B))[i]? = some p.data := by
  rw [appl_append, appl_cons, appl_ne B _ i hB, hi, List.getElem?_set_self (by rw [appl_len]; exact hl)]
theorem appl_once {W : List Pg} {bs : List ByteArray} {p : Pg} {i j : Nat} (hj : W[j]? = some p) (hi : p.pl.toNat = i) (hl : i < bs.length) (hB : ∀ q ∈ W.drop (j + 1), q.pl.toNat ≠ i) : (appl bs W)[i]? = some p.data := by
  have h := appl_at (A := W.take j) (B := W.drop (j + 1)) hi hl hB
  rw [← drop_cons hj, List.take_append_drop] at h
  exact h
/-- blocks that may be written -/
def VW (n : Nat) (W : List Pg) : Prop := ∀ p ∈ W, (0 ≤ p.pl ∧ p.pl < n) ∧ p.data.size = 256
theorem Ds.wr_on {d : Ds} (h : d.dn = false) {p : Pg} (hp : (0 ≤ p.pl ∧ p.pl < d.bs.length) ∧ p.data.size = 256) (hl : ¬ d.lf = 0) : d.wrE p.pl p.data = 0 ∧ d.wr p.pl p.data = d.put p.pl p.data :=
  Ds.wrE_ok h (by unfold Ds.out; omega) hp.2 hl
theorem Ds.wrs_on : ∀ (W : List Pg) (d : Ds), d.dn = false → d.lf < 0 → VW d.bs.length W → d.wrs W = (0, { d with bs := appl d.bs W, lg := d.lg ++ W })
  | [], d, _, _, _ => by simp [Ds.wrs, appl_nil]
  | p :: W, d, h, hl, hv => by
    obtain ⟨e1, e2⟩ := Ds.wr_on h (hv p (by simp)) (by omega)
    rw [Ds.wrs_cons, e1, e2, if_pos rfl, Ds.wrs_on W (d.put p.pl p.data) h (by simp only [Ds.put]; split <;> omega) (fun q hq => by simp only [Ds.put, List.length_set]; exact hv q (by simp [hq]))]
    simp only [Ds.put, appl_cons, List.append_assoc, List.singleton_append]
    rw [if_neg (by omega)]
theorem Ds.wrs_cut : ∀ (W : List Pg) (d : Ds) (c : Nat), d.dn = false → d.lf = (c : Int) → VW d.bs.length W → d.wrs W = if W.length ≤ c then (0, { d with bs := appl d.bs W, lg := d.lg ++ W, lf := ((c - W.length : Nat) : Int) }) else (17, ⟨appl d.bs (W.take c), d.lg ++ W.take c, 0, true⟩)
  | [], d, c, _, hl, _ => by
    rw [if_pos (by simp)]
    simp [Ds.wrs, appl_nil, ← hl]
  | p :: W, d, 0, h, hl, hv => by
    obtain ⟨e1, e2⟩ := Ds.wrE_cut (a := p.pl) (s := p.data) h (by have := (hv p (by simp)).1; unfold Ds.out; omega) (hv p (by simp)).2 hl
    rw [Ds.wrs_cons, e1, e2, if_neg (by decide), if_neg (by simp)]
    simp [appl_nil, hl]
  | p :: W, d, c + 1, h, hl, hv => by
    obtain ⟨e1, e2⟩ := Ds.wr_on h (hv p (by simp)) (by omega)
    rw [Ds.wrs_cons, e1, e2, if_pos rfl, Ds.wrs_cut W (d.put p.pl p.data) c h (by simp only [Ds.put]; rw [if_pos (by omega)]; omega) (fun q hq => by simp only [Ds.put, List.length_set]; exact hv q (by simp [hq]))]
    by_cases hc : W.length ≤ c
    · rw [if_pos hc, if_pos (by simp; omega)]
      simp only [Ds.put, appl_cons, List.append_assoc, List.singleton_append, List.length_cons]
      rw [show c + 1 - (W.length + 1) = c - W.length by omega]
    · rw [if_neg hc, if_neg (by simp; omega)]
      simp only [Ds.put, appl_cons, List.append_assoc, List.singleton_append, List.take_succ_cons]

/-- a group that may be written -/
structure Gp (n : Nat) (L : List Pg) : Prop where
  lo : 64 ≤ n
  hi : n ≤ 2048
  len : L.length ≤ pgs n
  ok : ∀ p ∈ L, isPg n p.pl ∧ p.data.size = 256
  nd : (L.map Pg.pl).Nodup
theorem Gp.ck {n : Nat} {L : List Pg} (h : Gp n L) : ck n L = 0 := by
  unfold Go.Proofs.Ythinhlmefifffaa.ck
  rw [if_neg (by have := h.len; omega)]
  exact ckL_ok (fun p hp => ⟨(h.ok p hp).1, (h.ok p hp).2, by simp⟩) h.nd
theorem Gp.pl {n : Nat} {L : List Pg} (h : Gp n L) {p : Pg} (hp : p ∈ L) : 0 ≤ p.pl ∧ p.pl < n := isPg_lt h.lo (h.ok p hp).1
theorem Gp.far {n : Nat} {L : List Pg} (h : Gp n L) {p : Pg} (hp : p ∈ L) : p.pl.toNat = 0 ∨ 2 + lb (pgs n) + pgs n ≤ p.pl.toNat := by
  have h1 := (h.ok p hp).1
  unfold isPg frs at h1
  omega
theorem enumP_mem {b : Nat} {l : List ByteArray} {p : Pg} (h : p ∈ enumP b l) : ∃ i s, l[i]? = some s ∧ p = ⟨((b + i : Nat) : Int), s⟩ := by
  obtain ⟨i, hi⟩ := List.mem_iff_getElem?.1 h
  have hlt : i < l.length := by have := (List.getElem?_eq_some_iff.1 hi).1; rw [enumP_len] at this; exact this
  rw [enumP_at (List.getElem?_eq_getElem hlt)] at hi
  exact ⟨i, _, List.getElem?_eq_getElem hlt, (Option.some.inj hi).symm⟩
/-- what is saved stands ahead of the pages, the head last -/
theorem Gp.saved {n : Nat} {L : List Pg} (h : Gp n L) {p : Pg} (hp : p ∈ copiesL n L ++ enumP 2 (rows L)) : (2 ≤ p.pl.toNat ∧ p.pl.toNat < 2 + lb (pgs n) + pgs n) ∧ 0 ≤ p.pl ∧ p.data.size = 256 := by
  have hlb := lb_mono h.len
  have hln := h.len
  rcases List.mem_append.1 hp with hp | hp
  · obtain ⟨i, s, hi, rfl⟩ := enumP_mem hp
    have hlt : i < L.length := by have := (List.getElem?_eq_some_iff.1 hi).1; rwa [List.length_map] at this
    rw [List.getElem?_map, List.getElem?_eq_getElem hlt] at hi
    cases hi
    refine ⟨⟨?_, ?_⟩, by simp only; omega, (h.ok _ (List.getElem_mem hlt)).2⟩ <;> simp only [Int.toNat_natCast] <;> omega
  · obtain ⟨i, s, hi, rfl⟩ := enumP_mem hp
    have hlt : i < lb L.length := by have := (List.getElem?_eq_some_iff.1 hi).1; rwa [rows_len] at this
    refine ⟨⟨?_, ?_⟩, by simp only; omega, rows_size (List.mem_of_getElem? hi)⟩ <;> simp only [Int.toNat_natCast] <;> omega
theorem Gp.vw {n : Nat} {L : List Pg} (h : Gp n L) : VW n (savedL n L ++ settledL L) := by
  have hf := pgs_fit h.lo
  have hlo := pgs_lo h.lo
  have hn := h.lo
  intro p hp
  unfold savedL settledL at hp
  rcases List.mem_append.1 hp with hp | hp
  · rcases List.mem_append.1 hp with hp | hp
    · obtain ⟨h1, h2, h3⟩ := h.saved hp
      exact ⟨by omega, h3⟩
    · simp at hp
      subst hp
      exact ⟨by simp only; omega, hdB_size _ _⟩
  · rcases List.mem_append.1 hp with hp | hp
    · exact ⟨h.pl hp, (h.ok p hp).2⟩
    · simp at hp
      subst hp
      exact ⟨by simp only; omega, Z_size⟩

/-- a group that waits on blocks -/
structure Hold (n : Nat) (L : List Pg) (bs : List ByteArray) : Prop where
  len : bs.length = n
  head : bs[1]? = some (hdB (rows L) L)
  list : ∀ j, j < lb L.length → bs[2 + j]? = some (rowB L j)
  copy : ∀ i p, L[i]? = some p → bs[2 + lb (pgs n) + i]? = some p.data
theorem Gp.hold {n : Nat} {L : List Pg} (h : Gp n L) {bs : List ByteArray} (hb : bs.length = n) : Hold n L (appl bs (savedL n L)) := by
  have hf := pgs_fit h.lo
  have hlb := lb_mono h.len
  have hln := h.len
  have hn := h.lo
  have hplo := pgs_lo h.lo
  refine ⟨by rw [appl_len, hb], ?_, fun j hj => ?_, fun i p hp => ?_⟩
  · have := appl_once (bs := bs) (i := 1) (saved_head n L) rfl (by omega) (by
      intro q hq
      rw [List.drop_eq_nil_of_le (by rw [savedL_len, rows_len]; omega)] at hq
      cases hq)
    exact this
  · have hr := rows_at (L := L) hj
    refine appl_once (bs := bs) (saved_row (n := n) hr) (Int.toNat_natCast _) (by omega) (fun q hq => ?_)
    obtain ⟨k, hk⟩ := List.mem_iff_getElem?.1 hq
    rw [List.getElem?_drop] at hk
    by_cases hlast : j + 1 + k < lb L.length
    · rw [show L.length + j + 1 + k = L.length + (j + 1 + k) by omega, saved_row (rows_at hlast)] at hk
      cases hk
      simp only [Int.toNat_natCast]
      omega
    · have hlt := (List.getElem?_eq_some_iff.1 hk).1
      rw [savedL_len] at hlt
      rw [show L.length + j + 1 + k = L.length + (rows L).length by rw [rows_len]; omega, saved_head] at hk
      cases hk
      show (1 : Int).toNat ≠ _
      omega
  · have hil := (List.getElem?_eq_some_iff.1 hp).1
    refine appl_once (bs := bs) (p := ⟨((2 + lb (pgs n) + i : Nat) : Int), p.data⟩) (saved_copy (n := n) hp) (Int.toNat_natCast _) (by omega) (fun q hq => ?_)
    obtain ⟨k, hk⟩ := List.mem_iff_getElem?.1 hq
    rw [List.getElem?_drop] at hk
    have hlt := (List.getElem?_eq_some_iff.1 hk).1
    rw [savedL_len] at hlt
    by_cases h1 : i + 1 + k < L.length
    · rw [saved_copy (List.getElem?_eq_getElem h1)] at hk
      cases hk
      simp only [Int.toNat_natCast]
      omega
    · by_cases h2 : i + 1 + k < L.length + lb L.length
      · obtain ⟨j, hj⟩ : ∃ j, i + 1 + k = L.length + j := ⟨i + 1 + k - L.length, by omega⟩
        rw [hj, saved_row (rows_at (by omega))] at hk
        cases hk
        simp only [Int.toNat_natCast]
        omega
      · rw [show i + 1 + k = L.length + (rows L).length by rw [rows_len]; omega, saved_head] at hk
        cases hk
        show (1 : Int).toNat ≠ _
        omega
theorem Hold.pages {n : Nat} {L M : List Pg} {bs : List ByteArray} (h : Hold n L bs) (hg : Gp n L) (hM : ∀ p ∈ M, p ∈ L) : Hold n L (appl bs M) := by
  have hlb := lb_mono hg.len
  have hln := hg.len
  have hlo := pgs_lo hg.lo
  refine ⟨by rw [appl_len, h.len], ?_, fun j hj => ?_, fun i p hp => ?_⟩
  · rw [appl_ne M bs 1 (fun p hp => by have := hg.far (hM p hp); omega)]; exact h.head
  · rw [appl_ne M bs _ (fun p hp => by have := hg.far (hM p hp); omega)]; exact h.list j hj
  · have hil := (List.getElem?_eq_some_iff.1 hp).1
    rw [appl_ne M bs _ (fun p hp => by have := hg.far (hM p hp); omega)]; exact h.copy i p hp
theorem nums_at : ∀ (A : List Pg) (r : Nat) (p : Pg), A[r]? = some p → ((nums A).drop (2 * r)).take 2 = Nu.be p.pl.toNat 2
  | [], r, p, h => by simp at h
  | q :: A, 0, p, h => by
    simp at h
    subst h
    show (Nu.be q.pl.toNat 2 ++ nums A).take 2 = _
    rw [List.take_append_of_le_length (by rw [Nu.be_length]; omega), List.take_of_length_le (by rw [Nu.be_length]; omega)]
  | q :: A, r + 1, p, h => by
    show ((Nu.be q.pl.toNat 2 ++ nums A).drop (2 * (r + 1))).take 2 = _
    rw [List.drop_append, Nu.be_length, List.drop_eq_nil_of_le (by rw [Nu.be_length]; omega), List.nil_append, show 2 * (r + 1) - 2 = 2 * r by omega]
    exact nums_at A r p (by simpa using h)
theorem numAt_rows {L : List Pg} {i : Nat} {p : Pg} (h : L[i]? = some p) (hp : 0 ≤ p.pl ∧ p.pl < 65536) : ((numAt (rows L) i : Nat) : Int) = p.pl := by
  have hil := (List.getElem?_eq_some_iff.1 h).1
  have hq : i / 128 < lb L.length := by unfold lb; omega
  unfold numAt
  rw [List.getD_eq_getElem?_getD, rows_at hq]
  show ((Nu.val ((((rowB L (i / 128)).data.toList).drop (i % 128 * 2)).take 2) : Nat) : Int) = _
  unfold rowB
  have hpart : (part L (i / 128))[i % 128]? = some p := by
    unfold part
    rw [List.getElem?_take, if_pos (by omega), List.getElem?_drop, show 128 * (i / 128) + i % 128 = i by omega]
    exact h
  have hpl := (List.getElem?_eq_some_iff.1 hpart).1
  rw [pad_data, List.drop_append, List.take_append, List.length_drop, nums_len]
  rw [show 2 - (2 * (part L (i / 128)).length - i % 128 * 2) = 0 by omega, List.take_zero, List.append_nil, Nat.mul_comm (i % 128) 2, nums_at _ _ _ hpart, Nu.val_be_of_lt (by omega)]
  omega
theorem told_hd {lst : List ByteArray} {L : List Pg} (h : L.length < 65536) : told (hdB lst L) = L.length := by
  unfold told hdB
  rw [pad_data]
  have h4 : (hdL lst L ++ List.replicate (256 - (hdL lst L).length) 0).take 4 = [106, 114, 110, 108] := by
    unfold hdL; simp
  have h2 : ((hdL lst L ++ List.replicate (256 - (hdL lst L).length) 0).drop 4).take 2 = Nu.be L.length 2 := by
    unfold hdL
    rw [List.append_assoc, List.append_assoc, List.drop_append, List.append_assoc]
    simp only [List.length_cons, List.length_nil, Nat.reduceAdd, Nat.sub_self, List.drop_zero]
    rw [List.drop_eq_nil_of_le (by simp), List.nil_append, List.take_append_of_le_length (by rw [Nu.be_length]; omega), List.take_of_length_le (by rw [Nu.be_length]; omega)]
  rw [if_pos h4, h2, Nu.val_be_of_lt (by omega)]
theorem told_Z : told Z = 0 := by unfold told; rw [if_neg (by decide)]
theorem cutB_eq {bs l : List ByteArray} {a : Nat} (h : ∀ i, i < l.length → bs[a + i]? = l[i]?) : cutB bs a l.length = l := by
  apply List.ext_getElem?
  intro i
  by_cases hi : i < l.length
  · rw [cutB_at hi, h i hi]
  · rw [List.getElem?_eq_none (by unfold cutB; rw [List.length_take]; omega), List.getElem?_eq_none (by omega)]
/-- what waits is told -/
theorem Hold.pend {n : Nat} {L : List Pg} {bs : List ByteArray} (h : Hold n L bs) (hg : Gp n L) (hL : L ≠ []) : pend bs = L := by
  have hq := pgs_hi hg.hi
  have hln := hg.len
  have h0 : 0 < L.length := by cases L with | nil => exact absurd rfl hL | cons _ _ => simp
  have hhd : hdOf bs = hdB (rows L) L := by unfold hdOf; rw [List.getD_eq_getElem?_getD, h.head]; rfl
  have ht : told (hdOf bs) = L.length := by rw [hhd]; exact told_hd (by omega)
  have hls : lsOf bs = rows L := by
    unfold lsOf
    rw [ht, ← rows_len]
    exact cutB_eq (fun j hj => by rw [rows_len] at hj; rw [h.list j hj, rows_at hj])
  have hcp : cpOf bs = L.map Pg.data := by
    unfold cpOf
    rw [ht, h.len]
    have := cutB_eq (bs := bs) (l := L.map Pg.data) (a := 2 + lb (pgs n)) (fun i hi => by
      rw [List.length_map] at hi
      rw [h.copy i _ (List.getElem?_eq_getElem hi), List.getElem?_map, List.getElem?_eq_getElem hi]
      rfl)
    rwa [List.length_map] at this
  have hgp : gpOf bs = L := by
    unfold gpOf
    rw [hls, hcp]
    apply List.ext_getElem?
    intro i
    by_cases hi : i < L.length
    · have hp := List.getElem?_eq_getElem hi
      have hpl := hg.pl (List.getElem_mem hi)
      have hhi := hg.hi
      rw [grpL_at (s := L[i].data) (by rw [List.getElem?_map, hp]; rfl), hp, numAt_rows hp (by omega)]
    · rw [List.getElem?_eq_none (by rw [grpL_len, List.length_map]; omega), List.getElem?_eq_none (by omega)]
  unfold Go.Proofs.Ythinhlmefifffaa.pend
  rw [ht, h.len, hgp, hls, hhd, if_pos (by omega), if_pos ⟨hg.ck, rfl, rfl⟩]
theorem pend_Z {bs : List ByteArray} (h : bs[1]? = some Z) : pend bs = [] := by
  have hhd : hdOf bs = Z := by unfold hdOf; rw [List.getD_eq_getElem?_getD, h]; rfl
  unfold pend
  rw [hhd, told_Z, if_neg (by omega)]

end Go.Proofs.Ythinhlmefifffaa
