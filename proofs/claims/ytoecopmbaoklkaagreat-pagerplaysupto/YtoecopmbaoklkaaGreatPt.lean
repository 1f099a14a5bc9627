/-
  What a group leaves on blocks, where the power stays: plain facts.
-/
import Derived.Test.YtoecopmbaoklkaaGreatRs
import Derived.Test.YtoecopmbaoklkaaGreatWr
namespace Go.Proofs.YtoecopmbaoklkaaGreat
open Go.RowKit Go.Shelf
set_option linter.unusedVariables false
set_option linter.unusedSimpArgs false
set_option maxRecDepth 100000

/-- writes, done to blocks -/
def appl (bs : List ByteArray) (W : List Pg) : List ByteArray := W.foldl (fun b p => b.set p.pl.toNat p.data) bs
theorem appl_nil (bs : List ByteArray) : appl bs [] = bs := rfl
theorem appl_cons (bs : List ByteArray) (p : Pg) (W : List Pg) : appl bs (p :: W) = appl (bs.set p.pl.toNat p.data) W := rfl
theorem appl_append (bs : List ByteArray) (A B : List Pg) : appl bs (A ++ B) = appl (appl bs A) B := by unfold appl; rw [List.foldl_append]
theorem appl_len : ∀ (W : List Pg) (bs : List ByteArray), (appl bs W).length = bs.length
  | [], bs => rfl
  | p :: W, bs => by rw [appl_cons, appl_len W]; simp
/-- where nothing is written all stands -/
theorem appl_ne : ∀ (W : List Pg) (bs : List ByteArray) (i : Nat), (∀ p ∈ W, p.pl.toNat ≠ i) → (appl bs W)[i]? = bs[i]?
  | [], bs, i, _ => rfl
  | p :: W, bs, i, h => by
    rw [appl_cons, appl_ne W _ i (fun q hq => h q (by simp [hq])), List.getElem?_set_ne (h p (by simp))]
/-- where it is written once it is what was written -/
theorem appl_at {A B : List Pg} {bs : List ByteArray} {p : Pg} {i : Nat} (hi : p.pl.toNat = i) (hl : i < bs.length) (hB : ∀ q ∈ B, q.pl.toNat ≠ i) : (appl bs (A ++ p :: B))[i]? = some p.data := by
  rw [appl_append, appl_cons, appl_ne B _ i hB, hi, List.getElem?_set_self (by rw [appl_len]; exact hl)]
theorem appl_once {W : List Pg} {bs : List ByteArray} {p : Pg} {i j : Nat} (hj : W[j]? = some p) (hi : p.pl.toNat = i) (hl : i < bs.length) (hB : ∀ q ∈ W.drop (j + 1), q.pl.toNat ≠ i) : (appl bs W)[i]? = some p.data := by
  have h := appl_at (A := W.take j) (B := W.drop (j + 1)) hi hl hB
  rw [← drop_cons hj, List.take_append_drop] at h
  exact h
/-- blocks that may be written -/
def VW (n : Nat) (W : List Pg) : Prop := ∀ p ∈ W, (0 ≤ p.pl ∧ p.pl < n) ∧ p.data.size = 256
theorem Ds.wr_on {d : Ds} (h : d.dn = false) {p : Pg} (hp : (0 ≤ p.pl ∧ p.pl < d.bs.length) ∧ p.data.size = 256) (hl : ¬ d.lf = 0) : d.wrE p.pl p.data = 0 ∧ d.wr p.pl p.data = d.put p.pl p.data :=
  Ds.wrE_ok h (by unfold Ds.out; omega) hp.2 hl
theorem Ds.wrs_on : ∀ (W : List Pg) (d : Ds), d.dn = false → d.lf < 0 → VW d.bs.length W → d.wrs W = (0, { d with bs := appl d.bs W, lg := d.lg ++ W })
  | [], d, _, _, _ => by simp [Ds.wrs, appl_nil]
  | p :: W, d, h, hl, hv => by
    obtain ⟨e1, e2⟩ := Ds.wr_on h (hv p (by simp)) (by omega)
    rw [Ds.wrs_cons, e1, e2, if_pos rfl, Ds.wrs_on W (d.put p.pl p.data) h (by simp only [Ds.put]; split <;> omega) (fun q hq => by simp only [Ds.put, List.length_set]; exact hv q (by simp [hq]))]
    simp only [Ds.put, appl_cons, List.append_assoc, List.singleton_append]
    rw [if_neg (by omega)]
theorem Ds.wrs_cut : ∀ (W : List Pg) (d : Ds) (c : Nat), d.dn = false → d.lf = (c : Int) → VW d.bs.length W → d.wrs W = if W.length ≤ c then (0, { d with bs := appl d.bs W, lg := d.lg ++ W, lf := ((c - W.length : Nat) : Int) }) else (17, ⟨appl d.bs (W.take c), d.lg ++ W.take c, 0, true⟩)
  | [], d, c, _, hl, _ => by
    rw [if_pos (by simp)]
    simp [Ds.wrs, appl_nil, ← hl]
  | p :: W, d, 0, h, hl, hv => by
    obtain ⟨e1, e2⟩ := Ds.wrE_cut (a := p.pl) (s := p.data) h (by have := (hv p (by simp)).1; unfold Ds.out; omega) (hv p (by simp)).2 hl
    rw [Ds.wrs_cons, e1, e2, if_neg (by decide), if_neg (by simp)]
    simp [appl_nil, hl]
  | p :: W, d, c + 1, h, hl, hv => by
    obtain ⟨e1, e2⟩ := Ds.wr_on h (hv p (by simp)) (by omega)
    rw [Ds.wrs_cons, e1, e2, if_pos rfl, Ds.wrs_cut W (d.put p.pl p.data) c h (by simp only [Ds.put]; rw [if_pos (by omega)]; omega) (fun q hq => by simp only [Ds.put, List.length_set]; exact hv q (by simp [hq]))]
    by_cases hc : W.length ≤ c
    · rw [if_pos hc, if_pos (by simp; omega)]
      simp only [Ds.put, appl_cons, List.append_assoc, List.singleton_append, List.length_cons]
      rw [show c + 1 - (W.length + 1) = c - W.length by omega]
    · rw [if_neg hc, if_neg (by simp; omega)]
      simp only [Ds.put, appl_cons, List.append_assoc, List.singleton_append, List.take_succ_cons]

/-- a group that may be written -/
structure Gp (n : Nat) (L : List Pg) : Prop where
  lo : 64 ≤ n
  hi : n ≤ 2048
  len : L.length ≤ pgs n
  ok : ∀ p ∈ L, isPg n p.pl ∧ p.data.size = 256
  nd : (L.map Pg.pl).Nodup
theorem Gp.ck {n : Nat} {L : List Pg} (h : Gp n L) : ck n L = 0 := by
  unfold Go.Proofs.YtoecopmbaoklkaaGreat.ck
  rw [if_neg (by have := h.len; omega)]
  exact ckL_ok (fun p hp => ⟨(h.ok p hp).1, (h.ok p hp).2, by simp⟩) h.nd
theorem Gp.pl {n : Nat} {L : List Pg} (h : Gp n L) {p : Pg} (hp : p ∈ L) : 0 ≤ p.pl ∧ p.pl < n := isPg_lt h.lo (h.ok p hp).1
theorem Gp.far {n : Nat} {L : List Pg} (h : Gp n L) {p : Pg} (hp : p ∈ L) : p.pl.toNat = 0 ∨ 2 + lb (pgs n) + pgs n ≤ p.pl.toNat := by
  have h1 := (h.ok p hp).1
  unfold isPg frs at h1
  omega
theorem enumP_mem {b : Nat} {l : List ByteArray} {p : Pg} (h : p ∈ enumP b l) : ∃ i s, l[i]? = some s ∧ p = ⟨((b + i : Nat) : Int), s⟩ := by
  obtain ⟨i, hi⟩ := List.mem_iff_getElem?.1 h
  have hlt : i < l.length := by have := (List.getElem?_eq_some_iff.1 hi).1; rw [enumP_len] at this; exact this
  rw [enumP_at (List.getElem?_eq_getElem hlt)] at hi
  exact ⟨i, _, List.getElem?_eq_getElem hlt, (Option.some.inj hi).symm⟩
/-- what is saved stands ahead of the pages, the head last -/
theorem Gp.saved {n : Nat} {L : List Pg} (h : Gp n L) {p : Pg} (hp : p ∈ copiesL n L ++ enumP 2 (rows L)) : (2 ≤ p.pl.toNat ∧ p.pl.toNat < 2 + lb (pgs n) + pgs n) ∧ 0 ≤ p.pl ∧ p.data.size = 256 := by
  have hlb := lb_mono h.len
  have hln := h.len
  rcases List.mem_append.1 hp with hp | hp
  · obtain ⟨i, s, hi, rfl⟩ := enumP_mem hp
    have hlt : i < L.length := by have := (List.getElem?_eq_some_iff.1 hi).1; rwa [List.length_map] at this
    rw [List.getElem?_map, List.getElem?_eq_getElem hlt] at hi
    cases hi
    refine ⟨⟨?_, ?_⟩, by simp only; omega, (h.ok _ (List.getElem_mem hlt)).2⟩ <;> simp only [Int.toNat_natCast] <;> omega
  · obtain ⟨i, s, hi, rfl⟩ := enumP_mem hp
    have hlt : i < lb L.length := by have := (List.getElem?_eq_some_iff.1 hi).1; rwa [rows_len] at this
    refine ⟨⟨?_, ?_⟩, by simp only; omega, rows_size (List.mem_of_getElem? hi)⟩ <;> simp only [Int.toNat_natCast] <;> omega
theorem Gp.vw {n : Nat} {L : List Pg} (h : Gp n L) : VW n (savedL n L ++ settledL L) := by
  have hf := pgs_fit h.lo
  have hlo := pgs_lo h.lo
  have hn := h.lo
  intro p hp
  unfold savedL settledL at hp
  rcases List.mem_append.1 hp with hp | hp
  · rcases List.mem_append.1 hp with hp | hp
    · obtain ⟨h1, h2, h3⟩ := h.saved hp
      exact ⟨by omega, h3⟩
    · simp at hp
      subst hp
      exact ⟨by simp only; omega, hdB_size _ _⟩
  · rcases List.mem_append.1 hp with hp | hp
    · exact ⟨h.pl hp, (h.ok p hp).2⟩
    · simp at hp
      subst hp
      exact ⟨by simp only; omega, Z_size⟩

/-- the pages are alike -/
structure PgEq (n : Nat) (a b : List ByteArray) : Prop where
  la : a.length = n
  lb : b.length = n
  at' : ∀ i : Nat, isPg n (i : Int) → a[i]? = b[i]?
theorem PgEq.refl {n : Nat} {a : List ByteArray} (h : a.length = n) : PgEq n a a := ⟨h, h, fun _ _ => rfl⟩
theorem PgEq.trans {n : Nat} {a b c : List ByteArray} (h : PgEq n a b) (k : PgEq n b c) : PgEq n a c := ⟨h.la, k.lb, fun i hi => (h.at' i hi).trans (k.at' i hi)⟩
theorem PgEq.symm {n : Nat} {a b : List ByteArray} (h : PgEq n a b) : PgEq n b a := ⟨h.lb, h.la, fun i hi => (h.at' i hi).symm⟩
theorem Gp.two {n : Nat} {L : List Pg} (h : Gp n L) {j : Nat} {p q : Pg} (hj : L[j]? = some p) (hq : q ∈ L.drop (j + 1)) : q.pl.toNat ≠ p.pl.toNat := by
  intro e
  have hp := h.pl (List.mem_of_getElem? hj)
  have hq' := h.pl (List.mem_of_mem_drop hq)
  have e2 : q.pl = p.pl := by omega
  have hnd := h.nd
  rw [← List.take_append_drop j L, drop_cons hj, List.map_append, List.map_cons] at hnd
  have h3 := (List.nodup_append.1 hnd).2.1
  rw [List.nodup_cons] at h3
  exact h3.1 (List.mem_map.2 ⟨q, hq, e2⟩)
theorem Gp.at {n : Nat} {L : List Pg} (h : Gp n L) {p : Pg} (hp : p ∈ L) {bs : List ByteArray} (hb : bs.length = n) : (appl bs L)[p.pl.toNat]? = some p.data := by
  obtain ⟨j, hj⟩ := List.mem_iff_getElem?.1 hp
  have hpl := h.pl hp
  exact appl_once hj rfl (by omega) (fun q hq => h.two hj hq)
/-- where the pages that aren't written are alike all are alike behind the group -/
theorem Gp.sync {n : Nat} {L : List Pg} (h : Gp n L) {a b : List ByteArray} (ha : a.length = n) (hb : b.length = n) (he : ∀ i : Nat, isPg n (i : Int) → (∀ p ∈ L, p.pl.toNat ≠ i) → a[i]? = b[i]?) : PgEq n (appl a L) (appl b L) := by
  refine ⟨by rw [appl_len, ha], by rw [appl_len, hb], fun i hi => ?_⟩
  by_cases hw : ∃ p ∈ L, p.pl.toNat = i
  · obtain ⟨p, hp, rfl⟩ := hw
    rw [h.at hp ha, h.at hp hb]
  · have hw' : ∀ p ∈ L, p.pl.toNat ≠ i := fun p hp e => hw ⟨p, hp, e⟩
    rw [appl_ne L a i hw', appl_ne L b i hw']
    exact he i hi hw'
theorem Gp.page_ne {n : Nat} {L : List Pg} (h : Gp n L) {i : Nat} (hi : isPg n (i : Int)) {p : Pg} (hp : p ∈ savedL n L) : p.pl.toNat ≠ i := by
  have hplo := pgs_lo h.lo
  have hpi : i = 0 ∨ 2 + lb (pgs n) + pgs n ≤ i := by unfold isPg frs at hi; omega
  unfold savedL at hp
  rcases List.mem_append.1 hp with hp | hp
  · have := (h.saved hp).1
    omega
  · simp at hp
    subst hp
    show (1 : Int).toNat ≠ i
    omega

/-- nothing waits, and the pages are as those of others -/
structure Old (n : Nat) (b0 bs : List ByteArray) : Prop where
  head : bs[1]? = some Z
  eq : PgEq n bs b0
theorem settle_new {n : Nat} {L : List Pg} (h : Gp n L) {b0 bs : List ByteArray} (hb : bs.length = n) (he : PgEq n (appl bs L) (appl b0 L)) : Old n (appl b0 L) (appl bs (settledL L)) := by
  have hn := h.lo
  have hplo := pgs_lo h.lo
  unfold settledL
  rw [appl_append, appl_cons, appl_nil]
  refine ⟨?_, ?_, he.lb, fun i hi => ?_⟩
  · show ((appl bs L).set (1 : Int).toNat Z)[1]? = _
    exact List.getElem?_set_self (by rw [appl_len, hb]; omega)
  · rw [List.length_set, appl_len, hb]
  · have hi1 : (1 : Int).toNat ≠ i := by unfold isPg frs at hi; show 1 ≠ i; omega
    show ((appl bs L).set (1 : Int).toNat Z)[i]? = _
    rw [List.getElem?_set_ne hi1]
    exact he.at' i hi
theorem cmt_new {n : Nat} {L : List Pg} (h : Gp n L) {b0 : List ByteArray} (hb : b0.length = n) : Old n (appl b0 L) (appl b0 (savedL n L ++ settledL L)) := by
  rw [appl_append]
  have hs : (appl b0 (savedL n L)).length = n := by rw [appl_len, hb]
  exact settle_new h hs (h.sync hs hb (fun i hi _ => appl_ne _ _ i (fun p hp => h.page_ne hi hp)))
theorem ck_nil (n : Nat) : ck n [] = 0 := by unfold ck; rw [if_neg (by simp)]; rfl
theorem cmt_nil (d : Ds) : cmt d [] = (0, d) := by unfold cmt; rw [if_pos (ck_nil _), if_pos rfl]
theorem cmt_on {d : Ds} {L : List Pg} (h : Gp d.bs.length L) (hL : L ≠ []) (hdn : d.dn = false) (hl : d.lf < 0) : cmt d L = (0, { d with bs := appl d.bs (savedL d.bs.length L ++ settledL L), lg := d.lg ++ (savedL d.bs.length L ++ settledL L) }) := by
  unfold cmt
  rw [if_pos h.ck, if_neg hL, Ds.wrs_on _ d hdn hl h.vw]

end Go.Proofs.YtoecopmbaoklkaaGreat
