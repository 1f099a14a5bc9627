/-
  How blocks stand behind a group that was cut, and behind what put it right.
-/
import Derived.Test.YthinhlmefifffaaTh
namespace Go.Proofs.Ythinhlmefifffaa
open Go.RowKit Go.Shelf
set_option linter.unusedVariables false
set_option linter.unusedSimpArgs false
set_option maxRecDepth 100000

/-- the pages are alike -/
structure PgEq (n : Nat) (a b : List ByteArray) : Prop where
  la : a.length = n
  lb : b.length = n
  at' : ∀ i : Nat, isPg n (i : Int) → a[i]? = b[i]?
theorem PgEq.refl {n : Nat} {a : List ByteArray} (h : a.length = n) : PgEq n a a := ⟨h, h, fun _ _ => rfl⟩
theorem PgEq.trans {n : Nat} {a b c : List ByteArray} (h : PgEq n a b) (k : PgEq n b c) : PgEq n a c := ⟨h.la, k.lb, fun i hi => (h.at' i hi).trans (k.at' i hi)⟩
theorem PgEq.symm {n : Nat} {a b : List ByteArray} (h : PgEq n a b) : PgEq n b a := ⟨h.lb, h.la, fun i hi => (h.at' i hi).symm⟩
/-- the pages of blocks, as a list -/
def pgB (bs : List ByteArray) : List ByteArray := bs.take 1 ++ cutB bs (frs bs.length) (pgs bs.length - 1)
theorem PgEq.pgB {n : Nat} {a b : List ByteArray} (h : PgEq n a b) (hn : 64 ≤ n) : pgB a = pgB b := by
  unfold Go.Proofs.Ythinhlmefifffaa.pgB
  rw [h.la, h.lb]
  have hp := pgs_lo hn
  congr 1
  · apply List.ext_getElem?
    intro i
    rw [List.getElem?_take, List.getElem?_take]
    split
    · have : i = 0 := by omega
      subst this
      exact h.at' 0 (.inl rfl)
    · rfl
  · apply List.ext_getElem?
    intro i
    by_cases hi : i < pgs n - 1
    · rw [cutB_at hi, cutB_at hi]
      refine h.at' _ (.inr ?_)
      omega
    · unfold cutB
      rw [List.getElem?_take, List.getElem?_take, if_neg hi, if_neg hi]

theorem Gp.two {n : Nat} {L : List Pg} (h : Gp n L) {j : Nat} {p q : Pg} (hj : L[j]? = some p) (hq : q ∈ L.drop (j + 1)) : q.pl.toNat ≠ p.pl.toNat := by
  intro e
  have hp := h.pl (List.mem_of_getElem? hj)
  have hq' := h.pl (List.mem_of_mem_drop hq)
  have e2 : q.pl = p.pl := by omega
  have hnd := h.nd
  rw [← List.take_append_drop j L, drop_cons hj, List.map_append, List.map_cons] at hnd
  have h3 := (List.nodup_append.1 hnd).2.1
  rw [List.nodup_cons] at h3
  exact h3.1 (List.mem_map.2 ⟨q, hq, e2⟩)
theorem Gp.at {n : Nat} {L : List Pg} (h : Gp n L) {p : Pg} (hp : p ∈ L) {bs : List ByteArray} (hb : bs.length = n) : (appl bs L)[p.pl.toNat]? = some p.data := by
  obtain ⟨j, hj⟩ := List.mem_iff_getElem?.1 hp
  have hpl := h.pl hp
  exact appl_once hj rfl (by omega) (fun q hq => h.two hj hq)
/-- where the pages that aren't written are alike all are alike behind the group -/
theorem Gp.sync {n : Nat} {L : List Pg} (h : Gp n L) {a b : List ByteArray} (ha : a.length = n) (hb : b.length = n) (he : ∀ i : Nat, isPg n (i : Int) → (∀ p ∈ L, p.pl.toNat ≠ i) → a[i]? = b[i]?) : PgEq n (appl a L) (appl b L) := by
  refine ⟨by rw [appl_len, ha], by rw [appl_len, hb], fun i hi => ?_⟩
  by_cases hw : ∃ p ∈ L, p.pl.toNat = i
  · obtain ⟨p, hp, rfl⟩ := hw
    rw [h.at hp ha, h.at hp hb]
  · have hw' : ∀ p ∈ L, p.pl.toNat ≠ i := fun p hp e => hw ⟨p, hp, e⟩
    rw [appl_ne L a i hw', appl_ne L b i hw']
    exact he i hi hw'
theorem Gp.page_ne {n : Nat} {L : List Pg} (h : Gp n L) {i : Nat} (hi : isPg n (i : Int)) {p : Pg} (hp : p ∈ savedL n L) : p.pl.toNat ≠ i := by
  have hplo := pgs_lo h.lo
  have hpi : i = 0 ∨ 2 + lb (pgs n) + pgs n ≤ i := by unfold isPg frs at hi; omega
  unfold savedL at hp
  rcases List.mem_append.1 hp with hp | hp
  · have := (h.saved hp).1
    omega
  · simp at hp
    subst hp
    show (1 : Int).toNat ≠ i
    omega

/-- nothing waits, and the pages are as those of others -/
structure Old (n : Nat) (b0 bs : List ByteArray) : Prop where
  head : bs[1]? = some Z
  eq : PgEq n bs b0
/-- the group waits -/
structure Mdl (n : Nat) (L : List Pg) (b0 bs : List ByteArray) : Prop where
  hold : Hold n L bs
  eq : PgEq n (appl bs L) (appl b0 L)

theorem take_saved_front {n : Nat} {L : List Pg} {c : Nat} (hc : c ≤ L.length + lb L.length) : (savedL n L ++ settledL L).take c = (copiesL n L ++ enumP 2 (rows L)).take c := by
  have hl : (copiesL n L ++ enumP 2 (rows L)).length = L.length + lb L.length := by
    unfold copiesL
    rw [List.length_append, enumP_len, enumP_len, List.length_map, rows_len]
  unfold savedL
  rw [List.append_assoc, List.take_append_of_le_length (by rw [hl]; exact hc)]
theorem cmt_old {n : Nat} {L : List Pg} (h : Gp n L) {b0 : List ByteArray} (hb : b0.length = n) (hz : b0[1]? = some Z) {c : Nat} (hc : c ≤ L.length + lb L.length) : Old n b0 (appl b0 ((savedL n L ++ settledL L).take c)) := by
  rw [take_saved_front hc]
  have hw : ∀ p ∈ (copiesL n L ++ enumP 2 (rows L)).take c, 2 ≤ p.pl.toNat ∧ p.pl.toNat < 2 + lb (pgs n) + pgs n := fun p hp => (h.saved (List.mem_of_mem_take hp)).1
  have hplo := pgs_lo h.lo
  refine ⟨?_, by rw [appl_len, hb], hb, fun i hi => ?_⟩
  · rw [appl_ne _ _ 1 (fun p hp => by have := hw p hp; omega)]; exact hz
  · have hpi : i = 0 ∨ 2 + lb (pgs n) + pgs n ≤ i := by unfold isPg frs at hi; omega
    exact appl_ne _ _ i (fun p hp => by have := hw p hp; omega)
theorem settled_take {L : List Pg} {j : Nat} (h : j ≤ L.length) : (settledL L).take j = L.take j := by
  unfold settledL
  rw [List.take_append_of_le_length h]
theorem cmt_mdl {n : Nat} {L : List Pg} (h : Gp n L) {b0 : List ByteArray} (hb : b0.length = n) {c : Nat} (h1 : L.length + lb L.length + 1 ≤ c) (h2 : c ≤ 2 * L.length + lb L.length + 1) : Mdl n L b0 (appl b0 ((savedL n L ++ settledL L).take c)) := by
  obtain ⟨j, rfl⟩ : ∃ j, c = (savedL n L).length + j := ⟨c - (L.length + lb L.length + 1), by rw [savedL_len]; omega⟩
  rw [savedL_len] at h2
  rw [List.take_length_add_append, settled_take (by omega), appl_append]
  have hs : (appl b0 (savedL n L)).length = n := by rw [appl_len, hb]
  refine ⟨(h.hold hb).pages h (fun p hp => List.mem_of_mem_take hp), h.sync (by rw [appl_len, hs]) hb (fun i hi hn => ?_)⟩
  rw [appl_ne _ _ i (fun p hp => hn p (List.mem_of_mem_take hp)), appl_ne _ _ i (fun p hp => h.page_ne hi hp)]
theorem settle_new {n : Nat} {L : List Pg} (h : Gp n L) {b0 bs : List ByteArray} (hb : bs.length = n) (he : PgEq n (appl bs L) (appl b0 L)) : Old n (appl b0 L) (appl bs (settledL L)) := by
  have hn := h.lo
  have hplo := pgs_lo h.lo
  unfold settledL
  rw [appl_append, appl_cons, appl_nil]
  refine ⟨?_, ?_, he.lb, fun i hi => ?_⟩
  · show ((appl bs L).set (1 : Int).toNat Z)[1]? = _
    exact List.getElem?_set_self (by rw [appl_len, hb]; omega)
  · rw [List.length_set, appl_len, hb]
  · have hi1 : (1 : Int).toNat ≠ i := by unfold isPg frs at hi; show 1 ≠ i; omega
    show ((appl bs L).set (1 : Int).toNat Z)[i]? = _
    rw [List.getElem?_set_ne hi1]
    exact he.at' i hi
theorem cmt_new {n : Nat} {L : List Pg} (h : Gp n L) {b0 : List ByteArray} (hb : b0.length = n) : Old n (appl b0 L) (appl b0 (savedL n L ++ settledL L)) := by
  rw [appl_append]
  have hs : (appl b0 (savedL n L)).length = n := by rw [appl_len, hb]
  exact settle_new h hs (h.sync hs hb (fun i hi _ => appl_ne _ _ i (fun p hp => h.page_ne hi hp)))
theorem mdl_step {n : Nat} {L : List Pg} (h : Gp n L) {b0 bs : List ByteArray} (hb : b0.length = n) (hm : Mdl n L b0 bs) {c : Nat} (hc : c ≤ L.length) : Mdl n L b0 (appl bs ((settledL L).take c)) := by
  rw [settled_take hc]
  refine ⟨hm.hold.pages h (fun p hp => List.mem_of_mem_take hp), h.sync (by rw [appl_len, hm.hold.len]) hb (fun i hi hn => ?_)⟩
  rw [appl_ne _ _ i (fun p hp => hn p (List.mem_of_mem_take hp))]
  have := hm.eq.at' i hi
  rwa [appl_ne L bs i hn, appl_ne L b0 i hn] at this

/-! ## on disks -/

theorem ck_nil (n : Nat) : ck n [] = 0 := by unfold ck; rw [if_neg (by simp)]; rfl
theorem cmt_nil (d : Ds) : cmt d [] = (0, d) := by unfold cmt; rw [if_pos (ck_nil _), if_pos rfl]
theorem cmt_on {d : Ds} {L : List Pg} (h : Gp d.bs.length L) (hL : L ≠ []) (hdn : d.dn = false) (hl : d.lf < 0) : cmt d L = (0, { d with bs := appl d.bs (savedL d.bs.length L ++ settledL L), lg := d.lg ++ (savedL d.bs.length L ++ settledL L) }) := by
  unfold cmt
  rw [if_pos h.ck, if_neg hL, Ds.wrs_on _ d hdn hl h.vw]
theorem saved_settled_len (n : Nat) (L : List Pg) : (savedL n L ++ settledL L).length = 2 * L.length + lb L.length + 2 := by
  rw [List.length_append, savedL_len, settledL_len]; omega
theorem cmt_cut {d : Ds} {L : List Pg} (h : Gp d.bs.length L) (hL : L ≠ []) (hdn : d.dn = false) {c : Nat} (hl : d.lf = (c : Int)) :
    cmt d L = if 2 * L.length + lb L.length + 2 ≤ c then (0, { d with bs := appl d.bs (savedL d.bs.length L ++ settledL L), lg := d.lg ++ (savedL d.bs.length L ++ settledL L), lf := ((c - (2 * L.length + lb L.length + 2) : Nat) : Int) }) else (17, ⟨appl d.bs ((savedL d.bs.length L ++ settledL L).take c), d.lg ++ (savedL d.bs.length L ++ settledL L).take c, 0, true⟩) := by
  unfold cmt
  rw [if_pos h.ck, if_neg hL, Ds.wrs_cut _ d c hdn hl h.vw, saved_settled_len]
theorem recv_old {d : Ds} (hdn : d.dn = false) (hz : d.bs[1]? = some Z) : recv d = (0, 0, d) := by
  unfold recv
  rw [if_neg (by rw [hdn]; decide), if_pos (pend_Z hz)]
theorem Gp.vs {n : Nat} {L : List Pg} (h : Gp n L) : VW n (settledL L) := fun p hp => h.vw p (List.mem_append.2 (.inr hp))
theorem recv_mdl {d : Ds} {L : List Pg} {b0 : List ByteArray} (h : Gp d.bs.length L) (hL : L ≠ []) (hm : Mdl d.bs.length L b0 d.bs) (hdn : d.dn = false) {c : Nat} (hl : d.lf = (c : Int)) :
    recv d = if L.length + 1 ≤ c then (L.length, 0, { d with bs := appl d.bs (settledL L), lg := d.lg ++ settledL L, lf := ((c - (L.length + 1) : Nat) : Int) }) else (0, 17, ⟨appl d.bs ((settledL L).take c), d.lg ++ (settledL L).take c, 0, true⟩) := by
  unfold recv
  rw [if_neg (by rw [hdn]; decide), hm.hold.pend h hL, if_neg hL, Ds.wrs_cut _ d c hdn hl h.vs, settledL_len]
  by_cases hc : L.length + 1 ≤ c
  · rw [if_pos hc, if_pos hc]; rfl
  · rw [if_neg hc, if_neg hc]; rfl
theorem recv_on {d : Ds} {L : List Pg} {b0 : List ByteArray} (h : Gp d.bs.length L) (hL : L ≠ []) (hm : Mdl d.bs.length L b0 d.bs) (hdn : d.dn = false) (hl : d.lf < 0) :
    recv d = (L.length, 0, { d with bs := appl d.bs (settledL L), lg := d.lg ++ settledL L }) := by
  unfold recv
  rw [if_neg (by rw [hdn]; decide), hm.hold.pend h hL, if_neg hL, Ds.wrs_on _ d hdn hl h.vs]
  rfl

/-! ## a fixed group -/

def fx : List Pg := [⟨34, blk ⟨#[120]⟩⟩, ⟨0, blk ⟨#[121]⟩⟩]
theorem fx_gp : Gp 64 fx := by
  refine ⟨by omega, by omega, by decide, ?_, by decide⟩
  intro p hp
  simp only [fx, List.mem_cons, List.not_mem_nil, or_false] at hp
  rcases hp with rfl | rfl
  · exact ⟨by decide, blk_size ⟨#[120]⟩⟩
  · exact ⟨by decide, blk_size ⟨#[121]⟩⟩
theorem nw_bs (n : Nat) : (nw n).bs.length = n := by simp [nw]
theorem nw_Z {n : Nat} (h : 1 < n) : (nw n).bs[1]? = some Z := by simp [nw, h]
/-- behind it: seven writes, the page is there, nothing waits -/
theorem fx_done : ∃ d1, cmt (nw 64) fx = (0, d1) ∧ d1.dn = false ∧ d1.lg.length = 7 ∧ d1.bs.length = 64 ∧ d1.bs[34]? = some (blk ⟨#[120]⟩) ∧ d1.bs[1]? = some Z := by
  have hg : Gp (nw 64).bs.length fx := by rw [nw_bs]; exact fx_gp
  have hL : fx ≠ [] := by unfold fx; simp
  refine ⟨_, cmt_on hg hL rfl (by simp [nw]), rfl, ?_, ?_, ?_, ?_⟩
  · show ((nw 64).lg ++ _).length = 7
    rw [List.length_append, saved_settled_len]
    rfl
  · show (appl (nw 64).bs _).length = 64
    rw [appl_len, nw_bs]
  · show (appl (nw 64).bs _)[34]? = _
    rw [nw_bs]
    rw [(cmt_new fx_gp (nw_bs 64)).eq.at' 34 (by decide)]
    exact fx_gp.at (p := ⟨34, blk ⟨#[120]⟩⟩) (by simp [fx]) (nw_bs 64)
  · show (appl (nw 64).bs _)[1]? = _
    rw [nw_bs]
    exact (cmt_new fx_gp (nw_bs 64)).head

end Go.Proofs.Ythinhlmefifffaa
