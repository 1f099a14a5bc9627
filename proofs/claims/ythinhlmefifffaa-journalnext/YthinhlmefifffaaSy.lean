/-
  Cuts one behind the other, groups one behind the other: how a disk stands.
-/
import Derived.Test.YthinhlmefifffaaGr
namespace Go.Proofs.Ythinhlmefifffaa
open Go.RowKit Go.Shelf
set_option linter.unusedVariables false
set_option linter.unusedSimpArgs false
set_option maxRecDepth 100000

/-- the power is on, no cut is told -/
def Ds.res (d : Ds) : Ds := { d with lf := -1, dn := false }
def Ds.cut (d : Ds) (c : Int) : Ds := { d with lf := c }
/-- how blocks stand behind the first cut -/
def Stg (N : Nat) (L : List Pg) (b0 bs : List ByteArray) (wh : Bool) : Prop :=
  (wh = false ∧ L ≠ [] ∧ Old N b0 bs) ∨ (wh = true ∧ ((L = [] ∧ Old N b0 bs) ∨ (L ≠ [] ∧ (Mdl N L b0 bs ∨ Old N (appl b0 L) bs))))
theorem Old.zero {N : Nat} {b0 bs : List ByteArray} (h : Old N b0 bs) : pend bs = [] := pend_Z h.head
/-- the group, cut -/
theorem stg_cmt {N : Nat} {L : List Pg} (hg : Gp N L) {b0 : List ByteArray} (hb : b0.length = N) (hz : b0[1]? = some Z) {d : Ds} (hd : d.bs = b0) (hdn : d.dn = false) (c : Nat) :
    ((cmt (d.cut c) L).1 = 0 ↔ (L = [] ∨ 2 * L.length + lb L.length + 2 ≤ c)) ∧ Stg N L b0 (cmt (d.cut c) L).2.bs (decide (L = []) || decide (L.length + lb L.length < c)) ∧ (cmt (d.cut c) L).2.lg.length ≤ d.lg.length + 2 * L.length + lb L.length + 2 := by
  by_cases hL : L = []
  · subst hL
    rw [cmt_nil]
    refine ⟨by simp, .inr ⟨by simp, .inl ⟨rfl, ?_, ?_⟩⟩, by show d.lg.length ≤ _; omega⟩
    · show d.bs[1]? = _; rw [hd]; exact hz
    · show PgEq N d.bs b0; rw [hd]; exact PgEq.refl hb
  · have hgd : Gp (d.cut c).bs.length L := by show Gp d.bs.length L; rw [hd, hb]; exact hg
    have hbl : (d.cut c).bs.length = N := by show d.bs.length = N; rw [hd, hb]
    have hbs : (d.cut c).bs = b0 := hd
    have hlg := cmt_lg (d.cut c) L
    have hcut := cmt_cut hgd hL (show (d.cut c).dn = false from hdn) (c := c) rfl
    rw [hbl, hbs] at hcut
    refine ⟨?_, ?_, hlg⟩
    · rw [hcut]
      by_cases hc : 2 * L.length + lb L.length + 2 ≤ c
      · rw [if_pos hc]; simp [hc]
      · rw [if_neg hc]; simp [hL]; omega
    · rw [hcut]
      by_cases hc : 2 * L.length + lb L.length + 2 ≤ c
      · rw [if_pos hc]
        exact .inr ⟨by simp; omega, .inr ⟨hL, .inr (cmt_new hg hb)⟩⟩
      · rw [if_neg hc]
        by_cases hc2 : L.length + lb L.length < c
        · exact .inr ⟨by simp; omega, .inr ⟨hL, .inl (cmt_mdl hg hb (by omega) (by omega))⟩⟩
        · exact .inl ⟨by simp [hL]; omega, hL, cmt_old hg hb hz (by omega)⟩
theorem recv_none {d : Ds} (hdn : d.dn = false) (hp : pend d.bs = []) : recv d = (0, 0, d) := by
  unfold recv
  rw [if_neg (by rw [hdn]; decide), if_pos hp]
/-- what puts it right, cut -/
theorem stg_rec {N : Nat} {L : List Pg} (hg : Gp N L) {b0 : List ByteArray} (hb : b0.length = N) {d : Ds} {wh : Bool} (h : Stg N L b0 d.bs wh) (hdn : d.dn = false) (c : Nat) :
    Stg N L b0 (recv (d.cut c)).2.2.bs wh ∧ (recv (d.cut c)).2.2.lg.length ≤ d.lg.length + L.length + 1 := by
  have hold : ∀ {b : List ByteArray}, Old N b d.bs → recv (d.cut c) = (0, 0, d.cut c) := fun ho => recv_none hdn ho.zero
  rcases h with ⟨h1, h2, h3⟩ | ⟨h1, ⟨h2, h3⟩ | ⟨h2, h3 | h3⟩⟩
  · rw [hold h3]; exact ⟨.inl ⟨h1, h2, h3⟩, by show d.lg.length ≤ _; omega⟩
  · rw [hold h3]; exact ⟨.inr ⟨h1, .inl ⟨h2, h3⟩⟩, by show d.lg.length ≤ _; omega⟩
  · have hbl : (d.cut c).bs.length = N := h3.hold.len
    have hm : Mdl (d.cut c).bs.length L b0 (d.cut c).bs := by rw [hbl]; exact h3
    have hgd : Gp (d.cut c).bs.length L := by rw [hbl]; exact hg
    rw [recv_mdl hgd h2 hm hdn (c := c) rfl]
    by_cases hc : L.length + 1 ≤ c
    · rw [if_pos hc]
      refine ⟨.inr ⟨h1, .inr ⟨h2, .inr ?_⟩⟩, ?_⟩
      · exact settle_new hg h3.hold.len h3.eq
      · show (d.lg ++ settledL L).length ≤ _
        rw [List.length_append, settledL_len]; omega
    · rw [if_neg hc]
      refine ⟨.inr ⟨h1, .inr ⟨h2, .inl ?_⟩⟩, ?_⟩
      · exact mdl_step hg hb h3 (by omega)
      · show (d.lg ++ (settledL L).take c).length ≤ _
        rw [List.length_append, List.length_take, settledL_len]; omega
  · rw [hold h3]; exact ⟨.inr ⟨h1, .inr ⟨h2, .inr h3⟩⟩, by show d.lg.length ≤ _; omega⟩
/-- put right with no cut: nothing waits, the pages are as they were or as they were to be -/
theorem stg_end {N : Nat} {L : List Pg} (hg : Gp N L) {b0 : List ByteArray} (hb : b0.length = N) {d : Ds} {wh : Bool} (h : Stg N L b0 d.bs wh) (hdn : d.dn = false) (hlf : d.lf < 0) :
    (recv d).2.1 = 0 ∧ (recv d).2.2.dn = false ∧ (recv d).2.2.lf = d.lf ∧ Old N (if wh = true then appl b0 L else b0) (recv d).2.2.bs ∧ (recv d).2.2.lg.length ≤ d.lg.length + L.length + 1 := by
  have hold : ∀ {b : List ByteArray}, Old N b d.bs → recv d = (0, 0, d) := fun ho => recv_none hdn ho.zero
  rcases h with ⟨h1, h2, h3⟩ | ⟨h1, ⟨h2, h3⟩ | ⟨h2, h3 | h3⟩⟩
  · rw [hold h3, h1]; exact ⟨rfl, hdn, rfl, by simpa using h3, by show d.lg.length ≤ _; omega⟩
  · rw [hold h3, h1, h2]; exact ⟨rfl, hdn, rfl, by simpa [appl_nil] using h3, by show d.lg.length ≤ _; omega⟩
  · have hbl : d.bs.length = N := h3.hold.len
    have hm : Mdl d.bs.length L b0 d.bs := by rw [hbl]; exact h3
    have hgd : Gp d.bs.length L := by rw [hbl]; exact hg
    rw [recv_on hgd h2 hm hdn hlf, h1]
    refine ⟨rfl, hdn, rfl, ?_, ?_⟩
    · simp only [if_true]
      exact settle_new hg h3.hold.len h3.eq
    · show (d.lg ++ settledL L).length ≤ _
      rw [List.length_append, settledL_len]; omega
  · rw [hold h3, h1]; exact ⟨rfl, hdn, rfl, by simpa using h3, by show d.lg.length ≤ _; omega⟩

/-- a group behind others: it is there wholly, or not at all -/
theorem next_cut {N : Nat} {L : List Pg} (hg : Gp N L) {d : Ds} {now : List ByteArray} (ho : Old N now d.bs) (hdn : d.dn = false) (lf : Int) :
    Old N (appl now L) (recv (cmt { d with lf := lf } L).2.res).2.2.bs ∧ (recv (cmt { d with lf := lf } L).2.res).2.1 = 0 ∧ (recv (cmt { d with lf := lf } L).2.res).2.2.dn = false ∧ (recv (cmt { d with lf := lf } L).2.res).2.2.lf = -1 ∧ (recv (cmt { d with lf := lf } L).2.res).2.2.lg.length ≤ d.lg.length + 3 * L.length + lb L.length + 3 ∨
    (cmt { d with lf := lf } L).1 ≠ 0 ∧ Old N now (recv (cmt { d with lf := lf } L).2.res).2.2.bs ∧ (recv (cmt { d with lf := lf } L).2.res).2.1 = 0 ∧ (recv (cmt { d with lf := lf } L).2.res).2.2.dn = false ∧ (recv (cmt { d with lf := lf } L).2.res).2.2.lf = -1 ∧ (recv (cmt { d with lf := lf } L).2.res).2.2.lg.length ≤ d.lg.length + 3 * L.length + lb L.length + 3 := by
  have hb : d.bs.length = N := ho.eq.la
  have hsync : PgEq N (appl d.bs L) (appl now L) := hg.sync hb ho.eq.lb (fun i hi _ => ho.eq.at' i hi)
  by_cases hl : lf < 0
  · refine .inl ?_
    by_cases hL : L = []
    · subst hL
      rw [cmt_nil, recv_none (d := Ds.res { d with lf := lf }) rfl ho.zero]
      exact ⟨ho, rfl, rfl, rfl, by show d.lg.length ≤ _; omega⟩
    · have hgd : Gp ({ d with lf := lf } : Ds).bs.length L := by show Gp d.bs.length L; rw [hb]; exact hg
      have hc := cmt_on hgd hL (show ({ d with lf := lf } : Ds).dn = false from hdn) hl
      have hlg := cmt_lg { d with lf := lf } L
      have hn : Old N (appl d.bs L) (cmt { d with lf := lf } L).2.bs := by
        rw [hc]
        show Old N (appl d.bs L) (appl d.bs (savedL d.bs.length L ++ settledL L))
        rw [hb]
        exact cmt_new hg hb
      have hr : recv (cmt { d with lf := lf } L).2.res = (0, 0, (cmt { d with lf := lf } L).2.res) := recv_none rfl hn.zero
      rw [hr]
      exact ⟨⟨hn.head, hn.eq.trans hsync⟩, rfl, rfl, rfl, by show (cmt { d with lf := lf } L).2.lg.length ≤ _; exact Nat.le_trans hlg (by show d.lg.length + _ + _ + _ ≤ _; omega)⟩
  · obtain ⟨c, rfl⟩ : ∃ c : Nat, lf = (c : Int) := ⟨lf.toNat, by omega⟩
    obtain ⟨h1, h2, h3⟩ := stg_cmt hg hb ho.head (d := d) rfl hdn c
    have he := stg_end hg hb (d := (cmt (d.cut c) L).2.res) h2 rfl (by show (-1 : Int) < 0; omega)
    obtain ⟨e1, e2, e3, e4, e5⟩ := he
    have e6 : (recv (cmt (d.cut c) L).2.res).2.2.lg.length ≤ d.lg.length + 3 * L.length + lb L.length + 3 := Nat.le_trans e5 (by show (cmt (d.cut c) L).2.lg.length + _ + _ ≤ _; omega)
    by_cases hw : (decide (L = []) || decide (L.length + lb L.length < c)) = true
    · rw [if_pos hw] at e4
      exact .inl ⟨⟨e4.head, e4.eq.trans hsync⟩, e1, e2, e3, e6⟩
    · rw [if_neg hw] at e4
      simp only [Bool.or_eq_true, decide_eq_true_eq, not_or] at hw
      exact .inr ⟨fun h0 => by rcases h1.1 h0 with h | h; exact hw.1 h; omega, ⟨e4.head, e4.eq.trans ho.eq⟩, e1, e2, e3, e6⟩

end Go.Proofs.Ythinhlmefifffaa
