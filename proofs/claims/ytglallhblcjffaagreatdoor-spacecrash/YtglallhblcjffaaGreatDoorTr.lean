/-
  A disk made since w0: cut, power, opening.
-/
import Derived.Test.YtglallhblcjffaaGreatDoorTa
namespace Go.Proofs.YtglallhblcjffaaGreatDoor
open Go.RowKit
set_option linter.unusedVariables false
set_option linter.unusedSimpArgs false
set_option maxRecDepth 100000

/-- nothing waits, the pages are f's -/
def Cz (f : Int → ByteArray) (bs : List ByteArray) : Prop := bs[1]? = some Z ∧ ∀ a, isPg bs.length a → bs[a.toNat]? = some (f a)
/-- what is there, or waits, comes to f's pages -/
def Rz (f : Int → ByteArray) (bs : List ByteArray) : Prop :=
  Cz f bs ∨ ∃ L b0, Gp bs.length L ∧ L ≠ [] ∧ b0.length = bs.length ∧ Mdl bs.length L b0 bs ∧ ∀ a, isPg bs.length a → (appl b0 L)[a.toNat]? = some (f a)
section
variable {f g : Int → ByteArray} {d : Ds} {L : List Pg}
theorem Old.cz {bs b0 : List ByteArray} {n : Nat} (h : Old n b0 bs) (hn : 64 ≤ n) (hf : ∀ a, isPg n a → b0[a.toNat]? = some (f a)) : Cz f bs := by
  obtain rfl : bs.length = n := h.eq.la
  refine ⟨h.head, fun a ha => ?_⟩
  obtain ⟨a1, a2⟩ := page_in hn ha
  rw [h.eq.at' a.toNat (by rw [show ((a.toNat : Nat) : Int) = a by omega]; exact ha)]
  exact hf a ha
theorem Cz.onD (h : Cz f d.bs) {a : Int} (ha : isPg d.bs.length a) : Go.Proofs.YtglallhblcjffaaGreatDoor.onD d a = f a := onD_of (h.2 a ha)
theorem Cz.congr {bs : List ByteArray} (h : Cz f bs) (hg : ∀ a, isPg bs.length a → g a = f a) : Cz g bs := ⟨h.1, fun a ha => by rw [hg a ha]; exact h.2 a ha⟩
theorem Rz.congr {bs : List ByteArray} (h : Rz f bs) (hg : ∀ a, isPg bs.length a → g a = f a) : Rz g bs := by
  rcases h with h | ⟨L, b0, h1, h2, h3, h4, h5⟩
  · exact .inl (h.congr hg)
  · exact .inr ⟨L, b0, h1, h2, h3, h4, fun a ha => by rw [hg a ha]; exact h5 a ha⟩
/-- what a call on a disk may do to it -/
structure Stp (d d' : Ds) : Prop where
  len : d'.bs.length = d.bs.length
  lg : d'.lg.length ≤ d.lg.length + 4000
theorem few {n : Nat} (hg : Gp n L) : L.length ≤ 1019 := by
  have h1 := hg.len
  obtain ⟨_, _, h3, _⟩ := frs_small hg.lo hg.hi
  omega
theorem lb_le (m : Nat) : lb m ≤ m + 1 := by unfold lb; omega
/-- Recover -/
theorem rz_recv (hok : d.Ok) (hdn : d.dn = false) (h : Rz f d.bs) : Stp d (recv d).2.2 ∧
    (((recv d).2.1 = 0 ∧ (recv d).2.2.dn = false ∧ Cz f (recv d).2.2.bs ∧ (d.lf < 0 → (recv d).2.2.lf = d.lf)) ∨ (0 ≤ d.lf ∧ (recv d).2.1 = 17 ∧ Rz f (recv d).2.2.bs)) := by
  rcases h with h | ⟨L, b0, h1, h2, h3, h4, h5⟩
  · rw [recv_old hdn h.1]
    exact ⟨⟨rfl, Nat.le_add_right _ _⟩, .inl ⟨rfl, hdn, h, fun _ => rfl⟩⟩
  · have hfew := few h1
    have hnew := settle_new h1 (b0 := b0) rfl h4.eq
    by_cases hl : d.lf < 0
    · rw [recv_on h1 h2 h4 hdn hl]
      refine ⟨⟨appl_len _ _, ?_⟩, .inl ⟨rfl, hdn, hnew.cz hok.lo h5, fun _ => rfl⟩⟩
      show (d.lg ++ settledL L).length ≤ _
      rw [List.length_append, settledL_len]; omega
    · obtain ⟨c, hc⟩ : ∃ c : Nat, d.lf = (c : Int) := ⟨d.lf.toNat, by omega⟩
      rw [recv_mdl h1 h2 h4 hdn hc]
      by_cases hcl : L.length + 1 ≤ c
      · rw [if_pos hcl]
        refine ⟨⟨appl_len _ _, ?_⟩, .inl ⟨rfl, hdn, hnew.cz hok.lo h5, fun h => absurd h hl⟩⟩
        show (d.lg ++ settledL L).length ≤ _
        rw [List.length_append, settledL_len]; omega
      · rw [if_neg hcl]
        refine ⟨⟨appl_len _ _, ?_⟩, .inr ⟨by omega, rfl, .inr ⟨L, b0, ?_, h2, ?_, ?_, ?_⟩⟩⟩
        · show (d.lg ++ (settledL L).take c).length ≤ _
          rw [List.length_append, List.length_take, settledL_len]; omega
        · show Gp (appl d.bs ((settledL L).take c)).length L
          rw [appl_len]; exact h1
        · show b0.length = (appl d.bs ((settledL L).take c)).length
          rw [appl_len]; exact h3
        · show Mdl (appl d.bs ((settledL L).take c)).length L b0 (appl d.bs ((settledL L).take c))
          rw [appl_len]; exact mdl_step h1 h3 h4 (by omega)
        · show ∀ a, isPg (appl d.bs ((settledL L).take c)).length a → _
          rw [appl_len]; exact h5
/-- a group -/
theorem rz_cmt (hok : d.Ok) (hdn : d.dn = false) (h : Cz f d.bs) (hg : Gp d.bs.length L) (hx : ∀ a, isPg d.bs.length a → (appl d.bs L)[a.toNat]? = some (g a)) : Stp d (cmt d L).2 ∧
    (((cmt d L).1 = 0 ∧ (cmt d L).2.dn = false ∧ Cz g (cmt d L).2.bs ∧ (d.lf < 0 → (cmt d L).2.lf = d.lf)) ∨ (0 ≤ d.lf ∧ (cmt d L).1 = 17 ∧ (Rz f (cmt d L).2.bs ∨ Rz g (cmt d L).2.bs))) := by
  have hfew := few hg
  have hlg := cmt_lg d L
  have hlb := lb_le L.length
  have hlg2 : (cmt d L).2.lg.length ≤ d.lg.length + 4000 := by omega
  by_cases hL : L = []
  · subst hL
    rw [cmt_nil]
    exact ⟨⟨rfl, Nat.le_add_right _ _⟩, .inl ⟨rfl, hdn, h.congr (fun a ha => by have := hx a ha; rw [appl_nil, h.2 a ha] at this; exact (Option.some.inj this).symm), fun _ => rfl⟩⟩
  · have hnew := cmt_new hg (b0 := d.bs) rfl
    by_cases hl : d.lf < 0
    · have e := cmt_on hg hL hdn hl
      rw [e] at hlg2 ⊢
      exact ⟨⟨appl_len _ _, hlg2⟩, .inl ⟨rfl, hdn, hnew.cz hok.lo hx, fun _ => rfl⟩⟩
    · obtain ⟨c, hc⟩ : ∃ c : Nat, d.lf = (c : Int) := ⟨d.lf.toNat, by omega⟩
      have e := cmt_cut hg hL hdn hc
      by_cases hcl : 2 * L.length + lb L.length + 2 ≤ c
      · rw [if_pos hcl] at e
        rw [e] at hlg2 ⊢
        exact ⟨⟨appl_len _ _, hlg2⟩, .inl ⟨rfl, hdn, hnew.cz hok.lo hx, fun h => absurd h hl⟩⟩
      · rw [if_neg hcl] at e
        rw [e] at hlg2 ⊢
        refine ⟨⟨appl_len _ _, hlg2⟩, .inr ⟨by omega, rfl, ?_⟩⟩
        by_cases hc2 : c ≤ L.length + lb L.length
        · exact .inl (.inl ((cmt_old hg (b0 := d.bs) rfl h.1 hc2).cz hok.lo h.2))
        · refine .inr (.inr ⟨L, d.bs, ?_, hL, ?_, ?_, ?_⟩)
          · show Gp (appl d.bs _).length L
            rw [appl_len]; exact hg
          · show d.bs.length = (appl d.bs _).length
            rw [appl_len]
          · show Mdl (appl d.bs _).length L d.bs _
            rw [appl_len]; exact cmt_mdl hg rfl (by omega) (by omega)
          · show ∀ a, isPg (appl d.bs _).length a → _
            rw [appl_len]; exact hx
/-- what an opened disk shows -/
def nwN (n : Nat) (f : Int → ByteArray) : Int → ByteArray := fun b => if b = ((frs n : Nat) : Int) then fm0 else if b = 0 then pg0 n else f b
def LF (n : Nat) (f : Int → ByteArray) : Int → ByteArray := if laid n (f 0) = true then f else nwN n f
theorem lay_facts (hok : d.Ok) (hdn : d.dn = false) {r : Nat} (hr : 1 ≤ r ∧ r ≤ 1024) : Gp d.bs.length (layL d r) ∧ ∀ a, isPg d.bs.length a → (appl d.bs (layL d r))[a.toNat]? = some (nwN d.bs.length (onD d) a) := by
  obtain ⟨v1, v2⟩ : SpG (nwP d r) 0 ∧ ∀ b, vw (nwP d r) b = onD d b := new_view hok hdn hr
  obtain ⟨l1, l2, l3⟩ := layP_view v1
  have hd2 : (layP (nwP d r)).d = d := l2
  have hg := SrtC.gp l1.ok
  rw [hd2] at hg
  refine ⟨hg, fun a ha => ?_⟩
  have := appl_view l1 (a := a) (by rw [hd2]; exact ha)
  rw [hd2, l3] at this
  rw [show layL d r = (layP (nwP d r)).ch from rfl, this]
  unfold nwF nwN
  simp only [v2]
  rfl
end
/-- what Open leaves -/
def OpnP (w : World) (D : Nat → Prop) (k : Nat) (d : Ds) (f : Int → ByteArray) (e : Ending) (w' : World) : Prop :=
  (∃ q s d', e = .returned (.tuple #[.pointer (some ⟨s, 0, none⟩), .int .i64 0]) ∧ Sn w D k q s d' (onD d') 1 w' ∧ d'.bs.length = d.bs.length ∧ d'.lg.length ≤ d.lg.length + 8000 ∧ Cz (LF d.bs.length f) d'.bs ∧ (d.lf < 0 → d'.lf = d.lf)) ∨
  (0 ≤ d.lf ∧ e = .returned (.tuple #[.pointer none, .int .i64 17]) ∧ ∃ d', Sd w D k d' w' ∧ d'.bs.length = d.bs.length ∧ d'.lg.length ≤ d.lg.length + 8000 ∧ (Rz f d'.bs ∨ Rz (LF d.bs.length f) d'.bs))
theorem open_all {w : World} {D : Nat → Prop} {k : Nat} {d : Ds} {f : Int → ByteArray} (r : Nat) (hr : 1 ≤ r ∧ r ≤ 1024) (hE : Env w) (h00 : ¬ D 0) (hz : Fit (d.lg.length + 10000)) (hdn : d.dn = false) (hf : Rz f d.bs) (hd : Dk w D k d) :
    Calls Tryz.prog 12 #[.pointer (some ⟨k, 0, none⟩), .int .i64 (r : Nat)] w fun e w' => OpnP w D k d f e w' := by
  have hok := hd.ok
  obtain ⟨s1, c1⟩ := rz_recv hok hdn hf
  have hz1 : Fit (d.lg.length + 1500) := hz.le (by omega)
  rcases c1 with ⟨e0, h1, h2, h3⟩ | ⟨hl, e17, h1⟩
  · have hok1 := recv_ok hok
    have hlen := s1.len
    have hlg := s1.lg
    have hp0 : onD (recv d).2.2 0 = f 0 := h2.onD (zero_pg _)
    cases hla : laid d.bs.length (f 0) with
    | true =>
      refine (open_laid r hr hz1 e0 h1 (by rw [hlen, hp0]; exact hla) hd).mono fun e w' hh => .inl ?_
      obtain ⟨q, s, e1, hs⟩ := hh
      refine ⟨q, s, _, e1, hs, hlen, by omega, ?_, h3⟩
      unfold LF
      rw [if_pos hla]
      exact h2
    | false =>
      have hz2 : Fit ((recv d).2.2.lg.length + 5000) := hz.le (by omega)
      obtain ⟨g1, g2⟩ := lay_facts hok1 h1 hr
      have hLF : LF d.bs.length f = nwN d.bs.length f := by unfold LF; rw [if_neg (by rw [hla]; decide)]
      have hx : ∀ a, isPg (recv d).2.2.bs.length a → (appl (recv d).2.2.bs (layL (recv d).2.2 r))[a.toNat]? = some (LF d.bs.length f a) := fun a ha => by
        rw [g2 a ha, hLF, hlen]
        unfold nwN
        rw [h2.onD ha]
      obtain ⟨s2, c2⟩ := rz_cmt hok1 h1 h2 g1 hx
      have hlen2 := s2.len
      have hlg2 := s2.lg
      rcases c2 with ⟨e0', h1', h2', h3'⟩ | ⟨hl', e17', h1'⟩
      · refine (open_new r hr hz1 e0 h1 (by rw [hlen, hp0]; exact hla) hz2 e0' hd).mono fun e w' hh => .inl ?_
        obtain ⟨q, s, e1, hs⟩ := hh
        exact ⟨q, s, _, e1, hs, by omega, by omega, h2', fun hl => by rw [h3' (by rw [h3 hl]; exact hl), h3 hl]⟩
      · refine (open_bad r hr hz1 e0 h1 hE h00 (by rw [hlen, hp0]; exact hla) hz2 e17' hd).mono fun e w' hh => .inr ⟨?_, hh.1, _, hh.2, by omega, by omega, ?_⟩
        · rcases Int.lt_or_le d.lf 0 with h | h
          · have := h3 h
            omega
          · exact h
        · exact h1'
  · refine (open_err r hr hz1 (by rw [e17]; decide) hd).mono fun e w' hh => .inr ⟨hl, ?_, _, hh.2, s1.len, by have := s1.lg; omega, .inl h1⟩
    rw [hh.1, e17]
    rfl

section
variable {w0 w W V : World} {S D : Nat → Prop} {k q s : Nat} {d d' : Ds} {f g : Int → ByteArray} {N : Nat}
theorem Sd.dq (h : Sd w S k d W) (hS : ∀ j, S j → w0.heap.size ≤ j) (hb : Below w0.heap.size w0 w) : Dq w0 W k d := by
  obtain ⟨D, h1, h2⟩ := h.dk
  refine ⟨D, h1, fun j hj => ?_, hb.trans (h.keep.below hS hb.size)⟩
  rcases h2 j hj with t | t
  · exact hS j t
  · exact Nat.le_trans hb.size t
theorem Dq.below (h : Dq w0 w k d) : Below w0.heap.size w0 w := by obtain ⟨_, _, _, h⟩ := h; exact h
theorem Dq.ok (h : Dq w0 w k d) : d.Ok := by obtain ⟨_, h, _⟩ := h; exact h.ok
theorem Dq.on (h : Dq w0 w k d) (hb : Below w.heap.size w W) : Dq w0 W k d := by
  obtain ⟨D, h1, h2, h3⟩ := h
  exact ⟨D, h1.on hb, h2, h3.trans (hb.mono h3.size)⟩
theorem Sq.dq (h : Sq w0 w k q s d f N) : Dq w0 w k d := by
  obtain ⟨S, h1, h2, h3⟩ := h
  exact (Sn.refl h1).sd.dq h2 h3
theorem cut_dq (n : Int) (hn : -9223372036854775808 ≤ n ∧ n ≤ 9223372036854775807) (h : Dq w0 w k d) : Calls Tryz.prog 14 #[.pointer (some ⟨k, 0, none⟩), .int .i64 n] w fun e w' => e = .returned (.tuple #[]) ∧ Dq w0 w' k { d with lf := n } := by
  obtain ⟨D, h1, h2, h3⟩ := h
  exact (cut_any n hn w D k d h1).mono fun e w' hh => ⟨hh.1, D, hh.2.1, h2, h3.trans (hh.2.2.below h2 h3.size)⟩
theorem restore_dq (h : Dq w0 w k d) : Calls Tryz.prog 16 #[.pointer (some ⟨k, 0, none⟩)] w fun e w' => e = .returned (.tuple #[]) ∧ Dq w0 w' k { d with lf := -1, dn := false } := by
  obtain ⟨D, h1, h2, h3⟩ := h
  exact (restore_any w D k d h1).mono fun e w' hh => ⟨hh.1, D, hh.2.1, h2, h3.trans (hh.2.2.below h2 h3.size)⟩
/-- what Open leaves of a disk made since w0 -/
def OpnQ (w0 : World) (k : Nat) (d : Ds) (f : Int → ByteArray) (e : Ending) (w' : World) : Prop :=
  (∃ q s d', e = .returned (.tuple #[.pointer (some ⟨s, 0, none⟩), .int .i64 0]) ∧ Sq w0 w' k q s d' (onD d') 1 ∧ d'.bs.length = d.bs.length ∧ d'.lg.length ≤ d.lg.length + 8000 ∧ Cz (LF d.bs.length f) d'.bs ∧ (d.lf < 0 → d'.lf = d.lf)) ∨
  (0 ≤ d.lf ∧ e = .returned (.tuple #[.pointer none, .int .i64 17]) ∧ ∃ d', Dq w0 w' k d' ∧ d'.bs.length = d.bs.length ∧ d'.lg.length ≤ d.lg.length + 8000 ∧ (Rz f d'.bs ∨ Rz (LF d.bs.length f) d'.bs))
theorem open_dq (r : Nat) (hr : 1 ≤ r ∧ r ≤ 1024) (hE : Env w0) (hz : Fit (d.lg.length + 10000)) (hdn : d.dn = false) (hf : Rz f d.bs) (h : Dq w0 w k d) :
    Calls Tryz.prog 12 #[.pointer (some ⟨k, 0, none⟩), .int .i64 (r : Nat)] w fun e w' => OpnQ w0 k d f e w' := by
  obtain ⟨D, h1, h2, h3⟩ := h
  have hp := hE.pos
  refine (open_all r hr (hE.on hp h3) (fun h0 => by have := h2 0 h0; omega) hz hdn hf h1).mono fun e w' hh => ?_
  rcases hh with ⟨q, s, d', e1, e2, e3⟩ | ⟨e0, e1, d', e2, e3⟩
  · exact .inl ⟨q, s, d', e1, e2.sq h2 h3, e3⟩
  · exact .inr ⟨e0, e1, d', e2.dq h2 h3, e3⟩
/-- same, of a space since w0 and one of the document's that is new -/
theorem same_new {b n : Nat} (hE : Env w0) (hN : N < 4611686018427380000) {r : Rsp} (hok : r.Ok) (hn : r.n = d.bs.length) (h : Sq w0 w k q s d f N) (hr : Nr w W b r) :
    Calls Tryz.prog 11 #[.pointer (some ⟨s, 0, none⟩), .pointer (some ⟨b, 0, none⟩)] W fun e V => Same e d.bs.length f r ∧ Sq w0 V k q s d f (N + 3000) := by
  obtain ⟨S, h1, h2, h3⟩ := h
  have hp := hE.pos
  have hb := hr.below
  have hW := h3.trans (hb.mono h3.size)
  refine (same_any (hE.on hp hW) (fun h0 => by have := h2 0 h0; omega) hN hok hn (h1.on hb) hr.rr (fun j hj hR => ?_)).mono fun e V hh => ⟨hh.1, hh.2.sq h2 hW⟩
  have := h1.lt j hj
  have := hR.1
  omega
end
theorem pre_append (a b : List UInt8) : a.isPrefixOf (a ++ b) = true := by
  induction a with
  | nil => rfl
  | cons x r ih => simp [List.isPrefixOf, ih]
theorem laid_pg0 (n : Nat) : laid n (pg0 n) = true := by
  unfold laid pg0 Lib.hasPrefix
  rw [Nu.padOf_list]
  exact pre_append _ _
theorem laid_mk (n : Nat) (x : ByteArray) : laid n (mkB n ++ x) = true := by
  unfold laid Lib.hasPrefix
  rw [ByteArray.data_append, Array.toList_append]
  exact pre_append _ _
theorem nwN_zero {n : Nat} (h1 : 64 ≤ n) (h2 : n ≤ 2048) (f : Int → ByteArray) : nwN n f 0 = pg0 n := by
  obtain ⟨_, _, _, _, b5⟩ := frs_small h1 h2
  unfold nwN
  rw [if_neg (by omega), if_pos rfl]
def fZ : Int → ByteArray := fun _ => Z
theorem LF_Z (n : Nat) : LF n fZ = nwN n fZ := by
  unfold LF
  rw [if_neg (by show ¬ laid n Z = true; rw [laid_Z]; decide)]
theorem LF_laid {n : Nat} {f : Int → ByteArray} (h : laid n (f 0) = true) : LF n f = f := by
  unfold LF
  rw [if_pos h]
theorem LF_new {n : Nat} (h1 : 64 ≤ n) (h2 : n ≤ 2048) : LF n (nwN n fZ) = nwN n fZ := LF_laid (by rw [nwN_zero h1 h2]; exact laid_pg0 n)
/-- a disk that is, or is being, laid out -/
structure Lay (n j : Nat) (d : Ds) : Prop where
  len : d.bs.length = n
  lg : d.lg.length ≤ 8000 * j
  dn : d.dn = false
  lf : d.lf < 0
  rz : Rz fZ d.bs ∨ Rz (nwN n fZ) d.bs
theorem Lay.start {n : Nat} (h1 : 64 ≤ n) : Lay n 0 (nw n) := by
  have hl : (nw n).bs.length = n := nw_bs n
  refine ⟨hl, Nat.le_refl _, rfl, by show (-1 : Int) < 0; decide, .inl (.inl ⟨nw_Z (by omega), fun a ha => ?_⟩)⟩
  rw [hl] at ha
  obtain ⟨a1, a2⟩ := page_in h1 ha
  show (List.replicate n Z)[a.toNat]? = some Z
  rw [List.getElem?_replicate, if_pos (by omega)]
theorem Lay.shw {n : Nat} (h1 : 64 ≤ n) (h2 : n ≤ 2048) {d : Ds} (hl : d.bs.length = n) (h : Cz (nwN n fZ) d.bs) : Shw d.bs.length (onD d) (rNewP n) := by
  subst hl
  have := Shw.new (d := d) (g := fZ) h1 h2
  exact this.congr (rNewP_ok h1 h2) rfl (fun a ha => by rw [h.onD ha]; rfl)
/-- opened with a cut told, or with none: it is laid out, or it goes on -/
theorem open_lay {w0 w : World} {k n j : Nat} {d : Ds} (h1 : 64 ≤ n) (h2 : n ≤ 2048) (hj : j ≤ 20) (lf : Int) (hE : Env w0) (hL : Lay n j d) (h : Dq w0 w k { d with lf := lf }) :
    Calls Tryz.prog 12 #[.pointer (some ⟨k, 0, none⟩), .int .i64 3] w fun e w' => (∃ q s d', e = .returned (.tuple #[.pointer (some ⟨s, 0, none⟩), .int .i64 0]) ∧ Sq w0 w' k q s d' (onD d') 1 ∧ Dq w0 w' k d' ∧ d'.bs.length = n ∧ Shw d'.bs.length (onD d') (rNewP n) ∧ Lay n (j + 1) { d' with lf := -1, dn := false }) ∨ (0 ≤ lf ∧ e = .returned (.tuple #[.pointer none, .int .i64 17]) ∧ ∃ d', Dq w0 w' k d' ∧ Lay n (j + 1) { d' with lf := -1, dn := false }) := by
  have hlg := hL.lg
  have hz : Fit (({ d with lf := lf } : Ds).lg.length + 10000) := by
    show (d.lg.length + 10000) * 24 ≤ 140737488355328
    omega
  have hln := hL.len
  obtain ⟨f, hf, hLF⟩ : ∃ f, Rz f d.bs ∧ LF n f = nwN n fZ ∧ (f = fZ ∨ f = nwN n fZ) := by
    rcases hL.rz with h | h
    · exact ⟨_, h, LF_Z n, .inl rfl⟩
    · exact ⟨_, h, LF_new h1 h2, .inr rfl⟩
  refine (open_dq (d := { d with lf := lf }) (f := f) 3 (by decide) hE hz hL.dn hf h).mono fun e w' hh => ?_
  rcases hh with ⟨q, s, d', e1, e2, e3, e4, e5, e6⟩ | ⟨e0, e1, d', e2, e3, e4, e5⟩
  · have e3' : d'.bs.length = n := e3.trans hln
    have e5' : Cz (nwN n fZ) d'.bs := by
      rw [show ({ d with lf := lf } : Ds).bs.length = n from hln, hLF.1] at e5
      exact e5
    exact .inl ⟨q, s, d', e1, e2, e2.dq, e3', Lay.shw h1 h2 e3' e5', ⟨e3', by have : d'.lg.length ≤ d.lg.length + 8000 := e4; show d'.lg.length ≤ _; omega, rfl, by show (-1 : Int) < 0; decide, .inr (.inl e5')⟩⟩
  · have e3' : d'.bs.length = n := e3.trans hln
    refine .inr ⟨e0, e1, d', e2, ⟨e3', by have : d'.lg.length ≤ d.lg.length + 8000 := e4; show d'.lg.length ≤ _; omega, rfl, by show (-1 : Int) < 0; decide, ?_⟩⟩
    rw [show ({ d with lf := lf } : Ds).bs.length = n from hln, hLF.1] at e5
    rcases e5 with h | h
    · rcases hLF.2 with rfl | rfl
      · exact .inl h
      · exact .inr h
    · exact .inr h

end Go.Proofs.YtglallhblcjffaaGreatDoor
