/-
  What Load does.
-/
import Derived.Test.YtoecopmbaoklkaaPb
namespace Go.Proofs.Ytoecopmbaoklkaa
open Go.RowKit
set_option linter.unusedVariables false
set_option linter.unusedSimpArgs false
set_option maxRecDepth 100000

theorem load_nil (a : Int) (w : World) : Calls Try.prog 11 #[.pointer none, .int .i64 a] w fun e w' => e = .returned (.tuple #[.string ⟨#[]⟩, .int .i64 18]) ∧ w = w' := by
  go_enter Try.func11, Try.ntmps11
  go_wp2_with (go_at_call 26; refine (prefuses_nil a w).mono ?_; rintro e w1 ⟨rfl, rfl⟩)
  go_ret2
  exact ⟨rfl, rfl⟩

section
variable {w : World} {S : Nat → Prop} {k q : Nat} {p : Pp}
theorem find_any (a : Int) {A M B : List Pg} (hc : p.ch = A ++ M ++ B) (hl : p.ch.length ≤ 50000) (ha : ∀ c ∈ A, c.pl < a) (hb : ∀ c ∈ B, a < c.pl) (hm : M = [] ∨ ∃ c, M = [c] ∧ c.pl = a) (h : Pk w S k q p) :
    Calls Try.prog 27 #[.pointer (some ⟨q, 0, none⟩), .int .i64 a] w fun e w' => e = .returned (.tuple #[.int .i64 (A.length : Nat), .bool (!M.isEmpty)]) ∧ Below w.heap.size w w' := by
  obtain ⟨D, T, _, _, _, _, _, cv, uv, m, hb3, hr, _⟩ := h
  have c1 : w.cell? ⟨q, 1, none⟩ = some cv := hb3.cell (i := 1) rfl
  rw [hc] at hr hl
  have hs := search_any w 0 cv A M B a hr hl ha hb hm
  obtain ⟨va, vc, e1⟩ := own_form hr
  subst e1
  clear hb3 hr hl ha hb hm hc
  generalize A.length = t at *
  generalize (!M.isEmpty) = z at *
  generalize (A ++ M ++ B).length = n at *
  go_enter Try.func27, Try.ntmps27
  go_wp2_with (first
    | (go_at_call 49; refine hs.mono ?_; clear hs; rintro e w1 ⟨rfl, hb1⟩))
  go_ret2
  exact ⟨rfl, hb1⟩

theorem Pp.Ok.i64 {N : Nat} (hok : p.Ok N) : ∀ x ∈ p.hs, I64 x.pl := fun x hx => by
  have := isPg_small hok.d.lo hok.d.hi (hok.pg x hx).1
  unfold I64
  omega
theorem isPg_i64 {n : Nat} {a : Int} (h1 : 64 ≤ n) (h2 : n ≤ 2048) (h : isPg n a) : I64 a := by
  have := isPg_small h1 h2 h
  unfold I64
  omega

set_option maxHeartbeats 1000000 in
theorem load_any (N : Nat) (hN : N < 4611686018427387904) (a : Int) (hok : p.Ok N) (h : Pk w S k q p) :
    Calls Try.prog 11 #[.pointer (some ⟨q, 0, none⟩), .int .i64 a] w fun e w' => e = .returned (.tuple #[.string (p.ldS a), .int .i64 (p.ldE a : Nat)]) ∧ Pm w S k q (p.ld a) w' := by
  have hrf := prefuses_any a h
  have HP := hid h
  by_cases hpg : isPg p.d.bs.length a
  case neg =>
    rw [if_neg hpg] at hrf
    have e1 : p.ldS a = ⟨#[]⟩ := by unfold Pp.ldS; rw [if_pos hpg]
    have e2 : p.ldE a = 1 := by unfold Pp.ldE; rw [if_pos hpg]
    have e3 : p.ld a = p := by unfold Pp.ld; rw [if_pos hpg]
    rw [e1, e2, e3]
    clear h hpg e1 e2 e3 hok
    go_enter Try.func11, Try.ntmps11
    go_wp2_with (first
      | (go_at_call 26; refine hrf.mono ?_; clear hrf; rintro e w1 ⟨rfl, rfl⟩))
    go_ret2
    exact ⟨rfl, Pm.refl HP.out⟩
  rw [if_pos hpg] at hrf
  have ha := isPg_i64 hok.d.lo hok.d.hi hpg
  obtain ⟨A, M, B, hc, hA, hB, hM⟩ := hok.srt.cut a
  have hfi := find_any a hc (Nat.le_trans hok.few (by omega)) hA hB hM h
  have hfc : fndC p.ch a = M.head? := by rw [hc]; exact fndC_cut hA hB hM
  rcases hM with rfl | ⟨c, rfl, hca⟩
  case inr =>
    have e1 : p.ldS a = c.data := by unfold Pp.ldS; rw [if_neg (fun x => x hpg), hfc]; rfl
    have e2 : p.ldE a = 0 := by unfold Pp.ldE; rw [if_neg (fun x => x hpg), hfc]; rfl
    have e3 : p.ld a = p := by unfold Pp.ld; rw [if_neg (fun x => x hpg), hfc]; rfl
    rw [e1, e2, e3]
    have hcs := (hok.cg c (by rw [hc]; simp)).2
    have hcl : ∀ w1, _ := fun w1 => clone_any c.data w1 (by rw [hcs]; decide)
    obtain ⟨va, vc, g, hcell⟩ : ∃ va vc g, va = some ⟨g, 0, none⟩ ∧ w.cell? ⟨q, 1, none⟩ = some (.slice va (A.length + 1 + B.length) vc) ∧ w.cell? ⟨g, A.length * 2 + 1, none⟩ = some (.string c.data) ∧ q < w.heap.size ∧ g < w.heap.size := by
      obtain ⟨D, T, _, _, _, _, _, cv, uv, m, hb3, hr, _⟩ := h
      have hlen : p.ch.length = A.length + 1 + B.length := by rw [hc]; simp; omega
      obtain ⟨va, vc, e1⟩ := own_form hr
      subst e1
      obtain ⟨_, _, e4, _, _, hcc⟩ := own_cells hr
      cases e4
      obtain ⟨g, e5, _, hgl, c1, _⟩ := hcc (A.length * 2 + 1) (.string c.data) (by rw [flatP_odd, hc]; simp)
      rw [hlen] at hb3
      exact ⟨va, vc, g, e5, hb3.cell (i := 1) rfl, c1, hb3.lt, hgl⟩
    obtain ⟨rfl, c1, cg, hq, hg⟩ := hcell
    have HK : Hid (∀ w5, Below w.heap.size w w5 → w5.cell? ⟨q, 1, none⟩ = some (.slice (some ⟨g, 0, none⟩) (A.length + 1 + B.length) vc) ∧ w5.cell? ⟨g, A.length * 2 + 1, none⟩ = some (.string c.data)) := fun w5 hb => ⟨(hb.cell (p := ⟨q, 1, none⟩) hq).trans c1, (hb.cell (p := ⟨g, A.length * 2 + 1, none⟩) hg).trans cg⟩
    have hle : A.length + 1 + B.length ≤ 1019 := by have := hok.few; rw [hc] at this; simp at this; omega
    clear h hpg e1 e2 e3 hok hc hA hB hfc c1 cg hcs hq hg
    obtain ⟨n, hn⟩ : ∃ n, A.length + 1 + B.length = n := ⟨_, rfl⟩
    have hin : A.length < n := by omega
    have hini : (A.length : Int) < (n : Int) := by omega
    rw [hn] at HK hle
    generalize A.length = i at *
    clear hn
    go_enter Try.func11, Try.ntmps11
    go_wp2_with (first
      | (go_at_call 26; refine hrf.mono ?_; clear hrf; rintro e w1 ⟨rfl, rfl⟩)
      | (go_at_call 27; refine hfi.mono ?_; clear hfi; rintro e w2 ⟨rfl, hb2⟩; obtain ⟨d1, dg⟩ := HK.out w2 hb2; have HB2 := hid hb2; clear hb2)
      | (go_at_call 28; refine (hcl _).mono ?_; clear hcl; rintro e w3 ⟨rfl, hb3⟩; have HB3 := hid (HB2.out.trans (hb3.mono HB2.out.size)); clear hb3))
    go_ret2
    exact ⟨rfl, (Pm.refl HP.out).on HB3.out⟩
  have hfc0 : fndC p.ch a = none := hfc
  clear hfc
  cases hfh : fndH p.hs a with
  | some x =>
    obtain ⟨hxm, hxa⟩ := fndH_some hfh
    have e1 : p.ldS a = x.data := by unfold Pp.ldS; rw [if_neg (fun x => x hpg), hfc0, hfh]
    have e2 : p.ldE a = 0 := by unfold Pp.ldE; rw [if_neg (fun x => x hpg), hfc0, hfh]; rfl
    obtain ⟨X, Y, hXY⟩ := List.append_of_mem hxm
    have hnd := hok.nd
    rw [hXY] at hnd
    have e3 : p.ld a = { p with hs := X ++ Y ++ [x] } := by
      unfold Pp.ld
      rw [if_neg (fun x => x hpg), hfc0, hfh]
      show { p with hs := remH p.hs a ++ [x] } = _
      rw [← hxa, hXY, remH_split hnd]
    rw [e1, e2, e3]
    have hxs := (hok.pg x hxm).2.1
    have hcl : ∀ w1, _ := fun w1 => clone_any x.data w1 (by rw [hxs]; decide)
    have hlen : (X ++ x :: Y).length ≤ 1024 := by rw [← hXY]; have := hok.len; have := hok.room; omega
    have hlk : Hid (∀ w5, Below w.heap.size w w5 → ∃ m, w5.cell? ⟨q, 3, none⟩ = some (.map (some m)) ∧ (Instr.lookup 54 (.map (some m)) (.int .i64 a) true).run Try.prog w5 = .ok (.tuple #[.agg #[.string x.data, .int .i64 (x.pins : Nat)], .bool true]) w5) := fun w5 hb => by
      obtain ⟨D, T, _, _, _, s4⟩ := h
      obtain ⟨m, c3, hm⟩ := Su.map (U := p.hs.map Hp.pl) ((s4.on hb) : Sh w5 T k q p.room p.rd p.hs p.ch)
      have := hm.look ha
      unfold hmap at this
      rw [hfh] at this
      exact ⟨m, c3, this⟩
    have HU : Hid (∀ w5, Below w.heap.size w w5 → Calls Try.prog 29 #[.pointer (some ⟨q, 2, none⟩), .int .i64 a] w5 fun e w' => e = .returned (.tuple #[]) ∧ Pm w S k q { p with hs := X ++ Y ++ [x] } w' ∧ (∀ b cs t, w.heap.size ≤ b → Blk w5 b cs t → Blk w' b cs t)) := fun w5 hb => by
      obtain ⟨D, T, s1, s2, s3, s4⟩ := h
      rw [hXY] at s4
      have hs5 := s4.on hb
      have := use_any (hxa ▸ ha) hnd hlen hs5
      rw [hxa] at this
      refine this.mono fun e w' hh => ⟨hh.1, Pm.shelf (p := p) s1 s2 s3 (hh.2.base hb s4.1), fun b cs t hb1 hb2 => hh.2.keep.blk hb2 (fun ht => by have := s4.1 b ht; omega)⟩
    clear h hpg e1 e2 e3 hok hc hA hB hfc0 hfh hxm hXY hnd hxs hlen HP
    go_enter Try.func11, Try.ntmps11
    go_wp2_with (first
      | (go_at_call 26; refine hrf.mono ?_; clear hrf; rintro e w1 ⟨rfl, rfl⟩)
      | (go_at_call 27; refine hfi.mono ?_; clear hfi; rintro e w2 ⟨rfl, hb2⟩; obtain ⟨m, c3, hlk2⟩ := hlk.out w2 hb2; have HB2 := hid hb2; clear hb2 hlk)
      | (go_at_call 29; refine (HU.out _ (HB2.out.alloc HB2.out.size _)).mono ?_; clear HU c3 hlk2; rintro e w3 ⟨rfl, hm3, hk3⟩; have HM3 := hid hm3; have b9 := hk3 w2.heap.size _ _ HB2.out.size (Blk.made w2 #[.string x.data, .int .i64 (x.pins : Nat)] 66); have c9 := b9.cell (i := 0) rfl; clear hm3 hk3 b9)
      | (go_at_call 28; refine (hcl _).mono ?_; clear hcl; rintro e w4 ⟨rfl, hb4⟩; have HB4 := hid hb4; clear hb4))
    go_ret2
    exact ⟨rfl, HM3.out.on HB4.out⟩
  | none =>
    have hlk : Hid (∀ w5, Below w.heap.size w w5 → ∃ m, w5.cell? ⟨q, 3, none⟩ = some (.map (some m)) ∧ w5.cell? ⟨q, 0, none⟩ = some (.pointer (some ⟨k, 0, none⟩)) ∧ (Instr.lookup 54 (.map (some m)) (.int .i64 a) true).run Try.prog w5 = .ok (.tuple #[.agg #[.string ⟨#[]⟩, .int .i64 0], .bool false]) w5) := fun w5 hb => by
      have h5 := h.on hb
      obtain ⟨D, T, _, _, _, s4⟩ := h5
      obtain ⟨m, c3, hm⟩ := Su.map (U := p.hs.map Hp.pl) s4
      have := hm.look ha
      unfold hmap at this
      rw [hfh] at this
      obtain ⟨_, _, cv, uv, m', hb3, _⟩ := s4
      exact ⟨m, c3, hb3.cell (i := 0) rfl, this⟩
    have HRD : Hid (∀ w5, Below w.heap.size w w5 → Calls Try.prog 30 #[.pointer (some ⟨k, 0, none⟩), .int .i64 a] w5 fun e w' => e = .returned (.tuple #[.string (p.d.rdS a), .int .i64 (p.d.rdE a : Nat)]) ∧ Below w5.heap.size w5 w') := fun w5 hb => by
      have h5 := h.on hb
      obtain ⟨D, T, _, _, s3, _⟩ := h5
      exact read_any a w5 D k p.d s3
    have HQ : Hid (q < w.heap.size) := by
      obtain ⟨_, _, _, hb3⟩ := h.blk
      exact hb3.lt
    have e2 : p.ldE a = p.d.rdE a := by unfold Pp.ldE; rw [if_neg (fun x => x hpg), hfc0, hfh]; rfl
    have e1 : p.ldS a = p.d.rdS a := by unfold Pp.ldS; rw [if_neg (fun x => x hpg), hfc0, hfh]
    by_cases hrd : p.d.rdE a = 0
    · have e3 : p.ld a = { p with rd := p.rd + 1, hs := holdH p.room p.hs a (p.d.rdS a) } := by
        unfold Pp.ld
        rw [if_neg (fun x => x hpg), hfc0, hfh, if_pos hrd]
      rw [e1, e2, e3, hrd]
      rw [hrd] at HRD
      have hss := rdS_size hok.d hrd
      have hcl : ∀ w1, _ := fun w1 => clone_any (p.d.rdS a) w1 (by rw [hss]; decide)
      have hrdN := hok.rd
      have HR5 : Hid (∀ w5, Below w.heap.size w w5 → w5.cell? ⟨q, 5, none⟩ = some (.int .i64 (p.rd : Nat)) ∧ w5.frozen? ⟨q, 5, none⟩ = false) := fun w5 hb => by
        obtain ⟨_, _, _, hb3⟩ := (h.on hb).blk
        exact ⟨hb3.cell (i := 5) rfl, hb3.free 5⟩
      have HH : Hid (∀ w5, Below w.heap.size w w5 → Calls Try.prog 31 #[.pointer (some ⟨q, 2, none⟩), .int .i64 a, .string (p.d.rdS a)] (w5.setCell ⟨q, 5, none⟩ (.int .i64 ((p.rd + 1 : Nat) : Int))) fun e w' => e = .returned (.tuple #[]) ∧ Pm w S k q { p with rd := p.rd + 1, hs := holdH p.room p.hs a (p.d.rdS a) } w') := fun w5 hb => by
        obtain ⟨D, T, s1, s2, s3, s4⟩ := h
        have hs5 := s4.on hb
        obtain ⟨t1, t2⟩ := Su.cell5 (rd' := p.rd + 1) hs5
        have hh := hold_any (w := w5.setCell ⟨q, 5, none⟩ (.int .i64 ((p.rd + 1 : Nat) : Int))) a ha (p.d.rdS a) (by rw [hss]; decide) hok.nd (by have := hok.len; have := hok.room; omega) hok.room.2 hok.i64 hfh t1
        refine hh.mono fun e w' hx => ⟨hx.1, ?_⟩
        refine Pm.shelf (p := p) s1 s2 s3 ?_
        exact Sm.base (Sm.trans (room := p.room) (rd := p.rd) (hs := p.hs) (ch := p.ch) (Grows.refl _ _) t2 hx.2) hb s4.1
      have hwr : IntKind.i64.wrap ((p.rd : Int) + 1) = ((p.rd + 1 : Nat) : Int) := by rw [IntWalk.i64_in _ ⟨by omega, by omega⟩]; omega
      have hwr2 : (p.rd : Int) + 1 = ((p.rd + 1 : Nat) : Int) := by omega
      clear h hpg e1 e2 e3 hok hc hA hB hfc0 hfh HP hrd hss
      generalize p.d.rdS a = s at *
      obtain ⟨r1, hr1⟩ : ∃ r1 : Int, ((p.rd + 1 : Nat) : Int) = r1 := ⟨_, rfl⟩
      rw [hr1] at HH hwr hwr2
      clear hr1
      go_enter Try.func11, Try.ntmps11
      go_wp2_with (first
        | (go_at_call 26; refine hrf.mono ?_; clear hrf; rintro e w1 ⟨rfl, rfl⟩)
        | (go_at_call 27; refine hfi.mono ?_; clear hfi; rintro e w2 ⟨rfl, hb2⟩; obtain ⟨m, c3, c0, hlk2⟩ := hlk.out w2 hb2; have HB2 := hid hb2; have hql := Nat.lt_of_lt_of_le HQ.out hb2.size; clear hb2 hlk)
        | (go_at_call 30; refine (HRD.out _ (HB2.out.alloc HB2.out.size _)).mono ?_; clear HRD c3 c0 hlk2; rintro e w3 ⟨rfl, hb3⟩; have HB3 := hid ((HB2.out.alloc HB2.out.size _).trans (hb3.mono (HB2.out.alloc HB2.out.size _).size)); obtain ⟨c5, f5⟩ := HR5.out w3 HB3.out; clear hb3 HR5 hql)
        | (go_at_call 31; refine (HH.out _ HB3.out).mono ?_; clear HH c5 f5; rintro e w4 ⟨rfl, hm4⟩; have HM4 := hid hm4; clear hm4)
        | (go_at_call 28; refine (hcl _).mono ?_; clear hcl; rintro e w5 ⟨rfl, hb5⟩; have HB5 := hid hb5; clear hb5))
      go_ret2
      exact ⟨rfl, HM4.out.on HB5.out⟩
    · have e3 : p.ld a = p := by
        unfold Pp.ld
        rw [if_neg (fun x => x hpg), hfc0, hfh, if_neg hrd]
      have e4 : p.d.rdS a = ⟨#[]⟩ := by unfold Ds.rdS; rw [if_neg hrd]
      rw [e1, e2, e3, e4]
      clear h hpg e1 e2 e3 hok hc hA hB hfc0 hfh e4
      obtain ⟨r, hr⟩ : ∃ r, p.d.rdE a = r := ⟨_, rfl⟩
      rw [hr] at HRD hrd ⊢
      generalize p.d.rdS a = s at *
      have hrn : ((r : Int) != 0) = true := by simp; omega
      have hrz : ¬ (r : Int) = 0 := by omega
      clear hr
      go_enter Try.func11, Try.ntmps11
      go_wp2_with (first
        | (go_at_call 26; refine hrf.mono ?_; clear hrf; rintro e w1 ⟨rfl, rfl⟩)
        | (go_at_call 27; refine hfi.mono ?_; clear hfi; rintro e w2 ⟨rfl, hb2⟩; obtain ⟨m, c3, c0, hlk2⟩ := hlk.out w2 hb2; have HB2 := hid hb2; have hql := Nat.lt_of_lt_of_le HQ.out hb2.size; clear hb2 hlk)
        | (go_at_call 30; refine (HRD.out _ (HB2.out.alloc HB2.out.size _)).mono ?_; clear HRD c3 c0 hlk2; rintro e w3 ⟨rfl, hb3⟩; have HB3 := hid ((HB2.out.alloc HB2.out.size _).trans (hb3.mono (HB2.out.alloc HB2.out.size _).size)); clear hb3 hql))
      go_ret2
      exact ⟨rfl, (Pm.refl HP.out).on HB3.out⟩
end

end Go.Proofs.Ytoecopmbaoklkaa
