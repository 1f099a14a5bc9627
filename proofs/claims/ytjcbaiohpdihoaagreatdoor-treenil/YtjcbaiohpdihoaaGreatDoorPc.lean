/-
  What Load does.
-/
import Derived.Test.YtjcbaiohpdihoaaGreatDoorPa
namespace Go.Proofs.YtjcbaiohpdihoaaGreatDoor
open Go.RowKit
set_option linter.unusedVariables false
set_option linter.unusedSimpArgs false
set_option maxRecDepth 100000

theorem isNaN_any (a : Int) (w : World) : Calls Tryz.prog 241 #[.int .i64 a] w fun e w' => e = .returned (.bool false) ∧ w = w' := by
  go_enter Tryz.func241, Tryz.ntmps241
  go_wp2
  go_ret
  exact ⟨rfl, rfl⟩
/-- -1, 0, 1 -/
def cmpI (a b : Int) : Int := if a < b then -1 else if b < a then 1 else 0
theorem compare_any (a b : Int) (w : World) : Calls Tryz.prog 208 #[.int .i64 a, .int .i64 b] w fun e w' => e = .returned (.int .i64 (cmpI a b)) ∧ w = w' := by
  have hn : ∀ x, _ := fun x => isNaN_any x w
  unfold cmpI
  by_cases h1 : a < b
  · rw [if_pos h1]
    go_enter Tryz.func208, Tryz.ntmps208
    go_wp2_with (go_at_call 241; refine (hn _).mono ?_; rintro e w1 ⟨rfl, rfl⟩)
    go_ret
    exact ⟨rfl, rfl⟩
  · rw [if_neg h1]
    by_cases h2 : b < a
    · rw [if_pos h2]
      go_enter Tryz.func208, Tryz.ntmps208
      go_wp2_with (go_at_call 241; refine (hn _).mono ?_; rintro e w1 ⟨rfl, rfl⟩)
      go_ret
      exact ⟨rfl, rfl⟩
    · rw [if_neg h2]
      go_enter Tryz.func208, Tryz.ntmps208
      go_wp2_with (go_at_call 241; refine (hn _).mono ?_; rintro e w1 ⟨rfl, rfl⟩)
      go_ret
      exact ⟨rfl, rfl⟩
theorem holds_any (x a : Int) (s : ByteArray) (w : World) : Calls Tryz.prog 207 #[.agg #[.int .i64 x, .string s], .int .i64 a] w fun e w' => e = .returned (.int .i64 (cmpI x a)) ∧ Below w.heap.size w w' := by
  have hn : ∀ w1, _ := fun w1 => compare_any x a w1
  generalize cmpI x a = z at *
  have HB : Hid (∀ o : Obj, Below w.heap.size w (w.alloc o)) := fun o => (Below.refl _ _).alloc (Nat.le_refl _) _
  go_enter Tryz.func207, Tryz.ntmps207
  go_wp2_with (go_at_call 208; refine (hn _).mono ?_; rintro e w1 ⟨rfl, rfl⟩)
  go_ret
  exact ⟨rfl, HB.out _⟩
set_option maxHeartbeats 1000000 in
theorem search_any (w : World) (B0 : Nat) (v : Value) (A M B : List Pg) (a : Int) (h : RowP w B0 v (A ++ M ++ B)) (hl : (A ++ M ++ B).length ≤ 50000) (ha : ∀ c ∈ A, c.pl < a) (hb : ∀ c ∈ B, a < c.pl) (hm : M = [] ∨ ∃ c, M = [c] ∧ c.pl = a) :
    Calls Tryz.prog 206 #[v, .int .i64 a, .func (.func 207) #[] #[]] w fun e w' => e = .returned (.tuple #[.int .i64 (A.length : Nat), .bool (!M.isEmpty)]) ∧ Below w.heap.size w w' := by
  obtain ⟨p, c, e1⟩ := own_form h
  subst e1
  have H := hid h
  have HC : ∀ (w1 : World) (x : Int) (s : ByteArray), _ := fun w1 x s => holds_any x a s w1
  have HLo : Hid (∀ (k : Nat) (x : Pg), (A ++ M ++ B)[k]? = some x → k < A.length → x.pl < a) := fun k x hx hk => ha x (by rw [List.append_assoc, List.getElem?_append_left hk] at hx; exact List.mem_of_getElem? hx)
  have HHi : Hid (∀ (k : Nat) (x : Pg), (A ++ M ++ B)[k]? = some x → A.length ≤ k → a ≤ x.pl) := fun k x hx hk => by
    rw [List.append_assoc, List.getElem?_append_right hk] at hx
    rcases List.mem_append.1 (List.mem_of_getElem? hx) with h' | h'
    · rcases hm with rfl | ⟨c, rfl, hc⟩
      · cases h'
      · simp at h'; subst h'; omega
    · have := hb x h'; omega
  have HEq : Hid (∀ (x : Pg), (A ++ M ++ B)[A.length]? = some x → decide (cmpI x.pl a = 0) = !M.isEmpty) := fun x hx => by
    rw [List.append_assoc, List.getElem?_append_right (Nat.le_refl _), Nat.sub_self] at hx
    unfold cmpI
    rcases hm with rfl | ⟨c, rfl, hc⟩
    · simp at hx
      have := hb x (List.mem_of_getElem? hx)
      rw [if_neg (by omega), if_pos this]
      rfl
    · simp at hx
      subst hx
      rw [if_neg (by omega), if_neg (by omega)]
      rfl
  have HEnd : Hid (A.length = (A ++ M ++ B).length → M.isEmpty = true) := fun e => by
    have : M.length = 0 := by rw [List.length_append, List.length_append] at e; omega
    rw [List.eq_nil_of_length_eq_zero this]
    rfl
  have hAl : A.length ≤ (A ++ M ++ B).length := by rw [List.length_append, List.length_append]; omega
  generalize A ++ M ++ B = L at *
  generalize A.length = t at *
  generalize M.isEmpty = em at *
  obtain ⟨n, hn⟩ : ∃ n, L.length = n := ⟨_, rfl⟩
  have HN := hid hn
  rw [hn] at hl hAl HEnd ⊢
  clear h hn ha hb hm
  go_enter Tryz.func206, Tryz.ntmps206
  go_wp2_with fail
  go_loopw [9, 10] (fun x y wr => ∃ i j : Nat, (i ≤ t ∧ t ≤ j ∧ j ≤ n) ∧ x = .int .i64 (i : Nat) ∧ y = .int .i64 (j : Nat) ∧ Hid (Below w.heap.size w wr)) (fun x y _ => (intOf y).toNat - (intOf x).toNat)
  case atStart => exact ⟨0, n, ⟨Nat.zero_le _, hAl, Nat.le_refl _⟩, rfl, rfl, Below.refl _ _⟩
  case round =>
    obtain ⟨i, j, ⟨hi, hj, hjn⟩, rfl, rfl, HB⟩ := hrel
    by_cases hij : i < j
    · have hiji : (i : Int) < (j : Int) := by omega
      obtain ⟨m, hmm⟩ : ∃ m, (i + j) / 2 = m := ⟨_, rfl⟩
      have hw : ((i : Int) + (j : Int)) / 2 = (m : Int) := by omega
      have hm1 : i ≤ m := by omega
      have hm2 : m < j := by omega
      clear hmm
      have hmi : (m : Int) < (n : Int) := by omega
      obtain ⟨x, hx⟩ : ∃ x, L[m]? = some x := ⟨_, List.getElem?_eq_getElem (by rw [HN.out]; omega)⟩
      obtain ⟨g, e1, _, hgl⟩ := row_some H.out (by rw [HN.out]; omega)
      subst e1
      obtain ⟨_, _, e2, _, _, hcc⟩ := own_cells H.out
      cases e2
      obtain ⟨_, e3, _, _, c0, _⟩ := hcc (m * 2) (.int .i64 x.pl) (by rw [flatP_even, hx]; rfl)
      cases e3
      obtain ⟨_, e3, _, _, c1, _⟩ := hcc (m * 2 + 1) (.string x.data) (by rw [flatP_odd, hx]; rfl)
      cases e3
      have d0 : wr.cell? ⟨g, m * 2, none⟩ = some (.int .i64 x.pl) := (HB.out.cell (p := ⟨g, m * 2, none⟩) hgl).trans c0
      have d1 : wr.cell? ⟨g, m * 2 + 1, none⟩ = some (.string x.data) := (HB.out.cell (p := ⟨g, m * 2 + 1, none⟩) hgl).trans c1
      have hca := HC wr x.pl x.data
      clear hcc c0 c1
      by_cases hmt : m < t
      · have hlt := HLo.out m x hx hmt
        have hce : cmpI x.pl a = -1 := by unfold cmpI; rw [if_pos hlt]
        rw [hce] at hca
        clear hce hlt hx HC
        go_wp2_with (first
          | (go_at_call 207; refine hca.mono ?_; clear hca; rintro e w1 ⟨rfl, hb1⟩; have HB1 := hid (HB.out.trans (hb1.mono HB.out.size)); clear hb1 d0 d1))
        go_roundw
        case rel => exact ⟨m + 1, j, ⟨by omega, by omega, by omega⟩, by go_num, rfl, HB1⟩
        case measure => simp [intOf]; omega
      · have hge := HHi.out m x hx (by omega)
        have hce : ¬ cmpI x.pl a < 0 := by unfold cmpI; rw [if_neg (by omega)]; split <;> omega
        generalize cmpI x.pl a = z at *
        clear hge hx HC
        go_wp2_with (first
          | (go_at_call 207; refine hca.mono ?_; clear hca; rintro e w1 ⟨rfl, hb1⟩; have HB1 := hid (HB.out.trans (hb1.mono HB.out.size)); clear hb1 d0 d1))
        go_roundw
        case rel => exact ⟨i, m, ⟨by omega, by omega, by omega⟩, rfl, by go_num, HB1⟩
        case measure => simp [intOf]; omega
    · obtain rfl : i = t := by omega
      obtain rfl : j = i := by omega
      by_cases hin : j < n
      · have hini : (j : Int) < (n : Int) := by omega
        obtain ⟨x, hx⟩ : ∃ x, L[j]? = some x := ⟨_, List.getElem?_eq_getElem (by rw [HN.out]; omega)⟩
        obtain ⟨g, e1, _, hgl⟩ := row_some H.out (by rw [HN.out]; omega)
        subst e1
        obtain ⟨_, _, e2, _, _, hcc⟩ := own_cells H.out
        cases e2
        obtain ⟨_, e3, _, _, c0, _⟩ := hcc (j * 2) (.int .i64 x.pl) (by rw [flatP_even, hx]; rfl)
        cases e3
        obtain ⟨_, e3, _, _, c1, _⟩ := hcc (j * 2 + 1) (.string x.data) (by rw [flatP_odd, hx]; rfl)
        cases e3
        have d0 : wr.cell? ⟨g, j * 2, none⟩ = some (.int .i64 x.pl) := (HB.out.cell (p := ⟨g, j * 2, none⟩) hgl).trans c0
        have d1 : wr.cell? ⟨g, j * 2 + 1, none⟩ = some (.string x.data) := (HB.out.cell (p := ⟨g, j * 2 + 1, none⟩) hgl).trans c1
        have hca := HC wr x.pl x.data
        have hE := HEq.out x hx
        have HE := hid hE
        clear hcc c0 c1 hx HC hE
        generalize cmpI x.pl a = z at *
        by_cases hz : z = 0
        · subst hz
          go_wp2_with (first
            | (go_at_call 207; refine hca.mono ?_; clear hca; rintro e w1 ⟨rfl, hb1⟩; have HB1 := hid (HB.out.trans (hb1.mono HB.out.size)); clear hb1 d0 d1))
          go_ret2
          exact ⟨by rw [← HE.out]; rfl, HB1.out⟩
        · have hzb : (z == 0) = false := by simp; omega
          go_wp2_with (first
            | (go_at_call 207; refine hca.mono ?_; clear hca; rintro e w1 ⟨rfl, hb1⟩; have HB1 := hid (HB.out.trans (hb1.mono HB.out.size)); clear hb1 d0 d1))
          go_ret2
          exact ⟨by rw [← HE.out, decide_eq_false hz]; rfl, HB1.out⟩
      · obtain rfl : j = n := by omega
        have HE := hid (HEnd.out rfl)
        go_wp2_with fail
        go_ret2
        exact ⟨by rw [HE.out]; rfl, HB.out⟩

theorem load_nil (a : Int) (w : World) : Calls Tryz.prog 89 #[.pointer none, .int .i64 a] w fun e w' => e = .returned (.tuple #[.string ⟨#[]⟩, .int .i64 18]) ∧ w = w' := by
  go_enter Tryz.func89, Tryz.ntmps89
  go_wp2_with (go_at_call 100; refine (prefuses_nil a w).mono ?_; rintro e w1 ⟨rfl, rfl⟩)
  go_ret2
  exact ⟨rfl, rfl⟩

section
variable {w : World} {S : Nat → Prop} {k q : Nat} {p : Pp}
theorem find_any (a : Int) {A M B : List Pg} (hc : p.ch = A ++ M ++ B) (hl : p.ch.length ≤ 50000) (ha : ∀ c ∈ A, c.pl < a) (hb : ∀ c ∈ B, a < c.pl) (hm : M = [] ∨ ∃ c, M = [c] ∧ c.pl = a) (h : Pk w S k q p) :
    Calls Tryz.prog 142 #[.pointer (some ⟨q, 0, none⟩), .int .i64 a] w fun e w' => e = .returned (.tuple #[.int .i64 (A.length : Nat), .bool (!M.isEmpty)]) ∧ Below w.heap.size w w' := by
  obtain ⟨D, T, _, _, _, _, _, cv, uv, m, hb3, hr, _⟩ := h
  have c1 : w.cell? ⟨q, 1, none⟩ = some cv := hb3.cell (i := 1) rfl
  rw [hc] at hr hl
  have hs := search_any w 0 cv A M B a hr hl ha hb hm
  obtain ⟨va, vc, e1⟩ := own_form hr
  subst e1
  clear hb3 hr hl ha hb hm hc
  generalize A.length = t at *
  generalize (!M.isEmpty) = z at *
  generalize (A ++ M ++ B).length = n at *
  go_enter Tryz.func142, Tryz.ntmps142
  go_wp2_with (first
    | (go_at_call 206; refine hs.mono ?_; clear hs; rintro e w1 ⟨rfl, hb1⟩))
  go_ret2
  exact ⟨rfl, hb1⟩

theorem Pp.Ok.i64 {N : Nat} (hok : p.Ok N) : ∀ x ∈ p.hs, I64 x.pl := fun x hx => by
  have := isPg_small hok.d.lo hok.d.hi (hok.pg x hx).1
  unfold I64
  omega
theorem isPg_i64 {n : Nat} {a : Int} (h1 : 64 ≤ n) (h2 : n ≤ 2048) (h : isPg n a) : I64 a := by
  have := isPg_small h1 h2 h
  unfold I64
  omega

set_option maxHeartbeats 1000000 in
theorem load_any (N : Nat) (hN : N < 4611686018427387904) (a : Int) (hok : p.Ok N) (h : Pk w S k q p) :
    Calls Tryz.prog 89 #[.pointer (some ⟨q, 0, none⟩), .int .i64 a] w fun e w' => e = .returned (.tuple #[.string (p.ldS a), .int .i64 (p.ldE a : Nat)]) ∧ Pm w S k q (p.ld a) w' := by
  have hrf := prefuses_any a h
  have HP := hid h
  by_cases hpg : isPg p.d.bs.length a
  case neg =>
    rw [if_neg hpg] at hrf
    have e1 : p.ldS a = ⟨#[]⟩ := by unfold Pp.ldS; rw [if_pos hpg]
    have e2 : p.ldE a = 1 := by unfold Pp.ldE; rw [if_pos hpg]
    have e3 : p.ld a = p := by unfold Pp.ld; rw [if_pos hpg]
    rw [e1, e2, e3]
    clear h hpg e1 e2 e3 hok
    go_enter Tryz.func89, Tryz.ntmps89
    go_wp2_with (first
      | (go_at_call 100; refine hrf.mono ?_; clear hrf; rintro e w1 ⟨rfl, rfl⟩))
    go_ret2
    exact ⟨rfl, Pm.refl HP.out⟩
  rw [if_pos hpg] at hrf
  have ha := isPg_i64 hok.d.lo hok.d.hi hpg
  obtain ⟨A, M, B, hc, hA, hB, hM⟩ := hok.srt.cut a
  have hfi := find_any a hc (Nat.le_trans hok.few (by omega)) hA hB hM h
  have hfc : fndC p.ch a = M.head? := by rw [hc]; exact fndC_cut hA hB hM
  rcases hM with rfl | ⟨c, rfl, hca⟩
  case inr =>
    have e1 : p.ldS a = c.data := by unfold Pp.ldS; rw [if_neg (fun x => x hpg), hfc]; rfl
    have e2 : p.ldE a = 0 := by unfold Pp.ldE; rw [if_neg (fun x => x hpg), hfc]; rfl
    have e3 : p.ld a = p := by unfold Pp.ld; rw [if_neg (fun x => x hpg), hfc]; rfl
    rw [e1, e2, e3]
    have hcs := (hok.cg c (by rw [hc]; simp)).2
    have hcl : ∀ w1, _ := fun w1 => clone_any c.data w1 (by rw [hcs]; decide)
    obtain ⟨va, vc, g, hcell⟩ : ∃ va vc g, va = some ⟨g, 0, none⟩ ∧ w.cell? ⟨q, 1, none⟩ = some (.slice va (A.length + 1 + B.length) vc) ∧ w.cell? ⟨g, A.length * 2 + 1, none⟩ = some (.string c.data) ∧ q < w.heap.size ∧ g < w.heap.size := by
      obtain ⟨D, T, _, _, _, _, _, cv, uv, m, hb3, hr, _⟩ := h
      have hlen : p.ch.length = A.length + 1 + B.length := by rw [hc]; simp; omega
      obtain ⟨va, vc, e1⟩ := own_form hr
      subst e1
      obtain ⟨_, _, e4, _, _, hcc⟩ := own_cells hr
      cases e4
      obtain ⟨g, e5, _, hgl, c1, _⟩ := hcc (A.length * 2 + 1) (.string c.data) (by rw [flatP_odd, hc]; simp)
      rw [hlen] at hb3
      exact ⟨va, vc, g, e5, hb3.cell (i := 1) rfl, c1, hb3.lt, hgl⟩
    obtain ⟨rfl, c1, cg, hq, hg⟩ := hcell
    have HK : Hid (∀ w5, Below w.heap.size w w5 → w5.cell? ⟨q, 1, none⟩ = some (.slice (some ⟨g, 0, none⟩) (A.length + 1 + B.length) vc) ∧ w5.cell? ⟨g, A.length * 2 + 1, none⟩ = some (.string c.data)) := fun w5 hb => ⟨(hb.cell (p := ⟨q, 1, none⟩) hq).trans c1, (hb.cell (p := ⟨g, A.length * 2 + 1, none⟩) hg).trans cg⟩
    have hle : A.length + 1 + B.length ≤ 1019 := by have := hok.few; rw [hc] at this; simp at this; omega
    clear h hpg e1 e2 e3 hok hc hA hB hfc c1 cg hcs hq hg
    obtain ⟨n, hn⟩ : ∃ n, A.length + 1 + B.length = n := ⟨_, rfl⟩
    have hin : A.length < n := by omega
    have hini : (A.length : Int) < (n : Int) := by omega
    rw [hn] at HK hle
    generalize A.length = i at *
    clear hn
    go_enter Tryz.func89, Tryz.ntmps89
    go_wp2_with (first
      | (go_at_call 100; refine hrf.mono ?_; clear hrf; rintro e w1 ⟨rfl, rfl⟩)
      | (go_at_call 142; refine hfi.mono ?_; clear hfi; rintro e w2 ⟨rfl, hb2⟩; obtain ⟨d1, dg⟩ := HK.out w2 hb2; have HB2 := hid hb2; clear hb2)
      | (go_at_call 104; refine (hcl _).mono ?_; clear hcl; rintro e w3 ⟨rfl, hb3⟩; have HB3 := hid (HB2.out.trans (hb3.mono HB2.out.size)); clear hb3))
    go_ret2
    exact ⟨rfl, (Pm.refl HP.out).on HB3.out⟩
  have hfc0 : fndC p.ch a = none := hfc
  clear hfc
  cases hfh : fndH p.hs a with
  | some x =>
    obtain ⟨hxm, hxa⟩ := fndH_some hfh
    have e1 : p.ldS a = x.data := by unfold Pp.ldS; rw [if_neg (fun x => x hpg), hfc0, hfh]
    have e2 : p.ldE a = 0 := by unfold Pp.ldE; rw [if_neg (fun x => x hpg), hfc0, hfh]; rfl
    obtain ⟨X, Y, hXY⟩ := List.append_of_mem hxm
    have hnd := hok.nd
    rw [hXY] at hnd
    have e3 : p.ld a = { p with hs := X ++ Y ++ [x] } := by
      unfold Pp.ld
      rw [if_neg (fun x => x hpg), hfc0, hfh]
      show { p with hs := remH p.hs a ++ [x] } = _
      rw [← hxa, hXY, remH_split hnd]
    rw [e1, e2, e3]
    have hxs := (hok.pg x hxm).2.1
    have hcl : ∀ w1, _ := fun w1 => clone_any x.data w1 (by rw [hxs]; decide)
    have hlen : (X ++ x :: Y).length ≤ 1024 := by rw [← hXY]; have := hok.len; have := hok.room; omega
    have hlk : Hid (∀ w5, Below w.heap.size w w5 → ∃ m, w5.cell? ⟨q, 3, none⟩ = some (.map (some m)) ∧ (Instr.lookup 153 (.map (some m)) (.int .i64 a) true).run Tryz.prog w5 = .ok (.tuple #[.agg #[.string x.data, .int .i64 (x.pins : Nat)], .bool true]) w5) := fun w5 hb => by
      obtain ⟨D, T, _, _, _, s4⟩ := h
      obtain ⟨m, c3, hm⟩ := Su.map (U := p.hs.map Hp.pl) ((s4.on hb) : Sh w5 T k q p.room p.rd p.hs p.ch)
      have := hm.look ha
      unfold hmap at this
      rw [hfh] at this
      exact ⟨m, c3, this⟩
    have HU : Hid (∀ w5, Below w.heap.size w w5 → Calls Tryz.prog 143 #[.pointer (some ⟨q, 2, none⟩), .int .i64 a] w5 fun e w' => e = .returned (.tuple #[]) ∧ Pm w S k q { p with hs := X ++ Y ++ [x] } w' ∧ (∀ b cs t, w.heap.size ≤ b → Blk w5 b cs t → Blk w' b cs t)) := fun w5 hb => by
      obtain ⟨D, T, s1, s2, s3, s4⟩ := h
      rw [hXY] at s4
      have hs5 := s4.on hb
      have := use_any (hxa ▸ ha) hnd hlen hs5
      rw [hxa] at this
      refine this.mono fun e w' hh => ⟨hh.1, Pm.shelf (p := p) s1 s2 s3 (hh.2.base hb s4.1), fun b cs t hb1 hb2 => hh.2.keep.blk hb2 (fun ht => by have := s4.1 b ht; omega)⟩
    clear h hpg e1 e2 e3 hok hc hA hB hfc0 hfh hxm hXY hnd hxs hlen HP
    go_enter Tryz.func89, Tryz.ntmps89
    go_wp2_with (first
      | (go_at_call 100; refine hrf.mono ?_; clear hrf; rintro e w1 ⟨rfl, rfl⟩)
      | (go_at_call 142; refine hfi.mono ?_; clear hfi; rintro e w2 ⟨rfl, hb2⟩; obtain ⟨m, c3, hlk2⟩ := hlk.out w2 hb2; have HB2 := hid hb2; clear hb2 hlk)
      | (go_at_call 143; refine (HU.out _ (HB2.out.alloc HB2.out.size _)).mono ?_; clear HU c3 hlk2; rintro e w3 ⟨rfl, hm3, hk3⟩; have HM3 := hid hm3; have b9 := hk3 w2.heap.size _ _ HB2.out.size (Blk.made w2 #[.string x.data, .int .i64 (x.pins : Nat)] 212); have c9 := b9.cell (i := 0) rfl; clear hm3 hk3 b9)
      | (go_at_call 104; refine (hcl _).mono ?_; clear hcl; rintro e w4 ⟨rfl, hb4⟩; have HB4 := hid hb4; clear hb4))
    go_ret2
    exact ⟨rfl, HM3.out.on HB4.out⟩
  | none =>
    have hlk : Hid (∀ w5, Below w.heap.size w w5 → ∃ m, w5.cell? ⟨q, 3, none⟩ = some (.map (some m)) ∧ w5.cell? ⟨q, 0, none⟩ = some (.pointer (some ⟨k, 0, none⟩)) ∧ (Instr.lookup 153 (.map (some m)) (.int .i64 a) true).run Tryz.prog w5 = .ok (.tuple #[.agg #[.string ⟨#[]⟩, .int .i64 0], .bool false]) w5) := fun w5 hb => by
      have h5 := h.on hb
      obtain ⟨D, T, _, _, _, s4⟩ := h5
      obtain ⟨m, c3, hm⟩ := Su.map (U := p.hs.map Hp.pl) s4
      have := hm.look ha
      unfold hmap at this
      rw [hfh] at this
      obtain ⟨_, _, cv, uv, m', hb3, _⟩ := s4
      exact ⟨m, c3, hb3.cell (i := 0) rfl, this⟩
    have HRD : Hid (∀ w5, Below w.heap.size w w5 → Calls Tryz.prog 119 #[.pointer (some ⟨k, 0, none⟩), .int .i64 a] w5 fun e w' => e = .returned (.tuple #[.string (p.d.rdS a), .int .i64 (p.d.rdE a : Nat)]) ∧ Below w5.heap.size w5 w') := fun w5 hb => by
      have h5 := h.on hb
      obtain ⟨D, T, _, _, s3, _⟩ := h5
      exact read_any a w5 D k p.d s3
    have HQ : Hid (q < w.heap.size) := by
      obtain ⟨_, _, _, hb3⟩ := h.blk
      exact hb3.lt
    have e2 : p.ldE a = p.d.rdE a := by unfold Pp.ldE; rw [if_neg (fun x => x hpg), hfc0, hfh]; rfl
    have e1 : p.ldS a = p.d.rdS a := by unfold Pp.ldS; rw [if_neg (fun x => x hpg), hfc0, hfh]
    by_cases hrd : p.d.rdE a = 0
    · have e3 : p.ld a = { p with rd := p.rd + 1, hs := holdH p.room p.hs a (p.d.rdS a) } := by
        unfold Pp.ld
        rw [if_neg (fun x => x hpg), hfc0, hfh, if_pos hrd]
      rw [e1, e2, e3, hrd]
      rw [hrd] at HRD
      have hss := rdS_size hok.d hrd
      have hcl : ∀ w1, _ := fun w1 => clone_any (p.d.rdS a) w1 (by rw [hss]; decide)
      have hrdN := hok.rd
      have HR5 : Hid (∀ w5, Below w.heap.size w w5 → w5.cell? ⟨q, 5, none⟩ = some (.int .i64 (p.rd : Nat)) ∧ w5.frozen? ⟨q, 5, none⟩ = false) := fun w5 hb => by
        obtain ⟨_, _, _, hb3⟩ := (h.on hb).blk
        exact ⟨hb3.cell (i := 5) rfl, hb3.free 5⟩
      have HH : Hid (∀ w5, Below w.heap.size w w5 → Calls Tryz.prog 144 #[.pointer (some ⟨q, 2, none⟩), .int .i64 a, .string (p.d.rdS a)] (w5.setCell ⟨q, 5, none⟩ (.int .i64 ((p.rd + 1 : Nat) : Int))) fun e w' => e = .returned (.tuple #[]) ∧ Pm w S k q { p with rd := p.rd + 1, hs := holdH p.room p.hs a (p.d.rdS a) } w') := fun w5 hb => by
        obtain ⟨D, T, s1, s2, s3, s4⟩ := h
        have hs5 := s4.on hb
        obtain ⟨t1, t2⟩ := Su.cell5 (rd' := p.rd + 1) hs5
        have hh := hold_any (w := w5.setCell ⟨q, 5, none⟩ (.int .i64 ((p.rd + 1 : Nat) : Int))) a ha (p.d.rdS a) (by rw [hss]; decide) hok.nd (by have := hok.len; have := hok.room; omega) hok.room.2 hok.i64 hfh t1
        refine hh.mono fun e w' hx => ⟨hx.1, ?_⟩
        refine Pm.shelf (p := p) s1 s2 s3 ?_
        exact Sm.base (Sm.trans (room := p.room) (rd := p.rd) (hs := p.hs) (ch := p.ch) (Grows.refl _ _) t2 hx.2) hb s4.1
      have hwr : IntKind.i64.wrap ((p.rd : Int) + 1) = ((p.rd + 1 : Nat) : Int) := by rw [IntWalk.i64_in _ ⟨by omega, by omega⟩]; omega
      have hwr2 : (p.rd : Int) + 1 = ((p.rd + 1 : Nat) : Int) := by omega
      clear h hpg e1 e2 e3 hok hc hA hB hfc0 hfh HP hrd hss
      generalize p.d.rdS a = s at *
      obtain ⟨r1, hr1⟩ : ∃ r1 : Int, ((p.rd + 1 : Nat) : Int) = r1 := ⟨_, rfl⟩
      rw [hr1] at HH hwr hwr2
      clear hr1
      go_enter Tryz.func89, Tryz.ntmps89
      go_wp2_with (first
        | (go_at_call 100; refine hrf.mono ?_; clear hrf; rintro e w1 ⟨rfl, rfl⟩)
        | (go_at_call 142; refine hfi.mono ?_; clear hfi; rintro e w2 ⟨rfl, hb2⟩; obtain ⟨m, c3, c0, hlk2⟩ := hlk.out w2 hb2; have HB2 := hid hb2; have hql := Nat.lt_of_lt_of_le HQ.out hb2.size; clear hb2 hlk)
        | (go_at_call 119; refine (HRD.out _ (HB2.out.alloc HB2.out.size _)).mono ?_; clear HRD c3 c0 hlk2; rintro e w3 ⟨rfl, hb3⟩; have HB3 := hid ((HB2.out.alloc HB2.out.size _).trans (hb3.mono (HB2.out.alloc HB2.out.size _).size)); obtain ⟨c5, f5⟩ := HR5.out w3 HB3.out; clear hb3 HR5 hql)
        | (go_at_call 144; refine (HH.out _ HB3.out).mono ?_; clear HH c5 f5; rintro e w4 ⟨rfl, hm4⟩; have HM4 := hid hm4; clear hm4)
        | (go_at_call 104; refine (hcl _).mono ?_; clear hcl; rintro e w5 ⟨rfl, hb5⟩; have HB5 := hid hb5; clear hb5))
      go_ret2
      exact ⟨rfl, HM4.out.on HB5.out⟩
    · have e3 : p.ld a = p := by
        unfold Pp.ld
        rw [if_neg (fun x => x hpg), hfc0, hfh, if_neg hrd]
      have e4 : p.d.rdS a = ⟨#[]⟩ := by unfold Ds.rdS; rw [if_neg hrd]
      rw [e1, e2, e3, e4]
      clear h hpg e1 e2 e3 hok hc hA hB hfc0 hfh e4
      obtain ⟨r, hr⟩ : ∃ r, p.d.rdE a = r := ⟨_, rfl⟩
      rw [hr] at HRD hrd ⊢
      generalize p.d.rdS a = s at *
      have hrn : ((r : Int) != 0) = true := by simp; omega
      have hrz : ¬ (r : Int) = 0 := by omega
      clear hr
      go_enter Tryz.func89, Tryz.ntmps89
      go_wp2_with (first
        | (go_at_call 100; refine hrf.mono ?_; clear hrf; rintro e w1 ⟨rfl, rfl⟩)
        | (go_at_call 142; refine hfi.mono ?_; clear hfi; rintro e w2 ⟨rfl, hb2⟩; obtain ⟨m, c3, c0, hlk2⟩ := hlk.out w2 hb2; have HB2 := hid hb2; have hql := Nat.lt_of_lt_of_le HQ.out hb2.size; clear hb2 hlk)
        | (go_at_call 119; refine (HRD.out _ (HB2.out.alloc HB2.out.size _)).mono ?_; clear HRD c3 c0 hlk2; rintro e w3 ⟨rfl, hb3⟩; have HB3 := hid ((HB2.out.alloc HB2.out.size _).trans (hb3.mono (HB2.out.alloc HB2.out.size _).size)); clear hb3 hql))
      go_ret2
      exact ⟨rfl, (Pm.refl HP.out).on HB3.out⟩
end

end Go.Proofs.YtjcbaiohpdihoaaGreatDoor
