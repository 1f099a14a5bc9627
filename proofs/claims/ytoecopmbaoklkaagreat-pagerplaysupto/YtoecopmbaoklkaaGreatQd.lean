/-
  The document's pager with its disk; its Load and Unpin.
-/
import Derived.Test.YtoecopmbaoklkaaGreatQc
namespace Go.Proofs.YtoecopmbaoklkaaGreat
open Go.RowKit
set_option linter.unusedVariables false
set_option linter.unusedSimpArgs false
set_option maxRecDepth 100000

/-- a pager of the document at block q over a disk at block k: all of it lies in S -/
def Qk (w : World) (S : Nat → Prop) (k q : Nat) (p : Pp) : Prop :=
  ∃ D T : Nat → Prop, (∀ j, S j ↔ D j ∨ T j) ∧ (∀ j, D j → ¬ T j) ∧ Rk w D k p.d ∧ Qh w T k q p.room p.rd p.hs p.ch
/-- what a call leaves -/
structure Qn (w : World) (S : Nat → Prop) (k q : Nat) (p : Pp) (W : World) : Prop where
  qk : ∃ S', Qk W S' k q p ∧ Grows S S' w
  keep : Keep S w W
theorem Qk.lt {w : World} {S : Nat → Prop} {k q : Nat} {p : Pp} (h : Qk w S k q p) : ∀ j, S j → j < w.heap.size := by
  obtain ⟨D, T, h1, _, h3, h4⟩ := h
  intro j hj
  rcases (h1 j).1 hj with hj | hj
  · exact h3.lt j hj
  · exact h4.1 j hj
theorem Keep.qk {R S : Nat → Prop} {w w' : World} {k q : Nat} {p : Pp} (h : Keep R w w') (hp : Qk w S k q p) (hn : ∀ j, S j → ¬ R j) : Qk w' S k q p := by
  obtain ⟨D, T, h1, h2, h3, h4⟩ := hp
  exact ⟨D, T, h1, h2, h.rk h3 (fun j hj => hn j ((h1 j).2 (.inl hj))), h.qh h4 (fun j hj => hn j ((h1 j).2 (.inr hj)))⟩
theorem Qk.on {w w' : World} {S : Nat → Prop} {k q : Nat} {p : Pp} (h : Qk w S k q p) (hb : Below w.heap.size w w') : Qk w' S k q p := (Keep.of_below (S := fun _ => False) hb).qk h (fun _ _ h => h)
theorem Qn.refl {w : World} {S : Nat → Prop} {k q : Nat} {p : Pp} (h : Qk w S k q p) : Qn w S k q p w := ⟨⟨S, h, Grows.refl _ _⟩, Keep.refl _ _⟩
theorem Qn.on {w W V : World} {S : Nat → Prop} {k q : Nat} {p : Pp} (h : Qn w S k q p W) (hb : Below W.heap.size W V) : Qn w S k q p V := by
  obtain ⟨S', h1, h2⟩ := h.qk
  exact ⟨⟨S', h1.on hb, h2⟩, h.keep.trans (Keep.of_below (S := fun _ => False) hb) (fun _ _ h => h.elim)⟩
theorem Qn.base {w W V : World} {S : Nat → Prop} {k q : Nat} {p : Pp} (h : Qn W S k q p V) (hb : Below w.heap.size w W) : Qn w S k q p V := by
  obtain ⟨S', h1, h2⟩ := h.qk
  refine ⟨⟨S', h1, fun j hj => ?_⟩, (Keep.of_below (S := S) hb).trans h.keep (fun _ _ h => h)⟩
  rcases h2 j hj with h' | h'
  · exact .inl h'
  · exact .inr (Nat.le_trans hb.size h')
theorem Qn.trans {w W V : World} {S S' : Nat → Prop} {k q : Nat} {p' : Pp} (hg : Grows S S' w) (hk : Keep S w W) (h : Qn W S' k q p' V) : Qn w S k q p' V := by
  obtain ⟨T2, h1, h2⟩ := h.qk
  refine ⟨⟨T2, h1, hg.trans h2 hk.size⟩, hk.trans h.keep (fun j hj h' => ?_)⟩
  rcases hg j h' with h' | h'
  · exact h'
  · omega
/-- the pager's own part turned -/
theorem Qn.shelf {w W : World} {S D T : Nat → Prop} {k q : Nat} {p : Pp} {hs : List Hp} {ch : List Pg} {rd : Nat} (h1 : ∀ j, S j ↔ D j ∨ T j) (h2 : ∀ j, D j → ¬ T j) (h3 : Rk w D k p.d) (h : Qm w T k q p.room rd hs ch W) : Qn w S k q { p with hs := hs, ch := ch, rd := rd } W := by
  obtain ⟨T', s1, s2⟩ := h.qh
  refine ⟨⟨fun j => D j ∨ T' j, ⟨D, T', fun j => Iff.rfl, fun j hj ht => ?_, h.keep.rk h3 h2, s1⟩, fun j hj => ?_⟩, h.keep.mono (fun j _ hj => (h1 j).2 (.inr hj))⟩
  · rcases s2 j ht with t | t
    · exact h2 j hj t
    · have := h3.lt j hj; omega
  · rcases hj with hj | hj
    · exact .inl ((h1 j).2 (.inl hj))
    · rcases s2 j hj with t | t
      · exact .inl ((h1 j).2 (.inr t))
      · exact .inr t
/-- the disk turned -/
theorem Qn.disk {w W : World} {S D T : Nat → Prop} {k q : Nat} {p : Pp} {d : Ds} (h1 : ∀ j, S j ↔ D j ∨ T j) (h2 : ∀ j, D j → ¬ T j) (h4 : Qh w T k q p.room p.rd p.hs p.ch) (h : Wr w D k d W) : Qn w S k q { p with d := d } W := by
  obtain ⟨D', s1, hkp, s2⟩ := h
  refine ⟨⟨fun j => D' j ∨ T j, ⟨D', T, fun j => Iff.rfl, fun j hj ht => ?_, s1, hkp.qh h4 (fun j hj hd => h2 j hd hj)⟩, fun j hj => ?_⟩, hkp.mono (fun j _ hj => (h1 j).2 (.inl hj))⟩
  · rcases s2 j hj with t | t
    · exact h2 j t ht
    · have := h4.1 j ht; omega
  · rcases hj with hj | hj
    · rcases s2 j hj with t | t
      · exact .inl ((h1 j).2 (.inl t))
      · exact .inr t
    · exact .inl ((h1 j).2 (.inr hj))


section
variable {w : World} {S T : Nat → Prop} {k q room rd : Nat} {hs : List Hp} {ch : List Pg} {p : Pp}
theorem Qh.tell (h : Qh w T k q room rd hs ch) (m : Nat) : Qm w T k q room m hs ch (w.setCell ⟨q, 4, none⟩ (.int .i64 (m : Nat))) := by
  obtain ⟨h1, h2, lv, cv, h3, h4, h5, h6, h7⟩ := h
  have k2 : Keep (fun j => j = q) w (w.setCell ⟨q, 4, none⟩ (.int .i64 (m : Nat))) := Keep.set (S := fun j => j = q) w rfl 4 _
  have hsz : (w.setCell ⟨q, 4, none⟩ (.int .i64 (m : Nat))).heap.size = w.heap.size := by simp [World.setCell]
  exact ⟨⟨T, ⟨fun j hj => by rw [hsz]; exact h1 j hj, h2, lv, cv, h3.set 4 _, k2.row h4 (fun g e => h3.ne h4 (by decide) e), k2.row h5 (fun g e => h3.ne h5 (by decide) e), h6, h7⟩, Grows.refl _ _⟩, k2.mono (fun j _ e => by subst e; exact h2)⟩
theorem Qk.cells (h : Qk w S k q p) : w.cell? ⟨q, 0, none⟩ = some (.pointer (some ⟨k, 0, none⟩)) ∧ ∃ a c, w.cell? ⟨k, 0, none⟩ = some (.slice a p.d.bs.length c) := by
  obtain ⟨D, T, h1, h2, h3, h4⟩ := h
  obtain ⟨a, c, c0, _⟩ := h3.cell0
  exact ⟨h4.nums.2.2.1, a, c, c0⟩

set_option maxHeartbeats 2000000 in
theorem rLoad_any (N : Nat) (hN : N < 4611686018427387904) (a : Int) (hok : p.Ok N) (h : Qk w S k q p) :
    Calls Tryz.prog 27 #[.pointer (some ⟨q, 0, none⟩), .int .i64 a] w fun e w' => e = .returned (.tuple #[.string (p.ldS a), .int .i64 (p.ldE a : Nat)]) ∧ Qn w S k q (p.ld a) w' := by
  obtain ⟨cq, ba, bc, ck⟩ := h.cells
  have hpc := fun w1 => rPage_any p.d.bs.length hok.d.lo hok.d.hi a w1
  have HP := hid h
  have hsl : p.hs.length ≤ 2000 := Nat.le_trans hok.len (by have := hok.room.2; omega)
  have hcl : p.ch.length ≤ 2000 := Nat.le_trans hok.few (by omega)
  by_cases hpg : isPg p.d.bs.length a
  case neg =>
    rw [decide_eq_false hpg] at hpc
    have e1 : p.ldS a = ⟨#[]⟩ := by unfold Pp.ldS; rw [if_pos hpg]
    have e2 : p.ldE a = 1 := by unfold Pp.ldE; rw [if_pos hpg]
    have e3 : p.ld a = p := by unfold Pp.ld; rw [if_pos hpg]
    rw [e1, e2, e3]
    clear h hpg e1 e2 e3 hok
    go_enter Tryz.func27, Tryz.ntmps27
    go_wp2_with (first
      | (go_at_call 54; refine (hpc _).mono ?_; clear hpc; rintro e w1 ⟨rfl, rfl⟩))
    go_ret2
    exact ⟨rfl, Qn.refl HP.out⟩
  rw [decide_eq_true hpg] at hpc
  cases hfc : fndC p.ch a with
  | some c =>
    have e1 : p.ldS a = c.data := by unfold Pp.ldS; rw [if_neg (fun x => x hpg), hfc]
    have e2 : p.ldE a = 0 := by unfold Pp.ldE; rw [if_neg (fun x => x hpg), hfc]; rfl
    have e3 : p.ld a = p := by unfold Pp.ld; rw [if_neg (fun x => x hpg), hfc]
    rw [e1, e2, e3]
    obtain ⟨A, B, hc, hA, rfl⟩ := fndC_split hfc
    obtain ⟨D, T, h1, h2, h3, h4⟩ := h
    rw [hc] at h4 hcl
    have hch := fun w1 (hb : Below w.heap.size w w1) => rchanged_some hcl hA (h4.on hb)
    obtain ⟨va, vc, c3, hr, _, _⟩ := h4.readc
    obtain ⟨g, e9, _, _⟩ := row_some hr (by rw [List.length_append, List.length_cons]; omega)
    subst e9
    obtain ⟨_, d1, _⟩ := RowP.at hr (i := A.length) (p := c) (by simp)
    have hlen : (A ++ c :: B).length = A.length + 1 + B.length := by rw [List.length_append, List.length_cons]; omega
    rw [hlen] at c3 hcl
    have hch0 := hch w (Below.refl _ _)
    obtain ⟨i, hi⟩ : ∃ i, A.length = i := ⟨_, rfl⟩
    rw [hi] at hch0 d1 c3 hcl
    obtain ⟨n, hn⟩ : ∃ n, i + 1 + B.length = n := ⟨_, rfl⟩
    have hin : (i : Int) < (n : Int) := by omega
    rw [hn] at c3 hcl
    have hi0 : (0 : Int) ≤ (i : Int) := by omega
    clear h1 h2 h3 h4 hpg e1 e2 e3 hok hfc hc hA hr hlen hi hn hch
    go_enter Tryz.func27, Tryz.ntmps27
    go_wp2_with (first
      | (go_at_call 54; refine (hpc _).mono ?_; clear hpc; rintro e w1 ⟨rfl, rfl⟩)
      | (go_at_call 55; refine hch0.mono ?_; clear hch0; rintro e w1 ⟨rfl, rfl⟩))
    go_ret2
    exact ⟨rfl, Qn.refl HP.out⟩
  | none =>
    obtain ⟨D, T, h1, h2, h3, h4⟩ := h
    have hch0 := rchanged_none hcl hfc h4
    cases hfh : fndH p.hs a with
    | some x =>
      have e1 : p.ldS a = x.data := by unfold Pp.ldS; rw [if_neg (fun x => x hpg), hfc, hfh]
      have e2 : p.ldE a = 0 := by unfold Pp.ldE; rw [if_neg (fun x => x hpg), hfc, hfh]; rfl
      have e3 : p.ld a = { p with hs := remH p.hs a ++ [x] } := by unfold Pp.ld; rw [if_neg (fun x => x hpg), hfc, hfh]
      rw [e1, e2, e3]
      obtain ⟨A, B, hc, hA, rfl⟩ := fndH_split hfh
      have hrem : remH p.hs x.pl = A ++ B := by rw [hc]; exact remH_split (by rw [← hc]; exact hok.nd)
      rw [hrem]
      have hat0 := rat_some (by rw [← hc]; exact hsl) hA (by rw [← hc]; exact h4)
      have hus0 := ruse_any (x := x) (by rw [← hc]; exact hsl) (by rw [← hc]; exact h4)
      have hml : (A ++ B).length + 1 ≤ 2000 := by rw [hc] at hsl; simp at hsl ⊢; omega
      have HF : Hid (∀ w2, Qm w T k q p.room p.rd (A ++ B ++ [x]) p.ch w2 → Qn w S k q { p with hs := A ++ B ++ [x] } w2) := fun w2 hq => Qn.shelf h1 h2 h3 hq
      obtain ⟨M, hM⟩ : ∃ M, A ++ B = M := ⟨_, rfl⟩
      rw [hM] at hus0 HF hml ⊢
      obtain ⟨i, hi⟩ : ∃ i, A.length = i := ⟨_, rfl⟩
      rw [hi] at hat0 hus0
      have hi0 : (0 : Int) ≤ (i : Int) := by omega
      clear h1 h2 h3 h4 hpg e1 e2 e3 hok hfc hfh hc hA hrem hi hM
      go_enter Tryz.func27, Tryz.ntmps27
      go_wp2_with (first
        | (go_at_call 54; refine (hpc _).mono ?_; clear hpc; rintro e w1 ⟨rfl, rfl⟩)
        | (go_at_call 55; refine hch0.mono ?_; clear hch0; rintro e w1 ⟨rfl, rfl⟩)
        | (go_at_call 56; refine hat0.mono ?_; clear hat0; rintro e w1 ⟨rfl, rfl⟩)
        | (go_at_call 57; refine hus0.mono ?_; clear hus0 cq ck; rintro e w2 ⟨rfl, hq2⟩))
      have HQ := hid (HF.out w2 hq2)
      obtain ⟨T2, hqh, _⟩ := hq2.qh
      obtain ⟨va, vc, c20, hr, _, _⟩ := hqh.read
      obtain ⟨g, e9, _, _, _, d2, _⟩ := hr.at (k := M.length) (x := x) (by simp)
      subst e9
      rw [List.length_append] at c20
      have c2 : w2.drew.cell? ⟨q, 2, none⟩ = some (.slice (some ⟨g, 0, none⟩) (M.length + 1) vc) := c20
      have d3 : w2.drew.cell? ⟨g, M.length * 3 + 2, none⟩ = some (.string x.data) := d2
      clear HF hq2 hqh hr c20 d2
      obtain ⟨m, hm⟩ : ∃ m, M.length = m := ⟨_, rfl⟩
      rw [hm] at c2 d3 hml
      clear hm
      have hwm : IntKind.i64.wrap (m : Int) = (m : Int) := by rw [IntKind.wrap_i64]; omega
      have hwm2 : wrap64 (m : Int) = (m : Int) := by unfold wrap64; omega
      have hm1 : (m : Int) < (m : Int) + 1 := by omega
      go_region
      go_wp2_with fail
      go_ret2
      exact ⟨rfl, HQ.out.on ((Below.refl _ _).drew)⟩
    | none =>
      have e1 : p.ldS a = p.d.rdS a := by unfold Pp.ldS; rw [if_neg (fun x => x hpg), hfc, hfh]
      have e2 : p.ldE a = p.d.rdE a := by unfold Pp.ldE; rw [if_neg (fun x => x hpg), hfc, hfh]; rfl
      have e3 : p.ld a = if p.d.rdE a = 0 then { p with rd := p.rd + 1, hs := holdH p.room p.hs a (p.d.rdS a) } else p := by unfold Pp.ld; rw [if_neg (fun x => x hpg), hfc, hfh]
      rw [e1, e2, e3]
      have hat0 := rat_none hsl hfh h4
      have hrd0 := rRead_any a w D k p.d h3
      have hq4 := h4.nums.2.1
      have hf4 := h4.nums.2.2.2
      have hrl := hok.rd
      by_cases hz : p.d.rdE a = 0
      · rw [if_pos hz]
        rw [hz] at hrd0 ⊢
        have HHO : Hid (Calls Tryz.prog 59 #[.pointer (some ⟨q, 0, none⟩), .int .i64 a, .string (p.d.rdS a)] (w.setCell ⟨q, 4, none⟩ (.int .i64 ((p.rd + 1 : Nat) : Int))) fun e w' => e = .returned (.tuple #[]) ∧ Qn w S k q { p with rd := p.rd + 1, hs := holdH p.room p.hs a (p.d.rdS a) } w') := by
          have hq1 := h4.tell (p.rd + 1)
          obtain ⟨T1, hqh, hg1⟩ := hq1.qh
          exact (rhold_any a (p.d.rdS a) hok.nd hsl (Nat.le_trans hok.room.2 (by decide)) hqh).mono fun e w' hh => ⟨hh.1, Qn.shelf h1 h2 h3 (Qm.trans hg1 hq1.keep hh.2)⟩
        obtain ⟨rs, hrs⟩ : ∃ rs, p.d.rdS a = rs := ⟨_, rfl⟩
        rw [hrs] at HHO hrd0 ⊢
        have hr63 : I64 ((p.rd : Int) + 1) := by unfold I64; omega
        obtain ⟨r, hr⟩ : ∃ r, p.rd = r := ⟨_, rfl⟩
        rw [hr] at HHO hq4 hrl hr63 ⊢
        have HHO2 : Hid (Calls Tryz.prog 59 #[.pointer (some ⟨q, 0, none⟩), .int .i64 a, .string rs] (w.setCell ⟨q, 4, none⟩ (.int .i64 ((r : Int) + 1))) fun e w' => e = .returned (.tuple #[]) ∧ Qn w S k q { p with rd := r + 1, hs := holdH p.room p.hs a rs } w') := HHO.out
        clear HHO h1 h2 h3 h4 hpg e1 e2 e3 hok hfc hfh hz hrs hr
        go_enter Tryz.func27, Tryz.ntmps27
        go_wp2_with (first
          | (go_at_call 54; refine (hpc _).mono ?_; clear hpc; rintro e w1 ⟨rfl, rfl⟩)
          | (go_at_call 55; refine hch0.mono ?_; clear hch0; rintro e w1 ⟨rfl, rfl⟩)
          | (go_at_call 56; refine hat0.mono ?_; clear hat0; rintro e w1 ⟨rfl, rfl⟩)
          | (go_at_call 58; refine hrd0.mono ?_; clear hrd0; rintro e w1 ⟨rfl, rfl⟩)
          | (go_at_call 59; refine HHO2.out.mono ?_; clear HHO2 cq ck hq4 hf4; rintro e w2 ⟨rfl, hq2⟩; have HQ2 := hid hq2; clear hq2))
        go_ret2
        exact ⟨rfl, HQ2.out⟩
      · rw [if_neg hz]
        obtain ⟨re, hre⟩ : ∃ re, p.d.rdE a = re := ⟨_, rfl⟩
        rw [hre] at hz hrd0 ⊢
        obtain ⟨rs, hrs⟩ : ∃ rs, p.d.rdS a = rs := ⟨_, rfl⟩
        have hes : rs = ⟨#[]⟩ := by rw [← hrs]; unfold Ds.rdS; rw [hre, if_neg hz]
        rw [hrs, hes] at hrd0
        rw [hrs, hes]
        have hz2 : ¬ (re : Int) = 0 := by omega
        clear h1 h2 h3 h4 hpg e1 e2 e3 hok hfc hfh hrs hre hes
        go_enter Tryz.func27, Tryz.ntmps27
        go_wp2_with (first
          | (go_at_call 54; refine (hpc _).mono ?_; clear hpc; rintro e w1 ⟨rfl, rfl⟩)
          | (go_at_call 55; refine hch0.mono ?_; clear hch0; rintro e w1 ⟨rfl, rfl⟩)
          | (go_at_call 56; refine hat0.mono ?_; clear hat0; rintro e w1 ⟨rfl, rfl⟩)
          | (go_at_call 58; refine hrd0.mono ?_; clear hrd0; rintro e w1 ⟨rfl, rfl⟩))
        go_ret2
        exact ⟨rfl, Qn.refl HP.out⟩
end

end Go.Proofs.YtoecopmbaoklkaaGreat
