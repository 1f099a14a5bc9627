/-
  The document's Store.
-/
import Derived.Test.YtoecopmbaoklkaaGreatQf
namespace Go.Proofs.YtoecopmbaoklkaaGreat
open Go.RowKit
set_option linter.unusedVariables false
set_option linter.unusedSimpArgs false
set_option maxRecDepth 100000

section
variable {w : World} {S T : Nat → Prop} {k q room rd : Nat} {hs : List Hp} {ch : List Pg} {p : Pp}
theorem holdH_form {room : Nat} {hs : List Hp} {a : Int} {s : ByteArray} (hn : NdH hs) (hf : fullH room hs = false) (ha : fndH hs a = none) : ∃ M, holdH room hs a s = M ++ [⟨a, 0, s⟩] ∧ M.length ≤ hs.length ∧ NdH (M ++ [⟨a, 0, s⟩]) := by
  unfold holdH
  have hno := fndH_none ha
  by_cases hl : hs.length < room
  · rw [if_pos hl]
    exact ⟨hs, rfl, Nat.le_refl _, hn.snoc hno⟩
  · rw [if_neg hl]
    cases hfr : freeH hs with
    | none => unfold fullH at hf; rw [hfr, decide_eq_true (by omega)] at hf; cases hf
    | some f => exact ⟨remH hs f.pl, rfl, remH_le _ _, (hn.rem _).snoc (fun x hx => hno x (remH_mem hx).1)⟩
set_option maxHeartbeats 4000000 in
theorem rPin_any (N : Nat) (hN : N < 4611686018427387904) (a : Int) (hok : p.Ok N) (h : Qk w S k q p) :
    Calls Tryz.prog 30 #[.pointer (some ⟨q, 0, none⟩), .int .i64 a] w fun e w' => e = .returned (.int .i64 (p.piE a : Nat)) ∧ Qn w S k q (p.pi a) w' := by
  obtain ⟨cq, ba, bc, ck⟩ := h.cells
  have hpc := fun w1 => rPage_any p.d.bs.length hok.d.lo hok.d.hi a w1
  have HP := hid h
  have hsl : p.hs.length ≤ 1024 := Nat.le_trans hok.len hok.room.2
  have hro := hok.room.2
  have hcl : p.ch.length ≤ 2000 := Nat.le_trans hok.few (by omega)
  by_cases hpg : isPg p.d.bs.length a
  case neg =>
    rw [decide_eq_false hpg] at hpc
    have e1 : p.piE a = 1 := by unfold Pp.piE; rw [if_pos hpg]
    have e2 : p.pi a = p := by unfold Pp.pi; rw [e1]; rfl
    rw [e1, e2]
    clear h hpg e1 e2 hok
    go_enter Tryz.func30, Tryz.ntmps30
    go_wp2_with (first
      | (go_at_call 54; refine (hpc _).mono ?_; clear hpc; rintro e w1 ⟨rfl, rfl⟩))
    go_ret
    exact ⟨rfl, Qn.refl HP.out⟩
  rw [decide_eq_true hpg] at hpc
  obtain ⟨D, T, h1, h2, h3, h4⟩ := h
  cases hfc : fndC p.ch a with
  | some c =>
    have e1 : p.piE a = 19 := by unfold Pp.piE; rw [if_neg (fun x => x hpg), hfc]; rfl
    have e2 : p.pi a = p := by unfold Pp.pi; rw [e1]; rfl
    rw [e1, e2]
    obtain ⟨A, B, hc, hA, rfl⟩ := fndC_split hfc
    have hch0 := rchanged_some (by rw [← hc]; exact hcl) hA (by rw [← hc]; exact h4)
    obtain ⟨i, hi⟩ : ∃ i, A.length = i := ⟨_, rfl⟩
    rw [hi] at hch0
    have hi0 : (0 : Int) ≤ (i : Int) := by omega
    clear h1 h2 h3 h4 hpg e1 e2 hok hfc hc hA hi
    go_enter Tryz.func30, Tryz.ntmps30
    go_wp2_with (first
      | (go_at_call 54; refine (hpc _).mono ?_; clear hpc; rintro e w1 ⟨rfl, rfl⟩)
      | (go_at_call 55; refine hch0.mono ?_; clear hch0; rintro e w1 ⟨rfl, rfl⟩))
    go_ret
    exact ⟨rfl, Qn.refl HP.out⟩
  | none =>
    have hch0 := rchanged_none hcl hfc h4
    cases hfh : fndH p.hs a with
    | some x =>
      have e1 : p.piE a = 0 := by unfold Pp.piE Pp.ldE; rw [if_neg (fun x => x hpg), hfc, hfh]; simp [hpg]
      obtain ⟨A, B, hc, hA, rfl⟩ := fndH_split hfh
      have hnd : NdH (A ++ x :: B) := by rw [← hc]; exact hok.nd
      have e2 : p.pi x.pl = { p with hs := A ++ B ++ [{ x with pins := x.pins + 1 }] } := by
        have e3 : p.ld x.pl = { p with hs := remH p.hs x.pl ++ [x] } := by unfold Pp.ld; rw [if_neg (fun x => x hpg), hfc, hfh]
        have hrem : remH p.hs x.pl = A ++ B := by rw [hc]; exact remH_split hnd
        obtain ⟨n1, n2, n3⟩ := hnd.split
        have e4 := pinH_split (X := A ++ B) (Y := []) (x := x) (n3.snoc (fun y hy => by rcases List.mem_append.1 hy with hy | hy; exact n1 y hy; exact n2 y hy)) (· + 1)
        unfold Pp.pi
        rw [e1, if_pos rfl, e3, hrem]
        show { p with hs := pinH (A ++ B ++ [x]) x.pl (· + 1) : Pp } = _
        rw [e4]
      rw [e1, e2]
      have hat0 := rat_some (by rw [← hc]; omega) hA (by rw [← hc]; exact h4)
      have hus0 := ruse_any (x := x) (by rw [← hc]; omega) (by rw [← hc]; exact h4)
      have hxp : x.pins < 4611686018427387904 := by have := (hok.pg x (by rw [hc]; simp)).2.2; omega
      have hml : (A ++ B).length + 1 ≤ 2000 := by rw [hc] at hsl; simp at hsl ⊢; omega
      have HF : Hid (∀ W, Qm w T k q p.room p.rd (A ++ B ++ [{ x with pins := x.pins + 1 }]) p.ch W → Qn w S k q { p with hs := A ++ B ++ [{ x with pins := x.pins + 1 }] } W) := fun W hq => Qn.shelf h1 h2 h3 hq
      obtain ⟨M, hM⟩ : ∃ M, A ++ B = M := ⟨_, rfl⟩
      rw [hM] at hus0 HF hml ⊢
      obtain ⟨i, hi⟩ : ∃ i, A.length = i := ⟨_, rfl⟩
      rw [hi] at hat0 hus0
      have hi0 : ¬ (i : Int) < 0 := by omega
      clear h1 h2 h3 h4 hpg e1 e2 hok hfc hfh hc hA hi hM hnd
      go_enter Tryz.func30, Tryz.ntmps30
      go_wp2_with (first
        | (go_at_call 54; refine (hpc _).mono ?_; clear hpc; rintro e w1 ⟨rfl, rfl⟩)
        | (go_at_call 55; refine hch0.mono ?_; clear hch0; rintro e w1 ⟨rfl, rfl⟩)
        | (go_at_call 56; refine hat0.mono ?_; clear hat0; rintro e w1 ⟨rfl, rfl⟩)
        | (go_at_call 57; refine hus0.mono ?_; clear hus0 cq ck; rintro e w2 ⟨rfl, hq2⟩))
      obtain ⟨T2, hqh, hg2⟩ := hq2.qh
      have hqd : Qh w2.drew T2 k q p.room p.rd (M ++ x :: []) p.ch := hqh.on ((Below.refl _ _).drew)
      obtain ⟨g, vc, c2, c1, f1, hset⟩ := hqd.pins
      have hk2 : Keep T w w2.drew := hq2.keep.trans (Keep.drew (fun _ => False) w2) (fun _ _ h => h.elim)
      have HQ := hid (HF.out _ (Qm.trans hg2 hk2 (hset (x.pins + 1))))
      rw [show (M ++ x :: []).length = M.length + 1 by simp] at c2
      clear HF hq2 hqh hqd hset hk2 hg2
      obtain ⟨m, hm⟩ : ∃ m, M.length = m := ⟨_, rfl⟩
      rw [hm] at c2 c1 f1 hml HQ
      clear hm
      have hwm : IntKind.i64.wrap (m : Int) = (m : Int) := by rw [IntKind.wrap_i64]; omega
      have hwm2 : wrap64 (m : Int) = (m : Int) := by unfold wrap64; omega
      have hm1 : (m : Int) < (m : Int) + 1 := by omega
      have hwy : IntKind.i64.wrap ((x.pins : Int) + 1) = (x.pins : Int) + 1 := by rw [IntKind.wrap_i64]; omega
      have hwy2 : wrap64 ((x.pins : Int) + 1) = (x.pins : Int) + 1 := by unfold wrap64; omega
      go_region
      go_wp2_with fail
      go_ret
      exact ⟨rfl, HQ.out⟩
    | none =>
      have hat0 := rat_none (by omega) hfh h4
      obtain ⟨va0, vc0, cl0, _, _, _⟩ := h4.read
      have cr0 := h4.nums.1
      cases hfu : fullH p.room p.hs with
      | true =>
        have e1 : p.piE a = 10 := by unfold Pp.piE; rw [if_neg (fun x => x hpg), hfc, hfh, hfu]; rfl
        have e2 : p.pi a = p := by unfold Pp.pi; rw [e1]; rfl
        rw [e1, e2]
        obtain ⟨hf1, hf2⟩ : p.room ≤ p.hs.length ∧ freeH p.hs = none := by
          unfold fullH at hfu
          simpa using hfu
        have HFR : Hid (∀ n, Calls Tryz.prog 64 #[.pointer (some ⟨q, 0, none⟩)] (w.drewN n) fun e w' => e = .returned (.int .i64 (-1)) ∧ w' = w.drewN n) := fun n => (rfree_none (by omega) hf2 (h4.on (below_drewN w n))).mono fun e w' hh => ⟨hh.1, hh.2.symm⟩
        have HQ1 : Hid (∀ n, Qn w S k q p (w.drewN n)) := fun n => (Qn.refl HP.out).on (below_drewN w n)
        have hfi : (p.room : Int) ≤ (p.hs.length : Int) := by omega
        clear h1 h2 h3 h4 hpg e1 e2 hok hfc hfh hfu hf1 hf2
        go_enter Tryz.func30, Tryz.ntmps30
        go_wp2_with (first
          | (go_at_call 54; refine (hpc _).mono ?_; clear hpc; rintro e w1 ⟨rfl, rfl⟩)
          | (go_at_call 55; refine hch0.mono ?_; clear hch0; rintro e w1 ⟨rfl, rfl⟩)
          | (go_at_call 56; refine hat0.mono ?_; clear hat0; rintro e w1 ⟨rfl, rfl⟩))
        go_quiet (first | (go_at_call 64; exact Calls.quiet_of_same (HFR.out _)))
        go_wp2_with fail
        go_ret
        exact ⟨rfl, HQ1.out _⟩
      | false =>
        obtain ⟨M, hM, hMl, hMn⟩ := holdH_form (s := p.d.rdS a) hok.nd hfu hfh
        have e1 : p.piE a = p.d.rdE a := by unfold Pp.piE Pp.ldE; rw [if_neg (fun x => x hpg), hfc, hfh, hfu]; simp [hpg]
        have HB1 : Hid (∀ n, Below w.heap.size w (w.drewN n)) := fun n => below_drewN w n
        have HRD : Hid (∀ w1, Below w.heap.size w w1 → _) := fun w1 hb => rRead_any a w1 D k p.d (h3.on hb)
        have HC : Hid (∀ w1, Below w.heap.size w w1 → w1.cell? ⟨q, 0, none⟩ = some (.pointer (some ⟨k, 0, none⟩)) ∧ w1.cell? ⟨q, 4, none⟩ = some (.int .i64 (p.rd : Nat)) ∧ w1.frozen? ⟨q, 4, none⟩ = false) := fun w1 hb => ⟨(h4.on hb).nums.2.2.1, (h4.on hb).nums.2.1, (h4.on hb).nums.2.2.2⟩
        have hrl := hok.rd
        by_cases hz : p.d.rdE a = 0
        · obtain ⟨x, hx⟩ : ∃ x : Hp, (⟨a, 0, p.d.rdS a⟩ : Hp) = x := ⟨_, rfl⟩
          rw [hx] at hM hMn
          have hxl : x.pl = a := by rw [← hx]
          have hxp : x.pins < 4611686018427387904 := by rw [← hx]; show 0 < _; decide
          have e2 : p.pi a = { p with rd := p.rd + 1, hs := M ++ [{ x with pins := x.pins + 1 }] } := by
            have e3 : p.ld a = { p with rd := p.rd + 1, hs := holdH p.room p.hs a (p.d.rdS a) } := by unfold Pp.ld; rw [if_neg (fun x => x hpg), hfc, hfh, if_pos hz]
            have e4 := pinH_split (X := M) (Y := []) (x := x) hMn (· + 1)
            unfold Pp.pi
            rw [e1, if_pos hz, e3, hM]
            show { p with rd := p.rd + 1, hs := pinH (M ++ [x]) a (· + 1) : Pp } = _
            rw [← hxl, e4]
          have HHO : Hid (∀ w1, Below w.heap.size w w1 → Calls Tryz.prog 59 #[.pointer (some ⟨q, 0, none⟩), .int .i64 a, .string (p.d.rdS a)] (w1.setCell ⟨q, 4, none⟩ (.int .i64 ((p.rd : Int) + 1))) fun e w' => e = .returned (.tuple #[]) ∧ Qm w T k q p.room (p.rd + 1) (M ++ [x]) p.ch w') := fun w1 hb => by
            have hq1 := (h4.on hb).tell (p.rd + 1)
            obtain ⟨T1, hqh, hg1⟩ := hq1.qh
            rw [← hM]
            exact (rhold_any a (p.d.rdS a) hok.nd (by omega) (by omega) hqh).mono fun e w' hh => ⟨hh.1, (Qm.trans hg1 hq1.keep hh.2).base hb⟩
          have HUS : Hid (∀ w2, Qm w T k q p.room (p.rd + 1) (M ++ [x]) p.ch w2 → (∃ va vc, w2.cell? ⟨q, 2, none⟩ = some (.slice va (M.length + 1) vc)) ∧ Calls Tryz.prog 57 #[.pointer (some ⟨q, 0, none⟩), .int .i64 (M.length : Nat)] w2 fun e w' => e = .returned (.tuple #[]) ∧ Qm w T k q p.room (p.rd + 1) (M ++ [x]) p.ch w') := fun w2 hq => by
            obtain ⟨T1, hqh, hg1⟩ := hq.qh
            obtain ⟨va, vc, c2, _⟩ := hqh.read
            refine ⟨⟨va, vc, by rw [c2, List.length_append]; rfl⟩, (ruse_any (X := M) (Y := []) (x := x) (by rw [List.length_append]; simp; omega) hqh).mono fun e w' hh => ⟨hh.1, ?_⟩⟩
            have h9 := hh.2
            rw [List.append_nil] at h9
            exact Qm.trans hg1 hq.keep h9
          have HF : Hid (∀ W, Qm w T k q p.room (p.rd + 1) (M ++ [{ x with pins := x.pins + 1 }]) p.ch W → Qn w S k q { p with rd := p.rd + 1, hs := M ++ [{ x with pins := x.pins + 1 }] } W) := fun W hq => Qn.shelf h1 h2 h3 hq
          rw [e1, hz, e2]
          rw [hz] at HRD
          have hml : M.length + 1 ≤ 2000 := by omega
          obtain ⟨m, hm⟩ : ∃ m, M.length = m := ⟨_, rfl⟩
          have HM := hid hm
          rw [hm] at HUS hml
          have hwm : IntKind.i64.wrap (m : Int) = (m : Int) := by rw [IntKind.wrap_i64]; omega
          have hwm2 : wrap64 (m : Int) = (m : Int) := by unfold wrap64; omega
          have hm1 : (m : Int) < (m : Int) + 1 := by omega
          by_cases hlr : p.hs.length < p.room
          · have hd : decide ((p.room : Int) ≤ (p.hs.length : Int)) = false := decide_eq_false (by omega)
            have hd2 : decide (p.room ≤ p.hs.length) = false := decide_eq_false (by omega)
            clear h1 h2 h3 h4 hpg e1 e2 hok hfc hfh hfu hM hMl hMn hx hxl hz hm hlr
            go_enter Tryz.func30, Tryz.ntmps30
            go_wp2_with (first
              | (go_at_call 54; refine (hpc _).mono ?_; clear hpc; rintro e w1 ⟨rfl, rfl⟩)
              | (go_at_call 55; refine hch0.mono ?_; clear hch0; rintro e w1 ⟨rfl, rfl⟩)
              | (go_at_call 56; refine hat0.mono ?_; clear hat0; rintro e w1 ⟨rfl, rfl⟩))
            go_quiet (fail)
            have hb1 := HB1.out nq
            clear HB1 cq ck cl0 cr0
            generalize w.drewN nq = w1 at hb1 ⊢
            obtain ⟨cq, c4, f4⟩ := HC.out w1 hb1
            have hrd1 := HRD.out w1 hb1
            have HHO1 := hid (HHO.out w1 hb1)
            clear HC HRD HHO hb1
            go_wp2_with (first
              | (go_at_call 58; refine hrd1.mono ?_; clear hrd1; rintro e w9 ⟨rfl, rfl⟩)
              | (go_at_call 59; refine HHO1.out.mono ?_; clear HHO1 cq c4 f4; rintro e w2 ⟨rfl, hq2⟩; obtain ⟨⟨va, vc, c2⟩, hus⟩ := HUS.out w2 hq2; clear hq2 HUS)
              | (go_at_call 57; refine hus.mono ?_; clear hus c2; rintro e w3 ⟨rfl, hq2⟩))
            obtain ⟨T2, hqh, hg2⟩ := hq2.qh
            have hqd : Qh w3.drew T2 k q p.room (p.rd + 1) (M ++ x :: []) p.ch := hqh.on ((Below.refl _ _).drew)
            obtain ⟨g, vc, c2, c1, f1, hset⟩ := hqd.pins
            have hk2 : Keep T w w3.drew := hq2.keep.trans (Keep.drew (fun _ => False) w3) (fun _ _ h => h.elim)
            have HQ := hid (HF.out _ (Qm.trans hg2 hk2 (hset (x.pins + 1))))
            rw [show (M ++ x :: []).length = M.length + 1 by simp] at c2
            clear HF hq2 hqh hqd hset hk2 hg2
            rw [HM.out] at c2 c1 f1 HQ
            clear HM
            have hwy : IntKind.i64.wrap ((x.pins : Int) + 1) = (x.pins : Int) + 1 := by rw [IntKind.wrap_i64]; omega
            have hwy2 : wrap64 ((x.pins : Int) + 1) = (x.pins : Int) + 1 := by unfold wrap64; omega
            go_region
            go_wp2_with fail
            go_ret
            exact ⟨rfl, HQ.out⟩
          · obtain ⟨f, hfr⟩ : ∃ f, freeH p.hs = some f := by
              cases hfr : freeH p.hs with
              | some f => exact ⟨f, rfl⟩
              | none => unfold fullH at hfu; rw [hfr, decide_eq_true (by omega)] at hfu; cases hfu
            obtain ⟨A, B, hc, hA, hf0⟩ := freeH_split hfr
            have HFR : Hid (∀ n, Calls Tryz.prog 64 #[.pointer (some ⟨q, 0, none⟩)] (w.drewN n) fun e w' => e = .returned (.int .i64 (A.length : Nat)) ∧ w' = w.drewN n) := fun n => (rfree_some (by rw [← hc]; omega) hA hf0 (by rw [← hc]; exact h4.on (below_drewN w n))).mono fun e w' hh => ⟨hh.1, hh.2.symm⟩
            obtain ⟨i, hi⟩ : ∃ i, A.length = i := ⟨_, rfl⟩
            rw [hi] at HFR
            have hi0 : ¬ (i : Int) < 0 := by omega
            have hfi : (p.room : Int) ≤ (p.hs.length : Int) := by omega
            clear h1 h2 h3 h4 hpg e1 e2 hok hfc hfh hfu hM hMl hMn hx hxl hz hm hlr hfr hc hA hf0 hi
            go_enter Tryz.func30, Tryz.ntmps30
            go_wp2_with (first
              | (go_at_call 54; refine (hpc _).mono ?_; clear hpc; rintro e w1 ⟨rfl, rfl⟩)
              | (go_at_call 55; refine hch0.mono ?_; clear hch0; rintro e w1 ⟨rfl, rfl⟩)
              | (go_at_call 56; refine hat0.mono ?_; clear hat0; rintro e w1 ⟨rfl, rfl⟩))
            go_quiet (first | (go_at_call 64; exact Calls.quiet_of_same (HFR.out _)))
            have hb1 := HB1.out nq
            clear HB1 cq ck cl0 cr0
            generalize w.drewN nq = w1 at hb1 ⊢
            obtain ⟨cq, c4, f4⟩ := HC.out w1 hb1
            have hrd1 := HRD.out w1 hb1
            have HHO1 := hid (HHO.out w1 hb1)
            clear HC HRD HHO hb1
            go_wp2_with (first
              | (go_at_call 58; refine hrd1.mono ?_; clear hrd1; rintro e w9 ⟨rfl, rfl⟩)
              | (go_at_call 59; refine HHO1.out.mono ?_; clear HHO1 cq c4 f4; rintro e w2 ⟨rfl, hq2⟩; obtain ⟨⟨va, vc, c2⟩, hus⟩ := HUS.out w2 hq2; clear hq2 HUS)
              | (go_at_call 57; refine hus.mono ?_; clear hus c2; rintro e w3 ⟨rfl, hq2⟩))
            obtain ⟨T2, hqh, hg2⟩ := hq2.qh
            have hqd : Qh w3.drew T2 k q p.room (p.rd + 1) (M ++ x :: []) p.ch := hqh.on ((Below.refl _ _).drew)
            obtain ⟨g, vc, c2, c1, f1, hset⟩ := hqd.pins
            have hk2 : Keep T w w3.drew := hq2.keep.trans (Keep.drew (fun _ => False) w3) (fun _ _ h => h.elim)
            have HQ := hid (HF.out _ (Qm.trans hg2 hk2 (hset (x.pins + 1))))
            rw [show (M ++ x :: []).length = M.length + 1 by simp] at c2
            clear HF hq2 hqh hqd hset hk2 hg2
            rw [HM.out] at c2 c1 f1 HQ
            clear HM
            have hwy : IntKind.i64.wrap ((x.pins : Int) + 1) = (x.pins : Int) + 1 := by rw [IntKind.wrap_i64]; omega
            have hwy2 : wrap64 ((x.pins : Int) + 1) = (x.pins : Int) + 1 := by unfold wrap64; omega
            go_region
            go_wp2_with fail
            go_ret
            exact ⟨rfl, HQ.out⟩
        · have e2 : p.pi a = p := by unfold Pp.pi; rw [e1, if_neg hz]
          rw [e1, e2]
          obtain ⟨re, hre⟩ : ∃ re, p.d.rdE a = re := ⟨_, rfl⟩
          rw [hre] at hz HRD ⊢
          have hz2 : ¬ (re : Int) = 0 := by omega
          have HQ1 : Hid (∀ w1, Below w.heap.size w w1 → Qn w S k q p w1) := fun w1 hb => (Qn.refl HP.out).on hb
          by_cases hlr : p.hs.length < p.room
          · have hd : decide ((p.room : Int) ≤ (p.hs.length : Int)) = false := decide_eq_false (by omega)
            have hd2 : decide (p.room ≤ p.hs.length) = false := decide_eq_false (by omega)
            clear h1 h2 h3 h4 hpg e1 e2 hok hfc hfh hfu hM hMl hMn hlr hre
            go_enter Tryz.func30, Tryz.ntmps30
            go_wp2_with (first
              | (go_at_call 54; refine (hpc _).mono ?_; clear hpc; rintro e w1 ⟨rfl, rfl⟩)
              | (go_at_call 55; refine hch0.mono ?_; clear hch0; rintro e w1 ⟨rfl, rfl⟩)
              | (go_at_call 56; refine hat0.mono ?_; clear hat0; rintro e w1 ⟨rfl, rfl⟩))
            go_quiet (fail)
            have hb1 := HB1.out nq
            clear HB1 cq ck cl0 cr0
            generalize w.drewN nq = w1 at hb1 ⊢
            obtain ⟨cq, c4, f4⟩ := HC.out w1 hb1
            have hrd1 := HRD.out w1 hb1
            have HQ2 := hid (HQ1.out w1 hb1)
            clear HC HRD HQ1 hb1
            go_wp2_with (first
              | (go_at_call 58; refine hrd1.mono ?_; clear hrd1; rintro e w9 ⟨rfl, rfl⟩))
            go_ret
            exact ⟨rfl, HQ2.out⟩
          · obtain ⟨f, hfr⟩ : ∃ f, freeH p.hs = some f := by
              cases hfr : freeH p.hs with
              | some f => exact ⟨f, rfl⟩
              | none => unfold fullH at hfu; rw [hfr, decide_eq_true (by omega)] at hfu; cases hfu
            obtain ⟨A, B, hc, hA, hf0⟩ := freeH_split hfr
            have HFR : Hid (∀ n, Calls Tryz.prog 64 #[.pointer (some ⟨q, 0, none⟩)] (w.drewN n) fun e w' => e = .returned (.int .i64 (A.length : Nat)) ∧ w' = w.drewN n) := fun n => (rfree_some (by rw [← hc]; omega) hA hf0 (by rw [← hc]; exact h4.on (below_drewN w n))).mono fun e w' hh => ⟨hh.1, hh.2.symm⟩
            obtain ⟨i, hi⟩ : ∃ i, A.length = i := ⟨_, rfl⟩
            rw [hi] at HFR
            have hi0 : ¬ (i : Int) < 0 := by omega
            have hfi : (p.room : Int) ≤ (p.hs.length : Int) := by omega
            clear h1 h2 h3 h4 hpg e1 e2 hok hfc hfh hfu hM hMl hMn hlr hfr hc hA hf0 hi hre
            go_enter Tryz.func30, Tryz.ntmps30
            go_wp2_with (first
              | (go_at_call 54; refine (hpc _).mono ?_; clear hpc; rintro e w1 ⟨rfl, rfl⟩)
              | (go_at_call 55; refine hch0.mono ?_; clear hch0; rintro e w1 ⟨rfl, rfl⟩)
              | (go_at_call 56; refine hat0.mono ?_; clear hat0; rintro e w1 ⟨rfl, rfl⟩))
            go_quiet (first | (go_at_call 64; exact Calls.quiet_of_same (HFR.out _)))
            have hb1 := HB1.out nq
            clear HB1 cq ck cl0 cr0
            generalize w.drewN nq = w1 at hb1 ⊢
            obtain ⟨cq, c4, f4⟩ := HC.out w1 hb1
            have hrd1 := HRD.out w1 hb1
            have HQ2 := hid (HQ1.out w1 hb1)
            clear HC HRD HQ1 hb1
            go_wp2_with (first
              | (go_at_call 58; refine hrd1.mono ?_; clear hrd1; rintro e w9 ⟨rfl, rfl⟩))
            go_ret
            exact ⟨rfl, HQ2.out⟩
end

section
variable {w : World} {S T : Nat → Prop} {k q room rd : Nat} {hs : List Hp} {ch : List Pg} {p : Pp}
/-- a new list of changed pages in the pager's cell -/
theorem Qh.chg {w' : World} {ch' : List Pg} {v' : Value} (h : Qh w T k q room rd hs ch) (hb : Below w.heap.size w w') (hr : RowP w' w.heap.size v' ch') : Qm w T k q room rd hs ch' (w'.setCell ⟨q, 3, none⟩ v') := by
  have hlt := h.1
  obtain ⟨h1, h2, lv, cv, h3, h4, h5, h6, h7⟩ := h.on hb
  have k2 : Keep (fun j => j = q) w' (w'.setCell ⟨q, 3, none⟩ v') := Keep.set (S := fun j => j = q) w' rfl 3 v'
  have hsz : (w'.setCell ⟨q, 3, none⟩ v').heap.size = w'.heap.size := by simp [World.setCell]
  have hr0 : RowP w' 0 v' ch' := own_base hr (Nat.zero_le _)
  refine ⟨⟨fun j => T j ∨ (v'.ownBlock = some j ∧ w.heap.size ≤ j), ⟨fun j hj => ?_, .inl h2, lv, v', h3.set 3 v', k2.row h4 (fun g e => h3.ne h4 (by decide) e), k2.row hr0 (fun g e => h3.ne hr0 (by decide) e), fun g e => .inl (h6 g e), fun g e => .inr ⟨e, (World.ownsRow.lt hr g e).1⟩⟩, fun j hj => ?_⟩, ?_⟩
  · rw [hsz]
    rcases hj with hj | ⟨hj, _⟩
    · exact h1 j hj
    · exact (World.ownsRow.lt hr j hj).2
  · rcases hj with hj | hj
    · exact .inl hj
    · exact .inr hj.2
  · exact (Keep.of_below (S := T) hb).trans (k2.mono (fun j _ e => by subst e; exact h2)) (fun _ _ h => h)
/-- the changed pages let go: their row is nobody's, and lies there still -/
theorem Qh.letgo (h : Qh w T k q room rd hs ch) : ∃ a c, w.cell? ⟨q, 3, none⟩ = some (.slice a ch.length c) ∧ w.frozen? ⟨q, 3, none⟩ = false ∧ In T (.slice a ch.length c) ∧ RowP (w.setCell ⟨q, 3, none⟩ (.slice none 0 0)) 0 (.slice a ch.length c) ch ∧ Qh (w.setCell ⟨q, 3, none⟩ (.slice none 0 0)) (fun j => T j ∧ (Value.slice a ch.length c).ownBlock ≠ some j) k q room rd hs [] ∧ Keep T w (w.setCell ⟨q, 3, none⟩ (.slice none 0 0)) := by
  obtain ⟨h1, h2, lv, cv, h3, h4, h5, h6, h7⟩ := h
  obtain ⟨a, c, e1⟩ := own_form h5
  subst e1
  have k2 : Keep (fun j => j = q) w (w.setCell ⟨q, 3, none⟩ (.slice none 0 0)) := Keep.set (S := fun j => j = q) w rfl 3 _
  have hsz : (w.setCell ⟨q, 3, none⟩ (.slice none 0 0)).heap.size = w.heap.size := by simp [World.setCell]
  refine ⟨a, c, h3.cell (i := 3) rfl, h3.free 3, h7, k2.row h5 (fun g e => h3.ne h5 (by decide) e), ⟨fun j hj => by rw [hsz]; exact h1 j hj.1, ⟨h2, fun e => h3.ne h5 (by decide) e rfl⟩, lv, .slice none 0 0, h3.set 3 _, k2.row h4 (fun g e => h3.ne h4 (by decide) e), World.ownsRow_nil _ _ _ _, fun g e => ⟨h6 g e, fun e2 => rows_ne h4 h5 (by decide) e e2⟩, fun g e => by cases e⟩, k2.mono (fun j _ e => by subst e; exact h2)⟩
end

/-- is one of them greater? -/
def gtB (T : List Pg) (a : Int) : Bool := T.any fun c => decide (a < c.pl)
/-- the changed pages that were gone through, with the new one among them once it has its place -/
def stp (T : List Pg) (a : Int) (s : ByteArray) : List Pg := T.filter (fun c => decide (c.pl < a)) ++ if gtB T a = true then ⟨a, s⟩ :: T.filter (fun c => decide (a < c.pl)) else []
theorem gtB_none {T : List Pg} {a : Int} (h : gtB T a = false) : T.filter (fun c => decide (a < c.pl)) = [] := by
  unfold gtB at h
  rw [List.filter_eq_nil_iff]
  simpa using h
theorem gtB_snoc (T : List Pg) (c : Pg) (a : Int) : gtB (T ++ [c]) a = (gtB T a || decide (a < c.pl)) := by unfold gtB; rw [List.any_append]; simp
theorem stp_eq {T : List Pg} {c : Pg} {a : Int} (s : ByteArray) (h : c.pl = a) : gtB (T ++ [c]) a = gtB T a ∧ stp (T ++ [c]) a s = stp T a s := by
  have h1 : gtB (T ++ [c]) a = gtB T a := by rw [gtB_snoc, decide_eq_false (by omega), Bool.or_false]
  refine ⟨h1, ?_⟩
  unfold stp
  rw [h1, List.filter_append, List.filter_append]
  simp [h]
theorem stp_lt {T : List Pg} {c : Pg} {a : Int} (s : ByteArray) (h : c.pl < a) (hg : gtB T a = false) : gtB (T ++ [c]) a = false ∧ stp (T ++ [c]) a s = stp T a s ++ [c] := by
  have h1 : gtB (T ++ [c]) a = false := by rw [gtB_snoc, decide_eq_false (by omega), Bool.or_false, hg]
  refine ⟨h1, ?_⟩
  unfold stp
  rw [h1, hg, List.filter_append]
  simp [h]
theorem stp_gt0 {T : List Pg} {c : Pg} {a : Int} (s : ByteArray) (h : a < c.pl) (hg : gtB T a = false) : gtB (T ++ [c]) a = true ∧ stp (T ++ [c]) a s = stp T a s ++ [⟨a, s⟩] ++ [c] := by
  have h1 : gtB (T ++ [c]) a = true := by rw [gtB_snoc, decide_eq_true h, Bool.or_true]
  refine ⟨h1, ?_⟩
  unfold stp
  rw [h1, hg, List.filter_append, List.filter_append, gtB_none hg]
  have h2 : ¬ c.pl < a := by omega
  simp [h, h2]
theorem stp_gt1 {T : List Pg} {c : Pg} {a : Int} (s : ByteArray) (h : a < c.pl) (hg : gtB T a = true) : gtB (T ++ [c]) a = true ∧ stp (T ++ [c]) a s = stp T a s ++ [c] := by
  have h1 : gtB (T ++ [c]) a = true := by rw [gtB_snoc, decide_eq_true h, Bool.or_true]
  refine ⟨h1, ?_⟩
  unfold stp
  rw [h1, hg, List.filter_append, List.filter_append]
  have h2 : ¬ c.pl < a := by omega
  simp [h, h2]
theorem stp_fin0 {T : List Pg} {a : Int} (s : ByteArray) (hg : gtB T a = false) : stp T a s ++ [⟨a, s⟩] = insC T a s := by
  unfold stp insC
  rw [hg, gtB_none hg]
  simp
theorem stp_fin1 {T : List Pg} {a : Int} (s : ByteArray) (hg : gtB T a = true) : stp T a s = insC T a s := by
  unfold stp insC
  rw [hg]
  simp
theorem stp_len (T : List Pg) (a : Int) (s : ByteArray) : (stp T a s).length ≤ 2 * T.length + 1 := by
  unfold stp
  rw [List.length_append]
  have h1 := List.length_filter_le (fun c : Pg => decide (c.pl < a)) T
  have h2 := List.length_filter_le (fun c : Pg => decide (a < c.pl)) T
  split <;> simp at * <;> omega
/-- a lesser one behind a greater one is not there -/
theorem gtB_of_lt {ch : List Pg} {a : Int} {j : Nat} {c : Pg} (hs : SrtC ch) (hc : ch[j]? = some c) (h : c.pl < a) : gtB (ch.take j) a = false := by
  unfold gtB
  rw [List.any_eq_false]
  intro x hx
  obtain ⟨i, hi⟩ := List.mem_iff_getElem?.1 hx
  rw [List.getElem?_take] at hi
  split at hi
  · rename_i hij
    have := List.pairwise_iff_getElem.1 hs i j (List.getElem?_eq_some_iff.1 hi).1 (List.getElem?_eq_some_iff.1 hc).1 hij
    rw [(List.getElem?_eq_some_iff.1 hi).2, (List.getElem?_eq_some_iff.1 hc).2] at this
    simp
    omega
  · cases hi

section
variable {w : World} {S T : Nat → Prop} {k q room rd : Nat} {hs : List Hp} {ch : List Pg} {p : Pp}
set_option maxHeartbeats 4000000 in
theorem rStore_any (N : Nat) (a : Int) (s : ByteArray) (hok : p.Ok N) (h : Qk w S k q p) :
    Calls Tryz.prog 28 #[.pointer (some ⟨q, 0, none⟩), .int .i64 a, .string s] w fun e w' => e = .returned (.int .i64 (p.stE a s : Nat)) ∧ Qn w S k q (p.st a s) w' := by
  obtain ⟨cq, ba, bc, ck⟩ := h.cells
  have hpc := fun w1 => rPage_any p.d.bs.length hok.d.lo hok.d.hi a w1
  have HP := hid h
  have hsl : p.hs.length ≤ 2000 := Nat.le_trans hok.len (by have := hok.room.2; omega)
  have hcl : p.ch.length ≤ 2000 := Nat.le_trans hok.few (by omega)
  by_cases hpg : isPg p.d.bs.length a
  case neg =>
    rw [decide_eq_false hpg] at hpc
    have e1 : p.stE a s = 1 := by unfold Pp.stE; rw [if_pos hpg]
    have e2 : p.st a s = p := by unfold Pp.st; rw [e1]; rfl
    rw [e1, e2]
    clear h hpg e1 e2 hok
    go_enter Tryz.func28, Tryz.ntmps28
    go_wp2_with (first
      | (go_at_call 54; refine (hpc _).mono ?_; clear hpc; rintro e w1 ⟨rfl, rfl⟩))
    go_ret
    exact ⟨rfl, Qn.refl HP.out⟩
  rw [decide_eq_true hpg] at hpc
  by_cases hsz : s.size = 256
  case neg =>
    have e1 : p.stE a s = 3 := by unfold Pp.stE; rw [if_neg (fun x => x hpg), if_pos hsz]
    have e2 : p.st a s = p := by unfold Pp.st; rw [e1]; rfl
    rw [e1, e2]
    have hsi : ((s.size : Int) == 256) = false := by simp; omega
    have hsi2 : ¬ (s.size : Int) = 256 := by omega
    clear h hpg e1 e2 hok hsz
    go_enter Tryz.func28, Tryz.ntmps28
    go_wp2_with (first
      | (go_at_call 54; refine (hpc _).mono ?_; clear hpc; rintro e w1 ⟨rfl, rfl⟩))
    go_ret
    exact ⟨rfl, Qn.refl HP.out⟩
  have hsi : (s.size : Int) = 256 := by omega
  obtain ⟨D, T, h1, h2, h3, h4⟩ := h
  have HSR := hid hok.srt
  have HFI : Hid (∀ w2, Qm w T k q p.room p.rd (remH p.hs a) (insC p.ch a s) w2 → Qn w S k q { p with hs := remH p.hs a, ch := insC p.ch a s } w2) := fun w2 hq => Qn.shelf h1 h2 h3 hq
  cases hfh : fndH p.hs a with
  | none =>
    have e1 : p.stE a s = 0 := by unfold Pp.stE pinned; rw [if_neg (fun x => x hpg), if_neg (fun x => x hsz), hfh]; rfl
    have e2 : p.st a s = { p with hs := remH p.hs a, ch := insC p.ch a s } := by unfold Pp.st; rw [e1]; rfl
    rw [e1, e2]
    have hat0 := rat_none hsl hfh h4
    have hrm : remH p.hs a = p.hs := remH_none (fndH_none hfh)
    rw [hrm] at HFI ⊢
    obtain ⟨w1, hw1, hq1⟩ : ∃ w1, w1 = w ∧ Qm w T k q p.room p.rd p.hs p.ch w1 := ⟨w, rfl, Qm.refl h4⟩
    have HQ := hid hq1
    clear hq1
    clear h1 h2 h3 h4 hpg e1 e2 hok hfh hsz hrm
    obtain ⟨ch, hch⟩ : ∃ ch, p.ch = ch := ⟨_, rfl⟩
    rw [hch] at hcl HSR HFI HQ ⊢
    clear hch
    have HW1 := hid hw1
    clear hw1
    have HQH := HQ.out.qh
    obtain ⟨T1, hqh, hg1⟩ := HQH
    have HG : Hid (∀ w' v', Below w1.heap.size w1 w' → RowP w' w1.heap.size v' (insC ch a s) → Qm w T k q p.room p.rd p.hs (insC ch a s) (w'.setCell ⟨q, 3, none⟩ v')) := fun w' v' hb hr => Qm.trans hg1 HQ.out.keep (hqh.chg hb hr)
    have HQ3 : Hid (∀ w', Below w1.heap.size w1 w' → w'.frozen? ⟨q, 3, none⟩ = false) := fun w' hb => by obtain ⟨_, _, _, _, b, _⟩ := hqh.on hb; exact b.free 3
    obtain ⟨va, vc, c3, hr3, _, hql⟩ := hqh.readc
    have HR3 := hid hr3
    have HC3 : Hid (∀ w', Below w1.heap.size w1 w' → w'.cell? ⟨q, 3, none⟩ = some (.slice va ch.length vc)) := fun w' hb => (hb.cell (p := ⟨q, 3, none⟩) hql).trans c3
    obtain ⟨n, hn⟩ : ∃ n, ch.length = n := ⟨_, rfl⟩
    have HN := hid hn
    rw [hn] at hcl c3 HC3 HR3
    clear hqh hg1 hr3 hql hn HQ
    have HWW := HW1.out
    clear HW1
    subst HWW
    go_enter Tryz.func28, Tryz.ntmps28
    go_wp2_with (first
      | (go_at_call 54; refine (hpc _).mono ?_; clear hpc; rintro e w9 ⟨rfl, rfl⟩)
      | (go_at_call 56; refine hat0.mono ?_; clear hat0; rintro e w9 ⟨rfl, rfl⟩))
    clear cq ck
    go_loopw [8, 9, 51] (fun l f i wr => ∃ (j : Nat) (ba : Option Addr) (bc m : Nat) (fl : Bool), j ≤ n ∧ m ≤ 2 * j + 1 ∧ i = .int .i64 (j : Nat) ∧ f = .bool fl ∧ l = .slice ba m bc ∧ Hid (gtB (ch.take j) a = fl) ∧ Hid ((stp (ch.take j) a s).length = m) ∧ Hid (RowP wr w1.heap.size (.slice ba m bc) (stp (ch.take j) a s)) ∧ Hid (Below w1.heap.size w1 wr)) (fun _ _ i _ => n - (intOf i).toNat)
    case atStart => exact ⟨0, none, 0, 0, false, Nat.zero_le _, Nat.zero_le _, rfl, rfl, rfl, rfl, rfl, World.ownsRow_nil _ _ _ _, Below.refl _ _⟩
    case round =>
      obtain ⟨j, ba, bc, m, fl, hj, hm, rfl, rfl, rfl, HFL, HM, HR, HB⟩ := hrel
      by_cases hjn : j < n
      · have hji : (j : Int) < (n : Int) := by omega
        obtain ⟨c, hc⟩ : ∃ c, ch[j]? = some c := ⟨_, List.getElem?_eq_getElem (by rw [HN.out]; exact hjn)⟩
        have hr2 := HR3.out.on HB.out
        obtain ⟨g, e9, _, _⟩ := row_some hr2 (by rw [HN.out]; omega)
        subst e9
        obtain ⟨d0, d1, _⟩ := RowP.at hr2 hc
        have hcc := HC3.out wr HB.out
        have HTS := hid (take_snoc hc)
        rcases Int.lt_trichotomy c.pl a with hlt | heq | hgt
        · have hfl := gtB_of_lt HSR.out hc hlt
          rw [HFL.out] at hfl
          subst hfl
          obtain ⟨q1, q2⟩ := stp_lt (T := ch.take j) s hlt HFL.out
          rw [← HTS.out] at q1 q2
          have HQ1 := hid q1
          have HQ2 := hid q2
          obtain ⟨pl, data⟩ := c
          simp only at d0 d1 hlt HQ2
          have hne : (pl == a) = false := by simp; omega
          have hng : ¬ a < pl := by omega
          have hnz : ¬ pl = a := by omega
          clear q1 q2 hc hr2 hlt
          go_wp2_with (at_builtin; refine wpList_pgs _ w1 rfl (.tmp 84) (.tmp 92) rfl (.slice ba m bc) (stp (ch.take j) a s) m HM.out rfl (HR.out.alloc (.cells #[.int .i64 pl, .string data] 75)) (HB.out.alloc HB.out.size _) ⟨wr.heap.size, 0, none⟩ [⟨pl, data⟩] 1 1 rfl (by decide) rfl (cells_two wr _ _ 75) (by omega) ?_)
          intro va2 vc2 w5 hr5 hb5 _
          have HR5 : Hid (RowP w5 w1.heap.size (.slice va2 (m + 1) vc2) (stp (ch.take (j + 1)) a s)) := by show RowP _ _ _ _; rw [HQ2.out]; exact hr5
          have HB5 := hid hb5
          have HM5 : Hid ((stp (ch.take (j + 1)) a s).length = m + 1) := by show _ = _; rw [HQ2.out, List.length_append, HM.out]; rfl
          clear hr5 hb5 d0 d1 hcc HR HB HM
          go_wp2_with fail
          go_roundw
          case rel => exact ⟨j + 1, va2, vc2, m + 1, false, by omega, by omega, by go_num, rfl, rfl, HQ1, HM5, HR5, HB5⟩
          case measure => simp [intOf]; omega
        · obtain ⟨q1, q2⟩ := stp_eq (T := ch.take j) s heq
          rw [← HTS.out] at q1 q2
          have HF5 : Hid (gtB (ch.take (j + 1)) a = fl) := q1.trans HFL.out
          have HM5 : Hid ((stp (ch.take (j + 1)) a s).length = m) := by show _ = _; rw [q2, HM.out]
          have HR5 : Hid (RowP wr w1.heap.size (.slice ba m bc) (stp (ch.take (j + 1)) a s)) := by show RowP _ _ _ _; rw [q2]; exact HR.out
          rw [heq] at d0
          have haa : (a == a) = true := by simp
          clear q1 q2 hc hr2 heq d1 HR HM HFL HTS
          go_wp2_with fail
          go_roundw
          case rel => exact ⟨j + 1, ba, bc, m, fl, by omega, by omega, by go_num, rfl, rfl, HF5, HM5, HR5, HB⟩
          case measure => simp [intOf]; omega
        · cases fl with
          | false =>
            obtain ⟨q1, q2⟩ := stp_gt0 (T := ch.take j) s hgt HFL.out
            rw [← HTS.out] at q1 q2
            have HQ1 := hid q1
            have HQ2 := hid q2
            obtain ⟨pl, data⟩ := c
            simp only at d0 d1 hgt HQ2
            have hne : (pl == a) = false := by simp; omega
            have hnz : ¬ pl = a := by omega
            have HD2 : Hid (∀ w', Below w1.heap.size w1 w' → w'.cell? ⟨g, j * 2, none⟩ = some (.int .i64 pl) ∧ w'.cell? ⟨g, j * 2 + 1, none⟩ = some (.string data) ∧ w'.cell? ⟨q, 3, none⟩ = some (.slice (some ⟨g, 0, none⟩) n vc)) := fun w' hb => by
              have hr2 := HR3.out.on hb
              obtain ⟨d0, d1, _⟩ := RowP.at hr2 hc
              exact ⟨d0, d1, HC3.out w' hb⟩
            clear q1 q2 hc hr2
            go_wp2_with (at_builtin; refine wpList_pgs _ w1 rfl (.tmp 78) (.tmp 82) rfl (.slice ba m bc) (stp (ch.take j) a s) m HM.out rfl (HR.out.alloc (.cells #[.int .i64 a, .string s] 75)) (HB.out.alloc HB.out.size _) ⟨wr.heap.size, 0, none⟩ [⟨a, s⟩] 1 1 rfl (by decide) rfl (cells_two wr _ _ 75) (by omega) ?_)
            intro va2 vc2 w5 hr5 hb5 _
            obtain ⟨Y, hY⟩ : ∃ Y, stp (ch.take j) a s ++ [(⟨a, s⟩ : Pg)] = Y := ⟨_, rfl⟩
            rw [hY] at hr5
            have HQ3' : Hid (stp (ch.take (j + 1)) a s = Y ++ [⟨pl, data⟩]) := by show _ = _; rw [HQ2.out, hY]
            have HY : Hid (Y.length = m + 1) := by show _ = _; rw [← hY, List.length_append, HM.out]; rfl
            have HR5 := hid hr5
            have HB5 := hid hb5
            obtain ⟨d0', d1', hcc'⟩ := HD2.out w5 hb5
            clear hr5 hb5 d0 d1 hcc HR HB HM HQ2 hY
            go_wp2_with (at_builtin; refine wpList_pgs _ w1 rfl (.tmp 84) (.tmp 92) rfl (.slice va2 (m + 1) vc2) Y (m + 1) HY.out rfl (HR5.out.alloc (.cells #[.int .i64 pl, .string data] 75)) (HB5.out.alloc HB5.out.size _) ⟨w5.heap.size, 0, none⟩ [⟨pl, data⟩] 1 1 rfl (by decide) rfl (cells_two w5 _ _ 75) (by omega) ?_)
            intro va3 vc3 w6 hr6 hb6 _
            have HR6 : Hid (RowP w6 w1.heap.size (.slice va3 (m + 1 + 1) vc3) (stp (ch.take (j + 1)) a s)) := by show RowP _ _ _ _; rw [HQ3'.out]; exact hr6
            have HB6 := hid hb6
            have HM6 : Hid ((stp (ch.take (j + 1)) a s).length = m + 1 + 1) := by show _ = _; rw [HQ3'.out, List.length_append, HY.out]; rfl
            clear hr6 hb6 d0' d1' hcc' HR5 HB5 HD2
            go_wp2_with fail
            go_roundw
            case rel => exact ⟨j + 1, va3, vc3, m + 1 + 1, true, by omega, by omega, by go_num, rfl, rfl, HQ1, HM6, HR6, HB6⟩
            case measure => simp [intOf]; omega
          | true =>
            obtain ⟨q1, q2⟩ := stp_gt1 (T := ch.take j) s hgt HFL.out
            rw [← HTS.out] at q1 q2
            have HQ1 := hid q1
            have HQ2 := hid q2
            obtain ⟨pl, data⟩ := c
            simp only at d0 d1 hgt HQ2
            have hne : (pl == a) = false := by simp; omega
            have hnz : ¬ pl = a := by omega
            clear q1 q2 hc hr2
            go_wp2_with (at_builtin; refine wpList_pgs _ w1 rfl (.tmp 84) (.tmp 92) rfl (.slice ba m bc) (stp (ch.take j) a s) m HM.out rfl (HR.out.alloc (.cells #[.int .i64 pl, .string data] 75)) (HB.out.alloc HB.out.size _) ⟨wr.heap.size, 0, none⟩ [⟨pl, data⟩] 1 1 rfl (by decide) rfl (cells_two wr _ _ 75) (by omega) ?_)
            intro va2 vc2 w5 hr5 hb5 _
            have HR5 : Hid (RowP w5 w1.heap.size (.slice va2 (m + 1) vc2) (stp (ch.take (j + 1)) a s)) := by show RowP _ _ _ _; rw [HQ2.out]; exact hr5
            have HB5 := hid hb5
            have HM5 : Hid ((stp (ch.take (j + 1)) a s).length = m + 1) := by show _ = _; rw [HQ2.out, List.length_append, HM.out]; rfl
            clear hr5 hb5 d0 d1 hcc HR HB HM
            go_wp2_with fail
            go_roundw
            case rel => exact ⟨j + 1, va2, vc2, m + 1, true, by omega, by omega, by go_num, rfl, rfl, HQ1, HM5, HR5, HB5⟩
            case measure => simp [intOf]; omega
      · obtain rfl : j = n := by omega
        have hji : ¬ (j : Int) < (j : Int) := by omega
        have htk : ch.take j = ch := List.take_of_length_le (by rw [HN.out]; exact Nat.le_refl _)
        rw [htk] at HFL HM HR
        clear htk
        cases fl with
        | false =>
          have HE := hid (stp_fin0 s HFL.out)
          go_wp2_with (at_builtin; refine wpList_pgs _ w1 rfl (.tmp 97) (.tmp 101) rfl (.slice ba m bc) (stp ch a s) m HM.out rfl (HR.out.alloc (.cells #[.int .i64 a, .string s] 75)) (HB.out.alloc HB.out.size _) ⟨wr.heap.size, 0, none⟩ [⟨a, s⟩] 1 1 rfl (by decide) rfl (cells_two wr _ _ 75) (by omega) ?_)
          intro va2 vc2 w5 hr5 hb5 _
          rw [HE.out] at hr5
          have HF := hid (HG.out w5 _ hb5 hr5)
          have f5 := HQ3.out w5 hb5
          have c5 := HC3.out w5 hb5
          clear hr5 hb5 HR HB HM HE HG HQ3 HC3
          go_wp2_with fail
          go_ret
          exact ⟨rfl, HFI.out _ HF.out⟩
        | true =>
          have HE := hid (stp_fin1 s HFL.out)
          have hr5 := HR.out
          rw [HE.out] at hr5
          have HF := hid (HG.out wr _ HB.out hr5)
          have f5 := HQ3.out wr HB.out
          have c5 := HC3.out wr HB.out
          clear hr5 HR HB HM HE HG HQ3 HC3
          go_wp2_with fail
          go_ret
          exact ⟨rfl, HFI.out _ HF.out⟩
  | some x =>
    obtain ⟨A, B, hc, hA, rfl⟩ := fndH_split hfh
    have hat0 := rat_some (by rw [← hc]; exact hsl) hA (by rw [← hc]; exact h4)
    have hq4 := h4
    rw [hc] at hq4 hsl
    obtain ⟨va0, vc0, c20, hr0, _, _⟩ := hq4.read
    obtain ⟨g0, e9, _, _, d1, _⟩ := hr0.at (k := A.length) (x := x) (by simp)
    subst e9
    have hlen : (A ++ x :: B).length = A.length + 1 + B.length := by rw [List.length_append, List.length_cons]; omega
    have hrem : remH p.hs x.pl = A ++ B := by rw [hc]; exact remH_split (by rw [← hc]; exact hok.nd)
    have hou0 := rout_any (x := x) hsl hq4
    rw [hlen] at c20 hsl
    by_cases hpz : x.pins = 0
    case neg =>
      have e1 : p.stE x.pl s = 10 := by unfold Pp.stE pinned; rw [if_neg (fun x => x hpg), if_neg (fun x => x hsz), hfh]; simp; omega
      have e2 : p.st x.pl s = p := by unfold Pp.st; rw [e1]; rfl
      rw [e1, e2]
      obtain ⟨i, hi⟩ : ∃ i, A.length = i := ⟨_, rfl⟩
      rw [hi] at hat0 d1 c20 hsl
      obtain ⟨n, hn⟩ : ∃ n, i + 1 + B.length = n := ⟨_, rfl⟩
      have hin : (i : Int) < (n : Int) := by omega
      rw [hn] at c20 hsl
      have hi0 : (0 : Int) ≤ (i : Int) := by omega
      have hpp : (0 : Int) < (x.pins : Int) := by omega
      have hpn : 0 < x.pins := by omega
      clear h1 h2 h3 h4 hpg e1 e2 hok hfh hc hA hr0 hlen hi hn hrem hou0 hq4 HFI hsz hpz
      go_enter Tryz.func28, Tryz.ntmps28
      go_wp2_with (first
        | (go_at_call 54; refine (hpc _).mono ?_; clear hpc; rintro e w9 ⟨rfl, rfl⟩)
        | (go_at_call 56; refine hat0.mono ?_; clear hat0; rintro e w9 ⟨rfl, rfl⟩))
      go_ret
      exact ⟨rfl, Qn.refl HP.out⟩
    have e1 : p.stE x.pl s = 0 := by unfold Pp.stE pinned; rw [if_neg (fun x => x hpg), if_neg (fun x => x hsz), hfh]; simp; omega
    have e2 : p.st x.pl s = { p with hs := remH p.hs x.pl, ch := insC p.ch x.pl s } := by unfold Pp.st; rw [e1]; rfl
    rw [e1, e2]
    rw [hpz] at d1
    rw [hrem] at HFI ⊢
    obtain ⟨i, hi⟩ : ∃ i, A.length = i := ⟨_, rfl⟩
    rw [hi] at hat0 d1 c20 hsl hou0
    obtain ⟨n0, hn⟩ : ∃ n0, i + 1 + B.length = n0 := ⟨_, rfl⟩
    have hin : (i : Int) < (n0 : Int) := by omega
    rw [hn] at c20 hsl
    have hi0 : (0 : Int) ≤ (i : Int) := by omega
    obtain ⟨a, ha⟩ : ∃ a, x.pl = a := ⟨_, rfl⟩
    rw [ha] at hpc HFI hat0 ⊢
    clear h1 h2 h3 h4 hpg e1 e2 hok hfh hc hA hr0 hlen hi hn hrem hq4 hsz hpz ha
    obtain ⟨ch, hch⟩ : ∃ ch, p.ch = ch := ⟨_, rfl⟩
    rw [hch] at hcl HSR HFI hou0 ⊢
    clear hch
    go_enter Tryz.func28, Tryz.ntmps28
    go_wp2_with (first
      | (go_at_call 54; refine (hpc _).mono ?_; clear hpc; rintro e w9 ⟨rfl, rfl⟩)
      | (go_at_call 56; refine hat0.mono ?_; clear hat0; rintro e w9 ⟨rfl, rfl⟩)
      | (go_at_call 60; refine hou0.mono ?_; clear hou0 cq ck c20 d1; rintro e w1 ⟨rfl, hq1⟩; have HQ := hid hq1; clear hq1;
         have HQH := HQ.out.qh;
         obtain ⟨T1, hqh, hg1⟩ := HQH;
         have HG : Hid (∀ w' v', Below w1.heap.size w1 w' → RowP w' w1.heap.size v' (insC ch a s) → Qm w T k q p.room p.rd (A ++ B) (insC ch a s) (w'.setCell ⟨q, 3, none⟩ v')) := fun w' v' hb hr => Qm.trans hg1 HQ.out.keep (hqh.chg hb hr);
         have HQ3 : Hid (∀ w', Below w1.heap.size w1 w' → w'.frozen? ⟨q, 3, none⟩ = false) := fun w' hb => (by obtain ⟨_, _, _, _, b, _⟩ := hqh.on hb; exact b.free 3);
         obtain ⟨va, vc, c3, hr3, _, hql⟩ := hqh.readc;
         have HR3 := hid hr3;
         have HC3 : Hid (∀ w', Below w1.heap.size w1 w' → w'.cell? ⟨q, 3, none⟩ = some (.slice va ch.length vc)) := fun w' hb => (hb.cell (p := ⟨q, 3, none⟩) hql).trans c3;
         obtain ⟨n, hn⟩ : ∃ n, ch.length = n := ⟨_, rfl⟩;
         have HN := hid hn;
         rw [hn] at hcl c3 HC3 HR3;
         clear hqh hg1 hr3 hql hn HQ;
         skip))
    go_loopw [8, 9, 51] (fun l f i wr => ∃ (j : Nat) (ba : Option Addr) (bc m : Nat) (fl : Bool), j ≤ n ∧ m ≤ 2 * j + 1 ∧ i = .int .i64 (j : Nat) ∧ f = .bool fl ∧ l = .slice ba m bc ∧ Hid (gtB (ch.take j) a = fl) ∧ Hid ((stp (ch.take j) a s).length = m) ∧ Hid (RowP wr w1.heap.size (.slice ba m bc) (stp (ch.take j) a s)) ∧ Hid (Below w1.heap.size w1 wr)) (fun _ _ i _ => n - (intOf i).toNat)
    case atStart => exact ⟨0, none, 0, 0, false, Nat.zero_le _, Nat.zero_le _, rfl, rfl, rfl, rfl, rfl, World.ownsRow_nil _ _ _ _, Below.refl _ _⟩
    case round =>
      obtain ⟨j, ba, bc, m, fl, hj, hm, rfl, rfl, rfl, HFL, HM, HR, HB⟩ := hrel
      by_cases hjn : j < n
      · have hji : (j : Int) < (n : Int) := by omega
        obtain ⟨c, hc⟩ : ∃ c, ch[j]? = some c := ⟨_, List.getElem?_eq_getElem (by rw [HN.out]; exact hjn)⟩
        have hr2 := HR3.out.on HB.out
        obtain ⟨g, e9, _, _⟩ := row_some hr2 (by rw [HN.out]; omega)
        subst e9
        obtain ⟨d0, d1, _⟩ := RowP.at hr2 hc
        have hcc := HC3.out wr HB.out
        have HTS := hid (take_snoc hc)
        rcases Int.lt_trichotomy c.pl a with hlt | heq | hgt
        · have hfl := gtB_of_lt HSR.out hc hlt
          rw [HFL.out] at hfl
          subst hfl
          obtain ⟨q1, q2⟩ := stp_lt (T := ch.take j) s hlt HFL.out
          rw [← HTS.out] at q1 q2
          have HQ1 := hid q1
          have HQ2 := hid q2
          obtain ⟨pl, data⟩ := c
          simp only at d0 d1 hlt HQ2
          have hne : (pl == a) = false := by simp; omega
          have hng : ¬ a < pl := by omega
          have hnz : ¬ pl = a := by omega
          clear q1 q2 hc hr2 hlt
          go_wp2_with (at_builtin; refine wpList_pgs _ w1 rfl (.tmp 84) (.tmp 92) rfl (.slice ba m bc) (stp (ch.take j) a s) m HM.out rfl (HR.out.alloc (.cells #[.int .i64 pl, .string data] 75)) (HB.out.alloc HB.out.size _) ⟨wr.heap.size, 0, none⟩ [⟨pl, data⟩] 1 1 rfl (by decide) rfl (cells_two wr _ _ 75) (by omega) ?_)
          intro va2 vc2 w5 hr5 hb5 _
          have HR5 : Hid (RowP w5 w1.heap.size (.slice va2 (m + 1) vc2) (stp (ch.take (j + 1)) a s)) := by show RowP _ _ _ _; rw [HQ2.out]; exact hr5
          have HB5 := hid hb5
          have HM5 : Hid ((stp (ch.take (j + 1)) a s).length = m + 1) := by show _ = _; rw [HQ2.out, List.length_append, HM.out]; rfl
          clear hr5 hb5 d0 d1 hcc HR HB HM
          go_wp2_with fail
          go_roundw
          case rel => exact ⟨j + 1, va2, vc2, m + 1, false, by omega, by omega, by go_num, rfl, rfl, HQ1, HM5, HR5, HB5⟩
          case measure => simp [intOf]; omega
        · obtain ⟨q1, q2⟩ := stp_eq (T := ch.take j) s heq
          rw [← HTS.out] at q1 q2
          have HF5 : Hid (gtB (ch.take (j + 1)) a = fl) := q1.trans HFL.out
          have HM5 : Hid ((stp (ch.take (j + 1)) a s).length = m) := by show _ = _; rw [q2, HM.out]
          have HR5 : Hid (RowP wr w1.heap.size (.slice ba m bc) (stp (ch.take (j + 1)) a s)) := by show RowP _ _ _ _; rw [q2]; exact HR.out
          rw [heq] at d0
          have haa : (a == a) = true := by simp
          clear q1 q2 hc hr2 heq d1 HR HM HFL HTS
          go_wp2_with fail
          go_roundw
          case rel => exact ⟨j + 1, ba, bc, m, fl, by omega, by omega, by go_num, rfl, rfl, HF5, HM5, HR5, HB⟩
          case measure => simp [intOf]; omega
        · cases fl with
          | false =>
            obtain ⟨q1, q2⟩ := stp_gt0 (T := ch.take j) s hgt HFL.out
            rw [← HTS.out] at q1 q2
            have HQ1 := hid q1
            have HQ2 := hid q2
            obtain ⟨pl, data⟩ := c
            simp only at d0 d1 hgt HQ2
            have hne : (pl == a) = false := by simp; omega
            have hnz : ¬ pl = a := by omega
            have HD2 : Hid (∀ w', Below w1.heap.size w1 w' → w'.cell? ⟨g, j * 2, none⟩ = some (.int .i64 pl) ∧ w'.cell? ⟨g, j * 2 + 1, none⟩ = some (.string data) ∧ w'.cell? ⟨q, 3, none⟩ = some (.slice (some ⟨g, 0, none⟩) n vc)) := fun w' hb => by
              have hr2 := HR3.out.on hb
              obtain ⟨d0, d1, _⟩ := RowP.at hr2 hc
              exact ⟨d0, d1, HC3.out w' hb⟩
            clear q1 q2 hc hr2
            go_wp2_with (at_builtin; refine wpList_pgs _ w1 rfl (.tmp 78) (.tmp 82) rfl (.slice ba m bc) (stp (ch.take j) a s) m HM.out rfl (HR.out.alloc (.cells #[.int .i64 a, .string s] 75)) (HB.out.alloc HB.out.size _) ⟨wr.heap.size, 0, none⟩ [⟨a, s⟩] 1 1 rfl (by decide) rfl (cells_two wr _ _ 75) (by omega) ?_)
            intro va2 vc2 w5 hr5 hb5 _
            obtain ⟨Y, hY⟩ : ∃ Y, stp (ch.take j) a s ++ [(⟨a, s⟩ : Pg)] = Y := ⟨_, rfl⟩
            rw [hY] at hr5
            have HQ3' : Hid (stp (ch.take (j + 1)) a s = Y ++ [⟨pl, data⟩]) := by show _ = _; rw [HQ2.out, hY]
            have HY : Hid (Y.length = m + 1) := by show _ = _; rw [← hY, List.length_append, HM.out]; rfl
            have HR5 := hid hr5
            have HB5 := hid hb5
            obtain ⟨d0', d1', hcc'⟩ := HD2.out w5 hb5
            clear hr5 hb5 d0 d1 hcc HR HB HM HQ2 hY
            go_wp2_with (at_builtin; refine wpList_pgs _ w1 rfl (.tmp 84) (.tmp 92) rfl (.slice va2 (m + 1) vc2) Y (m + 1) HY.out rfl (HR5.out.alloc (.cells #[.int .i64 pl, .string data] 75)) (HB5.out.alloc HB5.out.size _) ⟨w5.heap.size, 0, none⟩ [⟨pl, data⟩] 1 1 rfl (by decide) rfl (cells_two w5 _ _ 75) (by omega) ?_)
            intro va3 vc3 w6 hr6 hb6 _
            have HR6 : Hid (RowP w6 w1.heap.size (.slice va3 (m + 1 + 1) vc3) (stp (ch.take (j + 1)) a s)) := by show RowP _ _ _ _; rw [HQ3'.out]; exact hr6
            have HB6 := hid hb6
            have HM6 : Hid ((stp (ch.take (j + 1)) a s).length = m + 1 + 1) := by show _ = _; rw [HQ3'.out, List.length_append, HY.out]; rfl
            clear hr6 hb6 d0' d1' hcc' HR5 HB5 HD2
            go_wp2_with fail
            go_roundw
            case rel => exact ⟨j + 1, va3, vc3, m + 1 + 1, true, by omega, by omega, by go_num, rfl, rfl, HQ1, HM6, HR6, HB6⟩
            case measure => simp [intOf]; omega
          | true =>
            obtain ⟨q1, q2⟩ := stp_gt1 (T := ch.take j) s hgt HFL.out
            rw [← HTS.out] at q1 q2
            have HQ1 := hid q1
            have HQ2 := hid q2
            obtain ⟨pl, data⟩ := c
            simp only at d0 d1 hgt HQ2
            have hne : (pl == a) = false := by simp; omega
            have hnz : ¬ pl = a := by omega
            clear q1 q2 hc hr2
            go_wp2_with (at_builtin; refine wpList_pgs _ w1 rfl (.tmp 84) (.tmp 92) rfl (.slice ba m bc) (stp (ch.take j) a s) m HM.out rfl (HR.out.alloc (.cells #[.int .i64 pl, .string data] 75)) (HB.out.alloc HB.out.size _) ⟨wr.heap.size, 0, none⟩ [⟨pl, data⟩] 1 1 rfl (by decide) rfl (cells_two wr _ _ 75) (by omega) ?_)
            intro va2 vc2 w5 hr5 hb5 _
            have HR5 : Hid (RowP w5 w1.heap.size (.slice va2 (m + 1) vc2) (stp (ch.take (j + 1)) a s)) := by show RowP _ _ _ _; rw [HQ2.out]; exact hr5
            have HB5 := hid hb5
            have HM5 : Hid ((stp (ch.take (j + 1)) a s).length = m + 1) := by show _ = _; rw [HQ2.out, List.length_append, HM.out]; rfl
            clear hr5 hb5 d0 d1 hcc HR HB HM
            go_wp2_with fail
            go_roundw
            case rel => exact ⟨j + 1, va2, vc2, m + 1, true, by omega, by omega, by go_num, rfl, rfl, HQ1, HM5, HR5, HB5⟩
            case measure => simp [intOf]; omega
      · obtain rfl : j = n := by omega
        have hji : ¬ (j : Int) < (j : Int) := by omega
        have htk : ch.take j = ch := List.take_of_length_le (by rw [HN.out]; exact Nat.le_refl _)
        rw [htk] at HFL HM HR
        clear htk
        cases fl with
        | false =>
          have HE := hid (stp_fin0 s HFL.out)
          go_wp2_with (at_builtin; refine wpList_pgs _ w1 rfl (.tmp 97) (.tmp 101) rfl (.slice ba m bc) (stp ch a s) m HM.out rfl (HR.out.alloc (.cells #[.int .i64 a, .string s] 75)) (HB.out.alloc HB.out.size _) ⟨wr.heap.size, 0, none⟩ [⟨a, s⟩] 1 1 rfl (by decide) rfl (cells_two wr _ _ 75) (by omega) ?_)
          intro va2 vc2 w5 hr5 hb5 _
          rw [HE.out] at hr5
          have HF := hid (HG.out w5 _ hb5 hr5)
          have f5 := HQ3.out w5 hb5
          have c5 := HC3.out w5 hb5
          clear hr5 hb5 HR HB HM HE HG HQ3 HC3
          go_wp2_with fail
          go_ret
          exact ⟨rfl, HFI.out _ HF.out⟩
        | true =>
          have HE := hid (stp_fin1 s HFL.out)
          have hr5 := HR.out
          rw [HE.out] at hr5
          have HF := hid (HG.out wr _ HB.out hr5)
          have f5 := HQ3.out wr HB.out
          have c5 := HC3.out wr HB.out
          clear hr5 HR HB HM HE HG HQ3 HC3
          go_wp2_with fail
          go_ret
          exact ⟨rfl, HFI.out _ HF.out⟩
end

end Go.Proofs.YtoecopmbaoklkaaGreat
