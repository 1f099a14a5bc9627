/-
  What the document's hold does.
-/
import Derived.Test.YtoecopmbaoklkaaGreatQb
namespace Go.Proofs.YtoecopmbaoklkaaGreat
open Go.RowKit
set_option linter.unusedVariables false
set_option linter.unusedSimpArgs false
set_option maxRecDepth 100000

section
variable {w : World} {T : Nat → Prop} {k q room rd : Nat} {hs : List Hp} {ch : List Pg}
theorem Qh.nums (h : Qh w T k q room rd hs ch) : w.cell? ⟨q, 1, none⟩ = some (.int .i64 (room : Nat)) ∧ w.cell? ⟨q, 4, none⟩ = some (.int .i64 (rd : Nat)) ∧ w.cell? ⟨q, 0, none⟩ = some (.pointer (some ⟨k, 0, none⟩)) ∧ w.frozen? ⟨q, 4, none⟩ = false := by
  obtain ⟨_, _, lv, cv, b, _⟩ := h
  exact ⟨b.cell (i := 1) rfl, b.cell (i := 4) rfl, b.cell (i := 0) rfl, b.free 4⟩
theorem rfree_none (hl : hs.length ≤ 2000) (e : freeH hs = none) (h : Qh w T k q room rd hs ch) :
    Calls Tryz.prog 64 #[.pointer (some ⟨q, 0, none⟩)] w fun e w' => e = .returned (.int .i64 (-1)) ∧ w = w' := by
  refine (rfree_any hs.length (Nat.le_refl _) hl (fun i x hi hx => freeH_none e x (List.mem_of_getElem? hx)) (fun x hx => by simp at hx) h).mono fun e w' hh => ?_
  rw [if_neg (Nat.lt_irrefl _)] at hh
  exact hh
theorem rfree_some {A B : List Hp} {f : Hp} (hl : (A ++ f :: B).length ≤ 2000) (h1 : ∀ x ∈ A, ¬ x.pins = 0) (h2 : f.pins = 0) (h : Qh w T k q room rd (A ++ f :: B) ch) :
    Calls Tryz.prog 64 #[.pointer (some ⟨q, 0, none⟩)] w fun e w' => e = .returned (.int .i64 (A.length : Nat)) ∧ w = w' := by
  have hlt : A.length < (A ++ f :: B).length := by simp
  refine (rfree_any A.length (by omega) hl (fun i x hi hx => h1 x ?_) (fun x hx => ?_) h).mono fun e w' hh => ?_
  · rw [List.getElem?_append_left hi] at hx
    exact List.mem_of_getElem? hx
  · simp at hx
    subst hx
    exact h2
  · rw [if_pos hlt] at hh
    exact hh
theorem freeH_split {hs : List Hp} {f : Hp} (e : freeH hs = some f) : ∃ A B, hs = A ++ f :: B ∧ (∀ x ∈ A, ¬ x.pins = 0) ∧ f.pins = 0 := by
  obtain ⟨A, B, e1, h1, h2⟩ := find_split e
  exact ⟨A, B, e1, fun x hx => by simpa using h1 x hx, by simpa using h2⟩
theorem fndH_split {hs : List Hp} {a : Int} {f : Hp} (e : fndH hs a = some f) : ∃ A B, hs = A ++ f :: B ∧ (∀ x ∈ A, ¬ x.pl = a) ∧ f.pl = a := by
  obtain ⟨A, B, e1, h1, h2⟩ := find_split e
  exact ⟨A, B, e1, fun x hx => by simpa using h1 x hx, by simpa using h2⟩
theorem fndC_split {hs : List Pg} {a : Int} {f : Pg} (e : fndC hs a = some f) : ∃ A B, hs = A ++ f :: B ∧ (∀ x ∈ A, ¬ x.pl = a) ∧ f.pl = a := by
  obtain ⟨A, B, e1, h1, h2⟩ := find_split e
  exact ⟨A, B, e1, fun x hx => by simpa using h1 x hx, by simpa using h2⟩
theorem rat_none {a : Int} (hl : hs.length ≤ 2000) (e : fndH hs a = none) (h : Qh w T k q room rd hs ch) :
    Calls Tryz.prog 56 #[.pointer (some ⟨q, 0, none⟩), .int .i64 a] w fun e w' => e = .returned (.int .i64 (-1)) ∧ w = w' := by
  refine (rat_any a hs.length (Nat.le_refl _) hl (fun i x hi hx => fndH_none e x (List.mem_of_getElem? hx)) (fun x hx => by simp at hx) h).mono fun e w' hh => ?_
  rw [if_neg (Nat.lt_irrefl _)] at hh
  exact hh
theorem rat_some {A B : List Hp} {f : Hp} (hl : (A ++ f :: B).length ≤ 2000) (h1 : ∀ x ∈ A, ¬ x.pl = f.pl) (h : Qh w T k q room rd (A ++ f :: B) ch) :
    Calls Tryz.prog 56 #[.pointer (some ⟨q, 0, none⟩), .int .i64 f.pl] w fun e w' => e = .returned (.int .i64 (A.length : Nat)) ∧ w = w' := by
  have hlt : A.length < (A ++ f :: B).length := by simp
  refine (rat_any f.pl A.length (by omega) hl (fun i x hi hx => h1 x ?_) (fun x hx => ?_) h).mono fun e w' hh => ?_
  · rw [List.getElem?_append_left hi] at hx
    exact List.mem_of_getElem? hx
  · simp at hx
    subst hx
    rfl
  · rw [if_pos hlt] at hh
    exact hh
theorem rchanged_none {a : Int} (hl : ch.length ≤ 2000) (e : fndC ch a = none) (h : Qh w T k q room rd hs ch) :
    Calls Tryz.prog 55 #[.pointer (some ⟨q, 0, none⟩), .int .i64 a] w fun e w' => e = .returned (.int .i64 (-1)) ∧ w = w' := by
  refine (rchanged_any a ch.length (Nat.le_refl _) hl (fun i x hi hx => fndC_none e x (List.mem_of_getElem? hx)) (fun x hx => by simp at hx) h).mono fun e w' hh => ?_
  rw [if_neg (Nat.lt_irrefl _)] at hh
  exact hh
theorem rchanged_some {A B : List Pg} {f : Pg} (hl : (A ++ f :: B).length ≤ 2000) (h1 : ∀ x ∈ A, ¬ x.pl = f.pl) (h : Qh w T k q room rd hs (A ++ f :: B)) :
    Calls Tryz.prog 55 #[.pointer (some ⟨q, 0, none⟩), .int .i64 f.pl] w fun e w' => e = .returned (.int .i64 (A.length : Nat)) ∧ w = w' := by
  have hlt : A.length < (A ++ f :: B).length := by simp
  refine (rchanged_any f.pl A.length (by omega) hl (fun i x hi hx => h1 x ?_) (fun x hx => ?_) h).mono fun e w' hh => ?_
  · rw [List.getElem?_append_left hi] at hx
    exact List.mem_of_getElem? hx
  · simp at hx
    subst hx
    rfl
  · rw [if_pos hlt] at hh
    exact hh
set_option maxHeartbeats 2000000 in
theorem rhold_any (a : Int) (s : ByteArray) (hn : NdH hs) (hl : hs.length ≤ 2000) (hro : room ≤ 2000) (h : Qh w T k q room rd hs ch) :
    Calls Tryz.prog 59 #[.pointer (some ⟨q, 0, none⟩), .int .i64 a, .string s] w fun e w' => e = .returned (.tuple #[]) ∧ Qm w T k q room rd (holdH room hs a s) ch w' := by
  obtain ⟨c1, _⟩ := h.nums
  obtain ⟨va0, vc0, c20, hr0, _, _⟩ := h.read
  have hbd : Below w.heap.size w w.drew := (Below.refl _ _).drew
  have hq1 : Qm w T k q room rd hs ch w.drew := (Qm.refl h).on hbd
  have hd := h.on hbd
  by_cases hlr : hs.length < room
  · have hL : holdH room hs a s = hs ++ [⟨a, 0, s⟩] := by unfold holdH; rw [if_pos hlr]
    rw [hL]
    have HL0 := hid hl
    have HQ1 := hid hq1
    have hlri : ¬ (room : Int) ≤ (hs.length : Int) := by omega
    clear h hr0 hL hn hq1 hd hbd
    go_enter Tryz.func59, Tryz.ntmps59
    go_wp2_with fail
    go_region
    clear c1 c20
    generalize hwd : w.drew = w1 at *
    have hq2 := HQ1.out
    clear hwd HQ1
    obtain ⟨T2, hqh, hg2⟩ := hq2.qh
    have hk2 := hq2.keep
    obtain ⟨va, vc, c2, hr, f2, hlt⟩ := hqh.read
    obtain ⟨W3, hW3⟩ : ∃ W3, w1.alloc (.cells #[.int .i64 a, .int .i64 0, .string s] 77) = W3 := ⟨_, rfl⟩
    have hb3 : Below w1.heap.size w1 W3 := by rw [← hW3]; exact (Below.refl _ _).alloc (Nat.le_refl _) _
    have hbq : ∃ cs, Blk w1 q cs 37 := by obtain ⟨_, _, _, _, b, _⟩ := hqh; exact ⟨_, b⟩
    obtain ⟨cs9, hq9⟩ := hbq
    have c3 : W3.cell? ⟨q, 2, none⟩ = some (.slice va (hs).length vc) := (hb3.cell (p := ⟨q, 2, none⟩) hlt).trans c2
    have HF : Hid (∀ (w5 : World) (v5 : Value), RowH w5 0 v5 (hs ++ [⟨a, 0, s⟩]) → W3.grownBy w5 (Value.slice va (hs).length vc).ownBlock → Moved W3 (.slice va (hs).length vc) v5 → Qm w T k q room rd (hs ++ [⟨a, 0, s⟩]) ch (w5.setCell ⟨q, 2, none⟩ v5)) := fun w5 v5 r5 g5 m5 => Qm.trans hg2 hk2 (Qm.base (Qh.list (hqh.on hb3) c3 g5 r5 m5) hb3)
    have HR4 := hid (hr.on hb3)
    have HCE : Hid (∀ j u, (flatH [⟨a, 0, s⟩])[j]? = some u → ∃ b, some (⟨w1.heap.size, 0, none⟩ : Addr) = some b ∧ W3.cell? (b.add j) = some u) := fun j u hj => ⟨_, rfl, by rw [← hW3]; exact cells_three w1 _ _ _ 77 j u hj⟩
    have HK5 : Hid (∀ w5, W3.grownBy w5 (Value.slice va (hs).length vc).ownBlock → w5.cell? ⟨q, 2, none⟩ = some (.slice va (hs).length vc) ∧ w5.frozen? ⟨q, 2, none⟩ = false) := fun w5 g5 => by
      have bq := (hq9.on hb3 hq9.lt).kept g5 (fun e => hq9.ne hr (by decide) e.symm rfl)
      have e1 : cs9[2]? = some (.slice va (hs).length vc) := by
        have := c2
        unfold Blk at hq9
        simp only [World.cell?, hq9] at this
        simpa using this
      exact ⟨bq.cell e1, bq.free 2⟩
    clear hqh hg2 hk2 hr f2 hlt hq9 hb3 hq2
    go_wp2_with (at_builtin; refine wpList_hs _ 0 rfl (.tmp 28) (.tmp 32) rfl (.slice va (hs).length vc) (hs) rfl HR4.out (Nat.zero_le _) (some ⟨w1.heap.size, 0, none⟩) [⟨a, 0, s⟩] 1 1 rfl rfl HCE.out (by have := HL0.out; omega) ?_; intro ua uc w5 hr5 hg5 hm5; obtain ⟨c5, f5⟩ := HK5.out w5 hg5; have HF5 := hid (HF.out w5 _ hr5 hg5 hm5); clear hr5 hg5 hm5 HF HK5 HCE HR4)
    go_end0
    exact ⟨rfl, HF5.out⟩
  · have hlri : (room : Int) ≤ (hs.length : Int) := by omega
    cases hfr : freeH hs with
    | none =>
      have hL : holdH room hs a s = hs := by unfold holdH; rw [if_neg hlr, hfr]
      rw [hL]
      have HFR := hid (rfree_none hl hfr hd)
      have HQ1 := hid hq1
      clear h hr0 hL hn hfr hq1 hd hbd
      go_enter Tryz.func59, Tryz.ntmps59
      go_wp2_with fail
      go_region
      clear c1 c20
      generalize hwd : w.drew = w1 at *
      clear hwd
      go_wp2_with fail
      refine HFR.out.mono ?_
      clear HFR
      rintro e w2 ⟨rfl, rfl⟩
      go_wp2_with fail
      (try simp only [Exit.inBlock, Exit.then])
      refine bodyPost_ret (results_none rfl _ _ _) rfl ?_
      exact ⟨rfl, HQ1.out⟩
    | some f =>
      obtain ⟨A, B, e1, h1, h2⟩ := freeH_split hfr
      have hL : holdH room hs a s = A ++ B ++ [⟨a, 0, s⟩] := by
        have hf := remH_split (by rw [← e1]; exact hn)
        unfold holdH
        rw [if_neg hlr, hfr]
        show remH hs f.pl ++ _ = _
        rw [e1, hf]
      rw [hL]
      have HFR := hid (rfree_some (by rw [← e1]; exact hl) h1 h2 (by rw [← e1]; exact hd))
      have HOU : Hid (Calls Tryz.prog 60 #[.pointer (some ⟨q, 0, none⟩), .int .i64 (A.length : Nat)] w.drew fun e w' => e = .returned (.tuple #[]) ∧ Qm w T k q room rd (A ++ B) ch w') := (rout_any (x := f) (by rw [← e1]; exact hl) (by rw [← e1]; exact hd)).mono fun e w' hh => ⟨hh.1, hh.2.base hbd⟩
      have hl0 : (A ++ B).length ≤ 2000 := by rw [e1] at hl; simp at hl ⊢; omega
      have hA : A.length ≤ 2000 := by rw [List.length_append] at hl0; omega
      obtain ⟨M, hM⟩ : ∃ M, A ++ B = M := ⟨_, rfl⟩
      rw [hM] at HOU hl0 ⊢
      have HL0 := hid hl0
      clear hl0 hM
      obtain ⟨i, hi⟩ : ∃ i, A.length = i := ⟨_, rfl⟩
      rw [hi] at HFR HOU hA
      have hii : ¬ (i : Int) < 0 := by omega
      clear h hr0 hL hn hfr hi h1 h2 e1 hq1 hd hbd
      go_enter Tryz.func59, Tryz.ntmps59
      go_wp2_with fail
      go_region
      clear c1 c20
      generalize hwd : w.drew = w1 at *
      clear hwd
      go_wp2_with fail
      refine HFR.out.mono ?_
      clear HFR
      rintro e w2 ⟨rfl, rfl⟩
      go_wp2_with fail
      refine HOU.out.mono ?_
      clear HOU
      rintro e w2 ⟨rfl, hq2⟩
      obtain ⟨T2, hqh, hg2⟩ := hq2.qh
      have hk2 := hq2.keep
      obtain ⟨va, vc, c2, hr, f2, hlt⟩ := hqh.read
      obtain ⟨W3, hW3⟩ : ∃ W3, w2.alloc (.cells #[.int .i64 a, .int .i64 0, .string s] 77) = W3 := ⟨_, rfl⟩
      have hb3 : Below w2.heap.size w2 W3 := by rw [← hW3]; exact (Below.refl _ _).alloc (Nat.le_refl _) _
      have hbq : ∃ cs, Blk w2 q cs 37 := by obtain ⟨_, _, _, _, b, _⟩ := hqh; exact ⟨_, b⟩
      obtain ⟨cs9, hq9⟩ := hbq
      have c3 : W3.cell? ⟨q, 2, none⟩ = some (.slice va (M).length vc) := (hb3.cell (p := ⟨q, 2, none⟩) hlt).trans c2
      have HF : Hid (∀ (w5 : World) (v5 : Value), RowH w5 0 v5 (M ++ [⟨a, 0, s⟩]) → W3.grownBy w5 (Value.slice va (M).length vc).ownBlock → Moved W3 (.slice va (M).length vc) v5 → Qm w T k q room rd (M ++ [⟨a, 0, s⟩]) ch (w5.setCell ⟨q, 2, none⟩ v5)) := fun w5 v5 r5 g5 m5 => Qm.trans hg2 hk2 (Qm.base (Qh.list (hqh.on hb3) c3 g5 r5 m5) hb3)
      have HR4 := hid (hr.on hb3)
      have HCE : Hid (∀ j u, (flatH [⟨a, 0, s⟩])[j]? = some u → ∃ b, some (⟨w2.heap.size, 0, none⟩ : Addr) = some b ∧ W3.cell? (b.add j) = some u) := fun j u hj => ⟨_, rfl, by rw [← hW3]; exact cells_three w2 _ _ _ 77 j u hj⟩
      have HK5 : Hid (∀ w5, W3.grownBy w5 (Value.slice va (M).length vc).ownBlock → w5.cell? ⟨q, 2, none⟩ = some (.slice va (M).length vc) ∧ w5.frozen? ⟨q, 2, none⟩ = false) := fun w5 g5 => by
        have bq := (hq9.on hb3 hq9.lt).kept g5 (fun e => hq9.ne hr (by decide) e.symm rfl)
        have e1 : cs9[2]? = some (.slice va (M).length vc) := by
          have := c2
          unfold Blk at hq9
          simp only [World.cell?, hq9] at this
          simpa using this
        exact ⟨bq.cell e1, bq.free 2⟩
      clear hqh hg2 hk2 hr f2 hlt hq9 hb3 hq2
      go_wp2_with (at_builtin; refine wpList_hs _ 0 rfl (.tmp 28) (.tmp 32) rfl (.slice va (M).length vc) (M) rfl HR4.out (Nat.zero_le _) (some ⟨w2.heap.size, 0, none⟩) [⟨a, 0, s⟩] 1 1 rfl rfl HCE.out (by have := HL0.out; omega) ?_; intro ua uc w5 hr5 hg5 hm5; obtain ⟨c5, f5⟩ := HK5.out w5 hg5; have HF5 := hid (HF.out w5 _ hr5 hg5 hm5); clear hr5 hg5 hm5 HF HK5 HCE HR4)
      go_end0
      exact ⟨rfl, HF5.out⟩
end

end Go.Proofs.YtoecopmbaoklkaaGreat
