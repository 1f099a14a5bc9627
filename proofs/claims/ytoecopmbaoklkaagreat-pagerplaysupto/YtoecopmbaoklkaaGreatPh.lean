/-
  What Store and Pin do.
-/
import Derived.Test.YtoecopmbaoklkaaGreatPf
namespace Go.Proofs.YtoecopmbaoklkaaGreat
open Go.RowKit
set_option linter.unusedVariables false
set_option linter.unusedSimpArgs false
set_option maxRecDepth 100000

theorem store_nil (a : Int) (s : ByteArray) (w : World) : Calls Tryz.prog 19 #[.pointer none, .int .i64 a, .string s] w fun e w' => e = .returned (.int .i64 18) ∧ w = w' := by
  go_enter Tryz.func19, Tryz.ntmps19
  go_wp2_with (go_at_call 40; refine (prefuses_nil a w).mono ?_; rintro e w1 ⟨rfl, rfl⟩)
  go_ret
  exact ⟨rfl, rfl⟩
theorem pin_nil (a : Int) (w : World) : Calls Tryz.prog 29 #[.pointer none, .int .i64 a] w fun e w' => e = .returned (.int .i64 18) ∧ w = w' := by
  go_enter Tryz.func29, Tryz.ntmps29
  go_wp2_with (go_at_call 40; refine (prefuses_nil a w).mono ?_; rintro e w1 ⟨rfl, rfl⟩)
  go_ret
  exact ⟨rfl, rfl⟩

section
variable {w : World} {S : Nat → Prop} {k q : Nat} {p : Pp}
/-- a page is held no more -/
theorem Pp.Ok.drop {N : Nat} (h : p.Ok N) (a : Int) : { p with hs := remH p.hs a : Pp }.Ok N :=
  ⟨h.d, h.room, Nat.le_trans (remH_le _ _) h.len, h.nd.rem _, h.srt, fun x hx => h.pg x (remH_mem hx).1, h.cg, fun x hx c hc => h.ap x (remH_mem hx).1 c hc, h.rd⟩
theorem drop_pk {N : Nat} (hok : p.Ok N) (a : Int) (ha : I64 a) (h : Pk w S k q p) : Calls Tryz.prog 42 #[.pointer (some ⟨q, 2, none⟩), .int .i64 a] w fun e w' => e = .returned (.tuple #[]) ∧ Pm w S k q { p with hs := remH p.hs a } w' := by
  obtain ⟨D, T, s1, s2, s3, s4⟩ := h
  cases hf : fndH p.hs a with
  | none =>
    refine (drop_none a ha hf s4).mono fun e w' hh => ⟨hh.1, ?_⟩
    rw [remH_none (fndH_none hf)]
    exact Pm.shelf (p := p) s1 s2 s3 hh.2
  | some x =>
    obtain ⟨hxm, hxa⟩ := fndH_some hf
    obtain ⟨X, Y, hXY⟩ := List.append_of_mem hxm
    have hnd := hok.nd
    have hlen : p.hs.length ≤ 1024 := by have := hok.len; have := hok.room; omega
    rw [hXY] at s4 hnd hlen
    have := drop_any (hxa ▸ ha) hnd hlen s4
    rw [hxa] at this
    refine this.mono fun e w' hh => ⟨hh.1, ?_⟩
    rw [hXY, ← hxa, remH_split hnd]
    exact Pm.shelf (p := p) s1 s2 s3 hh.2

theorem store_any (N : Nat) (a : Int) (ha : I64 a) (s : ByteArray) (hs : s.size ≤ maxLen) (hok : p.Ok N) (h : Pk w S k q p) :
    Calls Tryz.prog 19 #[.pointer (some ⟨q, 0, none⟩), .int .i64 a, .string s] w fun e w' => e = .returned (.int .i64 (p.stE a s : Nat)) ∧ Pm w S k q (p.st a s) w' := by
  have hrf := prefuses_any a h
  have HP := hid h
  unfold Pp.st Pp.stE
  by_cases hpg : isPg p.d.bs.length a
  case neg =>
    rw [if_pos hpg]
    rw [if_neg hpg] at hrf
    clear hpg h hok
    go_enter Tryz.func19, Tryz.ntmps19
    go_wp2_with (first
      | (go_at_call 40; refine hrf.mono ?_; clear hrf; rintro e w1 ⟨rfl, rfl⟩))
    go_ret
    exact ⟨rfl, Pm.refl HP.out⟩
  rw [if_neg (fun x => x hpg)]
  rw [if_pos hpg] at hrf
  unfold maxLen at hs
  by_cases hsz : s.size = 256
  case neg =>
    rw [if_pos hsz]
    have h2 : ((s.size : Int) != 256) = true := by simp; omega
    have h3 : ¬ (s.size : Int) = 256 := by omega
    clear hpg h hok hsz
    go_enter Tryz.func19, Tryz.ntmps19
    go_wp2_with (first
      | (go_at_call 40; refine hrf.mono ?_; clear hrf; rintro e w1 ⟨rfl, rfl⟩))
    go_ret
    exact ⟨rfl, Pm.refl HP.out⟩
  rw [if_neg (fun x => x hsz)]
  have h2 : ((s.size : Int) != 256) = false := by simp; omega
  have h3 : (s.size : Int) = 256 := by omega
  have hpi : Calls Tryz.prog 41 #[.pointer (some ⟨q, 2, none⟩), .int .i64 a] w fun e w' => e = .returned (.bool (pinned p.hs a)) ∧ w = w' := by
    obtain ⟨D, T, s1, s2, s3, s4⟩ := h
    exact hasPins_any a ha s4
  by_cases hpn : pinned p.hs a = true
  · rw [if_pos hpn]
    rw [hpn] at hpi
    clear hpg h hok hsz hpn
    go_enter Tryz.func19, Tryz.ntmps19
    go_wp2_with (first
      | (go_at_call 40; refine hrf.mono ?_; clear hrf; rintro e w1 ⟨rfl, rfl⟩)
      | (go_at_call 41; refine hpi.mono ?_; clear hpi; rintro e w1 ⟨rfl, rfl⟩))
    go_ret
    exact ⟨rfl, Pm.refl HP.out⟩
  · rw [if_neg hpn]
    have hpn2 : pinned p.hs a = false := by simpa using hpn
    rw [hpn2] at hpi
    have hdr := drop_pk hok a ha h
    have hcl : ∀ w1, _ := fun w1 => clone_any s w1 (by rw [hsz]; decide)
    have HCH : Hid (∀ w1 w2, Pm w S k q { p with hs := remH p.hs a } w1 → Below w1.heap.size w1 w2 → Calls Tryz.prog 43 #[.pointer (some ⟨q, 0, none⟩), .agg #[.int .i64 a, .string s]] w2 fun e w' => e = .returned (.tuple #[]) ∧ Pm w S k q { p with hs := remH p.hs a, ch := insC p.ch a s } w') := fun w1 w2 h1 hb => by
      obtain ⟨S1, t1, t2⟩ := (h1.on hb).pk
      refine (change_any a s hsz N (hok.drop a) (by have := hok.few; show p.ch.length ≤ _; omega) t1).mono fun e w' hh => ⟨hh.1, Pm.trans t2 (h1.on hb).keep hh.2⟩
    clear hpg h hok hsz hpn hpn2
    go_enter Tryz.func19, Tryz.ntmps19
    go_wp2_with (first
      | (go_at_call 40; refine hrf.mono ?_; clear hrf; rintro e w1 ⟨rfl, rfl⟩)
      | (go_at_call 41; refine hpi.mono ?_; clear hpi; rintro e w1 ⟨rfl, rfl⟩)
      | (go_at_call 42; refine hdr.mono ?_; clear hdr; rintro e w2 ⟨rfl, hm2⟩; have HM2 := hid hm2; clear hm2)
      | (go_at_call 39; refine (hcl _).mono ?_; clear hcl; rintro e w3 ⟨rfl, hb3⟩; have HB3 := hid hb3; clear hb3)
      | (go_at_call 43; refine (HCH.out _ _ HM2.out HB3.out).mono ?_; clear HCH; rintro e w4 ⟨rfl, hm4⟩; have HM4 := hid hm4; clear hm4))
    go_ret
    exact ⟨rfl, HM4.out⟩

theorem fndH_snoc {hs : List Hp} {x : Hp} (h : ∀ y ∈ hs, ¬ y.pl = x.pl) : fndH (hs ++ [x]) x.pl = some x := by
  unfold fndH
  rw [List.find?_append, List.find?_eq_none.2 (by simpa using h)]
  simp
/-- behind Load it is held, unless it is changed or there is no room -/
theorem Pp.ld_has {N : Nat} (hok : p.Ok N) {a : Int} (h1 : isPg p.d.bs.length a) (h2 : fndC p.ch a = none) (h3 : ¬ ((fndH p.hs a).isNone ∧ fullH p.room p.hs = true)) (h4 : p.ldE a = 0) : ∃ x, fndH (p.ld a).hs a = some x := by
  unfold Pp.ld
  rw [if_neg (fun x => x h1), h2]
  cases hf : fndH p.hs a with
  | some x =>
    obtain ⟨hx, rfl⟩ := fndH_some hf
    exact ⟨x, fndH_snoc (fun y hy => (remH_mem hy).2)⟩
  | none =>
    have hr : p.d.rdE a = 0 := by unfold Pp.ldE at h4; rw [if_neg (fun x => x h1), h2, hf] at h4; exact h4
    simp only [hr, if_true]
    rw [hf] at h3
    refine ⟨⟨a, 0, p.d.rdS a⟩, ?_⟩
    show fndH (holdH p.room p.hs a (p.d.rdS a)) a = _
    unfold holdH
    split
    · exact fndH_snoc (x := ⟨a, 0, p.d.rdS a⟩) (fndH_none hf)
    · rename_i hl
      cases hfr : freeH p.hs with
      | none =>
        exfalso
        apply h3
        refine ⟨rfl, ?_⟩
        unfold fullH
        rw [hfr, decide_eq_true (by omega)]
        rfl
      | some f => exact fndH_snoc (x := ⟨a, 0, p.d.rdS a⟩) (fun y hy => fndH_none hf y (remH_mem hy).1)

theorem pin_pk {N : Nat} (hN : N < 4611686018427387000) (hok : p.Ok N) (a : Int) (ha : I64 a) {x : Hp} (hx : fndH p.hs a = some x) (h : Pk w S k q p) : Calls Tryz.prog 63 #[.pointer (some ⟨q, 2, none⟩), .int .i64 a, .int .i64 1] w fun e w' => e = .returned (.tuple #[]) ∧ Pm w S k q { p with hs := pinH p.hs a (· + 1) } w' := by
  obtain ⟨D, T, s1, s2, s3, s4⟩ := h
  have hxm := (hok.pg x (fndH_some hx).1).2.2
  refine (pin_any a 1 ha s4 (by have := hok.len; have := hok.room; omega) hx (fun n => n + 1) (by omega) (by omega)).mono fun e w' hh => ⟨hh.1, Pm.shelf (p := p) s1 s2 s3 hh.2⟩

set_option maxHeartbeats 1000000 in
theorem ppin_any (N : Nat) (hN : N < 4611686018427386000) (a : Int) (hok : p.Ok N) (h : Pk w S k q p) :
    Calls Tryz.prog 29 #[.pointer (some ⟨q, 0, none⟩), .int .i64 a] w fun e w' => e = .returned (.int .i64 (p.piE a : Nat)) ∧ Pm w S k q (p.pi a) w' := by
  have hrf := prefuses_any a h
  have HP := hid h
  by_cases hpg : isPg p.d.bs.length a
  case neg =>
    have e1 : p.piE a = 1 := by unfold Pp.piE; rw [if_pos hpg]
    have e2 : p.pi a = p := by unfold Pp.pi; rw [e1, if_neg (by decide)]
    rw [e1, e2]
    rw [if_neg hpg] at hrf
    clear hpg h hok e1 e2
    go_enter Tryz.func29, Tryz.ntmps29
    go_wp2_with (first
      | (go_at_call 40; refine hrf.mono ?_; clear hrf; rintro e w1 ⟨rfl, rfl⟩))
    go_ret
    exact ⟨rfl, Pm.refl HP.out⟩
  rw [if_pos hpg] at hrf
  have ha := isPg_i64 hok.d.lo hok.d.hi hpg
  obtain ⟨A, M, B, hc, hA, hB, hM⟩ := hok.srt.cut a
  have hfi := find_any a hc (Nat.le_trans hok.few (by omega)) hA hB hM h
  have hfc : fndC p.ch a = M.head? := by rw [hc]; exact fndC_cut hA hB hM
  rcases hM with rfl | ⟨c, rfl, hca⟩
  case inr =>
    have e1 : p.piE a = 19 := by unfold Pp.piE; rw [if_neg (fun x => x hpg), hfc]; rfl
    have e2 : p.pi a = p := by unfold Pp.pi; rw [e1, if_neg (by decide)]
    rw [e1, e2]
    clear hpg h hok e1 e2 hc hA hB hfc
    go_enter Tryz.func29, Tryz.ntmps29
    go_wp2_with (first
      | (go_at_call 40; refine hrf.mono ?_; clear hrf; rintro e w1 ⟨rfl, rfl⟩)
      | (go_at_call 44; refine hfi.mono ?_; clear hfi; rintro e w2 ⟨rfl, hb2⟩; have HB2 := hid hb2; clear hb2))
    go_ret
    exact ⟨rfl, (Pm.refl HP.out).on HB2.out⟩
  have hfc0 : fndC p.ch a = none := hfc
  have HHA : Hid (∀ w1, Below w.heap.size w w1 → Calls Tryz.prog 61 #[.pointer (some ⟨q, 2, none⟩), .int .i64 a] w1 fun e w' => e = .returned (.bool (fndH p.hs a).isSome) ∧ Below w1.heap.size w1 w') := fun w1 hb => by
    obtain ⟨D, T, s1, s2, s3, s4⟩ := h.on hb
    exact has_any a ha s4
  have HFU : Hid (∀ w1, Below w.heap.size w w1 → Calls Tryz.prog 62 #[.pointer (some ⟨q, 2, none⟩)] w1 fun e w' => e = .returned (.bool (fullH p.room p.hs)) ∧ Below w1.heap.size w1 w') := fun w1 hb => by
    obtain ⟨D, T, s1, s2, s3, s4⟩ := h.on hb
    exact full_any hok.nd (by have := hok.len; have := hok.room; omega) hok.i64 s4
  have HLD : Hid (∀ w1, Below w.heap.size w w1 → Calls Tryz.prog 21 #[.pointer (some ⟨q, 0, none⟩), .int .i64 a] w1 fun e w' => e = .returned (.tuple #[.string (p.ldS a), .int .i64 (p.ldE a : Nat)]) ∧ Pm w S k q (p.ld a) w') := fun w1 hb => (load_any N (by omega) a hok (h.on hb)).mono fun e w' hh => ⟨hh.1, hh.2.base hb⟩
  by_cases hfull : (fndH p.hs a).isNone ∧ fullH p.room p.hs = true
  · have e1 : p.piE a = 10 := by unfold Pp.piE; rw [if_neg (fun x => x hpg), hfc0]; rw [if_neg (by simp), if_pos hfull]
    have e2 : p.pi a = p := by unfold Pp.pi; rw [e1, if_neg (by decide)]
    rw [e1, e2]
    obtain ⟨g1, g2⟩ := hfull
    rw [g2] at HFU
    have g3 : (fndH p.hs a).isSome = false := by rw [Option.isNone_iff_eq_none] at g1; rw [g1]; rfl
    rw [g3] at HHA
    clear hpg h hok e1 e2 hc hA hB hfc hfc0 g1 g2 g3 HLD
    go_enter Tryz.func29, Tryz.ntmps29
    go_wp2_with (first
      | (go_at_call 40; refine hrf.mono ?_; clear hrf; rintro e w1 ⟨rfl, rfl⟩)
      | (go_at_call 44; refine hfi.mono ?_; clear hfi; rintro e w2 ⟨rfl, hb2⟩; have HB2 := hid hb2; clear hb2)
      | (go_at_call 61; refine (HHA.out _ HB2.out).mono ?_; clear HHA; rintro e w3 ⟨rfl, hb3⟩; have HB3 := hid (HB2.out.trans (hb3.mono HB2.out.size)); clear hb3)
      | (go_at_call 62; refine (HFU.out _ HB3.out).mono ?_; clear HFU; rintro e w4 ⟨rfl, hb4⟩; have HB4 := hid (HB3.out.trans (hb4.mono HB3.out.size)); clear hb4))
    go_ret
    exact ⟨rfl, (Pm.refl HP.out).on HB4.out⟩
  have e1 : p.piE a = p.ldE a := by unfold Pp.piE; rw [if_neg (fun x => x hpg), hfc0]; rw [if_neg (by simp), if_neg hfull]
  -- the question of room, either way
  have HRO : Hid ((fndH p.hs a).isSome = true ∨ (fndH p.hs a).isSome = false ∧ fullH p.room p.hs = false) := by
    cases hz : fndH p.hs a with
    | some x => exact .inl rfl
    | none =>
      refine .inr ⟨rfl, ?_⟩
      rw [hz] at hfull
      simpa using hfull
  by_cases hld : p.ldE a = 0
  · have e2 : p.pi a = { p.ld a with hs := pinH (p.ld a).hs a (· + 1) } := by unfold Pp.pi; rw [e1, hld, if_pos rfl]
    rw [e1, e2, hld]
    rw [hld] at HLD
    obtain ⟨x, hx⟩ := Pp.ld_has hok hpg hfc0 hfull hld
    have HPI : Hid (∀ w1, Pm w S k q (p.ld a) w1 → Calls Tryz.prog 63 #[.pointer (some ⟨q, 2, none⟩), .int .i64 a, .int .i64 1] w1 fun e w' => e = .returned (.tuple #[]) ∧ Pm w S k q { p.ld a with hs := pinH (p.ld a).hs a (· + 1) } w') := fun w1 hm => by
      obtain ⟨S1, t1, t2⟩ := hm.pk
      exact (pin_pk (N := N + 1) (by omega) (hok.ld a) a ha hx t1).mono fun e w' hh => ⟨hh.1, Pm.trans t2 hm.keep hh.2⟩
    clear hpg h hok e1 e2 hc hA hB hfc hfc0 hx hfull hld
    rcases HRO.out with g1 | ⟨g1, g2⟩
    · rw [g1] at HHA
      clear g1 HRO
      go_enter Tryz.func29, Tryz.ntmps29
      go_wp2_with (first
        | (go_at_call 40; refine hrf.mono ?_; clear hrf; rintro e w1 ⟨rfl, rfl⟩)
        | (go_at_call 44; refine hfi.mono ?_; clear hfi; rintro e w2 ⟨rfl, hb2⟩; have HB2 := hid hb2; clear hb2)
        | (go_at_call 61; refine (HHA.out _ HB2.out).mono ?_; clear HHA; rintro e w3 ⟨rfl, hb3⟩; have HB3 := hid (HB2.out.trans (hb3.mono HB2.out.size)); clear hb3)
        | (go_at_call 21; refine (HLD.out _ HB3.out).mono ?_; clear HLD; rintro e w4 ⟨rfl, hm4⟩; have HM4 := hid hm4; clear hm4)
        | (go_at_call 63; refine (HPI.out _ HM4.out).mono ?_; clear HPI; rintro e w5 ⟨rfl, hm5⟩; have HM5 := hid hm5; clear hm5))
      go_ret
      exact ⟨rfl, HM5.out⟩
    · rw [g1] at HHA
      rw [g2] at HFU
      clear g1 g2 HRO
      go_enter Tryz.func29, Tryz.ntmps29
      go_wp2_with (first
        | (go_at_call 40; refine hrf.mono ?_; clear hrf; rintro e w1 ⟨rfl, rfl⟩)
        | (go_at_call 44; refine hfi.mono ?_; clear hfi; rintro e w2 ⟨rfl, hb2⟩; have HB2 := hid hb2; clear hb2)
        | (go_at_call 61; refine (HHA.out _ HB2.out).mono ?_; clear HHA; rintro e w3 ⟨rfl, hb3⟩; have HB3 := hid (HB2.out.trans (hb3.mono HB2.out.size)); clear hb3)
        | (go_at_call 62; refine (HFU.out _ HB3.out).mono ?_; clear HFU; rintro e w6 ⟨rfl, hb6⟩; have HB6 := hid (HB3.out.trans (hb6.mono HB3.out.size)); clear hb6)
        | (go_at_call 21; refine (HLD.out _ HB6.out).mono ?_; clear HLD; rintro e w4 ⟨rfl, hm4⟩; have HM4 := hid hm4; clear hm4)
        | (go_at_call 63; refine (HPI.out _ HM4.out).mono ?_; clear HPI; rintro e w5 ⟨rfl, hm5⟩; have HM5 := hid hm5; clear hm5))
      go_ret
      exact ⟨rfl, HM5.out⟩
  · have e2 : p.pi a = p := by unfold Pp.pi; rw [e1, if_neg hld]
    have e3 : p.ld a = p := by
      unfold Pp.ldE at hld
      unfold Pp.ld
      rw [if_neg (fun x => x hpg), hfc0] at hld
      rw [if_neg (fun x => x hpg), hfc0]
      cases hz : fndH p.hs a with
      | some x => rw [hz] at hld; exact absurd rfl hld
      | none =>
        rw [hz] at hld
        have : ¬ p.d.rdE a = 0 := hld
        simp only [if_neg this]
    rw [e1, e2]
    rw [e3] at HLD
    obtain ⟨r, hr⟩ : ∃ r, p.ldE a = r := ⟨_, rfl⟩
    rw [hr] at HLD hld ⊢
    have hrn : ((r : Int) != 0) = true := by simp; omega
    have hrz : ¬ (r : Int) = 0 := by omega
    generalize p.ldS a = ss at *
    clear hpg h hok e1 e2 hc hA hB hfc hfc0 hfull hld e3 hr
    rcases HRO.out with g1 | ⟨g1, g2⟩
    · rw [g1] at HHA
      clear g1 HRO
      go_enter Tryz.func29, Tryz.ntmps29
      go_wp2_with (first
        | (go_at_call 40; refine hrf.mono ?_; clear hrf; rintro e w1 ⟨rfl, rfl⟩)
        | (go_at_call 44; refine hfi.mono ?_; clear hfi; rintro e w2 ⟨rfl, hb2⟩; have HB2 := hid hb2; clear hb2)
        | (go_at_call 61; refine (HHA.out _ HB2.out).mono ?_; clear HHA; rintro e w3 ⟨rfl, hb3⟩; have HB3 := hid (HB2.out.trans (hb3.mono HB2.out.size)); clear hb3)
        | (go_at_call 21; refine (HLD.out _ HB3.out).mono ?_; clear HLD; rintro e w4 ⟨rfl, hm4⟩; have HM4 := hid hm4; clear hm4))
      go_ret
      exact ⟨rfl, HM4.out⟩
    · rw [g1] at HHA
      rw [g2] at HFU
      clear g1 g2 HRO
      go_enter Tryz.func29, Tryz.ntmps29
      go_wp2_with (first
        | (go_at_call 40; refine hrf.mono ?_; clear hrf; rintro e w1 ⟨rfl, rfl⟩)
        | (go_at_call 44; refine hfi.mono ?_; clear hfi; rintro e w2 ⟨rfl, hb2⟩; have HB2 := hid hb2; clear hb2)
        | (go_at_call 61; refine (HHA.out _ HB2.out).mono ?_; clear HHA; rintro e w3 ⟨rfl, hb3⟩; have HB3 := hid (HB2.out.trans (hb3.mono HB2.out.size)); clear hb3)
        | (go_at_call 62; refine (HFU.out _ HB3.out).mono ?_; clear HFU; rintro e w6 ⟨rfl, hb6⟩; have HB6 := hid (HB3.out.trans (hb6.mono HB3.out.size)); clear hb6)
        | (go_at_call 21; refine (HLD.out _ HB6.out).mono ?_; clear HLD; rintro e w4 ⟨rfl, hm4⟩; have HM4 := hid hm4; clear hm4))
      go_ret
      exact ⟨rfl, HM4.out⟩
end

end Go.Proofs.YtoecopmbaoklkaaGreat
