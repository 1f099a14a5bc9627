/-
  What Commit does.
-/
import Derived.Test.YtjcbaiohpdihoaaGreatDoorPf
namespace Go.Proofs.YtjcbaiohpdihoaaGreatDoor
open Go.RowKit
set_option linter.unusedVariables false
set_option linter.unusedSimpArgs false
set_option maxRecDepth 100000

theorem store_nil (a : Int) (s : ByteArray) (w : World) : Calls Tryz.prog 59 #[.pointer none, .int .i64 a, .string s] w fun e w' => e = .returned (.int .i64 18) ∧ w = w' := by
  go_enter Tryz.func59, Tryz.ntmps59
  go_wp2_with (go_at_call 100; refine (prefuses_nil a w).mono ?_; rintro e w1 ⟨rfl, rfl⟩)
  go_ret
  exact ⟨rfl, rfl⟩
section
variable {w : World} {S : Nat → Prop} {k q : Nat} {p : Pp}
/-- a page is held no more -/
theorem Pp.Ok.drop {N : Nat} (h : p.Ok N) (a : Int) : { p with hs := remH p.hs a : Pp }.Ok N :=
  ⟨h.d, h.room, Nat.le_trans (remH_le _ _) h.len, h.nd.rem _, h.srt, fun x hx => h.pg x (remH_mem hx).1, h.cg, fun x hx c hc => h.ap x (remH_mem hx).1 c hc, h.rd⟩
theorem drop_pk {N : Nat} (hok : p.Ok N) (a : Int) (ha : I64 a) (h : Pk w S k q p) : Calls Tryz.prog 102 #[.pointer (some ⟨q, 2, none⟩), .int .i64 a] w fun e w' => e = .returned (.tuple #[]) ∧ Pm w S k q { p with hs := remH p.hs a } w' := by
  obtain ⟨D, T, s1, s2, s3, s4⟩ := h
  cases hf : fndH p.hs a with
  | none =>
    refine (drop_none a ha hf s4).mono fun e w' hh => ⟨hh.1, ?_⟩
    rw [remH_none (fndH_none hf)]
    exact Pm.shelf (p := p) s1 s2 s3 hh.2
  | some x =>
    obtain ⟨hxm, hxa⟩ := fndH_some hf
    obtain ⟨X, Y, hXY⟩ := List.append_of_mem hxm
    have hnd := hok.nd
    have hlen : p.hs.length ≤ 1024 := by have := hok.len; have := hok.room; omega
    rw [hXY] at s4 hnd hlen
    have := drop_any (hxa ▸ ha) hnd hlen s4
    rw [hxa] at this
    refine this.mono fun e w' hh => ⟨hh.1, ?_⟩
    rw [hXY, ← hxa, remH_split hnd]
    exact Pm.shelf (p := p) s1 s2 s3 hh.2

theorem store_any (N : Nat) (a : Int) (ha : I64 a) (s : ByteArray) (hs : s.size ≤ maxLen) (hok : p.Ok N) (h : Pk w S k q p) :
    Calls Tryz.prog 59 #[.pointer (some ⟨q, 0, none⟩), .int .i64 a, .string s] w fun e w' => e = .returned (.int .i64 (p.stE a s : Nat)) ∧ Pm w S k q (p.st a s) w' := by
  have hrf := prefuses_any a h
  have HP := hid h
  unfold Pp.st Pp.stE
  by_cases hpg : isPg p.d.bs.length a
  case neg =>
    rw [if_pos hpg]
    rw [if_neg hpg] at hrf
    clear hpg h hok
    go_enter Tryz.func59, Tryz.ntmps59
    go_wp2_with (first
      | (go_at_call 100; refine hrf.mono ?_; clear hrf; rintro e w1 ⟨rfl, rfl⟩))
    go_ret
    exact ⟨rfl, Pm.refl HP.out⟩
  rw [if_neg (fun x => x hpg)]
  rw [if_pos hpg] at hrf
  unfold maxLen at hs
  by_cases hsz : s.size = 256
  case neg =>
    rw [if_pos hsz]
    have h2 : ((s.size : Int) != 256) = true := by simp; omega
    have h3 : ¬ (s.size : Int) = 256 := by omega
    clear hpg h hok hsz
    go_enter Tryz.func59, Tryz.ntmps59
    go_wp2_with (first
      | (go_at_call 100; refine hrf.mono ?_; clear hrf; rintro e w1 ⟨rfl, rfl⟩))
    go_ret
    exact ⟨rfl, Pm.refl HP.out⟩
  rw [if_neg (fun x => x hsz)]
  have h2 : ((s.size : Int) != 256) = false := by simp; omega
  have h3 : (s.size : Int) = 256 := by omega
  have hpi : Calls Tryz.prog 101 #[.pointer (some ⟨q, 2, none⟩), .int .i64 a] w fun e w' => e = .returned (.bool (pinned p.hs a)) ∧ w = w' := by
    obtain ⟨D, T, s1, s2, s3, s4⟩ := h
    exact hasPins_any a ha s4
  by_cases hpn : pinned p.hs a = true
  · rw [if_pos hpn]
    rw [hpn] at hpi
    clear hpg h hok hsz hpn
    go_enter Tryz.func59, Tryz.ntmps59
    go_wp2_with (first
      | (go_at_call 100; refine hrf.mono ?_; clear hrf; rintro e w1 ⟨rfl, rfl⟩)
      | (go_at_call 101; refine hpi.mono ?_; clear hpi; rintro e w1 ⟨rfl, rfl⟩))
    go_ret
    exact ⟨rfl, Pm.refl HP.out⟩
  · rw [if_neg hpn]
    have hpn2 : pinned p.hs a = false := by simpa using hpn
    rw [hpn2] at hpi
    have hdr := drop_pk hok a ha h
    have hcl : ∀ w1, _ := fun w1 => clone_any s w1 (by rw [hsz]; decide)
    have HCH : Hid (∀ w1 w2, Pm w S k q { p with hs := remH p.hs a } w1 → Below w1.heap.size w1 w2 → Calls Tryz.prog 103 #[.pointer (some ⟨q, 0, none⟩), .agg #[.int .i64 a, .string s]] w2 fun e w' => e = .returned (.tuple #[]) ∧ Pm w S k q { p with hs := remH p.hs a, ch := insC p.ch a s } w') := fun w1 w2 h1 hb => by
      obtain ⟨S1, t1, t2⟩ := (h1.on hb).pk
      refine (change_any a s hsz N (hok.drop a) (by have := hok.few; show p.ch.length ≤ _; omega) t1).mono fun e w' hh => ⟨hh.1, Pm.trans t2 (h1.on hb).keep hh.2⟩
    clear hpg h hok hsz hpn hpn2
    go_enter Tryz.func59, Tryz.ntmps59
    go_wp2_with (first
      | (go_at_call 100; refine hrf.mono ?_; clear hrf; rintro e w1 ⟨rfl, rfl⟩)
      | (go_at_call 101; refine hpi.mono ?_; clear hpi; rintro e w1 ⟨rfl, rfl⟩)
      | (go_at_call 102; refine hdr.mono ?_; clear hdr; rintro e w2 ⟨rfl, hm2⟩; have HM2 := hid hm2; clear hm2)
      | (go_at_call 104; refine (hcl _).mono ?_; clear hcl; rintro e w3 ⟨rfl, hb3⟩; have HB3 := hid hb3; clear hb3)
      | (go_at_call 103; refine (HCH.out _ _ HM2.out HB3.out).mono ?_; clear HCH; rintro e w4 ⟨rfl, hm4⟩; have HM4 := hid hm4; clear hm4))
    go_ret
    exact ⟨rfl, HM4.out⟩

theorem fndH_snoc {hs : List Hp} {x : Hp} (h : ∀ y ∈ hs, ¬ y.pl = x.pl) : fndH (hs ++ [x]) x.pl = some x := by
  unfold fndH
  rw [List.find?_append, List.find?_eq_none.2 (by simpa using h)]
  simp
/-- behind Load it is held, unless it is changed or there is no room -/
theorem Pp.ld_has {N : Nat} (hok : p.Ok N) {a : Int} (h1 : isPg p.d.bs.length a) (h2 : fndC p.ch a = none) (h3 : ¬ ((fndH p.hs a).isNone ∧ fullH p.room p.hs = true)) (h4 : p.ldE a = 0) : ∃ x, fndH (p.ld a).hs a = some x := by
  unfold Pp.ld
  rw [if_neg (fun x => x h1), h2]
  cases hf : fndH p.hs a with
  | some x =>
    obtain ⟨hx, rfl⟩ := fndH_some hf
    exact ⟨x, fndH_snoc (fun y hy => (remH_mem hy).2)⟩
  | none =>
    have hr : p.d.rdE a = 0 := by unfold Pp.ldE at h4; rw [if_neg (fun x => x h1), h2, hf] at h4; exact h4
    simp only [hr, if_true]
    rw [hf] at h3
    refine ⟨⟨a, 0, p.d.rdS a⟩, ?_⟩
    show fndH (holdH p.room p.hs a (p.d.rdS a)) a = _
    unfold holdH
    split
    · exact fndH_snoc (x := ⟨a, 0, p.d.rdS a⟩) (fndH_none hf)
    · rename_i hl
      cases hfr : freeH p.hs with
      | none =>
        exfalso
        apply h3
        refine ⟨rfl, ?_⟩
        unfold fullH
        rw [hfr, decide_eq_true (by omega)]
        rfl
      | some f => exact fndH_snoc (x := ⟨a, 0, p.d.rdS a⟩) (fun y hy => fndH_none hf y (remH_mem hy).1)

end

theorem dirty_nil (w : World) : Calls Tryz.prog 105 #[.pointer none] w fun e w' => e = .returned (.slice none 0 0) ∧ w = w' := by
  go_enter Tryz.func105, Tryz.ntmps105
  go_wp2
  go_ret
  exact ⟨rfl, rfl⟩
theorem pcommit_nil (w : World) : Calls Tryz.prog 108 #[.pointer none] w fun e w' => e = .returned (.int .i64 18) ∧ w = w' := by
  go_enter Tryz.func108, Tryz.ntmps108
  go_wp2
  go_ret
  exact ⟨rfl, rfl⟩
theorem zeros_made (n : Nat) : (madeCells (Value.int .i64 0).cells (n * 1)).toList = (List.replicate n (0 : Int)).map (Value.int .i64) := by
  simp [Value.cells, toList_madeCells_one]

section
variable {w : World} {S : Nat → Prop} {k q : Nat} {p : Pp}

set_option maxHeartbeats 1000000 in
theorem dirty_any (hl : p.ch.length ≤ 2000) (h : Pk w S k q p) : Calls Tryz.prog 105 #[.pointer (some ⟨q, 0, none⟩)] w fun e w' => ∃ v', e = .returned v' ∧ RowI w' w.heap.size v' (p.ch.map Pg.pl) ∧ Below w.heap.size w w' := by
  obtain ⟨i0, hi, hz0, hz1, hz2⟩ := info_parts info3
  obtain ⟨D, T, _, _, _, _, _, cv, uv, m, hb3, hr, _⟩ := h
  obtain ⟨va, vc, e1⟩ := own_form hr
  subst e1
  have c1 : w.cell? ⟨q, 1, none⟩ = some (.slice va p.ch.length vc) := hb3.cell (i := 1) rfl
  have hql := hb3.lt
  have HR := hid hr
  generalize p.ch = L at *
  obtain ⟨n, hnn⟩ : ∃ n, L.length = n := ⟨_, rfl⟩
  have HN := hid hnn
  rw [hnn] at c1 hl
  clear hb3 hr
  rw [hnn] at HR
  clear hnn
  have HK : Hid (∀ w5, Below w.heap.size w w5 → w5.cell? ⟨q, 1, none⟩ = some (.slice va n vc)) := fun w5 hb => (hb.cell (p := ⟨q, 1, none⟩) hql).trans c1
  clear hql
  go_enter Tryz.func105, Tryz.ntmps105
  go_wp2_with (first
    | (at_make; refine wpList_make_full _ rfl (.tmp 12) (.tmp 12) 40 rfl w.heap.size 3 i0 (.int .i64 0) 1 Tryz.underlying40 hi hz0 hz1 .i64 .i64 _ _ n rfl rfl rfl rfl (by rw [hz2]; omega) (by unfold maxLen; omega) (Nat.le_refl _) ?_; intro w1 hown hgrow; have HB1 := hid ((Below.refl _ w).grown hgrow (Nat.le_refl _) (fun k hk => by cases hk)); have c11 := HK.out w1 HB1.out; have HO1 := hid hown; clear hown hgrow c1))
  clear HK c11
  go_loopw [19] (fun i wr => ∃ j : Nat, j ≤ n ∧ i = .int .i64 (j : Nat) ∧ Hid (wr.ownsRow w.heap.size 3 1 (.slice (some ⟨w.heap.size, 0, none⟩) n n) n (((L.take j).map Pg.pl ++ List.replicate (n - j) 0).map (Value.int .i64))) ∧ Hid (Below w.heap.size w wr)) (fun i _ => n - (intOf i).toNat)
  case atStart =>
    refine ⟨0, Nat.zero_le _, rfl, ?_, HB1⟩
    have h1 := HO1.out
    rw [zeros_made] at h1
    exact h1
  case round =>
    obtain ⟨j, hj, rfl, HO, HB⟩ := hrel
    clear HO1 HB1
    by_cases hjn : j < n
    · have hji : (j : Int) < (n : Int) := by omega
      obtain ⟨c, hc⟩ : ∃ c, L[j]? = some c := ⟨_, List.getElem?_eq_getElem (by rw [HN.out]; exact hjn)⟩
      obtain ⟨g, e1, _, hgl⟩ := row_some HR.out (by rw [HN.out]; omega)
      subst e1
      have HR2 := hid (HR.out)
      obtain ⟨d0, d1, _⟩ := RowP.at HR.out hc
      have c0 : wr.cell? ⟨g, j * 2, none⟩ = some (.int .i64 c.pl) := (HB.out.cell (p := ⟨g, j * 2, none⟩) hgl).trans d0
      have c1 : wr.cell? ⟨g, j * 2 + 1, none⟩ = some (.string c.data) := (HB.out.cell (p := ⟨g, j * 2 + 1, none⟩) hgl).trans d1
      obtain ⟨W, hW⟩ : ∃ W, wr.alloc (.cells #[.int .i64 c.pl, .string c.data] 110) = W := ⟨_, rfl⟩
      have hbW : Below wr.heap.size wr W := by rw [← hW]; exact (Below.refl _ _).alloc (Nat.le_refl _) _
      have bW : Blk W wr.heap.size #[.int .i64 c.pl, .string c.data] 110 := by rw [← hW]; exact Blk.made _ _ _
      have x0 := bW.cell (i := 0) rfl
      have hOW := own_below HO.out hbW
      obtain ⟨_, _, e2, _, _, hcc⟩ := own_cells hOW
      cases e2
      have hl1 : ((L.take j).map Pg.pl).length = j := by rw [List.length_map, List.length_take, HN.out]; omega
      obtain ⟨g2, e3, _, _, y0, z0⟩ := hcc j (.int .i64 0) (by
        rw [List.getElem?_map, List.getElem?_append_right (by omega), hl1, Nat.sub_self, List.getElem?_replicate, if_pos (by omega)]
        rfl)
      cases e3
      have HO3 : Hid ((W.setCell ⟨w.heap.size, j, none⟩ (.int .i64 c.pl)).ownsRow w.heap.size 3 1 (.slice (some ⟨w.heap.size, 0, none⟩) n n) n (((L.take (j + 1)).map Pg.pl ++ List.replicate (n - (j + 1)) 0).map (Value.int .i64))) := by
        have h2 := own_set hOW j (.int .i64 c.pl)
        have e : (((L.take j).map Pg.pl ++ List.replicate (n - j) 0).map (Value.int .i64)).set j (.int .i64 c.pl) = (((L.take (j + 1)).map Pg.pl ++ List.replicate (n - (j + 1)) 0).map (Value.int .i64)) := by
          rw [take_snoc hc, List.map_append, List.map_append, List.set_append_right _ _ (by rw [List.length_map, hl1]; exact Nat.le_refl _), List.length_map, hl1, Nat.sub_self, show n - j = (n - (j + 1)) + 1 by omega, List.replicate_succ, List.map_cons, List.set_cons_zero]
          simp
        rw [e] at h2
        exact h2
      have HB3 : Hid (Below w.heap.size w (W.setCell ⟨w.heap.size, j, none⟩ (.int .i64 c.pl))) := (HB.out.trans (hbW.mono HB.out.size)).setCell (p := ⟨w.heap.size, j, none⟩) (Nat.le_refl _) _
      clear hcc hOW HO HB bW hbW d0 d1 hc HR2 hgl hl1
      go_wp2_with fail
      try rw [hW]
      clear hW c0 c1
      go_wp2_with fail
      go_roundw
      case rel => exact ⟨j + 1, by omega, by go_num, HO3, HB3⟩
      case measure => simp [intOf]; omega
    · obtain rfl : j = n := by omega
      go_wp2_with fail
      go_ret
      refine ⟨_, rfl, ?_, HB.out⟩
      have h1 := HO.out
      rw [Nat.sub_self, List.replicate_zero, List.append_nil, List.take_of_length_le (by rw [HN.out]; exact Nat.le_refl _)] at h1
      unfold RowI
      rw [List.length_map, HN.out]
      exact h1
end

section
variable {w : World} {S : Nat → Prop} {k q : Nat} {p : Pp}

/-- the pages that were held ahead of number j -/
theorem held_part {N : Nat} (hok : p.Ok N) {j : Nat} {c : Pg} (hc : p.ch[j]? = some c) : NdH (holdAll p.room p.hs (p.ch.take j)) ∧ (holdAll p.room p.hs (p.ch.take j)).length ≤ p.room ∧ (∀ x ∈ holdAll p.room p.hs (p.ch.take j), I64 x.pl) ∧ fndH (holdAll p.room p.hs (p.ch.take j)) c.pl = none := by
  have hs : SrtC (p.ch.take j) := List.Pairwise.sublist (List.take_sublist _ _) hok.srt
  obtain ⟨h1, h2⟩ := holdAll_ok (room := p.room) hs hok.nd hok.len (fun h hh x hx => hok.ap h hh x (List.mem_of_mem_take hx))
  refine ⟨h1, h2, fun x hx => ?_, fndH_of (fun x hx => ?_)⟩
  · rcases holdAll_mem hx with ⟨y, hy, rfl⟩ | hx
    · exact isPg_i64 hok.d.lo hok.d.hi (hok.cg y (List.mem_of_mem_take hy)).1
    · exact hok.i64 x hx
  · rcases holdAll_mem hx with ⟨y, hy, rfl⟩ | hx
    · obtain ⟨i, hi⟩ := List.mem_iff_getElem?.1 hy
      rw [List.getElem?_take] at hi
      split at hi
      · rename_i hij
        have := List.pairwise_iff_getElem.1 hok.srt i j (List.getElem?_eq_some_iff.1 hi).1 (List.getElem?_eq_some_iff.1 hc).1 hij
        rw [(List.getElem?_eq_some_iff.1 hi).2, (List.getElem?_eq_some_iff.1 hc).2] at this
        show ¬ y.pl = c.pl
        omega
      · cases hi
    · exact hok.ap x hx c (List.mem_of_getElem? hc)
/-- behind the journal's Commit the changed pages are let go: their row is the pager's no more -/
theorem Pk.letgo {w2 : World} {d : Ds} {cv : Value} (h : Pk w S k q p) (h2 : Pm w S k q { p with d := d } w2) (hc : w.cell? ⟨q, 1, none⟩ = some cv) (hc2 : w2.cell? ⟨q, 1, none⟩ = some cv) :
    ∃ S3, Pk (w2.setCell ⟨q, 1, none⟩ (.slice none 0 0)) S3 k q { p with d := d, ch := [] } ∧ RowP (w2.setCell ⟨q, 1, none⟩ (.slice none 0 0)) 0 cv p.ch ∧ (∀ g, cv.ownBlock = some g → ¬ S3 g) ∧ Keep S w (w2.setCell ⟨q, 1, none⟩ (.slice none 0 0)) ∧ Grows S S3 w := by
  obtain ⟨S2, hp2, hg2⟩ := h2.pk
  have hk2 := h2.keep
  obtain ⟨D, T, s1, s2, s3, s4⟩ := hp2
  obtain ⟨t1, t2, cv', uv, m, t3, t4, t5, t6, t7, t8, t9⟩ := s4
  have e : some cv' = some cv := (t3.cell (i := 1) rfl).symm.trans hc2
  cases e
  have k3 : Keep (fun j => j = q) w2 (w2.setCell ⟨q, 1, none⟩ (.slice none 0 0)) := Keep.set (S := fun j => j = q) w2 rfl 1 _
  have hsz : (w2.setCell ⟨q, 1, none⟩ (.slice none 0 0)).heap.size = w2.heap.size := by simp [World.setCell]
  have hqS : S q ∨ w.heap.size ≤ q := hg2 q ((s1 q).2 (.inr t2))
  have hq : S q := by
    rcases hqS with h' | h'
    · exact h'
    · obtain ⟨_, _, _, hb⟩ := h.blk
      have := hb.lt
      omega
  refine ⟨fun j => D j ∨ (T j ∧ cv.ownBlock ≠ some j), ⟨D, fun j => T j ∧ cv.ownBlock ≠ some j, fun j => Iff.rfl, fun j hj ht => s2 j hj ht.1, k3.dk s3 (fun j hj e => s2 j hj (by subst e; exact t2)), ⟨fun j hj => by rw [hsz]; exact t1 j hj.1, ⟨t2, fun e => t3.ne t4 (by decide) e rfl⟩, .slice none 0 0, uv, m, t3.set 1 _, World.ownsRow_nil _ _ _ _, k3.row t5 (fun g e => t3.ne t5 (by decide) e), k3.imap t6 (fun e => (t6.ne_blk t3) e.symm), fun g e => (by simp [Value.ownBlock] at e), fun g e => ⟨t8 g e, fun e2 => rows_ne t4 t5 (by decide) e2 e⟩, ⟨t9, fun e => t6.ne_row t4 e rfl⟩⟩⟩, k3.row t4 (fun g e => t3.ne t4 (by decide) e), fun g e hj => ?_, hk2.trans (k3.mono (S' := S) (fun j _ e => by subst e; exact hq)) (fun _ _ h => h), fun j hj => ?_⟩
  · rcases hj with hj | hj
    · exact s2 g hj (t7 g e)
    · exact hj.2 e
  · rcases hj with hj | hj
    · exact hg2 j ((s1 j).2 (.inl hj))
    · exact hg2 j ((s1 j).2 (.inr hj.1))

set_option maxHeartbeats 2000000 in
theorem pcommit_any (N : Nat) (hok : p.Ok N) (hz : Fit (p.d.lg.length + 5000)) (h : Pk w S k q p) :
    Calls Tryz.prog 108 #[.pointer (some ⟨q, 0, none⟩)] w fun e w' => e = .returned (.int .i64 (p.cmE : Nat)) ∧ Pm w S k q p.cm w' := by
  have HP := hid h
  obtain ⟨cv, va, vc, hcv, c0, c1, hlt⟩ : ∃ cv va vc, cv = .slice va p.ch.length vc ∧ w.cell? ⟨q, 0, none⟩ = some (.pointer (some ⟨k, 0, none⟩)) ∧ w.cell? ⟨q, 1, none⟩ = some cv ∧ q < w.heap.size := by
    obtain ⟨D, T, _, _, _, _, _, cv, uv, m, hb3, hr, _⟩ := h
    obtain ⟨va, vc, e1⟩ := own_form hr
    exact ⟨cv, va, vc, e1, hb3.cell (i := 0) rfl, hb3.cell (i := 1) rfl, hb3.lt⟩
  have HCO : Hid (∀ w1, Below w.heap.size w w1 → Calls Tryz.prog 163 #[.pointer (some ⟨k, 0, none⟩), cv] w1 fun e w' => e = .returned (.int .i64 (p.cmE : Nat)) ∧ Pm w S k q { p with d := (cmt p.d p.ch).2 } w' ∧ w'.cell? ⟨q, 0, none⟩ = some (.pointer (some ⟨k, 0, none⟩)) ∧ w'.cell? ⟨q, 1, none⟩ = some cv ∧ w'.frozen? ⟨q, 1, none⟩ = false) := fun w1 hb => by
    obtain ⟨D, T, s1, s2, s3, s4⟩ := h
    have s5 := s4.on hb
    have s6 := s5
    obtain ⟨t1, t2, cv', uv, m, t3, t4, t5, t6, t7, t8, t9⟩ := s5
    have e : some cv' = some cv := ((t3.cell (i := 1) rfl).symm.trans (hb.cell (p := ⟨q, 1, none⟩) hlt)).trans c1
    cases e
    have hli : LiesO w1 D cv p.ch := RowP.lies t4 (fun g e hd => s2 g hd (t7 g e)) (fun x hx => by
      have h1 := hok.cg x hx
      have h2 := isPg_small hok.d.lo hok.d.hi h1.1
      refine ⟨by omega, by rw [h1.2]; decide⟩)
    refine (commit_any w1 D k p.d (s3.on hb) cv p.ch hli hz).mono fun e w' hh => ⟨hh.1, (Pm.disk (p := p) s1 s2 s6 hh.2).base hb, ?_⟩
    have b2 := hh.2.keep.blk t3 (fun hd => s2 q hd t2)
    exact ⟨b2.cell (i := 0) rfl, b2.cell (i := 1) rfl, b2.free 1⟩
  subst hcv
  have HK : Hid (∀ w5, Below w.heap.size w w5 → w5.cell? ⟨q, 0, none⟩ = some (.pointer (some ⟨k, 0, none⟩)) ∧ w5.cell? ⟨q, 1, none⟩ = some (.slice va p.ch.length vc)) := fun w5 hb => ⟨(hb.cell (p := ⟨q, 0, none⟩) hlt).trans c0, (hb.cell (p := ⟨q, 1, none⟩) hlt).trans c1⟩
  have HBd := hid ((Below.refl w.heap.size w).drew)
  have HS0 := HK.out _ HBd.out
  have HC1 := hid c1
  clear hlt c0 c1
  by_cases hr : p.cmE = 0
  · have e1 : p.cm = { p with d := (cmt p.d p.ch).2, ch := [], hs := holdAll p.room p.hs p.ch } := by unfold Pp.cm; rw [if_pos (show (cmt p.d p.ch).1 = 0 from hr)]
    rw [hr, e1]
    rw [hr] at HCO
    clear e1 hr
    have hfew := hok.few
    have HOK := hid hok
    have HLG : Hid (∀ w2, Pm w S k q { p with d := (cmt p.d p.ch).2 } w2 → w2.cell? ⟨q, 1, none⟩ = some (.slice va p.ch.length vc) → ∃ S3, Pk (w2.setCell ⟨q, 1, none⟩ (.slice none 0 0)) S3 k q { p with d := (cmt p.d p.ch).2, ch := [] } ∧ RowP (w2.setCell ⟨q, 1, none⟩ (.slice none 0 0)) 0 (.slice va p.ch.length vc) p.ch ∧ (∀ g, (Value.slice va p.ch.length vc).ownBlock = some g → ¬ S3 g) ∧ Keep S w (w2.setCell ⟨q, 1, none⟩ (.slice none 0 0)) ∧ Grows S S3 w) := fun w2 h1 h2 => Pk.letgo h h1 HC1.out h2
    generalize (cmt p.d p.ch).2 = d2 at *
    obtain ⟨n, hnn⟩ : ∃ n, p.ch.length = n := ⟨_, rfl⟩
    have HN := hid hnn
    rw [hnn] at HCO HK HS0 hfew HLG
    clear hnn h hok HC1 HK
    go_enter Tryz.func108, Tryz.ntmps108
    go_wp2_with fail
    go_region_held3 (fun w' => w'.cell? ⟨q, 0, none⟩ = some (.pointer (some ⟨k, 0, none⟩)) ∧ w'.cell? ⟨q, 1, none⟩ = some (.slice va n vc)) (first | exact HS0 | exact HS1)
      (first | (go_at_call 163; refine (HCO.out _ HBd.out).mono ?_; clear HCO; rintro e w2 ⟨rfl, hm2, c20, c21, f21⟩; have HM2 := hid hm2; have HS1 := And.intro c20 c21; clear hm2))
    obtain ⟨S3, hp3, hr3, hn3, hk3, hg3⟩ := HLG.out w2 HM2.out c21
    obtain ⟨w3, hw3⟩ : ∃ w3, w2.setCell ⟨q, 1, none⟩ (.slice none 0 0) = w3 := ⟨_, rfl⟩
    rw [hw3] at hp3 hr3 hk3
    have HP3 := hid hp3
    have HR3 := hid hr3
    have HN3 := hid hn3
    have HK3 := hid hk3
    have HG3 := hid hg3
    clear hp3 hr3 hn3 hk3 hg3 HLG HM2 HS0 HS1
    go_wp2_with fail
    try rw [hw3]
    clear hw3 c20 c21 f21
    go_loopw [30] (fun i wr => ∃ j : Nat, j ≤ n ∧ i = .int .i64 (j : Nat) ∧ Hid (Pm w3 S3 k q { p with d := d2, ch := [], hs := holdAll p.room p.hs (p.ch.take j) } wr)) (fun i _ => n - (intOf i).toNat)
    case atStart => exact ⟨0, Nat.zero_le _, rfl, Pm.refl HP3.out⟩
    case round =>
      obtain ⟨j, hj, rfl, HM⟩ := hrel
      by_cases hjn : j < n
      · have hji : (j : Int) < (n : Int) := by omega
        obtain ⟨c, hc⟩ : ∃ c, p.ch[j]? = some c := ⟨_, List.getElem?_eq_getElem (by rw [HN.out]; exact hjn)⟩
        have hrr := HM.out.keep.row HR3.out HN3.out
        obtain ⟨g, e1, _, hgl⟩ := row_some hrr (by rw [HN.out]; omega)
        subst e1
        obtain ⟨d0, d1, _⟩ := RowP.at hrr hc
        obtain ⟨W, hW⟩ : ∃ W, wr.alloc (.cells #[.int .i64 c.pl, .string c.data] 110) = W := ⟨_, rfl⟩
        have hbW : Below wr.heap.size wr W.drew := by rw [← hW]; exact ((Below.refl _ _).alloc (Nat.le_refl _) _).drew
        have bW : Blk W.drew wr.heap.size #[.int .i64 c.pl, .string c.data] 110 := by rw [← hW]; exact Blk.made _ _ _
        have HS0 : W.drew.cell? ⟨wr.heap.size, 0, none⟩ = some (.int .i64 c.pl) ∧ W.drew.cell? ⟨wr.heap.size, 1, none⟩ = some (.string c.data) := ⟨bW.cell (i := 0) rfl, bW.cell (i := 1) rfl⟩
        have HHO : Hid (Calls Tryz.prog 144 #[.pointer (some ⟨q, 2, none⟩), .int .i64 c.pl, .string c.data] W.drew fun e w' => e = .returned (.tuple #[]) ∧ Pm w3 S3 k q { p with d := d2, ch := [], hs := holdAll p.room p.hs (p.ch.take (j + 1)) } w') := by
          obtain ⟨q1, q2, q3, q4⟩ := held_part HOK.out hc
          have hm := HM.out.on hbW
          obtain ⟨S4, hp4, hg4⟩ := hm.pk
          obtain ⟨D, T, s1, s2, s3, s4⟩ := hp4
          have hcg := HOK.out.cg c (List.mem_of_getElem? hc)
          have hh := hold_any (w := W.drew) c.pl (isPg_i64 HOK.out.d.lo HOK.out.d.hi hcg.1) c.data (by rw [hcg.2]; decide) q1 (Nat.le_trans q2 HOK.out.room.2) HOK.out.room.2 q3 q4 s4
          refine hh.mono fun e w' hx => ⟨hx.1, ?_⟩
          have := Pm.trans hg4 hm.keep (Pm.shelf (p := { p with d := d2, ch := [], hs := holdAll p.room p.hs (p.ch.take j) }) s1 s2 s3 hx.2)
          have e9 : holdH p.room (holdAll p.room p.hs (p.ch.take j)) c.pl c.data = holdAll p.room p.hs (p.ch.take (j + 1)) := by
            rw [take_snoc hc, holdAll_append]
            rfl
          simp only [e9] at this
          exact this
        clear hrr hgl hbW bW HM hc
        go_wp2_with fail
        try rw [hW]
        clear hW d0 d1
        refine wp_region_d (fun w' => w'.cell? ⟨wr.heap.size, 0, none⟩ = some (.int .i64 c.pl) ∧ w'.cell? ⟨wr.heap.size, 1, none⟩ = some (.string c.data)) (fun i => i == 2 || i == 4 || i == 6) (by kernel_rfl) ?_
        refine wpAnyM_late (i := 0) (some 34) (v := ?vz1) rfl rfl (by kernel_rfl) (by kernel_rfl) (by kernel_rfl) (by kernel_rfl) (fun _ _ _ h => h) (Or.inl ⟨by rfl, ?hz1⟩) ?rz1
        case hz1 => intro w hSw; go_simp; try with_reducible rfl
        try simp only [Act.put, List.setIfInBounds_toArray, List.set_cons_zero, List.set_cons_succ]
        refine wpAnyM_late (i := 1) (some 35) (v := ?vz2) rfl rfl (by kernel_rfl) (by kernel_rfl) (by kernel_rfl) (by kernel_rfl) (fun _ _ _ h => h) (Or.inl ⟨by rfl, ?hz2⟩) ?rz2
        case hz2 => intro w hSw; go_simp; try with_reducible rfl
        try simp only [Act.put, List.setIfInBounds_toArray, List.set_cons_zero, List.set_cons_succ]
        refine wpAnyM_late (i := 3) (some 37) (v := ?vz3) rfl rfl (by kernel_rfl) (by kernel_rfl) (by kernel_rfl) (by kernel_rfl) (fun _ _ _ h => h) (Or.inl ⟨by rfl, ?hz3⟩) ?rz3
        case hz3 => intro w hSw; go_simp; try with_reducible rfl
        try simp only [Act.put, List.setIfInBounds_toArray, List.set_cons_zero, List.set_cons_succ]
        refine wpAnyM_late (i := 5) (some 39) (v := ?vz4) rfl rfl (by kernel_rfl) (by kernel_rfl) (by kernel_rfl) (by kernel_rfl) (fun _ _ _ h => h) (Or.inl ⟨by rfl, ?hz4⟩) ?rz4
        case hz4 => intro w hSw; go_simp; try with_reducible rfl
        try simp only [Act.put, List.setIfInBounds_toArray, List.set_cons_zero, List.set_cons_succ]
        refine wpAnyM_pick (i := 2) (some 36) (v := ?vz5) rfl rfl (by kernel_rfl) (by kernel_rfl) (by kernel_rfl) (by kernel_rfl) (fun _ _ _ h => h) (Or.inl ⟨by rfl, ?hz5⟩) HS0 ?rz5
        case hz5 => intro w hSw; go_simp; try with_reducible rfl
        try simp only [Act.put, List.setIfInBounds_toArray, List.set_cons_zero, List.set_cons_succ]
        refine wpAnyM_pick (i := 4) (some 38) (v := ?vz6) rfl rfl (by kernel_rfl) (by kernel_rfl) (by kernel_rfl) (by kernel_rfl) (fun _ _ _ h => h) (Or.inl ⟨by rfl, ?hz6⟩) HS0 ?rz6
        case hz6 => intro w hSw; go_simp; try with_reducible rfl
        try simp only [Act.put, List.setIfInBounds_toArray, List.set_cons_zero, List.set_cons_succ]
        refine wpAnyM_pick (i := 6) (some 40) (v := ?vz7) rfl rfl (by kernel_rfl) (by kernel_rfl) (by kernel_rfl) (by kernel_rfl) (fun _ _ _ h => h) (Or.inl ⟨by rfl, ?hz7⟩) HS0 ?rz7
        case hz7 => intro w hSw; go_simp; try with_reducible rfl
        try simp only [Act.put, List.setIfInBounds_toArray, List.set_cons_zero, List.set_cons_succ]
        refine wpAnyM_one (i := 7) (by kernel_rfl) rfl (fun K hK => ?_)
        go_simp
        go_at_call 144
        refine HHO.out.mono ?_
        clear HHO HS0
        rintro e w4 ⟨rfl, hm4⟩
        have HM4 := hid hm4
        clear hm4
        try go_simp
        refine hK.out _ _ (fun h => absurd h (by decide)) ?_
        clear hK K
        refine wpAnyM_done (by kernel_rfl) ?_ _
        try simp only [Act.put, List.setIfInBounds_toArray, List.set_cons_zero, List.set_cons_succ]
        go_wp2_with fail
        go_roundw
        case rel => exact ⟨j + 1, by omega, by go_num, HM4⟩
        case measure => simp [intOf]; omega
      · obtain rfl : j = n := by omega
        go_wp2_with fail
        go_ret
        refine ⟨rfl, Pm.trans HG3.out HK3.out ?_⟩
        have := HM.out
        rw [List.take_of_length_le (by rw [HN.out]; exact Nat.le_refl _)] at this
        exact this
  · have e1 : p.cm = { p with d := (cmt p.d p.ch).2 } := by unfold Pp.cm; rw [if_neg (show ¬ (cmt p.d p.ch).1 = 0 from hr)]
    rw [e1]
    clear e1
    generalize (cmt p.d p.ch).2 = d2 at *
    obtain ⟨r, hrr⟩ : ∃ r, p.cmE = r := ⟨_, rfl⟩
    rw [hrr] at hr HCO ⊢
    have hrn : ((r : Int) != 0) = true := by simp; omega
    have hrz : ¬ (r : Int) = 0 := by omega
    obtain ⟨n, hnn⟩ : ∃ n, p.ch.length = n := ⟨_, rfl⟩
    rw [hnn] at HCO HK HS0
    clear hnn h hok HC1 HK hrr
    go_enter Tryz.func108, Tryz.ntmps108
    go_wp2_with fail
    go_region_held3 (fun w' => w'.cell? ⟨q, 0, none⟩ = some (.pointer (some ⟨k, 0, none⟩)) ∧ w'.cell? ⟨q, 1, none⟩ = some (.slice va n vc)) (first | exact HS0 | exact HS1)
      (first | (go_at_call 163; refine (HCO.out _ HBd.out).mono ?_; clear HCO; rintro e w2 ⟨rfl, hm2, c20, c21, f21⟩; have HM2 := hid hm2; have HS1 := And.intro c20 c21; clear hm2))
    clear HS0 HS1 c20 c21 f21
    go_wp2_with fail
    go_ret
    exact ⟨rfl, HM2.out⟩
end

end Go.Proofs.YtjcbaiohpdihoaaGreatDoor
