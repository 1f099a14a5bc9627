/-
  What the program's Write does.
-/
import Derived.Test.YtjcbaiohpdihoaaGreatDoorDsk
import Derived.Test.YtjcbaiohpdihoaaGreatDoorRi
import Derived.Test.YtjcbaiohpdihoaaGreatDoorApp
import Derived.Deep.DeepCutAuto
import Derived.Deep.CutBlock
namespace Go.Proofs.YtjcbaiohpdihoaaGreatDoor
open Go.RowKit
set_option linter.unusedVariables false
set_option linter.unusedSimpArgs false
set_option maxRecDepth 100000

theorem RowS.at {w : World} {B g n c i : Nat} {L : List ByteArray} {s : ByteArray} (h : RowS w B (.slice (some ⟨g, 0, none⟩) n c) L) (hs : L[i]? = some s) : w.cell? ⟨g, i, none⟩ = some (.string s) ∧ w.frozen? ⟨g, i, none⟩ = false := by
  obtain ⟨a, cap, e1, _, _, hcc⟩ := own_cells h
  obtain ⟨g', hg', _, _, cs, fz⟩ := hcc i (.string s) (flatS_at hs)
  injection e1 with e2 _ _
  rw [hg'] at e2
  injection e2 with e3
  injection e3 with e4 _ _
  subst e4
  exact ⟨cs, fz⟩

theorem Ds.wrE_down {d : Ds} (a : Int) (s : ByteArray) (h : d.dn = true) : d.wrE a s = 17 ∧ d.wr a s = d := by
  unfold Ds.wrE Ds.wr; rw [if_pos h, if_pos h]; exact ⟨rfl, rfl⟩
theorem Ds.wrE_out {d : Ds} {a : Int} (s : ByteArray) (h : d.dn = false) (ho : d.out a) : d.wrE a s = 1 ∧ d.wr a s = d := by
  have h' : ¬ d.dn = true := by rw [h]; decide
  unfold Ds.wrE Ds.wr; rw [if_neg h', if_pos ho, if_neg h', if_pos ho]; exact ⟨rfl, rfl⟩
theorem Ds.wrE_form {d : Ds} {a : Int} {s : ByteArray} (h : d.dn = false) (ho : ¬ d.out a) (hs : ¬ s.size = 256) : d.wrE a s = 3 ∧ d.wr a s = d := by
  have h' : ¬ d.dn = true := by rw [h]; decide
  unfold Ds.wrE Ds.wr; rw [if_neg h', if_neg ho, if_pos hs, if_neg h', if_neg ho, if_pos hs]; exact ⟨rfl, rfl⟩
theorem Ds.wrE_cut {d : Ds} {a : Int} {s : ByteArray} (h : d.dn = false) (ho : ¬ d.out a) (hs : s.size = 256) (hl : d.lf = 0) : d.wrE a s = 17 ∧ d.wr a s = { d with dn := true } := by
  have h' : ¬ d.dn = true := by rw [h]; decide
  have hs' : ¬ ¬ s.size = 256 := fun x => x hs
  unfold Ds.wrE Ds.wr; rw [if_neg h', if_neg ho, if_neg hs', if_pos hl, if_neg h', if_neg ho, if_neg hs', if_pos hl]; exact ⟨rfl, rfl⟩
theorem Ds.wrE_ok {d : Ds} {a : Int} {s : ByteArray} (h : d.dn = false) (ho : ¬ d.out a) (hs : s.size = 256) (hl : ¬ d.lf = 0) : d.wrE a s = 0 ∧ d.wr a s = d.put a s := by
  have h' : ¬ d.dn = true := by rw [h]; decide
  have hs' : ¬ ¬ s.size = 256 := fun x => x hs
  unfold Ds.wrE Ds.wr; rw [if_neg h', if_neg ho, if_neg hs', if_neg hl, if_neg h', if_neg ho, if_neg hs', if_neg hl]; exact ⟨rfl, rfl⟩

theorem write_nil (a : Int) (s : ByteArray) (w : World) : Calls Tryz.prog 185 #[.pointer none, .int .i64 a, .string s] w fun e w' => e = .returned (.int .i64 18) ∧ w = w' := by
  go_enter Tryz.func185, Tryz.ntmps185
  go_wp2_with (go_at_call 174; refine (refuses_nil a w).mono ?_; rintro e w1 ⟨rfl, rfl⟩)
  go_ret
  exact ⟨rfl, rfl⟩

/-- it is refused ahead of its text -/
theorem write_no (a : Int) (s : ByteArray) (w : World) (S : Nat → Prop) (k : Nat) (d : Ds) (hd : Dk w S k d) (h : ¬ d.rdE a = 0) : Calls Tryz.prog 185 #[.pointer (some ⟨k, 0, none⟩), .int .i64 a, .string s] w fun e w' => e = .returned (.int .i64 (d.rdE a : Nat)) ∧ w = w' := by
  have hr := refuses_any a w S k d hd
  obtain ⟨q, hq⟩ : ∃ q, d.rdE a = q := ⟨_, rfl⟩
  rw [hq] at hr h ⊢
  have hqn : ((q : Int) != 0) = true := by simp; omega
  have hqz : ¬ (q : Int) = 0 := by omega
  clear hq hd
  go_enter Tryz.func185, Tryz.ntmps185
  go_wp2_with (go_at_call 174; refine hr.mono ?_; rintro e w1 ⟨rfl, rfl⟩)
  go_ret
  exact ⟨rfl, rfl⟩

theorem write_form (a : Int) (s : ByteArray) (w : World) (S : Nat → Prop) (k : Nat) (d : Ds) (hd : Dk w S k d) (h : d.rdE a = 0) (hs : ¬ s.size = 256) : Calls Tryz.prog 185 #[.pointer (some ⟨k, 0, none⟩), .int .i64 a, .string s] w fun e w' => e = .returned (.int .i64 3) ∧ w = w' := by
  have hr := refuses_any a w S k d hd
  rw [h] at hr
  have hb := isBlock_any s w
  rw [decide_eq_false hs] at hb
  clear hd h hs
  go_enter Tryz.func185, Tryz.ntmps185
  go_wp2_with (first
    | (go_at_call 174; refine hr.mono ?_; rintro e w1 ⟨rfl, rfl⟩)
    | (go_at_call 234; refine hb.mono ?_; rintro e w1 ⟨rfl, rfl⟩))
  go_ret
  exact ⟨rfl, rfl⟩

theorem write_cut (a : Int) (s : ByteArray) (w : World) (S : Nat → Prop) (k : Nat) (d : Ds) (hd : Dk w S k d) (h : d.rdE a = 0) (hs : s.size = 256) (hl : d.lf = 0) : Calls Tryz.prog 185 #[.pointer (some ⟨k, 0, none⟩), .int .i64 a, .string s] w fun e w' => e = .returned (.int .i64 17) ∧ Dk w' S k { d with dn := true } ∧ Keep S w w' := by
  have hr := refuses_any a w S k d hd
  rw [h] at hr
  have hb := isBlock_any s w
  rw [decide_eq_true hs] at hb
  have HD := hid (hd.set (i := 3) (v := .bool true) (d' := { d with dn := true }) (.inr ⟨rfl, rfl, rfl⟩) ⟨hd.1.lo, hd.1.hi, hd.1.bs, hd.1.lg, hd.1.lf⟩)
  have HK := hid (Keep.set (S := S) w hd.2.2.1 3 (.bool true))
  obtain ⟨ok, _, _, bv, lv, hk, h5, _⟩ := hd
  have c2 : w.cell? ⟨k, 2, none⟩ = some (.int .i64 0) := by rw [← hl]; exact hk.cell rfl
  have c3 : w.cell? ⟨k, 3, none⟩ = some (.bool d.dn) := hk.cell rfl
  have f3 := hk.free 3
  clear h5 hk ok h hs hl
  go_enter Tryz.func185, Tryz.ntmps185
  go_wp2_with (first
    | (go_at_call 174; refine hr.mono ?_; rintro e w1 ⟨rfl, rfl⟩)
    | (go_at_call 234; refine hb.mono ?_; rintro e w1 ⟨rfl, rfl⟩))
  go_ret
  exact ⟨rfl, HD.out, HK.out⟩

/-- a disk's parts ahead of its last two steps -/
def Mid (w : World) (S : Nat → Prop) (k : Nat) (bv lv : Value) (bs : List ByteArray) (lg : List Pg) (q : Int) (wx : World) : Prop :=
  Blk wx k #[bv, lv, .int .i64 q, .bool false] 178 ∧ RowS wx 0 bv bs ∧ RowP wx 0 lv lg ∧ Keep S w wx

set_option maxHeartbeats 4000000 in
theorem write_ok (a : Int) (s : ByteArray) (w : World) (S : Nat → Prop) (k : Nat) (d : Ds) (hd : Dk w S k d) (h : d.rdE a = 0) (hs : s.size = 256) (hl : ¬ d.lf = 0) (hz : (d.lg.length + 1) * 24 ≤ 140737488355328) :
    Calls Tryz.prog 185 #[.pointer (some ⟨k, 0, none⟩), .int .i64 a, .string s] w fun e w' => e = .returned (.int .i64 0) ∧ ∃ S', Dk w' S' k (d.put a s) ∧ Keep S w w' ∧ Grows S S' w := by
  have hr := refuses_any a w S k d hd
  rw [h] at hr
  have hb := isBlock_any s w
  rw [decide_eq_true hs] at hb
  have hcl : ∀ w1, _ := fun w1 => clone_any s w1 (by omega)
  obtain ⟨hdn, hin⟩ := Ds.rdE_zero h
  have HDN := hid hdn
  have HOK := hid (hd.1.put hin hs)
  unfold Ds.out at hin
  obtain ⟨n, rfl⟩ : ∃ n : Nat, a = (n : Int) := ⟨a.toNat, by omega⟩
  have HPUT := hid (show d.put (n : Int) s = { d with bs := d.bs.set n s, lg := d.lg ++ [⟨(n : Int), s⟩], lf := if 0 < d.lf then d.lf - 1 else d.lf } from rfl)
  obtain ⟨ok, hSl, hSk, bv, lv, hk, h5, h6, i5, i6⟩ := hd
  obtain ⟨q, hq⟩ : ∃ q, (if 0 < d.lf then d.lf - 1 else d.lf) = q := ⟨_, rfl⟩
  have hnl : n < d.bs.length := by omega
  have hhi := ok.hi
  have hni : (n : Int) < (d.bs.length : Int) := by omega
  rw [hdn] at hk
  have c2 : w.cell? ⟨k, 2, none⟩ = some (.int .i64 d.lf) := hk.cell rfl
  have f2 := hk.free 2
  have hk2 := hk.set 2 (.int .i64 (d.lf - 1))
  have hlf := ok.lf
  obtain ⟨g, bc, hbv, hc1, hc2, _, hgl⟩ := own_some h5 (by have := ok.lo; omega)
  subst hbv
  obtain ⟨la, lc, hlv⟩ := own_form h6
  subst hlv
  have HS : Hid (S k ∧ In S (.slice (some ⟨g, 0, none⟩) d.bs.length bc) ∧ In S (.slice la d.lg.length lc) ∧ ∀ j, S j → j < w.heap.size) := ⟨hSk, i5, i6, hSl⟩
  have H1 : Hid (Mid w S k (.slice (some ⟨g, 0, none⟩) d.bs.length bc) (.slice la d.lg.length lc) d.bs d.lg d.lf w) := ⟨hk, h5, h6, Keep.refl _ _⟩
  have H2 : Hid (Mid w S k (.slice (some ⟨g, 0, none⟩) d.bs.length bc) (.slice la d.lg.length lc) d.bs d.lg (d.lf - 1) (w.setCell ⟨k, 2, none⟩ (.int .i64 (d.lf - 1)))) :=
    ⟨hk2, World.ownsRow.kept h5 (set_grown w k 2 _) (.inr (fun e => hk.ne h5 (by decide) e rfl)), World.ownsRow.kept h6 (set_grown w k 2 _) (by
      cases e : (Value.slice la d.lg.length lc).ownBlock with
      | none => exact .inl rfl
      | some g2 => exact .inr (fun x => hk.ne h6 (by decide) e (Option.some.inj x))), Keep.set w hSk 2 _⟩
  have HQ := hid hq
  have HLF := hid hl
  have hlz : (d.lf == 0) = false := by simpa using hl
  clear hk hk2 h5 h6 i5 i6 hSl hq h hdn ok hs hin
  go_enter Tryz.func185, Tryz.ntmps185
  go_upto_if 29 with (first
    | (go_at_call 174; refine hr.mono ?_; clear hr; rintro e w1 ⟨rfl, rfl⟩)
    | (go_at_call 234; refine hb.mono ?_; clear hb; rintro e w1 ⟨rfl, rfl⟩))
  go_cut [] (fun wx => Mid w S k (.slice (some ⟨g, 0, none⟩) d.bs.length bc) (.slice la d.lg.length lc) d.bs d.lg q wx)
  case first =>
    by_cases hp : 0 < d.lf
    · rw [if_pos hp] at HQ
      go_wp2
      go_meet
      rw [← HQ.out]
      exact H2.out
    · rw [if_neg hp] at HQ
      go_wp2
      go_meet
      rw [← HQ.out]
      exact H1.out
  case rest =>
    clear H1 H2 c2 f2 hlf hlz
    have HM := hid hcut
    clear hcut
    go_wp2_with fail
    obtain ⟨m1, m2, m3, m4⟩ : Mid w S k (.slice (some ⟨g, 0, none⟩) d.bs.length bc) (.slice la d.lg.length lc) d.bs d.lg q wc := HM.out
    have hk1 : Blk wc.drew k #[.slice (some ⟨g, 0, none⟩) d.bs.length bc, .slice la d.lg.length lc, .int .i64 q, .bool false] 178 := m1
    have c0 : wc.drew.cell? ⟨k, 0, none⟩ = some (.slice (some ⟨g, 0, none⟩) d.bs.length bc) := hk1.cell rfl
    clear m1 m2 m3 m4 hk1
    refine wp_region_m (fun w' => w'.cell? ⟨k, 0, none⟩ = some (.slice (some ⟨g, 0, none⟩) d.bs.length bc)) 7 (by kernel_rfl) ?_
    refine wpAnyM_pick (i := 0) (some 37) (v := ?vz1) rfl rfl (by kernel_rfl) (by kernel_rfl) (by kernel_rfl) (by kernel_rfl) (fun _ _ _ h => h) (Or.inl ⟨by rfl, ?hz1⟩) c0 ?rz1
    case hz1 => intro w hSw; go_simp; try with_reducible rfl
    try simp only [Act.put, List.setIfInBounds_toArray, List.set_cons_zero, List.set_cons_succ]
    refine wpAnyM_pick (i := 1) (some 38) (v := ?vz2) rfl rfl (by kernel_rfl) (by kernel_rfl) (by kernel_rfl) (by kernel_rfl) (fun _ _ _ h => h) (Or.inl ⟨by rfl, ?hz2⟩) c0 ?rz2
    case hz2 => intro w hSw; go_simp; try with_reducible rfl
    try simp only [Act.put, List.setIfInBounds_toArray, List.set_cons_zero, List.set_cons_succ]
    refine wpAnyM_pick (i := 2) (some 39) (v := ?vz3) rfl rfl (by kernel_rfl) (by kernel_rfl) (by kernel_rfl) (by kernel_rfl) (fun _ _ _ h => h) (Or.inl ⟨by rfl, ?hz3⟩) c0 ?rz3
    case hz3 => intro w hSw; go_simp; try with_reducible rfl
    try simp only [Act.put, List.setIfInBounds_toArray, List.set_cons_zero, List.set_cons_succ]
    refine wpAnyM_pick (i := 3) (some 40) (v := ?vz4) rfl rfl (by kernel_rfl) (by kernel_rfl) (by kernel_rfl) (by kernel_rfl) (fun _ _ _ h => h) (Or.inl ⟨by rfl, ?hz4⟩) c0 ?rz4
    case hz4 => intro w hSw; go_simp; try with_reducible rfl
    try simp only [Act.put, List.setIfInBounds_toArray, List.set_cons_zero, List.set_cons_succ]
    refine wpAnyM_pick (i := 4) (some 41) (v := ?vz5) rfl rfl (by kernel_rfl) (by kernel_rfl) (by kernel_rfl) (by kernel_rfl) (fun _ _ _ h => h) (Or.inl ⟨by rfl, ?hz5⟩) c0 ?rz5
    case hz5 => intro w hSw; go_simp; try with_reducible rfl
    try simp only [Act.put, List.setIfInBounds_toArray, List.set_cons_zero, List.set_cons_succ]
    refine wpAnyM_pick (i := 5) (some 42) (v := ?vz6) rfl rfl (by kernel_rfl) (by kernel_rfl) (by kernel_rfl) (by kernel_rfl) (fun _ _ _ h => h) (Or.inl ⟨by rfl, ?hz6⟩) c0 ?rz6
    case hz6 => intro w hSw; go_simp; try with_reducible rfl
    try simp only [Act.put, List.setIfInBounds_toArray, List.set_cons_zero, List.set_cons_succ]
    refine wpAnyM_one (i := 6) (by kernel_rfl) rfl (fun K hK => ?_)
    go_simp
    go_at_call 104
    refine (hcl _).mono ?_
    rintro e w2 ⟨rfl, hb2⟩
    have HM2 : Hid (Mid w S k (.slice (some ⟨g, 0, none⟩) d.bs.length bc) (.slice la d.lg.length lc) d.bs d.lg q w2) := by
      obtain ⟨m1, m2, m3, m4⟩ : Mid w S k (.slice (some ⟨g, 0, none⟩) d.bs.length bc) (.slice la d.lg.length lc) d.bs d.lg q wc := HM.out
      have hb3 : Below wc.heap.size wc w2 := ((Below.refl _ wc).drew).trans hb2
      exact ⟨Blk.on m1 hb3 m1.lt, RowS.on m2 hb3, RowP.on m3 hb3, m4.trans (Keep.of_below (S := S) hb3) (fun _ _ h => h)⟩
    clear HM hb2 c0
    have d0 : w2.cell? ⟨k, 0, none⟩ = some (.slice (some ⟨g, 0, none⟩) d.bs.length bc) := HM2.out.1.cell rfl
    go_wp2_with fail
    refine hK.out _ _ (fun _ => d0) ?_
    clear hK K
    try simp only [Act.put, List.setIfInBounds_toArray, List.set_cons_zero, List.set_cons_succ]
    refine wpAnyM_one (i := 7) (by kernel_rfl) rfl (fun K hK => ?_)
    go_simp
    refine hK.out _ _ (fun h => absurd h (by decide)) ?_
    clear hK K
    try simp only [Act.put, List.setIfInBounds_toArray, List.set_cons_zero, List.set_cons_succ]
    obtain ⟨cv, hcv, fz⟩ : ∃ cv, w2.cell? ⟨g, n, none⟩ = some cv ∧ w2.frozen? ⟨g, n, none⟩ = false := by
      obtain ⟨_, _, e1, _, _, hcc⟩ := own_cells HM2.out.2.1
      cases e1
      obtain ⟨g', hg', _, _, cs, fz⟩ := hcc n (.string d.bs[n]) (flatS_at (List.getElem?_eq_getElem hnl))
      cases hg'
      exact ⟨_, cs, fz⟩
    have HM3 : Hid (Mid w S k (.slice (some ⟨g, 0, none⟩) d.bs.length bc) (.slice la d.lg.length lc) (d.bs.set n s) d.lg q (w2.setCell ⟨g, n, none⟩ (.string s))) := by
      obtain ⟨m1, m2, m3, m4⟩ : Mid w S k (.slice (some ⟨g, 0, none⟩) d.bs.length bc) (.slice la d.lg.length lc) d.bs d.lg q w2 := HM2.out
      have hne := m1.ne m2 (by decide) rfl
      refine ⟨m1.other (fun e => hne e.symm) _, ?_, ?_, m4.trans (Keep.set (S := S) w2 (HS.out.2.1 g rfl) n _) (fun _ _ h => h)⟩
      · have := own_set m2 n (.string s)
        rw [flatS_set] at this
        unfold RowS
        rw [List.length_set]
        exact this
      · exact World.ownsRow.kept m3 (set_grown w2 g n _) (.inr (rows_ne m2 m3 (by decide) rfl))
    clear HM2 d0
    refine wpAnyM_one (i := 8) (by kernel_rfl) rfl (fun K hK => ?_)
    go_simp
    refine hK.out _ _ (fun h => absurd h (by decide)) ?_
    clear hK K
    refine wpAnyM_done (by kernel_rfl) ?_ _
    try simp only [Act.put, List.setIfInBounds_toArray, List.set_cons_zero, List.set_cons_succ]
    clear hcv fz
    generalize w2.setCell ⟨g, n, none⟩ (.string s) = w3 at HM3 ⊢
    clear hcl
    go_wp2_with fail
    obtain ⟨m1, m2, m3, m4⟩ : Mid w S k (.slice (some ⟨g, 0, none⟩) d.bs.length bc) (.slice la d.lg.length lc) (d.bs.set n s) d.lg q w3 := HM3.out
    have hk1 : Blk w3.drew k #[.slice (some ⟨g, 0, none⟩) d.bs.length bc, .slice la d.lg.length lc, .int .i64 q, .bool false] 178 := m1
    have hcs : w3.drew.cell? ⟨g, n, none⟩ = some (.string s) := by
      exact (RowS.at (w := w3.drew) m2 (by rw [List.getElem?_set_self hnl])).1
    have HC : w3.drew.cell? ⟨k, 0, none⟩ = some (.slice (some ⟨g, 0, none⟩) d.bs.length bc) ∧ w3.drew.cell? ⟨k, 1, none⟩ = some (.slice la d.lg.length lc) ∧ w3.drew.cell? ⟨g, n, none⟩ = some (.string s) := ⟨hk1.cell rfl, hk1.cell rfl, hcs⟩
    clear m1 m2 m3 m4 hk1 hcs
    obtain ⟨i0, hi, hz0, hz1, hz2⟩ := info_parts info49
    refine wp_region_m (fun w' => w'.cell? ⟨k, 0, none⟩ = some (.slice (some ⟨g, 0, none⟩) d.bs.length bc) ∧ w'.cell? ⟨k, 1, none⟩ = some (.slice la d.lg.length lc) ∧ w'.cell? ⟨g, n, none⟩ = some (.string s)) 16 (by kernel_rfl) ?_
    refine wpAnyM_pick (i := 0) (some 45) (v := ?vz7) rfl rfl (by kernel_rfl) (by kernel_rfl) (by kernel_rfl) (by kernel_rfl) (fun _ _ _ h => h) (Or.inl ⟨by rfl, ?hz7⟩) HC ?rz7
    case hz7 => intro w hSw; obtain ⟨s1, s2, s3⟩ := hSw; go_simp; try with_reducible rfl
    try simp only [Act.put, List.setIfInBounds_toArray, List.set_cons_zero, List.set_cons_succ]
    refine wpAnyM_pick (i := 1) (some 46) (v := ?vz8) rfl rfl (by kernel_rfl) (by kernel_rfl) (by kernel_rfl) (by kernel_rfl) (fun _ _ _ h => h) (Or.inl ⟨by rfl, ?hz8⟩) HC ?rz8
    case hz8 => intro w hSw; obtain ⟨s1, s2, s3⟩ := hSw; go_simp; try with_reducible rfl
    try simp only [Act.put, List.setIfInBounds_toArray, List.set_cons_zero, List.set_cons_succ]
    refine wpAnyM_pick (i := 2) (some 47) (v := ?vz9) rfl rfl (by kernel_rfl) (by kernel_rfl) (by kernel_rfl) (by kernel_rfl) (fun _ _ _ h => h) (Or.inl ⟨by rfl, ?hz9⟩) HC ?rz9
    case hz9 => intro w hSw; obtain ⟨s1, s2, s3⟩ := hSw; go_simp; try with_reducible rfl
    try simp only [Act.put, List.setIfInBounds_toArray, List.set_cons_zero, List.set_cons_succ]
    refine wpAnyM_pick (i := 3) (some 48) (v := ?vz10) rfl rfl (by kernel_rfl) (by kernel_rfl) (by kernel_rfl) (by kernel_rfl) (fun _ _ _ h => h) (Or.inl ⟨by rfl, ?hz10⟩) HC ?rz10
    case hz10 => intro w hSw; obtain ⟨s1, s2, s3⟩ := hSw; go_simp; try with_reducible rfl
    try simp only [Act.put, List.setIfInBounds_toArray, List.set_cons_zero, List.set_cons_succ]
    refine wpAnyM_pick (i := 4) (some 49) (v := ?vz11) rfl rfl (by kernel_rfl) (by kernel_rfl) (by kernel_rfl) (by kernel_rfl) (fun _ _ _ h => h) (Or.inl ⟨by rfl, ?hz11⟩) HC ?rz11
    case hz11 => intro w hSw; obtain ⟨s1, s2, s3⟩ := hSw; go_simp; try with_reducible rfl
    try simp only [Act.put, List.setIfInBounds_toArray, List.set_cons_zero, List.set_cons_succ]
    refine wpAnyM_pick (i := 5) (some 50) (v := ?vz12) rfl rfl (by kernel_rfl) (by kernel_rfl) (by kernel_rfl) (by kernel_rfl) (fun _ _ _ h => h) (Or.inl ⟨by rfl, ?hz12⟩) HC ?rz12
    case hz12 => intro w hSw; obtain ⟨s1, s2, s3⟩ := hSw; go_simp; try with_reducible rfl
    try simp only [Act.put, List.setIfInBounds_toArray, List.set_cons_zero, List.set_cons_succ]
    refine wpAnyM_pick (i := 6) (some 51) (v := ?vz13) rfl rfl (by kernel_rfl) (by kernel_rfl) (by kernel_rfl) (by kernel_rfl) (fun _ _ _ h => h) (Or.inl ⟨by rfl, ?hz13⟩) HC ?rz13
    case hz13 => intro w hSw; obtain ⟨s1, s2, s3⟩ := hSw; go_simp; try with_reducible rfl
    try simp only [Act.put, List.setIfInBounds_toArray, List.set_cons_zero, List.set_cons_succ]
    refine wpAnyM_pick (i := 7) (some 52) (v := ?vz14) rfl rfl (by kernel_rfl) (by kernel_rfl) (by kernel_rfl) (by kernel_rfl) (fun _ _ _ h => h) (Or.inl ⟨by rfl, ?hz14⟩) HC ?rz14
    case hz14 => intro w hSw; obtain ⟨s1, s2, s3⟩ := hSw; go_simp; try with_reducible rfl
    try simp only [Act.put, List.setIfInBounds_toArray, List.set_cons_zero, List.set_cons_succ]
    refine wpAnyM_pick (i := 8) (some 53) (v := ?vz15) rfl rfl (by kernel_rfl) (by kernel_rfl) (by kernel_rfl) (by kernel_rfl) (fun _ _ _ h => h) (Or.inl ⟨by rfl, ?hz15⟩) HC ?rz15
    case hz15 => intro w hSw; obtain ⟨s1, s2, s3⟩ := hSw; go_simp; try with_reducible rfl
    try simp only [Act.put, List.setIfInBounds_toArray, List.set_cons_zero, List.set_cons_succ]
    refine wpAnyM_pick (i := 9) (some 54) (v := ?vz16) rfl rfl (by kernel_rfl) (by kernel_rfl) (by kernel_rfl) (by kernel_rfl) (fun _ _ _ h => h) (Or.inl ⟨by rfl, ?hz16⟩) HC ?rz16
    case hz16 => intro w hSw; obtain ⟨s1, s2, s3⟩ := hSw; go_simp; try with_reducible rfl
    try simp only [Act.put, List.setIfInBounds_toArray, List.set_cons_zero, List.set_cons_succ]
    refine wpAnyM_pick (i := 10) (some 55) (v := ?vz17) rfl rfl (by kernel_rfl) (by kernel_rfl) (by kernel_rfl) (by kernel_rfl) (fun _ _ _ h => h) (Or.inl ⟨by rfl, ?hz17⟩) HC ?rz17
    case hz17 => intro w hSw; obtain ⟨s1, s2, s3⟩ := hSw; go_simp; try with_reducible rfl
    try simp only [Act.put, List.setIfInBounds_toArray, List.set_cons_zero, List.set_cons_succ]
    refine wpAnyM_pick (i := 11) (some 56) (v := ?vz18) rfl rfl (by kernel_rfl) (by kernel_rfl) (by kernel_rfl) (by kernel_rfl) (fun _ _ _ h => h) (Or.inl ⟨by rfl, ?hz18⟩) HC ?rz18
    case hz18 => intro w hSw; obtain ⟨s1, s2, s3⟩ := hSw; go_simp; try with_reducible rfl
    try simp only [Act.put, List.setIfInBounds_toArray, List.set_cons_zero, List.set_cons_succ]
    refine wpAnyM_pick (i := 12) (some 57) (v := ?vz19) rfl rfl (by kernel_rfl) (by kernel_rfl) (by kernel_rfl) (by kernel_rfl) (fun _ _ _ h => h) (Or.inl ⟨by rfl, ?hz19⟩) HC ?rz19
    case hz19 => intro w hSw; obtain ⟨s1, s2, s3⟩ := hSw; go_simp; try with_reducible rfl
    try simp only [Act.put, List.setIfInBounds_toArray, List.set_cons_zero, List.set_cons_succ]
    refine wpAnyM_pick (i := 13) (some 58) (v := ?vz20) rfl rfl (by kernel_rfl) (by kernel_rfl) (by kernel_rfl) (by kernel_rfl) (fun _ _ _ h => h) (Or.inl ⟨by rfl, ?hz20⟩) HC ?rz20
    case hz20 => intro w hSw; obtain ⟨s1, s2, s3⟩ := hSw; go_simp; try with_reducible rfl
    try simp only [Act.put, List.setIfInBounds_toArray, List.set_cons_zero, List.set_cons_succ]
    refine wpAnyM_one (i := 14) (by kernel_rfl) rfl (fun K hK => ?_)
    go_simp
    have HM4 : Hid (Mid w S k (.slice (some ⟨g, 0, none⟩) d.bs.length bc) (.slice la d.lg.length lc) (d.bs.set n s) d.lg q ((w3.alloc (.cells #[.int .i64 (n : Int), .string s] 110)).drew)) := by
      obtain ⟨m1, m2, m3, m4⟩ : Mid w S k (.slice (some ⟨g, 0, none⟩) d.bs.length bc) (.slice la d.lg.length lc) (d.bs.set n s) d.lg q w3 := HM3.out
      have hb3 : Below w3.heap.size w3 ((w3.alloc (.cells #[.int .i64 (n : Int), .string s] 110)).drew) := ((Below.refl _ w3).alloc (Nat.le_refl _) _).drew
      exact ⟨Blk.on m1 hb3 m1.lt, RowS.on m2 hb3, RowP.on m3 hb3, m4.trans (Keep.of_below (S := S) hb3) (fun _ _ h => h)⟩
    have HG : Hid (g < w3.drew.heap.size ∧ k < w3.drew.heap.size ∧ ∀ j u, [Value.int .i64 (n : Int), .string s][j]? = some u → ((w3.alloc (.cells #[.int .i64 (n : Int), .string s] 110)).drew).cell? ((⟨w3.heap.size, 0, none⟩ : Addr).add j) = some u) := by
      exact ⟨World.block_lt_of_cell? _ _ HC.2.2, World.block_lt_of_cell? _ _ HC.1, cells_two w3.drew _ _ 110⟩
    have HC4 : ((w3.alloc (.cells #[.int .i64 (n : Int), .string s] 110)).drew).cell? ⟨k, 0, none⟩ = some (.slice (some ⟨g, 0, none⟩) d.bs.length bc) ∧ ((w3.alloc (.cells #[.int .i64 (n : Int), .string s] 110)).drew).cell? ⟨k, 1, none⟩ = some (.slice la d.lg.length lc) ∧ ((w3.alloc (.cells #[.int .i64 (n : Int), .string s] 110)).drew).cell? ⟨g, n, none⟩ = some (.string s) := by
      have hb : Below w3.drew.heap.size w3.drew ((w3.alloc (.cells #[.int .i64 (n : Int), .string s] 110)).drew) := (Below.refl w3.drew.heap.size w3.drew).alloc (Nat.le_refl _) (.cells #[.int .i64 (n : Int), .string s] 110)
      exact ⟨(hb.cell (p := ⟨k, 0, none⟩) HG.out.2.1).trans HC.1, (hb.cell (p := ⟨k, 1, none⟩) HG.out.2.1).trans HC.2.1, (hb.cell (p := ⟨g, n, none⟩) HG.out.1).trans HC.2.2⟩
    clear HM3
    refine hK.out _ _ (fun _ => HC4) ?_
    clear hK K
    try simp only [Act.put, List.setIfInBounds_toArray, List.set_cons_zero, List.set_cons_succ]
    refine wpAnyM_one (i := 15) (by kernel_rfl) rfl (fun K hK => ?_)
    simp only [List.getElem_toArray, List.getElem_cons_succ, List.getElem_cons_zero]
    rw [if_pos (by rfl)]
    refine wp_append_blk _ (.tmp 49) (.tmp 59) 106 rfl 0 110 i0 (.agg #[.int .i64 0, .string ⟨#[]⟩]) 2 24 Tryz.underlying106 hi hz0 hz1 hz2 rfl (by decide) (.slice la d.lg.length lc) d.lg.length (flatP d.lg) rfl HM4.out.2.2.1 ⟨w3.heap.size, 0, none⟩ 1 1 [.int .i64 (n : Int), .string s] rfl rfl HG.out.2.2 ?c2 (by decide) ?c3 ?c4 (Nat.zero_le _) ?_
    case c2 => intro u hu; simp at hu; rcases hu with rfl | rfl <;> rfl
    case c3 => unfold maxLen; omega
    case c4 => exact hz
    intro v' w5 hown' hgrow hmv
    obtain ⟨nl, hnl'⟩ : ∃ nl, (w3.alloc (.cells #[.int .i64 (n : Int), .string s] 110)).drew = nl := ⟨_, rfl⟩
    rw [hnl'] at HM4 HC4 hgrow hmv
    have HM5 : Hid (Blk w5 k #[.slice (some ⟨g, 0, none⟩) d.bs.length bc, .slice la d.lg.length lc, .int .i64 q, .bool false] 178 ∧ RowS w5 0 (.slice (some ⟨g, 0, none⟩) d.bs.length bc) (d.bs.set n s) ∧ RowP w5 0 v' (d.lg ++ [⟨(n : Int), s⟩]) ∧ Keep S w w5) := by
      obtain ⟨m1, m2, m3, m4⟩ : Mid w S k (.slice (some ⟨g, 0, none⟩) d.bs.length bc) (.slice la d.lg.length lc) (d.bs.set n s) d.lg q nl := HM4.out
      refine ⟨m1.kept hgrow (fun e => m1.ne m3 (by decide) e.symm rfl), World.ownsRow.kept m2 hgrow (.inr (fun e => rows_ne m2 m3 (by decide) rfl e.symm)), ?_, m4.trans (Keep.grown hgrow (fun j hj => HS.out.2.2.1 j hj)) (fun _ _ h => h)⟩
      unfold RowP
      rw [List.length_append, flatP_append]
      exact hown'
    have HN : Hid (∀ g2, v'.ownBlock = some g2 → S g2 ∨ w.heap.size ≤ g2) := by
      intro g2 hg2
      rcases hmv g2 hg2 with h' | h'
      · exact .inl (HS.out.2.2.1 g2 h')
      · exact .inr (Nat.le_trans HM4.out.2.2.2.size h')
    obtain ⟨va, vc, hvv⟩ := own_form hown'
    subst hvv
    have HC5 : w5.cell? ⟨k, 0, none⟩ = some (.slice (some ⟨g, 0, none⟩) d.bs.length bc) ∧ w5.cell? ⟨k, 1, none⟩ = some (.slice la d.lg.length lc) ∧ w5.cell? ⟨g, n, none⟩ = some (.string s) := by
      refine ⟨HM5.out.1.cell rfl, HM5.out.1.cell rfl, ?_⟩
      exact (RowS.at HM5.out.2.1 (by rw [List.getElem?_set_self hnl])).1
    have f1 := HM5.out.1.free 1
    have e1 : w5.cell? ⟨k, 1, none⟩ = some (.slice la d.lg.length lc) := HC5.2.1
    clear HM4 HC4 hgrow hown' hnl' HG hmv
    refine hK.out _ _ (fun _ => HC5) ?_
    clear hK K
    try simp only [Act.put, List.setIfInBounds_toArray, List.set_cons_zero, List.set_cons_succ]
    refine wpAnyM_late (i := 16) (some 61) (v := ?vz21) rfl rfl (by kernel_rfl) (by kernel_rfl) (by kernel_rfl) (by kernel_rfl) (fun _ _ _ h => h) (Or.inl ⟨by rfl, ?hz21⟩) ?rz21
    case hz21 => intro w hSw; go_simp; try with_reducible rfl
    try simp only [Act.put, List.setIfInBounds_toArray, List.set_cons_zero, List.set_cons_succ]
    refine wpAnyM_late (i := 17) (some 62) (v := ?vz22) rfl rfl (by kernel_rfl) (by kernel_rfl) (by kernel_rfl) (by kernel_rfl) (fun _ _ _ h => h) (Or.inl ⟨by rfl, ?hz22⟩) ?rz22
    case hz22 => intro w hSw; go_simp; try with_reducible rfl
    try simp only [Act.put, List.setIfInBounds_toArray, List.set_cons_zero, List.set_cons_succ]
    refine wpAnyM_one (i := 18) (by kernel_rfl) rfl (fun K hK => ?_)
    go_simp
    refine hK.out _ _ (fun h => absurd h (by decide)) ?_
    clear hK K
    refine wpAnyM_done (by kernel_rfl) ?_ _
    try simp only [Act.put, List.setIfInBounds_toArray, List.set_cons_zero, List.set_cons_succ]
    go_wp2_with fail
    go_ret
    refine ⟨rfl, fun j => S j ∨ (w.heap.size ≤ j ∧ j < w5.heap.size), ?_, ?_, ?_⟩
    · obtain ⟨m1, m2, m3, m4⟩ := HM5.out
      rw [HPUT.out]
      rw [HPUT.out] at HOK
      refine ⟨HOK.out, ?_, .inl HS.out.1, .slice (some ⟨g, 0, none⟩) d.bs.length bc, .slice va (d.lg.length + 1) vc, ?_, ?_, ?_, fun g2 h2 => .inl (HS.out.2.1 g2 h2), ?_⟩
      · intro j hj
        rw [show (w5.setCell ⟨k, 1, none⟩ (.slice va (d.lg.length + 1) vc)).heap.size = w5.heap.size by simp [World.setCell]]
        rcases hj with hj | hj
        · exact Nat.lt_of_lt_of_le (HS.out.2.2.2 j hj) m4.size
        · exact hj.2
      · have := m1.set 1 (.slice va (d.lg.length + 1) vc)
        show Blk _ _ #[_, _, .int .i64 (if 0 < d.lf then d.lf - 1 else d.lf), .bool d.dn] 178
        rw [HQ.out, HDN.out]
        exact this
      · have := World.ownsRow.kept m2 (set_grown w5 k 1 (.slice va (d.lg.length + 1) vc)) (.inr (fun e => m1.ne m2 (by decide) e rfl))
        exact this
      · refine World.ownsRow.kept m3 (set_grown w5 k 1 (.slice va (d.lg.length + 1) vc)) ?_
        cases e : (Value.slice va (d.lg.length + 1) vc).ownBlock with
        | none => exact .inl rfl
        | some g2 => exact .inr (fun x => m1.ne m3 (by decide) e (Option.some.inj x))
      · intro g2 h2
        rcases HN.out g2 h2 with h3 | h3
        · exact .inl h3
        · exact .inr ⟨h3, ((m3 : w5.ownsRow 0 110 2 _ _ _).lt g2 h2).2⟩
    · exact HM5.out.2.2.2.trans (Keep.set (S := S) w5 HS.out.1 1 _) (fun _ _ h => h)
    · intro j hj
      exact hj.elim .inl (fun h => .inr h.1)

theorem write_any (a : Int) (s : ByteArray) (w : World) (S : Nat → Prop) (k : Nat) (d : Ds) (hd : Dk w S k d) (hz : (d.lg.length + 1) * 24 ≤ 140737488355328) :
    Calls Tryz.prog 185 #[.pointer (some ⟨k, 0, none⟩), .int .i64 a, .string s] w fun e w' => e = .returned (.int .i64 (d.wrE a s : Nat)) ∧ ∃ S', Dk w' S' k (d.wr a s) ∧ Keep S w w' ∧ Grows S S' w := by
  by_cases h0 : d.rdE a = 0
  · obtain ⟨h1, h2⟩ := Ds.rdE_zero h0
    by_cases h3 : s.size = 256
    · by_cases h4 : d.lf = 0
      · obtain ⟨e1, e2⟩ := Ds.wrE_cut h1 h2 h3 h4
        rw [e1, e2]
        exact (write_cut a s w S k d hd h0 h3 h4).mono fun e w' h => ⟨h.1, S, h.2.1, h.2.2, Grows.refl _ _⟩
      · obtain ⟨e1, e2⟩ := Ds.wrE_ok h1 h2 h3 h4
        rw [e1, e2]
        exact write_ok a s w S k d hd h0 h3 h4 hz
    · obtain ⟨e1, e2⟩ := Ds.wrE_form h1 h2 h3
      rw [e1, e2]
      refine (write_form a s w S k d hd h0 h3).mono fun e w' h => ?_
      obtain ⟨he, rfl⟩ := h
      exact ⟨he, S, hd, Keep.refl _ _, Grows.refl _ _⟩
  · have key : d.wrE a s = d.rdE a ∧ d.wr a s = d := by
      cases h1 : d.dn with
      | true =>
        obtain ⟨e1, e2⟩ := Ds.wrE_down a s h1
        rw [e1, e2, Ds.rdE_down a h1]
        exact ⟨rfl, rfl⟩
      | false =>
        by_cases h2 : d.out a
        · obtain ⟨e1, e2⟩ := Ds.wrE_out s h1 h2
          rw [e1, e2, Ds.rdE_out h1 h2]
          exact ⟨rfl, rfl⟩
        · exact absurd (Ds.rdE_in h1 h2) h0
    rw [key.1, key.2]
    refine (write_no a s w S k d hd h0).mono fun e w' h => ?_
    obtain ⟨he, rfl⟩ := h
    exact ⟨he, S, hd, Keep.refl _ _, Grows.refl _ _⟩

end Go.Proofs.YtjcbaiohpdihoaaGreatDoor
