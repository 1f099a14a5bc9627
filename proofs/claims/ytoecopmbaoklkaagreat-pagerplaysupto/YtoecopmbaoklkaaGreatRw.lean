/-
  The document's Write and Of.
-/
import Derived.Test.YtoecopmbaoklkaaGreatRd
namespace Go.Proofs.YtoecopmbaoklkaaGreat
open Go.RowKit
set_option linter.unusedVariables false
set_option linter.unusedSimpArgs false
set_option maxRecDepth 100000

theorem rWrite_no (a : Int) (s : ByteArray) (w : World) (S : Nat → Prop) (k : Nat) (d : Ds) (hd : Rk w S k d) (h : ¬ d.rdE a = 0) : Calls Tryz.prog 111 #[.pointer (some ⟨k, 0, none⟩), .int .i64 a, .string s] w fun e w' => e = .returned (.int .i64 (d.rdE a : Nat)) ∧ w = w' := by
  obtain ⟨ok, _, _, bv, lv, told, left, hb, _, _, h5, _⟩ := hd
  obtain ⟨ba, bc, hbv⟩ := h5.form
  subst hbv
  have c0 : w.cell? ⟨k, 0, none⟩ = some (.slice ba d.bs.length bc) := hb.cell rfl
  have c4 : w.cell? ⟨k, 4, none⟩ = some (.bool d.dn) := hb.cell rfl
  have hhi := ok.hi
  clear h5 hb ok
  cases hdn : d.dn with
  | true =>
    rw [hdn] at c4
    rw [Ds.rdE_down a hdn]
    clear h hdn
    go_enter Tryz.func111, Tryz.ntmps111
    go_wp2
    go_ret
    exact ⟨rfl, rfl⟩
  | false =>
    rw [hdn] at c4
    by_cases ho : d.out a
    · rw [Ds.rdE_out hdn ho]
      clear h hdn
      rcases ho with h1 | h1
      · have h2 : decide (a < 0) = true := decide_eq_true h1
        go_enter Tryz.func111, Tryz.ntmps111
        go_wp2
        go_ret
        exact ⟨rfl, rfl⟩
      · have h2 : decide (a < 0) = false := decide_eq_false (by omega)
        go_enter Tryz.func111, Tryz.ntmps111
        go_wp2
        go_ret
        exact ⟨rfl, rfl⟩
    · exact absurd (Ds.rdE_in hdn ho) h

theorem rWrite_form (a : Int) (s : ByteArray) (w : World) (S : Nat → Prop) (k : Nat) (d : Ds) (hd : Rk w S k d) (h : d.rdE a = 0) (hs : ¬ s.size = 256) : Calls Tryz.prog 111 #[.pointer (some ⟨k, 0, none⟩), .int .i64 a, .string s] w fun e w' => e = .returned (.int .i64 3) ∧ w = w' := by
  obtain ⟨hdn, ho⟩ := Ds.rdE_zero h
  unfold Ds.out at ho
  obtain ⟨ok, _, _, bv, lv, told, left, hb, _, _, h5, _⟩ := hd
  obtain ⟨ba, bc, hbv⟩ := h5.form
  subst hbv
  have c0 : w.cell? ⟨k, 0, none⟩ = some (.slice ba d.bs.length bc) := hb.cell rfl
  have c4 : w.cell? ⟨k, 4, none⟩ = some (.bool d.dn) := hb.cell rfl
  rw [hdn] at c4
  have hhi := ok.hi
  have h1 : decide (a < 0) = false := decide_eq_false (by omega)
  have h2 : a < (d.bs.length : Int) := by omega
  have h3 : ((s.size : Int) != 256) = true := by simp; omega
  have h4 : ¬ (s.size : Int) = 256 := by omega
  clear h5 hb ok h hdn ho hs
  go_enter Tryz.func111, Tryz.ntmps111
  go_wp2
  go_ret
  exact ⟨rfl, rfl⟩

theorem rWrite_cut (a : Int) (s : ByteArray) (w : World) (S : Nat → Prop) (k : Nat) (d : Ds) (hd : Rk w S k d) (h : d.rdE a = 0) (hs : s.size = 256) (hl : d.lf = 0) : Calls Tryz.prog 111 #[.pointer (some ⟨k, 0, none⟩), .int .i64 a, .string s] w fun e w' => e = .returned (.int .i64 17) ∧ Rk w' S k { d with dn := true } ∧ Keep S w w' := by
  obtain ⟨hdn, ho⟩ := Ds.rdE_zero h
  unfold Ds.out at ho
  obtain ⟨ok, hS, hk, bv, lv, told, left, hb, t1, t2, h5, h6, h7, h8⟩ := hd
  obtain ⟨ba, bc, hbv⟩ := h5.form
  subst hbv
  have hleft : left = 0 := by rw [t2 (by omega), hl]
  have htold : told = true := by rw [t1]; exact decide_eq_true (by omega)
  have c0 : w.cell? ⟨k, 0, none⟩ = some (.slice ba d.bs.length bc) := hb.cell rfl
  have c2 : w.cell? ⟨k, 2, none⟩ = some (.bool told) := hb.cell rfl
  have c3 : w.cell? ⟨k, 3, none⟩ = some (.int .i64 left) := hb.cell rfl
  have c4 : w.cell? ⟨k, 4, none⟩ = some (.bool d.dn) := hb.cell rfl
  have f4 := hb.free 4
  have HD : Hid (Rk (w.setCell ⟨k, 4, none⟩ (.bool true)) S k { d with dn := true }) :=
    ⟨⟨ok.lo, ok.hi, ok.bs, ok.lg, ok.lf⟩, fun j hj => by simpa [World.setCell] using hS j hj, hk, _, lv, told, left, hb.set 4 (.bool true), t1, t2, blk_rows hb h5 (by decide), blk_rows hb h6 (by decide), h7, h8⟩
  have HK := hid (Keep.set (S := S) w hk 4 (.bool true))
  rw [hdn] at c4
  rw [htold] at c2
  rw [hleft] at c3
  have hhi := ok.hi
  have h1 : decide (a < 0) = false := decide_eq_false (by omega)
  have h2 : a < (d.bs.length : Int) := by omega
  have h3 : ((s.size : Int) != 256) = false := by simp; omega
  have h4 : (s.size : Int) = 256 := by omega
  clear h5 h6 h7 h8 hb ok h hdn ho hs t1 t2 hleft htold hl
  go_enter Tryz.func111, Tryz.ntmps111
  go_wp2
  go_ret
  exact ⟨rfl, HD.out, HK.out⟩

/-- a disk's parts ahead of its last two steps -/
def MidR (w : World) (S : Nat → Prop) (k : Nat) (bv lv : Value) (bs : List ByteArray) (lg : List Pg) (told : Bool) (q : Int) (wx : World) : Prop :=
  Blk wx k #[bv, lv, .bool told, .int .i64 q, .bool false] 49 ∧ RowS wx 0 bv bs ∧ RowP wx 0 lv lg ∧ Keep S w wx

set_option maxHeartbeats 4000000 in
theorem rWrite_ok (a : Int) (s : ByteArray) (w : World) (S : Nat → Prop) (k : Nat) (d : Ds) (hd : Rk w S k d) (h : d.rdE a = 0) (hs : s.size = 256) (hl : ¬ d.lf = 0) (hz : (d.lg.length + 1) * 24 ≤ 140737488355328) :
    Calls Tryz.prog 111 #[.pointer (some ⟨k, 0, none⟩), .int .i64 a, .string s] w fun e w' => e = .returned (.int .i64 0) ∧ ∃ S', Rk w' S' k (d.put a s) ∧ Keep S w w' ∧ Grows S S' w := by
  obtain ⟨i0, hi, hz0, hz1, hz2⟩ := info_parts info49
  obtain ⟨hdn, hin⟩ := Ds.rdE_zero h
  have HDN := hid hdn
  have HOK := hid (hd.1.put hin hs)
  unfold Ds.out at hin
  obtain ⟨n, rfl⟩ : ∃ n : Nat, a = (n : Int) := ⟨a.toNat, by omega⟩
  have HPUT := hid (show d.put (n : Int) s = { d with bs := d.bs.set n s, lg := d.lg ++ [⟨(n : Int), s⟩], lf := if 0 < d.lf then d.lf - 1 else d.lf } from rfl)
  obtain ⟨ok, hSl, hSk, bv, lv, told, left, hk, t1, t2, h5, h6, i5, i6⟩ := hd
  rw [hdn] at hk
  obtain ⟨q, hq⟩ : ∃ q, (if told = true then left - 1 else left) = q := ⟨_, rfl⟩
  have hlf := ok.lf
  have hleft : told = true → left = d.lf ∧ 0 < d.lf := by
    intro ht
    rw [t1] at ht
    have := of_decide_eq_true ht
    exact ⟨t2 this, by omega⟩
  have HTL : Hid (told = decide (0 ≤ (if 0 < d.lf then d.lf - 1 else d.lf)) ∧ (0 ≤ (if 0 < d.lf then d.lf - 1 else d.lf) → q = (if 0 < d.lf then d.lf - 1 else d.lf))) := by
    by_cases hp : 0 < d.lf
    · have ht : told = true := by rw [t1]; exact decide_eq_true (by omega)
      rw [if_pos hp]
      refine ⟨?_, fun _ => ?_⟩
      · rw [ht]; exact (decide_eq_true (by omega)).symm
      · rw [← hq, if_pos ht, (hleft ht).1]
    · have ht : told = false := by rw [t1]; exact decide_eq_false (by omega)
      rw [if_neg hp]
      refine ⟨?_, fun h0 => ?_⟩
      · rw [ht]; exact (decide_eq_false (by omega)).symm
      · omega
  have hnl : n < d.bs.length := by omega
  have hhi := ok.hi
  have hni : (n : Int) < (d.bs.length : Int) := by omega
  have hk2 := hk.set 3 (.int .i64 (left - 1))
  obtain ⟨ba, bc, hbv⟩ := h5.form
  subst hbv
  obtain ⟨g, hg, _, hgl⟩ := row_some h5 (by omega)
  subst hg
  obtain ⟨la, lc, hlv⟩ := h6.form
  subst hlv
  have c0 : w.cell? ⟨k, 0, none⟩ = some (.slice (some ⟨g, 0, none⟩) d.bs.length bc) := hk.cell rfl
  have c2 : w.cell? ⟨k, 2, none⟩ = some (.bool told) := hk.cell rfl
  have c3 : w.cell? ⟨k, 3, none⟩ = some (.int .i64 left) := hk.cell rfl
  have c4 : w.cell? ⟨k, 4, none⟩ = some (.bool false) := hk.cell rfl
  have f3 := hk.free 3
  have HS : Hid (S k ∧ In S (.slice (some ⟨g, 0, none⟩) d.bs.length bc) ∧ In S (.slice la d.lg.length lc) ∧ ∀ j, S j → j < w.heap.size) := ⟨hSk, i5, i6, hSl⟩
  have H1 : Hid (MidR w S k (.slice (some ⟨g, 0, none⟩) d.bs.length bc) (.slice la d.lg.length lc) d.bs d.lg told left w) := ⟨hk, h5, h6, Keep.refl _ _⟩
  have H2 : Hid (MidR w S k (.slice (some ⟨g, 0, none⟩) d.bs.length bc) (.slice la d.lg.length lc) d.bs d.lg told (left - 1) (w.setCell ⟨k, 3, none⟩ (.int .i64 (left - 1)))) :=
    ⟨hk2, blk_rows hk h5 (by decide), blk_rows hk h6 (by decide), Keep.set w hSk 3 _⟩
  have HQ := hid hq
  have h1 : decide ((n : Int) < 0) = false := decide_eq_false (by omega)
  have h3 : ((s.size : Int) != 256) = false := by simp; omega
  have h4 : (s.size : Int) = 256 := by omega
  clear hk hk2 h5 h6 i5 i6 hSl hq h hdn ok hs hin t1 t2
  go_enter Tryz.func111, Tryz.ntmps111
  have hcut0 : (told = true ∧ left = d.lf ∧ 0 < d.lf) ∨ told = false := by
    cases told with
    | true => exact .inl ⟨rfl, hleft rfl⟩
    | false => exact .inr rfl
  clear hleft
  rcases hcut0 with ⟨ht, hle, hp⟩ | ht
  all_goals (subst ht)
  · have HLE := hid hle
    have hl0 : ¬ left = 0 := by omega
    have hb1 : left ≤ 9223372036854775807 := by omega
    have hb2 : 0 < left := by omega
    simp only [if_true] at HQ
    clear hle
    go_upto_if 42 with fail
    go_cut [] (fun wx => MidR w S k (.slice (some ⟨g, 0, none⟩) d.bs.length bc) (.slice la d.lg.length lc) d.bs d.lg true q wx)
    case first =>
      go_wp2_with fail
      go_meet
      rw [← HQ.out]
      exact H2.out
    case rest =>
      have HM := hid hcut
      clear hcut H1 H2 c0 c2 c3 c4 f3 hlf
      obtain ⟨m1, m2, m3, m4⟩ : MidR w S k (.slice (some ⟨g, 0, none⟩) d.bs.length bc) (.slice la d.lg.length lc) d.bs d.lg true q wc := HM.out
      have c0 : wc.cell? ⟨k, 0, none⟩ = some (.slice (some ⟨g, 0, none⟩) d.bs.length bc) := m1.cell rfl
      obtain ⟨cg, fg⟩ := m2.at (List.getElem?_eq_getElem hnl)
      have hne := m1.ne m2 (by decide) rfl
      have hk3 := m1.other (i := n) (fun e => hne e.symm) (.string s)
      have c1 : (wc.setCell ⟨g, n, none⟩ (.string s)).cell? ⟨k, 1, none⟩ = some (.slice la d.lg.length lc) := hk3.cell rfl
      have hr5 : (wc.setCell ⟨g, n, none⟩ (.string s)).ownsRow 0 9 1 (.slice (some ⟨g, 0, none⟩) d.bs.length bc) d.bs.length (flatS (d.bs.set n s)) := by
        have := own_set m2 n (.string s)
        rwa [flatS_set] at this
      have hr6 : RowP (wc.setCell ⟨g, n, none⟩ (.string s)) 0 (.slice la d.lg.length lc) d.lg := World.ownsRow.kept m3 (set_grown wc g n _) (.inr (rows_ne m2 m3 (by decide) rfl))
      have HM3 : Hid (Blk (wc.setCell ⟨g, n, none⟩ (.string s)) k #[.slice (some ⟨g, 0, none⟩) d.bs.length bc, .slice la d.lg.length lc, .bool true, .int .i64 q, .bool false] 49 ∧ (wc.setCell ⟨g, n, none⟩ (.string s)).ownsRow 0 9 1 (.slice (some ⟨g, 0, none⟩) d.bs.length bc) d.bs.length (flatS (d.bs.set n s)) ∧ RowP (wc.setCell ⟨g, n, none⟩ (.string s)) 0 (.slice la d.lg.length lc) d.lg ∧ Keep S w (wc.setCell ⟨g, n, none⟩ (.string s))) := ⟨hk3, hr5, hr6, m4.trans (Keep.set (S := S) wc (HS.out.2.1 g rfl) n _) (fun _ _ h => h)⟩
      clear m1 m2 m3 m4 hne hk3 hr5 hr6 HM
      go_upto_region 13 with fail
      clear c0 cg fg
      generalize wc.setCell ⟨g, n, none⟩ (.string s) = w3 at HM3 c1 ⊢
      go_wp2_with (at_builtin; refine wpList_append_blk _ rfl (.tmp 61) (.tmp 65) 35 rfl 0 75 i0 (.agg #[.int .i64 0, .string ⟨#[]⟩]) 2 24 Tryz.underlying35 hi hz0 hz1 hz2 rfl (by decide) (.slice la d.lg.length lc) d.lg.length (flatP d.lg) rfl (World.ownsRow.alloc HM3.out.2.2.1 _) ⟨w3.heap.size, 0, none⟩ 1 1 [.int .i64 (n : Int), .string s] rfl rfl (cells_two w3 _ _ 75) ?c2 (by decide) ?c3 hz (Nat.zero_le _) ?_)
      case c2 => intro u hu; simp at hu; rcases hu with rfl | rfl <;> rfl
      case c3 => unfold maxLen; omega
      intro v' w5 hown' hgrow hmv
      clear c1
      have HM5 : Hid (Blk w5 k #[.slice (some ⟨g, 0, none⟩) d.bs.length bc, .slice la d.lg.length lc, .bool true, .int .i64 q, .bool false] 49 ∧ w5.ownsRow 0 9 1 (.slice (some ⟨g, 0, none⟩) d.bs.length bc) d.bs.length (flatS (d.bs.set n s)) ∧ w5.ownsRow 0 75 2 v' (d.lg.length + 1) (flatP (d.lg ++ [⟨(n : Int), s⟩])) ∧ Keep S w w5) := by
        obtain ⟨m1, m2, m3, m4⟩ := HM3.out
        have a1 := m1.alloc (.cells #[.int .i64 (n : Int), .string s] 75)
        have a2 := World.ownsRow.alloc m2 (.cells #[.int .i64 (n : Int), .string s] 75)
        have a3 := World.ownsRow.alloc m3 (.cells #[.int .i64 (n : Int), .string s] 75)
        refine ⟨a1.kept hgrow (fun e => a1.ne a3 (by decide) e.symm rfl), World.ownsRow.kept a2 hgrow (.inr (fun e => rows_ne a2 a3 (by decide) rfl e.symm)), ?_, (m4.trans (Keep.of_below (S := S) ((Below.refl _ _).alloc (Nat.le_refl _) _)) (fun _ _ h => h)).trans (Keep.grown hgrow (fun j hj => HS.out.2.2.1 j hj)) (fun _ _ h => h)⟩
        rw [flatP_append]
        exact hown'
      have HN : Hid (∀ g2, v'.ownBlock = some g2 → S g2 ∨ w.heap.size ≤ g2) := by
        intro g2 hg2
        rcases hmv g2 hg2 with h' | h'
        · exact .inl (HS.out.2.2.1 g2 h')
        · refine .inr (Nat.le_trans HM3.out.2.2.2.size (Nat.le_trans ?_ h'))
          simp
      obtain ⟨va, vc, hvv⟩ := own_form hown'
      subst hvv
      have e1 : w5.cell? ⟨k, 1, none⟩ = some (.slice la d.lg.length lc) := HM5.out.1.cell rfl
      have f1 := HM5.out.1.free 1
      clear hown' hgrow hmv HM3
      go_wp2_with fail
      go_ret
      refine ⟨rfl, fun j => S j ∨ (w.heap.size ≤ j ∧ j < w5.heap.size), ?_, ?_, ?_⟩
      · obtain ⟨m1, m2, m3, m4⟩ := HM5.out
        rw [HPUT.out]
        rw [HPUT.out] at HOK
        refine ⟨HOK.out, ?_, .inl HS.out.1, .slice (some ⟨g, 0, none⟩) d.bs.length bc, .slice va (d.lg.length + 1) vc, true, q, ?_, HTL.out.1, HTL.out.2, ?_, ?_, fun g2 h2 => .inl (HS.out.2.1 g2 h2), ?_⟩
        · intro j hj
          rw [show (w5.setCell ⟨k, 1, none⟩ (.slice va (d.lg.length + 1) vc)).heap.size = w5.heap.size by simp [World.setCell]]
          rcases hj with hj | hj
          · exact Nat.lt_of_lt_of_le (HS.out.2.2.2 j hj) m4.size
          · exact hj.2
        · have := m1.set 1 (.slice va (d.lg.length + 1) vc)
          show Blk _ _ #[_, _, .bool true, .int .i64 q, .bool d.dn] 49
          rw [HDN.out]
          exact this
        · have := blk_rows (i := 1) (u := .slice va (d.lg.length + 1) vc) m1 m2 (by decide)
          show World.ownsRow _ 0 9 1 _ (d.bs.set n s).length _
          rw [List.length_set]
          exact this
        · have := blk_rows (i := 1) (u := .slice va (d.lg.length + 1) vc) m1 m3 (by decide)
          show World.ownsRow _ 0 75 2 _ (d.lg ++ [(⟨(n : Int), s⟩ : Pg)]).length _
          rw [List.length_append]
          exact this
        · intro g2 h2
          rcases HN.out g2 h2 with h3 | h3
          · exact .inl h3
          · exact .inr ⟨h3, (m3.lt g2 h2).2⟩
      · exact HM5.out.2.2.2.trans (Keep.set (S := S) w5 HS.out.1 1 _) (fun _ _ h => h)
      · intro j hj
        exact hj.elim .inl (fun h => .inr h.1)
  · simp only [Bool.false_eq_true, if_false] at HQ
    go_upto_if 42 with fail
    go_cut [] (fun wx => MidR w S k (.slice (some ⟨g, 0, none⟩) d.bs.length bc) (.slice la d.lg.length lc) d.bs d.lg false q wx)
    case first =>
      go_wp2_with fail
      go_meet
      rw [← HQ.out]
      exact H1.out
    case rest =>
      have HM := hid hcut
      clear hcut H1 H2 c0 c2 c3 c4 f3 hlf
      obtain ⟨m1, m2, m3, m4⟩ : MidR w S k (.slice (some ⟨g, 0, none⟩) d.bs.length bc) (.slice la d.lg.length lc) d.bs d.lg false q wc := HM.out
      have c0 : wc.cell? ⟨k, 0, none⟩ = some (.slice (some ⟨g, 0, none⟩) d.bs.length bc) := m1.cell rfl
      obtain ⟨cg, fg⟩ := m2.at (List.getElem?_eq_getElem hnl)
      have hne := m1.ne m2 (by decide) rfl
      have hk3 := m1.other (i := n) (fun e => hne e.symm) (.string s)
      have c1 : (wc.setCell ⟨g, n, none⟩ (.string s)).cell? ⟨k, 1, none⟩ = some (.slice la d.lg.length lc) := hk3.cell rfl
      have hr5 : (wc.setCell ⟨g, n, none⟩ (.string s)).ownsRow 0 9 1 (.slice (some ⟨g, 0, none⟩) d.bs.length bc) d.bs.length (flatS (d.bs.set n s)) := by
        have := own_set m2 n (.string s)
        rwa [flatS_set] at this
      have hr6 : RowP (wc.setCell ⟨g, n, none⟩ (.string s)) 0 (.slice la d.lg.length lc) d.lg := World.ownsRow.kept m3 (set_grown wc g n _) (.inr (rows_ne m2 m3 (by decide) rfl))
      have HM3 : Hid (Blk (wc.setCell ⟨g, n, none⟩ (.string s)) k #[.slice (some ⟨g, 0, none⟩) d.bs.length bc, .slice la d.lg.length lc, .bool false, .int .i64 q, .bool false] 49 ∧ (wc.setCell ⟨g, n, none⟩ (.string s)).ownsRow 0 9 1 (.slice (some ⟨g, 0, none⟩) d.bs.length bc) d.bs.length (flatS (d.bs.set n s)) ∧ RowP (wc.setCell ⟨g, n, none⟩ (.string s)) 0 (.slice la d.lg.length lc) d.lg ∧ Keep S w (wc.setCell ⟨g, n, none⟩ (.string s))) := ⟨hk3, hr5, hr6, m4.trans (Keep.set (S := S) wc (HS.out.2.1 g rfl) n _) (fun _ _ h => h)⟩
      clear m1 m2 m3 m4 hne hk3 hr5 hr6 HM
      go_upto_region 13 with fail
      clear c0 cg fg
      generalize wc.setCell ⟨g, n, none⟩ (.string s) = w3 at HM3 c1 ⊢
      go_wp2_with (at_builtin; refine wpList_append_blk _ rfl (.tmp 61) (.tmp 65) 35 rfl 0 75 i0 (.agg #[.int .i64 0, .string ⟨#[]⟩]) 2 24 Tryz.underlying35 hi hz0 hz1 hz2 rfl (by decide) (.slice la d.lg.length lc) d.lg.length (flatP d.lg) rfl (World.ownsRow.alloc HM3.out.2.2.1 _) ⟨w3.heap.size, 0, none⟩ 1 1 [.int .i64 (n : Int), .string s] rfl rfl (cells_two w3 _ _ 75) ?c2 (by decide) ?c3 hz (Nat.zero_le _) ?_)
      case c2 => intro u hu; simp at hu; rcases hu with rfl | rfl <;> rfl
      case c3 => unfold maxLen; omega
      intro v' w5 hown' hgrow hmv
      clear c1
      have HM5 : Hid (Blk w5 k #[.slice (some ⟨g, 0, none⟩) d.bs.length bc, .slice la d.lg.length lc, .bool false, .int .i64 q, .bool false] 49 ∧ w5.ownsRow 0 9 1 (.slice (some ⟨g, 0, none⟩) d.bs.length bc) d.bs.length (flatS (d.bs.set n s)) ∧ w5.ownsRow 0 75 2 v' (d.lg.length + 1) (flatP (d.lg ++ [⟨(n : Int), s⟩])) ∧ Keep S w w5) := by
        obtain ⟨m1, m2, m3, m4⟩ := HM3.out
        have a1 := m1.alloc (.cells #[.int .i64 (n : Int), .string s] 75)
        have a2 := World.ownsRow.alloc m2 (.cells #[.int .i64 (n : Int), .string s] 75)
        have a3 := World.ownsRow.alloc m3 (.cells #[.int .i64 (n : Int), .string s] 75)
        refine ⟨a1.kept hgrow (fun e => a1.ne a3 (by decide) e.symm rfl), World.ownsRow.kept a2 hgrow (.inr (fun e => rows_ne a2 a3 (by decide) rfl e.symm)), ?_, (m4.trans (Keep.of_below (S := S) ((Below.refl _ _).alloc (Nat.le_refl _) _)) (fun _ _ h => h)).trans (Keep.grown hgrow (fun j hj => HS.out.2.2.1 j hj)) (fun _ _ h => h)⟩
        rw [flatP_append]
        exact hown'
      have HN : Hid (∀ g2, v'.ownBlock = some g2 → S g2 ∨ w.heap.size ≤ g2) := by
        intro g2 hg2
        rcases hmv g2 hg2 with h' | h'
        · exact .inl (HS.out.2.2.1 g2 h')
        · refine .inr (Nat.le_trans HM3.out.2.2.2.size (Nat.le_trans ?_ h'))
          simp
      obtain ⟨va, vc, hvv⟩ := own_form hown'
      subst hvv
      have e1 : w5.cell? ⟨k, 1, none⟩ = some (.slice la d.lg.length lc) := HM5.out.1.cell rfl
      have f1 := HM5.out.1.free 1
      clear hown' hgrow hmv HM3
      go_wp2_with fail
      go_ret
      refine ⟨rfl, fun j => S j ∨ (w.heap.size ≤ j ∧ j < w5.heap.size), ?_, ?_, ?_⟩
      · obtain ⟨m1, m2, m3, m4⟩ := HM5.out
        rw [HPUT.out]
        rw [HPUT.out] at HOK
        refine ⟨HOK.out, ?_, .inl HS.out.1, .slice (some ⟨g, 0, none⟩) d.bs.length bc, .slice va (d.lg.length + 1) vc, false, q, ?_, HTL.out.1, HTL.out.2, ?_, ?_, fun g2 h2 => .inl (HS.out.2.1 g2 h2), ?_⟩
        · intro j hj
          rw [show (w5.setCell ⟨k, 1, none⟩ (.slice va (d.lg.length + 1) vc)).heap.size = w5.heap.size by simp [World.setCell]]
          rcases hj with hj | hj
          · exact Nat.lt_of_lt_of_le (HS.out.2.2.2 j hj) m4.size
          · exact hj.2
        · have := m1.set 1 (.slice va (d.lg.length + 1) vc)
          show Blk _ _ #[_, _, .bool false, .int .i64 q, .bool d.dn] 49
          rw [HDN.out]
          exact this
        · have := blk_rows (i := 1) (u := .slice va (d.lg.length + 1) vc) m1 m2 (by decide)
          show World.ownsRow _ 0 9 1 _ (d.bs.set n s).length _
          rw [List.length_set]
          exact this
        · have := blk_rows (i := 1) (u := .slice va (d.lg.length + 1) vc) m1 m3 (by decide)
          show World.ownsRow _ 0 75 2 _ (d.lg ++ [(⟨(n : Int), s⟩ : Pg)]).length _
          rw [List.length_append]
          exact this
        · intro g2 h2
          rcases HN.out g2 h2 with h3 | h3
          · exact .inl h3
          · exact .inr ⟨h3, (m3.lt g2 h2).2⟩
      · exact HM5.out.2.2.2.trans (Keep.set (S := S) w5 HS.out.1 1 _) (fun _ _ h => h)
      · intro j hj
        exact hj.elim .inl (fun h => .inr h.1)

theorem rWrite_any (a : Int) (s : ByteArray) (w : World) (S : Nat → Prop) (k : Nat) (d : Ds) (hd : Rk w S k d) (hz : (d.lg.length + 1) * 24 ≤ 140737488355328) :
    Calls Tryz.prog 111 #[.pointer (some ⟨k, 0, none⟩), .int .i64 a, .string s] w fun e w' => e = .returned (.int .i64 (d.wrE a s : Nat)) ∧ ∃ S', Rk w' S' k (d.wr a s) ∧ Keep S w w' ∧ Grows S S' w := by
  by_cases h0 : d.rdE a = 0
  · obtain ⟨h1, h2⟩ := Ds.rdE_zero h0
    by_cases h3 : s.size = 256
    · by_cases h4 : d.lf = 0
      · obtain ⟨e1, e2⟩ := Ds.wrE_cut h1 h2 h3 h4
        rw [e1, e2]
        exact (rWrite_cut a s w S k d hd h0 h3 h4).mono fun e w' h => ⟨h.1, S, h.2.1, h.2.2, Grows.refl _ _⟩
      · obtain ⟨e1, e2⟩ := Ds.wrE_ok h1 h2 h3 h4
        rw [e1, e2]
        exact rWrite_ok a s w S k d hd h0 h3 h4 hz
    · obtain ⟨e1, e2⟩ := Ds.wrE_form h1 h2 h3
      rw [e1, e2]
      refine (rWrite_form a s w S k d hd h0 h3).mono fun e w' h => ?_
      obtain ⟨he, rfl⟩ := h
      exact ⟨he, S, hd, Keep.refl _ _, Grows.refl _ _⟩
  · have key : d.wrE a s = d.rdE a ∧ d.wr a s = d := by
      cases h1 : d.dn with
      | true =>
        obtain ⟨e1, e2⟩ := Ds.wrE_down a s h1
        rw [e1, e2, Ds.rdE_down a h1]
        exact ⟨rfl, rfl⟩
      | false =>
        by_cases h2 : d.out a
        · obtain ⟨e1, e2⟩ := Ds.wrE_out s h1 h2
          rw [e1, e2, Ds.rdE_out h1 h2]
          exact ⟨rfl, rfl⟩
        · exact absurd (Ds.rdE_in h1 h2) h0
    rw [key.1, key.2]
    refine (rWrite_no a s w S k d hd h0).mono fun e w' h => ?_
    obtain ⟨he, rfl⟩ := h
    exact ⟨he, S, hd, Keep.refl _ _, Grows.refl _ _⟩

end Go.Proofs.YtoecopmbaoklkaaGreat
