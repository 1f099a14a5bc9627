/-
  The document's disk: New, Of, Read, Cut, Restore, Write.
-/
import Derived.Test.YtoecopmbaoklkaaGreatRf
namespace Go.Proofs.YtoecopmbaoklkaaGreat
open Go.RowKit
set_option linter.unusedVariables false
set_option linter.unusedSimpArgs false
set_option maxRecDepth 100000

theorem rNew_no (n : Int) (h : ¬ (64 ≤ n ∧ n ≤ 2048)) (w : World) : Calls Tryz.prog 6 #[.int .i64 n] w fun e w' => e = .returned (.pointer none) ∧ w = w' := by
  by_cases h1 : n < 64
  · have hd : decide (n < 64) = true := decide_eq_true h1
    go_enter Tryz.func6, Tryz.ntmps6
    go_wp2
    go_ret
    exact ⟨rfl, rfl⟩
  · have hd : decide (n < 64) = false := decide_eq_false h1
    have h2 : 2048 < n := by omega
    go_enter Tryz.func6, Tryz.ntmps6
    go_wp2
    go_ret
    exact ⟨rfl, rfl⟩

/-- the cells of a disk's block turned, its rows not -/
theorem blk_rows {w : World} {k : Nat} {cs : Array Value} {t : TypeId} {B e size n i : Nat} {v u : Value} {xs : List Value} (hk : Blk w k cs t) (h : w.ownsRow B e size v n xs) (ht : t ≠ e) : (w.setCell ⟨k, i, none⟩ u).ownsRow B e size v n xs :=
  World.ownsRow.kept h (set_grown w k i u) (by
    cases e1 : v.ownBlock with
    | none => exact .inl rfl
    | some g => exact .inr (fun x => hk.ne h ht e1 (Option.some.inj x)))

set_option maxHeartbeats 2000000 in
theorem rNew_any (n : Nat) (h1 : 64 ≤ n) (h2 : n ≤ 2048) (w : World) : Calls Tryz.prog 6 #[.int .i64 (n : Nat)] w fun e w' => ∃ k, e = .returned (.pointer (some ⟨k, 0, none⟩)) ∧ Rk w' (Bt w.heap.size w'.heap.size) k (nw n) ∧ Below w.heap.size w w' := by
  obtain ⟨i0, hi, hz0, hz1, hz2⟩ := info_parts info9
  have hzr : ∀ w1, _ := fun w1 => zeros_any 256 w1 (by omega)
  have HB0 := hid ((Below.refl _ w).alloc (Nat.le_refl _) (.cells #[.slice none 0 0, .slice none 0 0, .bool false, .int .i64 0, .bool false] 49))
  have HK0 := hid (Blk.made w #[.slice none 0 0, .slice none 0 0, .bool false, .int .i64 0, .bool false] 49)
  go_enter Tryz.func6, Tryz.ntmps6
  go_wp2_with (go_at_call 25; refine (hzr _).mono ?_; clear hzr; rintro e w1 ⟨rfl, hb1⟩; have HB1 := hid (HB0.out.trans (hb1.mono HB0.out.size)); have HK1 := hid (HK0.out.on hb1 HK0.out.lt); clear hb1 HB0 HK0)
  go_loopw [5] (fun i wr => ∃ (k : Nat) (ba : Option Addr) (bc : Nat), k ≤ n ∧ i = .int .i64 (k : Nat) ∧ Hid (Blk wr w.heap.size #[.slice ba k bc, .slice none 0 0, .bool false, .int .i64 0, .bool false] 49) ∧ Hid (wr.ownsRow w.heap.size 9 1 (.slice ba k bc) k (flatS (List.replicate k Z))) ∧ Hid (Below w.heap.size w wr)) (fun i _ => n - (intOf i).toNat)
  case atStart => exact ⟨0, none, 0, Nat.zero_le _, rfl, HK1, World.ownsRow_nil _ _ _ _, HB1⟩
  case round =>
    obtain ⟨k, ba, bc, hk, rfl, HK, HR, HB⟩ := hrel
    clear HK1 HB1
    by_cases hlt : k < n
    · have hki : (k : Int) < (n : Int) := by omega
      have c0 : wr.cell? ⟨w.heap.size, 0, none⟩ = some (.slice ba k bc) := HK.out.cell rfl
      have hsz := HB.out.size
      go_wp2_with (at_builtin; refine wpList_append_blk _ rfl (.tmp 24) (.tmp 26) 46 rfl w.heap.size 9 i0 (.string ⟨#[]⟩) 1 16 Tryz.underlying46 hi hz0 hz1 hz2 rfl (by decide) _ k (flatS (List.replicate k Z)) rfl (HR.out.alloc _) ⟨wr.heap.size, 0, none⟩ 1 1 [.string Z] rfl rfl (cells_one wr _ 9) ?c2 (by decide) ?c3 ?c4 ?c5 ?_)
      case c2 => intro u hu; simp at hu; subst hu; rfl
      case c3 => unfold maxLen; omega
      case c4 => omega
      case c5 => simp; omega
      intro v' w2 hown' hgrow hmv
      have hkb : Blk (wr.alloc (.cells #[.string Z] 9)) w.heap.size #[.slice ba k bc, .slice none 0 0, .bool false, .int .i64 0, .bool false] 49 := HK.out.alloc _
      have hk2 : Blk w2 w.heap.size #[.slice ba k bc, .slice none 0 0, .bool false, .int .i64 0, .bool false] 49 := hkb.kept hgrow (fun e => hkb.ne (HR.out.alloc _) (by decide) e.symm rfl)
      have d0 : w2.cell? ⟨w.heap.size, 0, none⟩ = some (.slice ba k bc) := hk2.cell rfl
      have f0 := hk2.free 0
      have hb2 : Below w.heap.size w w2 := (HB.out.alloc hsz _).grown hgrow (by simp; omega) (fun g hg => (HR.out.lt g hg).1)
      obtain ⟨va, vc, hv'⟩ := own_form hown'
      subst hv'
      have HK3 := hid (hk2.set 0 (.slice va (k + 1) vc))
      have HR3 : Hid ((w2.setCell ⟨w.heap.size, 0, none⟩ (.slice va (k + 1) vc)).ownsRow w.heap.size 9 1 (.slice va (k + 1) vc) (k + 1) (flatS (List.replicate (k + 1) Z))) := by
        have := blk_rows (i := 0) (u := .slice va (k + 1) vc) hk2 hown' (by decide)
        rw [List.replicate_succ', flatS_append]
        exact this
      have HB3 := hid (hb2.setCell (p := ⟨w.heap.size, 0, none⟩) (Nat.le_refl _) (.slice va (k + 1) vc))
      clear hkb hk2 hb2 hown' hgrow hmv c0 HK HR HB
      go_wp2_with fail
      go_roundw
      case rel => exact ⟨k + 1, va, vc, by omega, by go_num, HK3, HR3, HB3⟩
      case measure => simp [intOf]; omega
    · have hki : ¬ (k : Int) < (n : Int) := by omega
      obtain rfl : k = n := by omega
      go_wp2_with fail
      go_ret
      refine ⟨w.heap.size, rfl, ⟨nw_ok h1 h2, fun j hj => hj.2, ⟨Nat.le_refl _, HK.out.lt⟩, .slice ba k bc, .slice none 0 0, false, 0, HK.out, rfl, ?_, ?_, World.ownsRow_nil _ _ _ _, ?_, ?_⟩, HB.out⟩
      · intro h; simp [nw] at h
      · have := own_base HR.out (Nat.zero_le w.heap.size)
        show wr.ownsRow 0 9 1 _ (List.replicate k Z).length _
        rw [List.length_replicate]
        exact own_base HR.out (Nat.zero_le _)
      · exact In.of_row HR.out (Nat.le_refl _)
      · intro g hg; simp [Value.ownBlock] at hg

theorem rRead_any (a : Int) (w : World) (S : Nat → Prop) (k : Nat) (d : Ds) (hd : Rk w S k d) : Calls Tryz.prog 58 #[.pointer (some ⟨k, 0, none⟩), .int .i64 a] w fun e w' => e = .returned (.tuple #[.string (d.rdS a), .int .i64 (d.rdE a : Nat)]) ∧ w = w' := by
  obtain ⟨ok, _, _, bv, lv, told, left, hb, _, _, h5, _⟩ := hd
  obtain ⟨ba, bc, hbv⟩ := h5.form
  subst hbv
  have c0 : w.cell? ⟨k, 0, none⟩ = some (.slice ba d.bs.length bc) := hb.cell rfl
  have c4 : w.cell? ⟨k, 4, none⟩ = some (.bool d.dn) := hb.cell rfl
  have hhi := ok.hi
  cases hdn : d.dn with
  | true =>
    rw [hdn] at c4
    have hE := Ds.rdE_down a hdn
    have hS : d.rdS a = ⟨#[]⟩ := by unfold Ds.rdS; rw [if_neg (by rw [hE]; decide)]
    rw [hE, hS]
    clear h5 hb ok hE hS hdn
    go_enter Tryz.func58, Tryz.ntmps58
    go_wp2
    go_ret2
    exact ⟨rfl, rfl⟩
  | false =>
    rw [hdn] at c4
    by_cases ho : d.out a
    · have hE := Ds.rdE_out hdn ho
      have hS : d.rdS a = ⟨#[]⟩ := by unfold Ds.rdS; rw [if_neg (by rw [hE]; decide)]
      rw [hE, hS]
      clear h5 hb ok hE hS hdn
      rcases ho with h1 | h1
      · have h2 : decide (a < 0) = true := decide_eq_true h1
        go_enter Tryz.func58, Tryz.ntmps58
        go_wp2
        go_ret2
        exact ⟨rfl, rfl⟩
      · have h2 : decide (a < 0) = false := decide_eq_false (by omega)
        go_enter Tryz.func58, Tryz.ntmps58
        go_wp2
        go_ret2
        exact ⟨rfl, rfl⟩
    · have hE := Ds.rdE_in hdn ho
      unfold Ds.out at ho
      obtain ⟨n, rfl⟩ : ∃ n : Nat, a = (n : Int) := ⟨a.toNat, by omega⟩
      have hnl : n < d.bs.length := by omega
      obtain ⟨s, hs⟩ : ∃ s, d.bs[n]? = some s := ⟨_, List.getElem?_eq_getElem hnl⟩
      have hS : d.rdS (n : Int) = s := by unfold Ds.rdS; rw [if_pos hE, Int.toNat_natCast, List.getD_eq_getElem?_getD, hs]; rfl
      obtain ⟨g, x1, _, _⟩ := row_some h5 (by omega)
      subst x1
      have c1 := (h5.at hs).1
      have h1 : decide ((n : Int) < 0) = false := decide_eq_false (by omega)
      have h2 : (n : Int) < (d.bs.length : Int) := by omega
      rw [hE, hS]
      clear h5 hb ok hE hS hdn hs ho
      go_enter Tryz.func58, Tryz.ntmps58
      go_wp2
      go_ret2
      exact ⟨rfl, rfl⟩

theorem rCut_any (n : Int) (hn : -9223372036854775808 ≤ n ∧ n ≤ 9223372036854775807) (w : World) (S : Nat → Prop) (k : Nat) (d : Ds) (hd : Rk w S k d) : Calls Tryz.prog 37 #[.pointer (some ⟨k, 0, none⟩), .int .i64 n] w fun e w' => e = .returned (.tuple #[]) ∧ Rk w' S k { d with lf := n } ∧ Keep S w w' := by
  obtain ⟨ok, hS, hk, bv, lv, told, left, hb, t1, t2, h5, h6, h7, h8⟩ := hd
  have hb1 := hb.set 2 (.bool (decide (0 ≤ n)))
  have hb2 := hb1.set 3 (.int .i64 n)
  have c2 : w.cell? ⟨k, 2, none⟩ = some (.bool told) := hb.cell rfl
  have f2 := hb.free 2
  have c3 : (w.setCell ⟨k, 2, none⟩ (.bool (decide (0 ≤ n)))).cell? ⟨k, 3, none⟩ = some (.int .i64 left) := hb1.cell rfl
  have f3 := hb1.free 3
  have HD : Hid (Rk ((w.setCell ⟨k, 2, none⟩ (.bool (decide (0 ≤ n)))).setCell ⟨k, 3, none⟩ (.int .i64 n)) S k { d with lf := n }) :=
    ⟨⟨ok.lo, ok.hi, ok.bs, ok.lg, hn⟩, fun j hj => by simpa [World.setCell] using hS j hj, hk, bv, lv, decide (0 ≤ n), n, hb2, rfl, fun _ => rfl, blk_rows hb1 (blk_rows hb h5 (by decide)) (by decide), blk_rows hb1 (blk_rows hb h6 (by decide)) (by decide), h7, h8⟩
  have HK := hid ((Keep.set (S := S) w hk 2 (.bool (decide (0 ≤ n)))).trans (Keep.set (S := S) (w.setCell ⟨k, 2, none⟩ (.bool (decide (0 ≤ n)))) hk 3 (.int .i64 n)) (fun _ _ h => h))
  clear hb hb1 hb2 h5 h6 h7 h8 ok
  by_cases h0 : 0 ≤ n
  · have hd : decide (0 ≤ n) = true := decide_eq_true h0
    rw [hd] at c3 f3 HD HK
    clear hd
    go_enter Tryz.func37, Tryz.ntmps37
    go_wp2
    go_end0
    exact ⟨rfl, HD.out, HK.out⟩
  · have hd : decide (0 ≤ n) = false := decide_eq_false h0
    rw [hd] at c3 f3 HD HK
    go_enter Tryz.func37, Tryz.ntmps37
    go_wp2
    go_end0
    exact ⟨rfl, HD.out, HK.out⟩

end Go.Proofs.YtoecopmbaoklkaaGreat
