/-
  The document's Same and SameAll of rules.
-/
import Derived.Test.YtbdlokijednoiaaW8
import Derived.Deep.RegionHeld3

namespace Go.Proofs.Ytbdlokijednoiaa
open Go.RowKit
set_option linter.unusedVariables false
set_option linter.unusedSimpArgs false
set_option maxRecDepth 100000

set_option maxHeartbeats 2000000 in
theorem rSame_rule (w : World) (i j : Int) (l1 r1 l2 r2 : Value) (L R M N : List Cl) (h1 : Lies w l1 L) (h2 : Lies w r1 R) (h3 : Lies w l2 M) (h4 : Lies w r2 N) :
    Calls Try.prog 28 #[.agg #[.int .i64 i, l1, r1], .agg #[.int .i64 j, l2, r2]] w fun e w' => e = .returned (.bool (decide (i = j ∧ L = M ∧ R = N))) ∧ Below w.heap.size w w' := by
  have hs1 : ∀ w1, Below w.heap.size w w1 → _ := fun w1 h => same_any w1 l1 l2 L M (h1.on h) (h3.on h)
  have hs2 : ∀ w1, Below w.heap.size w w1 → _ := fun w1 h => same_any w1 r1 r2 R N (h2.on h) (h4.on h)
  have hx : Blk ((w.alloc (.cells #[.int .i64 i, l1, r1] 56)).alloc (.cells #[.int .i64 j, l2, r2] 56)) w.heap.size #[.int .i64 i, l1, r1] 56 := (Blk.made w _ 56).alloc _
  have hy : Blk ((w.alloc (.cells #[.int .i64 i, l1, r1] 56)).alloc (.cells #[.int .i64 j, l2, r2] 56)) (w.heap.size + 1) #[.int .i64 j, l2, r2] 56 := Blk.madeAt _ _ _ (by simp)
  have hb : Below w.heap.size w ((w.alloc (.cells #[.int .i64 i, l1, r1] 56)).alloc (.cells #[.int .i64 j, l2, r2] 56)) := ((Below.refl _ w).alloc (Nat.le_refl _) _).alloc (by simp) _
  obtain ⟨la, lc, rfl, _⟩ := h1
  obtain ⟨ra, rc, rfl, _⟩ := h2
  obtain ⟨ma, mc, rfl, _⟩ := h3
  obtain ⟨na, nc, rfl, _⟩ := h4
  have HX : Hid (Blk ((w.alloc (.cells #[.int .i64 i, .slice la L.length lc, .slice ra R.length rc] 56)).alloc (.cells #[.int .i64 j, .slice ma M.length mc, .slice na N.length nc] 56)) w.heap.size #[.int .i64 i, .slice la L.length lc, .slice ra R.length rc] 56) := hx
  have HY : Hid (Blk ((w.alloc (.cells #[.int .i64 i, .slice la L.length lc, .slice ra R.length rc] 56)).alloc (.cells #[.int .i64 j, .slice ma M.length mc, .slice na N.length nc] 56)) (w.heap.size + 1) #[.int .i64 j, .slice ma M.length mc, .slice na N.length nc] 56) := hy
  have HB : Hid (Below w.heap.size w ((w.alloc (.cells #[.int .i64 i, .slice la L.length lc, .slice ra R.length rc] 56)).alloc (.cells #[.int .i64 j, .slice ma M.length mc, .slice na N.length nc] 56))) := hb
  clear hx hy hb
  by_cases hij : i = j
  · have q : (i == j) = true := by simpa using hij
    by_cases hLM : L = M
    · have e : decide (i = j ∧ L = M ∧ R = N) = decide (R = N) := by simp [hij, hLM]
      rw [e]
      rw [decide_eq_true hLM] at hs1
      generalize decide (R = N) = d at hs2 ⊢
      clear hLM e hij
      go_enter Try.func28, Try.ntmps28
      go_wp2_with (first | (go_at_call 12; refine (hs1 _ HB.out).mono ?_; clear hs1; rintro e w1 ⟨rfl, b1⟩; have hbw := HB.out.trans (b1.mono HB.out.size); have c1 := (HX.out.on b1 HX.out.lt).cell (i := 2) rfl; have c2 := (HY.out.on b1 HY.out.lt).cell (i := 2) rfl) | (go_at_call 12; refine (hs2 _ hbw).mono ?_; rintro e w2 ⟨rfl, b2⟩))
      go_ret
      exact ⟨rfl, hbw.trans (b2.mono hbw.size)⟩
    · have e : decide (i = j ∧ L = M ∧ R = N) = false := by simp [hLM]
      rw [e]
      rw [decide_eq_false hLM] at hs1
      clear hLM e hs2 hij
      go_enter Try.func28, Try.ntmps28
      go_wp2_with (first | (go_at_call 12; refine (hs1 _ HB.out).mono ?_; clear hs1; rintro e w1 ⟨rfl, b1⟩; have hbw := HB.out.trans (b1.mono HB.out.size)))
      go_ret
      exact ⟨rfl, hbw⟩
  · have q : (i == j) = false := by simpa using hij
    have e : decide (i = j ∧ L = M ∧ R = N) = false := by simp [hij]
    rw [e]
    clear e hs1 hs2
    go_enter Try.func28, Try.ntmps28
    go_wp2_with fail
    go_ret
    exact ⟨rfl, HB.out⟩

set_option maxHeartbeats 2000000 in
theorem sameRules_self (w : World) (u v : Value) (rs : List Rl) (hu : LiesR w u rs) (hv : LiesR w v rs) :
    Calls Try.prog 15 #[u, v] w fun e w' => e = .returned (.bool true) ∧ Below w.heap.size w w' := by
  have HU := hid hu
  have HV := hid hv
  obtain ⟨ua, uc, rfl, hu1, hu2, _⟩ := hu
  obtain ⟨va, vc, rfl, hv1, hv2, _⟩ := hv
  have hm : rs.length ≤ 9223372036854775807 := by unfold maxLen at hu2; omega
  go_enter Try.func15, Try.ntmps15
  go_wp2_with fail
  go_loopw [13] (fun i wr => ∃ k : Nat, k ≤ rs.length ∧ i = .int .i64 (k : Nat) ∧ Below w.heap.size w wr) (fun i _ => rs.length - (intOf i).toNat)
  case atStart => exact ⟨0, Nat.zero_le _, rfl, Below.refl _ _⟩
  case round =>
    obtain ⟨k, hk, rfl, hbr⟩ := hrel
    by_cases hlt : k < rs.length
    · obtain ⟨r, hrk⟩ : ∃ r, rs[k]? = some r := ⟨rs[k], List.getElem?_eq_getElem hlt⟩
      have hki : (k : Int) < (rs.length : Int) := by omega
      obtain ⟨g, off, x, y, hua, hgl, c0, c1, c2, hlx, hly⟩ := (HU.out.on hbr).at hrk
      obtain ⟨g', off', x', y', hva, hgl', c0', c1', c2', hlx', hly'⟩ := (HV.out.on hbr).at hrk
      subst hua hva
      have hbd : Below wr.heap.size wr wr.drew := (Below.refl _ wr).drew
      have hsm : Calls Try.prog 28 #[.agg #[.int .i64 r.id, x, y], .agg #[.int .i64 r.id, x', y']] wr.drew fun e w' => e = .returned (.bool true) ∧ Below wr.drew.heap.size wr.drew w' := by
        have := rSame_rule wr.drew r.id r.id x y x' y' r.l r.r r.l r.r (hlx.on hbd) (hly.on hbd) (hlx'.on hbd) (hly'.on hbd)
        rwa [decide_eq_true ⟨rfl, rfl, rfl⟩] at this
      obtain ⟨xa, xc, hxv, _⟩ := hlx
      obtain ⟨ya, yc, hyv, _⟩ := hly
      obtain ⟨xa', xc', hxv', _⟩ := hlx'
      obtain ⟨ya', yc', hyv', _⟩ := hly'
      subst hxv hyv hxv' hyv'
      have HS0 : (wr.drew.cell? ⟨g, off + k * 3, none⟩ = some (.int .i64 r.id) ∧ wr.drew.cell? ⟨g, off + k * 3 + 1, none⟩ = some (.slice xa r.l.length xc) ∧ wr.drew.cell? ⟨g, off + k * 3 + 2, none⟩ = some (.slice ya r.r.length yc)) ∧ (wr.drew.cell? ⟨g', off' + k * 3, none⟩ = some (.int .i64 r.id) ∧ wr.drew.cell? ⟨g', off' + k * 3 + 1, none⟩ = some (.slice xa' r.l.length xc') ∧ wr.drew.cell? ⟨g', off' + k * 3 + 2, none⟩ = some (.slice ya' r.r.length yc')) := ⟨⟨c0, c1, c2⟩, ⟨c0', c1', c2'⟩⟩
      clear c0 c1 c2 c0' c1' c2' hrk
      go_wp2_with fail
      go_region_held3 (fun w' => (w'.cell? ⟨g, off + k * 3, none⟩ = some (.int .i64 r.id) ∧ w'.cell? ⟨g, off + k * 3 + 1, none⟩ = some (.slice xa r.l.length xc) ∧ w'.cell? ⟨g, off + k * 3 + 2, none⟩ = some (.slice ya r.r.length yc)) ∧ (w'.cell? ⟨g', off' + k * 3, none⟩ = some (.int .i64 r.id) ∧ w'.cell? ⟨g', off' + k * 3 + 1, none⟩ = some (.slice xa' r.l.length xc') ∧ w'.cell? ⟨g', off' + k * 3 + 2, none⟩ = some (.slice ya' r.r.length yc'))) (first | exact HS0 | exact HS8)
        (first | (go_at_call 28; refine hsm.mono ?_; rintro e w8 ⟨rfl, hb8⟩; have HS8 : (w8.cell? ⟨g, off + k * 3, none⟩ = some (.int .i64 r.id) ∧ w8.cell? ⟨g, off + k * 3 + 1, none⟩ = some (.slice xa r.l.length xc) ∧ w8.cell? ⟨g, off + k * 3 + 2, none⟩ = some (.slice ya r.r.length yc)) ∧ (w8.cell? ⟨g', off' + k * 3, none⟩ = some (.int .i64 r.id) ∧ w8.cell? ⟨g', off' + k * 3 + 1, none⟩ = some (.slice xa' r.l.length xc') ∧ w8.cell? ⟨g', off' + k * 3 + 2, none⟩ = some (.slice ya' r.r.length yc')) := ⟨⟨(hb8.cell (p := ⟨g, off + k * 3, none⟩) hgl).trans HS0.1.1, (hb8.cell (p := ⟨g, off + k * 3 + 1, none⟩) hgl).trans HS0.1.2.1, (hb8.cell (p := ⟨g, off + k * 3 + 2, none⟩) hgl).trans HS0.1.2.2⟩, ⟨(hb8.cell (p := ⟨g', off' + k * 3, none⟩) hgl').trans HS0.2.1, (hb8.cell (p := ⟨g', off' + k * 3 + 1, none⟩) hgl').trans HS0.2.2.1, (hb8.cell (p := ⟨g', off' + k * 3 + 2, none⟩) hgl').trans HS0.2.2.2⟩⟩; have hb9 := hbr.drew.trans (hb8.mono hbr.size)))
      all_goals
        (go_wp2_with fail
         go_roundw
         case rel => exact ⟨k + 1, by omega, by go_num, hb9⟩
         case measure => simp [intOf]; omega)
    · have hki : ¬ (k : Int) < (rs.length : Int) := by omega
      go_wp2_with fail
      go_ret
      exact ⟨rfl, hbr⟩

end Go.Proofs.Ytbdlokijednoiaa
