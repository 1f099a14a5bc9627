/-
  RewriteTables holds: a run with a table of terms whose normal forms are known.
-/
import Derived.Test.YtgijdhnkkbenoaaGreatRows
import Derived.Test.YtgijdhnkkbenoaaGreatBH
import Derived.Test.YtgijdhnkkbenoaaGreatBL
import Derived.Test.YtgijdhnkkbenoaaGreatBU
import Derived.Test.YtgijdhnkkbenoaaGreatBZ
import Derived.Test.YtgijdhnkkbenoaaGreatOpenR
import Derived.ProofKit
import Derived.OpenShut
import Derived.ShutString
import Derived.ChangeOld
import Derived.Below
import Derived.SizedLaws
import Derived.Lib.SmallJoins
namespace Go.Proofs.YtgijdhnkkbenoaaGreat
open Go.ChangeShapes Go.WideShapes Go.ChangeAt Go.RowKit Go.Joins
open Go.ChangeMaps (open_string shut_string)
set_option linter.unusedVariables false
set_option linter.unusedSimpArgs false
set_option maxRecDepth 100000

section
open Go.ChangeShapes Go.WideShapes Go.ChangeAt Go.RowKit Go.Deep Go.Joins
set_option linter.unusedVariables false
set_option linter.unusedSimpArgs false
set_option maxRecDepth 100000

theorem cells52 : Tryz.prog.cellsOf 52 = 3 := by kernel_rfl
/-- a table that came in: besides, the names' sizes, and that a nil list of heads has no room -/
structure MemA (W : World) (v : Value) (ms : List Mm) : Prop where
  l : LiesM W v ms
  n : ∀ x ∈ ms, x.n.length * 24 ≤ 140737488355328
  h : ∀ x ∈ ms, x.h.length * 16 ≤ 140737488355328
  nm : ∀ x ∈ ms, ∀ y ∈ x.h, y.size ≤ maxLen
  z : ∀ g off n c, v = .slice (some ⟨g, off, none⟩) n c → ∀ i < n, ∀ k cc, W.cell? ⟨g, off + i * 3 + 2, none⟩ = some (.slice none k cc) → cc = 0

section
variable {H : Type} {enc : TypeId × Value → H} {W : World}
theorem elem_memo {a : Addr} {i n : Nat} {cs : List Value} {d : DataW H} {p : List MemPlace} (hc : W.cells? 0 (a.add (i * 3)) 3 = some cs) (ht : DataW.trod enc Tryz.prog W 0 (fun _ => true) true n 52 cs = some (d, p)) (hw : ∀ q ∈ d.weights Tryz.prog 52, q ≤ reachBytes) :
    ∃ (m : Mm) (x y z : Value), W.cell? (a.add (i * 3)) = some x ∧ W.cell? (a.add (i * 3 + 1)) = some y ∧ W.cell? (a.add (i * 3 + 2)) = some z ∧ Lies W x m.t ∧ Lies W y m.n ∧ LiesS W z m.h ∧ m.n.length * 24 ≤ 140737488355328 ∧ m.h.length * 16 ≤ 140737488355328 ∧ (∀ y ∈ m.h, y.size ≤ maxLen) ∧ ∀ k c, z = .slice none k c → c = 0 := by
  obtain ⟨_, hlen, hcell⟩ := World.cells?_some hc
  obtain ⟨y0, y1, y2, k, hx, _, h0, h1, h2⟩ := trod_struct3 Tryz.underlying52 ht
  match cs, hlen with
  | [v0, v1, v2], _ =>
    have e0 := hcell 0 (by omega)
    have e1 := hcell 1 (by omega)
    have e2 := hcell 2 (by omega)
    rw [add_add] at e0 e1 e2
    have g0 : DataW.trod enc Tryz.prog W 0 (fun _ => true) true k 23 [v0] = some y0 := h0
    have g1 : DataW.trod enc Tryz.prog W 0 (fun _ => true) true k 23 [v1] = some y1 := h1
    have g2 : DataW.trod enc Tryz.prog W 0 (fun _ => true) true k 26 [v2] = some y2 := h2
    have hd := congrArg Prod.fst hx
    simp only at hd
    rw [hd] at hw
    obtain ⟨T, t1, _⟩ := open_cells1 (d := y0.1) (p := y0.2) g0 (fun q hq => hw q (by
      simp only [DataW.weights, Tryz.underlying52, DataW.weightsEach]
      exact List.mem_append_left _ hq))
    obtain ⟨N, n1, n2⟩ := open_cells1 (d := y1.1) (p := y1.2) g1 (fun q hq => hw q (by
      simp only [DataW.weights, Tryz.underlying52, DataW.weightsEach]
      exact List.mem_append_right _ (List.mem_append_left _ hq)))
    obtain ⟨S, s1, s2, s3, s4⟩ := open_texts0 (d := y2.1) (p := y2.2) g2 (fun q hq => hw q (by
      simp only [DataW.weights, Tryz.underlying52, DataW.weightsEach]
      exact List.mem_append_right _ (List.mem_append_right _ (List.mem_append_left _ hq))))
    exact ⟨⟨T, N, S⟩, v0, v1, v2, by simpa using e0, by simpa using e1, by simpa using e2, t1, n1, s1, n2, by simp only; omega, s3, s4⟩
theorem open_memos0 {fuel : Nat} {v : Value} {d : DataW H} {p : List MemPlace}
    (h : DataW.trod enc Tryz.prog W 0 (fun _ => true) true fuel 47 [v] = some (d, p)) (hw : ∀ n ∈ d.weights Tryz.prog 47, n ≤ reachBytes) :
    ∃ ms, MemA W v ms := by
  rcases open_slice Tryz.underlying47 h with ⟨hcs, hx⟩ | ⟨a, len, cap, m, n, D, Pl, hcs, _, hl, hm, hmm, hx, hel⟩
  · simp at hcs
    subst hcs
    exact ⟨[], LiesM.nil W, (fun x hx => by cases hx), (fun x hx => by cases hx), (fun x hx => by cases hx), fun g off n c e => by cases e⟩
  · simp at hcs
    subst hcs
    simp only [if_true] at hmm
    subst hmm
    have hd := congrArg Prod.fst hx
    simp only at hd
    rw [hd] at hw
    rw [cells52] at hel
    have hin : Inhabited (Mm × Value × Value × Value) := ⟨(⟨[], [], []⟩, .bool false, .bool false, .bool false)⟩
    obtain ⟨F, hF⟩ := choose_lt (α := Mm × Value × Value × Value) (n := len) (p := fun i q => W.cell? (a.add (i * 3)) = some q.2.1 ∧ W.cell? (a.add (i * 3 + 1)) = some q.2.2.1 ∧ W.cell? (a.add (i * 3 + 2)) = some q.2.2.2 ∧ Lies W q.2.1 q.1.t ∧ Lies W q.2.2.1 q.1.n ∧ LiesS W q.2.2.2 q.1.h ∧ q.1.n.length * 24 ≤ 140737488355328 ∧ q.1.h.length * 16 ≤ 140737488355328 ∧ (∀ y ∈ q.1.h, y.size ≤ maxLen) ∧ ∀ k c, q.2.2.2 = .slice none k c → c = 0) (fun i hi => by
      obtain ⟨cs, h1, h2⟩ := hel i (by omega)
      obtain ⟨r, x, y, z, q⟩ := elem_memo h1 h2 (fun q hq => hw q (by
        simp only [DataW.weights, Tryz.underlying47, List.mem_cons, List.mem_append]
        exact .inr (.inl (weights_part (List.mem_map.2 ⟨i, List.mem_range.2 hi, rfl⟩) q hq))))
      exact ⟨(r, x, y, z), q⟩)
    have hlen : ((List.range len).map fun i => (F i).1).length = len := by simp
    refine ⟨(List.range len).map fun i => (F i).1, ⟨some a, m, by rw [hlen], by rw [hlen]; exact hl, hm, ?_⟩, ?_, ?_, ?_, ?_⟩
    · intro j r hj
      have hjl : j < len := by have := (List.getElem?_eq_some_iff.1 hj).1; rwa [hlen] at this
      rw [List.getElem?_map, List.getElem?_range hjl] at hj
      simp only [Option.map_some, Option.some.injEq] at hj
      subst hj
      obtain ⟨h0, h1, h2, h3, h4, h5, _⟩ := hF j hjl
      obtain ⟨g, off, spot⟩ := a
      have hspot : spot = none := by simpa [Addr.add] using World.cell?_spot (hF 0 (by omega)).1
      subst hspot
      rw [addr_plain] at h0 h1 h2
      exact ⟨g, off, (F j).2.1, (F j).2.2.1, (F j).2.2.2, rfl, World.block_lt_of_cell? W _ h0, h0, h1, h2, h3, h4, h5⟩
    · intro r hr
      obtain ⟨i, hi, rfl⟩ := List.mem_map.1 hr
      exact (hF i (List.mem_range.1 hi)).2.2.2.2.2.2.1
    · intro r hr
      obtain ⟨i, hi, rfl⟩ := List.mem_map.1 hr
      exact (hF i (List.mem_range.1 hi)).2.2.2.2.2.2.2.1
    · intro r hr
      obtain ⟨i, hi, rfl⟩ := List.mem_map.1 hr
      exact (hF i (List.mem_range.1 hi)).2.2.2.2.2.2.2.2.1
    · intro g off n' c e i hi k cc hcell
      cases e
      obtain ⟨_, _, h2, _, _, _, _, _, _, h9⟩ := hF i hi
      rw [addr_plain] at h2
      have h2' : W.cell? ⟨g, off + i * 3 + 2, none⟩ = some (F i).2.2.2 := h2
      have h3 := hcell.symm.trans h2'
      simp only [Option.some.injEq] at h3
      exact h9 k cc h3.symm
end

theorem open_told {H : Type} {enc : TypeId × Value → H} {W : World} {base : Nat} {v : Value} {d : DataW H} {p : List MemPlace}
    (hv : Value.okWide Tryz.prog W .any base 49 v) (h : DataW.Trod enc Tryz.prog W 0 (fun _ => true) true 49 v d p) (hw : ∀ n ∈ d.weights Tryz.prog 49, n ≤ reachBytes) :
    ∃ (mv : Value) (ms : List Mm) (fu : Int), v = .agg #[mv, .int .i64 fu] ∧ MemA W mv ms ∧ (Lit.int .i64 fu).wf = true := by
  obtain ⟨c0, c1, y0, y1, n, rfl, rfl, rfl, h0, h1⟩ := open_agg2 Tryz.underlying49 (by kernel_rfl) (by kernel_rfl) hv h
  obtain ⟨fu, e2, _, hz⟩ := DataW.trod_int Tryz.underlying3 h1
  simp only [List.cons.injEq, and_true] at e2
  subst e2
  obtain ⟨ms, hm⟩ := open_memos0 (d := y0.1) (p := y0.2) h0 (fun q hq => hw q (by
    simp only [DataW.weights, Tryz.underlying49, DataW.weightsEach]
    exact List.mem_append_left _ hq))
  exact ⟨c0, ms, fu, rfl, hm, hz⟩
end

section
open Go.RowKit
set_option linter.unusedVariables false
set_option linter.unusedSimpArgs false
set_option maxRecDepth 100000

def aT : List Cl := [⟨⟨#[97]⟩, 0⟩]
/-- the world in which Right is called -/
def raW (w : World) : World := (w.alloc (.cells #[.string ⟨#[97]⟩, .int .i64 0] 54)).alloc (.cells #[.slice (some ⟨w.heap.size, 0, none⟩) 1 1] 23)
theorem raW_below (w : World) : Below w.heap.size w (raW w) := ((Below.refl _ w).alloc (Nat.le_refl _) _).alloc (by simp) _
theorem right_made (w : World) (zv : Value) (h : List ByteArray) (hh : LiesS w zv h) (hn : ∀ y ∈ h, y.size ≤ maxLen) :
    Calls Tryz.prog 16 #[.agg #[.slice none 0 0, .slice (some ⟨w.heap.size + 1, 0, none⟩) 1 1, .int .i64 0, zv]] (raW w) fun e w' => e = .returned (.bool (stR 0 [] [aT] h)) ∧ Below w.heap.size w w' := by
  have hl : Lies (w.alloc (.cells #[.string ⟨#[97]⟩, .int .i64 0] 54)) (.slice (some ⟨w.heap.size, 0, none⟩) 1 1) aT := lies_lit w aT (by kernel_rfl)
  have hl2 : Lies (raW w) (.slice (some ⟨w.heap.size, 0, none⟩) 1 1) aT := hl.on (bel_al _ _)
  have hk : Blk (raW w) (w.heap.size + 1) #[.slice (some ⟨w.heap.size, 0, none⟩) 1 1] 23 := Blk.madeAt _ _ _ (by simp)
  have hT : LiesT (raW w) (.slice (some ⟨w.heap.size + 1, 0, none⟩) 1 1) [aT] := by
    refine ⟨some ⟨w.heap.size + 1, 0, none⟩, 1, rfl, Nat.le_refl _, by decide, fun j l hj => ?_⟩
    match j, hj with
    | 0, hj =>
      simp only [List.getElem?_cons_zero, Option.some.injEq] at hj
      subst hj
      exact ⟨_, 0, _, rfl, hk.lt, hk.cell (i := 0) rfl, hl2⟩
    | j + 1, hj => simp at hj
  have hO : LiesO (raW w) (.slice none 0 0) [] := ⟨none, 0, rfl, Nat.le_refl _, Nat.zero_le _, fun i o h => by simp at h⟩
  refine (rright_any (raW w) _ _ zv 0 [] [aT] h ⟨hO, hT, hh.on (raW_below w), hn, by simp⟩).mono fun e w' hq => ?_
  obtain ⟨h1, h2⟩ := hq
  exact ⟨h1, (raW_below w).trans (h2.mono (raW_below w).size)⟩
theorem stR_kinds {h : List ByteArray} (hs : stR 0 [] [aT] h = true) : ∀ y ∈ h, kind y.data.toList = 1 := by
  unfold stR at hs
  simp only [Bool.and_eq_true] at hs
  obtain ⟨⟨⟨_, h1⟩, _⟩, _⟩ := hs
  intro y hy
  have := List.all_eq_true.1 h1 y hy
  unfold symB at this
  simpa using this
theorem tbOk_of {ms : List Mm} (h : ∀ (j : Nat) x, j < ms.length → ms[j]? = some x → grd x.n = true ∧ ∀ y ∈ x.h, kind y.data.toList = 1) : TbOk (tbM ms) := by
  intro t p hp
  unfold tbM at hp
  cases hk : knownI ms t with
  | none => rw [hk] at hp; simp at hp
  | some i =>
    rw [hk] at hp
    simp only [Option.bind_some] at hp
    cases hm : ms[i]? with
    | none => rw [hm] at hp; simp at hp
    | some m =>
      rw [hm] at hp
      simp only [Option.map_some, Option.some.injEq] at hp
      subst hp
      exact h i m (List.getElem?_eq_some_iff.1 hm).1 hm
theorem startP_err {T : List Cl} (h : (startP T).2 ≠ 0) : (startP T).1 = noStt := by
  unfold startP at h ⊢
  by_cases hc : check T = 0
  · rw [if_pos hc] at h ⊢
    by_cases hg : grd T = true
    · rw [if_pos hg] at h; exact absurd rfl h
    · rw [if_neg hg]
  · rw [if_neg hc]
end


set_option maxHeartbeats 16000000 in
theorem rewriteTables_walk (v0 : Value) (rs : List Rl) (v1 : Value) (T : List Cl) (mv : Value) (ms : List Mm) (fu : Int) (hwf0 : (Lit.int .i64 fu).wf = true) (w : World) (hr : LiesR w v0 rs) (hz : rs.length * 56 ≤ 140737488351232 ∧ ∀ r ∈ rs, r.l.length * 24 ≤ 140737488355328 ∧ r.r.length * 24 ≤ 140737488355328) (hT : Lies w v1 T) (z1 : T.length * 24 ≤ 140737488355328) (hm : MemA w mv ms) :
    Calls Tryz.prog 5 #[v0, v1, .agg #[mv, .int .i64 fu]] w fun e w' => e = .returned (.bool true) ∧ Below w.heap.size w w' := by
  have hfu : -9223372036854775808 ≤ fu ∧ fu ≤ 9223372036854775807 := by have := bounds_i64 hwf0; omega
  clear hwf0
  have HM := hid hm
  obtain ⟨ma, mc, hmv, ml1, ml2, _⟩ := id hm.l
  subst hmv
  have hml : ms.length ≤ 9223372036854775807 := by unfold maxLen at ml2; omega
  clear ml1 ml2 hm
  have HB0 : Hid (Below w.heap.size w (w.alloc (.cells #[.slice ma ms.length mc, .int .i64 fu] 49))) := (Below.refl _ w).alloc (Nat.le_refl _) _
  have HX0 : Hid (Blk (w.alloc (.cells #[.slice ma ms.length mc, .int .i64 fu] 49)) w.heap.size #[.slice ma ms.length mc, .int .i64 fu] 49) := Blk.made _ _ _
  have HR := hid hr
  have HT := hid hT
  have hwk := wakes_any (w.alloc (.cells #[.slice ma ms.length mc, .int .i64 fu] 49))
  have hfw : ∀ w1, Below w.heap.size w w1 → _ := fun w1 hb => few_any w1 v0 rs (HR.out.on hb) fu
  obtain ⟨ra, rc, hrv, _⟩ := id hr
  subst hrv
  obtain ⟨ta, tc, htv, _, _, hfT, _⟩ := id hT
  subst htv
  by_cases hfew : (rs.length ≤ 64 ∧ fu ≤ 300) ∧ ms.length ≤ 50
  · rw [decide_eq_true hfew.1.1, decide_eq_true hfew.1.2] at hfw
    have h50 : ¬ (50 : Int) < (ms.length : Int) := by omega
    have hf3 : fu ≤ 300 := hfew.1.2
    have hru : ∀ w1, Below w.heap.size w w1 → _ := fun w1 hb => rules_any w1 _ rs (HR.out.on hb) (by omega) hz.2
    have hcp : ∀ w1, Below w.heap.size w w1 → _ := fun w1 hb => copy_any w1 _ T (HT.out.on hb) z1
    have hsa : ∀ w1 u, Lies w1 u T → _ := fun w1 u hu => start_any w1 u T hu
    have hrs : ∀ w1, Below w.heap.size w w1 → _ := fun w1 hb => rstart_any w1 _ T (HT.out.on hb)
    have HRF := hid hr.fine
    have HFT := hid hfT
    have HSK := hid (startP_ok T)
    have hz0 := @startP_zero T
    have hss := @small_start T
    have hss2 := @startP_err T
    obtain ⟨⟨s, e0⟩, hSP⟩ : ∃ SP, startP T = SP := ⟨_, rfl⟩
    rw [hSP] at hsa hrs HSK hz0 hss hss2
    dsimp only at hsa hrs HSK hz0 hss hss2
    clear hr hT hz z1 hfT hfew hSP
    go_enter Tryz.func5, Tryz.ntmps5
    go_upto_region 3 with ((go_at_call 9; refine hwk.mono ?_; clear hwk; rintro e w1 ⟨rfl, hb1⟩; have HB1 := hid (HB0.out.trans (hb1.mono HB0.out.size)); have HX1 := HX0.out.on hb1 HX0.out.lt; have c0 : w1.cell? ⟨w.heap.size, 0, none⟩ = some (.slice ma ms.length mc) := HX1.cell (i := 0) rfl; have c1 : w1.cell? ⟨w.heap.size, 1, none⟩ = some (.int .i64 fu) := HX1.cell (i := 1) rfl; clear HB0 HX0 hb1 HX1))
    go_cut [7, 8] from 18 (fun s7 s8 wx => s7 = .slice ma ms.length mc ∧ s8 = .int .i64 fu ∧ Below w.heap.size w wx)
    case first =>
      go_quiet (fail)
      go_wp2_with fail
      go_meet
      exact ⟨rfl, rfl, HB1.out.trans ⟨rfl, rfl, rfl, Nat.le_refl _, fun _ _ => rfl⟩⟩
    obtain ⟨rfl, rfl, hB2⟩ := hcut
    have HB2 := hid hB2
    clear hB2 HB1
    go_wp2_with (go_at_call 17; refine (hfw _ HB2.out).mono ?_; clear hfw; rintro e w2 ⟨rfl, rfl⟩)
    go_loopw [35] (fun i wr => ∃ k : Nat, k ≤ ms.length ∧ i = .int .i64 (k : Nat) ∧ Hid (∀ (j : Nat) x, j < k → ms[j]? = some x → grd x.n = true ∧ ∀ y ∈ x.h, kind y.data.toList = 1) ∧ Hid (Below w.heap.size w wr)) (fun i _ => ms.length - (intOf i).toNat)
    case atStart => exact ⟨0, Nat.zero_le _, rfl, (fun j x h => by omega), HB2.out⟩
    case round =>
      clear HB2
      obtain ⟨k, hk, rfl, HF, HB⟩ := hrel
      have hbs := HB.out.size
      by_cases hlt : k < ms.length
      · obtain ⟨m, hmk⟩ : ∃ m, ms[k]? = some m := ⟨ms[k], List.getElem?_eq_getElem hlt⟩
        clear hru hcp hsa hrs HRF HFT HSK
        have hki : (k : Int) < (ms.length : Int) := by omega
        obtain ⟨g, off, x, y, z, hma, hgl, d0, d1, d2, _, hly, hlz⟩ := (HM.out.l.on HB.out).at hmk
        subst hma
        have hgr := rground_any wr y m.n hly
        have HLZ := hid hlz
        obtain ⟨ya, yc, hyv, _⟩ := hly
        subst hyv
        obtain ⟨za, zc, hzv, _⟩ := hlz
        subst hzv
        have HMK := hid hmk
        have HNM := hid (HM.out.nm m (List.mem_of_getElem? hmk))
        clear hmk
        obtain ⟨G, hG⟩ : ∃ G, grd m.n = G := ⟨_, rfl⟩
        rw [hG] at hgr
        cases G with
        | false =>
          go_wp2_with (go_at_call 21; refine hgr.mono ?_; clear hgr; rintro e w3 ⟨rfl, hb3⟩)
          go_ret
          exact ⟨rfl, HB.out.trans (hb3.mono hbs)⟩
        | true =>
          obtain ⟨Q, hQ⟩ : ∃ Q, stR 0 [] [aT] m.h = Q := ⟨_, rfl⟩
          have hri : ∀ w3, Below wr.heap.size wr w3 → _ := fun w3 hb => right_made w3 _ m.h (HLZ.out.on hb) HNM.out
          rw [hQ] at hri
          unfold raW at hri
          have HG := hid hG
          have HQ := hid hQ
          clear hG hQ
          cases Q with
          | false =>
            go_wp2_with (first | (go_at_call 21; refine hgr.mono ?_; clear hgr; rintro e w3 ⟨rfl, hb3⟩; replace d2 := (hb3.cell (p := ⟨g, off + k * 3 + 2, none⟩) hgl).trans d2; have e2 := ((raW_below w3).cell (p := ⟨g, off + k * 3 + 2, none⟩) (Nat.lt_of_lt_of_le hgl hb3.size)).trans d2; unfold raW at e2; have hq := hri w3 hb3) | (go_at_call 16; refine hq.mono ?_; clear hq; rintro e w4 ⟨rfl, hb4⟩))
            go_ret
            exact ⟨rfl, (HB.out.trans (hb3.mono hbs)).trans (hb4.mono (Nat.le_trans hbs hb3.size))⟩
          | true =>
            go_wp2_with (first | (go_at_call 21; refine hgr.mono ?_; clear hgr; rintro e w3 ⟨rfl, hb3⟩; replace d2 := (hb3.cell (p := ⟨g, off + k * 3 + 2, none⟩) hgl).trans d2; have e2 := ((raW_below w3).cell (p := ⟨g, off + k * 3 + 2, none⟩) (Nat.lt_of_lt_of_le hgl hb3.size)).trans d2; unfold raW at e2; have hq := hri w3 hb3) | (go_at_call 16; refine hq.mono ?_; clear hq; rintro e w4 ⟨rfl, hb4⟩))
            go_roundw
            case rel =>
              refine ⟨k + 1, by omega, by go_num, (fun j x h1 h2 => ?_), (HB.out.trans (hb3.mono hbs)).trans (hb4.mono (Nat.le_trans hbs hb3.size))⟩
              by_cases e : j = k
              · subst e; rw [HMK.out] at h2; cases h2; exact ⟨HG.out, stR_kinds HQ.out⟩
              · exact HF.out j x (by omega) h2
            case measure => (simp [intOf]; try omega)
      · have hki : ¬ (k : Int) < (ms.length : Int) := by omega
        have HTB := hid (tbOk_of (fun j x h1 h2 => HF.out j x (by omega) h2))
        clear HF hlt hk hbs
        by_cases he : e0 = 0
        · subst he
          clear hss2
          have HSMs := hid (hss (hz0 rfl).2.1)
          clear hss hz0
          have hno := HSMs.out.no
          have hnv := HSMs.out.nv
          have hlim : s.ops.length + 8 * fu.toNat ≤ 2513169500000 := by omega
          have hlv : s.vals.length ≤ 7539508500002 := by omega
          have hlnum : s.vals.length + s.ops.length ≤ 9223372036854775000 := by omega
          have HASK := hid (ask_tb w _ ms HM.out.l HM.out.n HM.out.h HM.out.z HTB.out)
          obtain ⟨⟨x, f⟩, hx⟩ : ∃ r, runP rs (tbM ms) s fu = r := ⟨_, rfl⟩
          have HOKR : Hid (SttOk x) := by have := runP_ok (rs := rs) HTB.out (s := s) (fu := fu) hlim; rw [hx] at this; exact this
          have HRP := hid hx
          clear hx
          go_upto_region 15 with (first | (go_at_call 11; refine (hcp _ HB.out).mono ?_; clear hcp; rintro e w3 ⟨x3, rfl, ho3, hb3⟩; have hl3 := Owns.lies ho3 HFT.out; obtain ⟨xa, xc, hxv, _⟩ := own_cells ho3; subst hxv; have HB3 := hid (HB.out.trans (hb3.mono HB.out.size)); have hq3 := hsa w3 _ hl3; clear hb3 ho3 hl3 hsa) | (go_at_call 10; refine hq3.mono ?_; clear hq3; rintro e w4 ⟨sv4, rfl, ho4, hb4⟩; obtain ⟨s1, s2, s3, s4, s5, s6, hsv, _⟩ := ho4.trio HSK.out; subst hsv; have A5 := bel_al w4 (.cells #[.slice s1 s.ops.length s2, .slice s3 s.vals.length s4, .int .i64 s.steps, .slice s5 s.heads.length s6] 28); have HB5 := hid ((HB3.out.trans (hb4.mono HB3.out.size)).trans (A5.mono (HB3.out.trans (hb4.mono HB3.out.size)).size)); have HX5 := hid (Blk.made w4 #[.slice s1 s.ops.length s2, .slice s3 s.vals.length s4, .int .i64 s.steps, .slice s5 s.heads.length s6] 28); have HS5 := hid ((ho4.base (Nat.zero_le _)).on A5); clear A5 hb4 ho4))
          generalize hwb : w4.alloc (.cells #[.slice s1 s.ops.length s2, .slice s3 s.vals.length s4, .int .i64 s.steps, .slice s5 s.heads.length s6] 28) = wb at HX5 HS5 HB5 ⊢
          clear hwb HB3
          go_cut [12, 13] from 71 (fun s12 s13 wx => ∃ (p : Nat) (p1 : Option Addr) (p2 : Nat) (p3 : Option Addr) (p4 : Nat) (p5 : Option Addr) (p6 : Nat), s12 = .pointer (some ⟨p, 0, none⟩) ∧ s13 = .int .i64 (f : Nat) ∧ Below wb.heap.size wb wx ∧ Blk wx p #[.slice p1 x.ops.length p2, .slice p3 x.vals.length p4, .int .i64 x.steps, .slice p5 x.heads.length p6] 28 ∧ OutSt 0 wx (.agg #[.slice p1 x.ops.length p2, .slice p3 x.vals.length p4, .int .i64 x.steps, .slice p5 x.heads.length p6]) x)
          case first =>
            have HX := HX5
            have HS := HS5
            have HSM := HSMs
            have HBV := HB5
            have hB : Below wb.heap.size wb wb.drew := (Below.refl _ wb).drew
            have HC0 := four (HX.out.on hB HX.out.lt)
            refine wp_region_m (fun w' => (w'.cell? ⟨w4.heap.size, 0, none⟩ = some (.slice s1 s.ops.length s2) ∧ w'.cell? ⟨w4.heap.size, 1, none⟩ = some (.slice s3 s.vals.length s4) ∧ w'.cell? ⟨w4.heap.size, 2, none⟩ = some (.int .i64 s.steps) ∧ w'.cell? ⟨w4.heap.size, 3, none⟩ = some (.slice s5 s.heads.length s6))) 100 (by kernel_rfl) ?_
            generalize wb.drew = wd at hB HC0 ⊢
            refine wpAnyM_pick (i := 0) (some 72) (v := ?vz1) rfl rfl (by kernel_rfl) (by kernel_rfl) (by kernel_rfl) (by kernel_rfl) (fun _ _ _ h => h) (Or.inl ⟨by rfl, ?hz1⟩) HC0 ?rz1
            case hz1 => intro w hSw; go_simp; try with_reducible rfl
            try simp only [Act.put, List.setIfInBounds_toArray, List.set_cons_zero, List.set_cons_succ]
            refine wpAnyM_pick (i := 2) (some 74) (v := ?vz2) rfl rfl (by kernel_rfl) (by kernel_rfl) (by kernel_rfl) (by kernel_rfl) (fun _ _ _ h => h) (Or.inl ⟨by rfl, ?hz2⟩) HC0 ?rz2
            case hz2 => intro w hSw; go_simp; try with_reducible rfl
            try simp only [Act.put, List.setIfInBounds_toArray, List.set_cons_zero, List.set_cons_succ]
            refine wpAnyM_pick (i := 3) (some 75) (v := ?vz3) rfl rfl (by kernel_rfl) (by kernel_rfl) (by kernel_rfl) (by kernel_rfl) (fun _ _ _ h => h) (Or.inl ⟨by rfl, ?hz3⟩) HC0 ?rz3
            case hz3 => intro w hSw; go_simp; try with_reducible rfl
            try simp only [Act.put, List.setIfInBounds_toArray, List.set_cons_zero, List.set_cons_succ]
            refine wpAnyM_pick (i := 4) (some 76) (v := ?vz4) rfl rfl (by kernel_rfl) (by kernel_rfl) (by kernel_rfl) (by kernel_rfl) (fun _ _ _ h => h) (Or.inl ⟨by rfl, ?hz4⟩) HC0 ?rz4
            case hz4 => intro w hSw; go_simp; try with_reducible rfl
            try simp only [Act.put, List.setIfInBounds_toArray, List.set_cons_zero, List.set_cons_succ]
            refine wpAnyM_pick (i := 5) (some 77) (v := ?vz5) rfl rfl (by kernel_rfl) (by kernel_rfl) (by kernel_rfl) (by kernel_rfl) (fun _ _ _ h => h) (Or.inl ⟨by rfl, ?hz5⟩) HC0 ?rz5
            case hz5 => intro w hSw; go_simp; try with_reducible rfl
            try simp only [Act.put, List.setIfInBounds_toArray, List.set_cons_zero, List.set_cons_succ]
            refine wpAnyM_pick (i := 6) (some 78) (v := ?vz6) rfl rfl (by kernel_rfl) (by kernel_rfl) (by kernel_rfl) (by kernel_rfl) (fun _ _ _ h => h) (Or.inl ⟨by rfl, ?hz6⟩) HC0 ?rz6
            case hz6 => intro w hSw; go_simp; try with_reducible rfl
            try simp only [Act.put, List.setIfInBounds_toArray, List.set_cons_zero, List.set_cons_succ]
            refine wpAnyM_two (i := 1) (j := 11) (by kernel_rfl) rfl rfl (fun K hK => ?_) (fun K hK => ?_)
            · go_simp
              go_at_call 19
              refine (hru _ (HBV.out.trans (hB.mono HBV.out.size))).mono ?_
              rintro e u1 ⟨rv1, rfl, ho1, hb1⟩
              have B1b := hB.trans (hb1.mono hB.size)
              have R1b := hid (ho1.lies HRF.out)
              obtain ⟨ra1, rc1, hrv1⟩ := ho1.form
              subst hrv1
              clear ho1
              go_wp2_with fail
              refine hK.out _ _ (fun _ => four (HX.out.on B1b HX.out.lt)) ?_
              clear hK K
              try simp only [Act.put, List.setIfInBounds_toArray, List.set_cons_zero, List.set_cons_succ]
              refine wpAnyM_two (i := 7) (j := 11) (by kernel_rfl) rfl rfl (fun K hK => ?_) (fun K hK => ?_)
              · go_simp
                go_at_call 18
                refine (run_wide _ _ rs R1b.out s _ _ _ ((HS.out.on B1b).in2 HSM.out).2 HSM.out.wf fu hfu (.iface 56 (.agg #[.slice ma ms.length mc])) (.inr ⟨_, _, rfl⟩) (tbM ms) HTB.out (HASK.out.on (HBV.out.trans (B1b.mono HBV.out.size))) hlim hlv hlnum).mono ?_
                rw [HRP.out]
                dsimp only
                rintro e u2 ⟨sv2, rfl, hO5, hb2⟩
                have B2b := B1b.trans (hb2.mono B1b.size)
                obtain ⟨p1, p2, p3, p4, p5, p6, hsv2, _⟩ := hO5.trio HOKR.out
                subst hsv2
                go_wp2_with fail
                refine hK.out _ _ (fun _ => four (HX.out.on B2b HX.out.lt)) ?_
                clear hK K
                try simp only [Act.put, List.setIfInBounds_toArray, List.set_cons_zero, List.set_cons_succ]
                have A3 := bel_al u2 (.cells #[.slice p1 x.ops.length p2, .slice p3 x.vals.length p4, .int .i64 x.steps, .slice p5 x.heads.length p6] 28)
                have B3 := B2b.trans (A3.mono B2b.size)
                have P3 := Blk.made u2 #[.slice p1 x.ops.length p2, .slice p3 x.vals.length p4, .int .i64 x.steps, .slice p5 x.heads.length p6] 28
                have L3 := (hO5.base (Nat.zero_le _)).on A3
                have A3z := bel_al u2 (.cells #[.slice none 0 0, .slice none 0 0, .int .i64 0, .slice none 0 0] 28)
                have B3z := B2b.trans (A3z.mono B2b.size)
                refine wpAnyM_pick (i := 8) (some 71) (v := ?vz7) rfl rfl (by kernel_rfl) (by kernel_rfl) (by kernel_rfl) (by kernel_rfl) (fun _ _ _ h => h) (Or.inl ⟨by rfl, ?hz7⟩) (four (HX.out.on B2b HX.out.lt)) ?rz7
                case hz7 => intro w hSw; go_simp; try with_reducible rfl
                try simp only [Act.put, List.setIfInBounds_toArray, List.set_cons_zero, List.set_cons_succ]
                refine wpAnyM_pick (i := 9) (some 80) (v := ?vz8) rfl rfl (by kernel_rfl) (by kernel_rfl) (by kernel_rfl) (by kernel_rfl) (fun _ _ _ h => h) (Or.inl ⟨by rfl, ?hz8⟩) (four (HX.out.on B2b HX.out.lt)) ?rz8
                case hz8 => intro w hSw; go_simp; try with_reducible rfl
                try simp only [Act.put, List.setIfInBounds_toArray, List.set_cons_zero, List.set_cons_succ]
                refine wpAnyM_pick (i := 10) (some 81) (v := ?vz9) rfl rfl (by kernel_rfl) (by kernel_rfl) (by kernel_rfl) (by kernel_rfl) (fun _ _ _ h => h) (Or.inl ⟨by rfl, ?hz9⟩) (four (HX.out.on B2b HX.out.lt)) ?rz9
                case hz9 => intro w hSw; go_simp; try with_reducible rfl
                try simp only [Act.put, List.setIfInBounds_toArray, List.set_cons_zero, List.set_cons_succ]
                refine wpAnyM_one (i := 11) (by kernel_rfl) rfl (fun K hK => ?_)
                go_simp
                refine hK.out _ _ (fun _ => four (HX.out.on B3z HX.out.lt)) ?_
                clear hK K
                try simp only [Act.put, List.setIfInBounds_toArray, List.set_cons_zero, List.set_cons_succ]
                refine wpAnyM_one (i := 12) (by kernel_rfl) rfl (fun K hK => ?_)
                go_simp
                refine hK.out _ _ (fun _ => four (HX.out.on B3 HX.out.lt)) ?_
                clear hK K
                try simp only [Act.put, List.setIfInBounds_toArray, List.set_cons_zero, List.set_cons_succ]
                refine wpAnyM_one (i := 13) (by kernel_rfl) rfl (fun K hK => ?_)
                go_simp
                refine hK.out _ _ (fun _ => four (HX.out.on B3 HX.out.lt)) ?_
                clear hK K
                try simp only [Act.put, List.setIfInBounds_toArray, List.set_cons_zero, List.set_cons_succ]
                refine wpAnyM_done (by kernel_rfl) ?_ _
                try simp only [Act.put, List.setIfInBounds_toArray, List.set_cons_zero, List.set_cons_succ]
                go_wp2_with fail
                go_meet
                exact ⟨_, p1, p2, p3, p4, p5, p6, rfl, rfl, B3, P3, L3⟩
              · have A2a := bel_al u1 (.cells #[.slice none 0 0, .slice none 0 0, .int .i64 0, .slice none 0 0] 28)
                have B2a := B1b.trans (A2a.mono B1b.size)
                have P2a := Blk.made u1 #[.slice none 0 0, .slice none 0 0, .int .i64 0, .slice none 0 0] 28
                have hp2 : wb.heap.size ≤ u1.heap.size := B1b.size
                have R2a := hid (R1b.out.on A2a)
                go_simp
                refine hK.out _ _ (fun _ => four (HX.out.on B2a HX.out.lt)) ?_
                clear hK K
                try simp only [Act.put, List.setIfInBounds_toArray, List.set_cons_zero, List.set_cons_succ]
                refine wpAnyM_one (i := 7) (by kernel_rfl) rfl (fun K hK => ?_)
                go_simp
                go_at_call 18
                refine (run_wide _ _ rs R2a.out s _ _ _ ((HS.out.on B2a).in2 HSM.out).2 HSM.out.wf fu hfu (.iface 56 (.agg #[.slice ma ms.length mc])) (.inr ⟨_, _, rfl⟩) (tbM ms) HTB.out (HASK.out.on (HBV.out.trans (B2a.mono HBV.out.size))) hlim hlv hlnum).mono ?_
                rw [HRP.out]
                dsimp only
                rintro e u4 ⟨sv4, rfl, hO5, hb4⟩
                have B4b := B2a.trans (hb4.mono B2a.size)
                have P4b := P2a.on hb4 P2a.lt
                obtain ⟨p1, p2, p3, p4, p5, p6, hsv4, _⟩ := hO5.trio HOKR.out
                subst hsv4
                go_wp2_with fail
                refine hK.out _ _ (fun _ => four (HX.out.on B4b HX.out.lt)) ?_
                clear hK K
                try simp only [Act.put, List.setIfInBounds_toArray, List.set_cons_zero, List.set_cons_succ]
                have a0 := P4b.cell (i := 0) rfl
                have z0 := P4b.free 0
                have m1 := P4b.set 0 (.slice p1 x.ops.length p2)
                have a1 := m1.cell (i := 1) rfl
                have z1 := m1.free 1
                have m2 := m1.set 1 (.slice p3 x.vals.length p4)
                have a2 := m2.cell (i := 2) rfl
                have z2 := m2.free 2
                have m3 := m2.set 2 (.int .i64 x.steps)
                have a3 := m3.cell (i := 3) rfl
                have z3 := m3.free 3
                obtain ⟨hD, hg⟩ := set4 P4b (.slice p1 x.ops.length p2) (.slice p3 x.vals.length p4) (.int .i64 x.steps) (.slice p5 x.heads.length p6)
                have B5 := B4b.grown hg B4b.size (fun k hk => by cases hk; omega)
                have L5 := (hO5.base (Nat.zero_le _)).blk P4b hg
                refine wpAnyM_pick (i := 8) (some 71) (v := ?vz10) rfl rfl (by kernel_rfl) (by kernel_rfl) (by kernel_rfl) (by kernel_rfl) (fun _ _ _ h => h) (Or.inl ⟨by rfl, ?hz10⟩) (four (HX.out.on B4b HX.out.lt)) ?rz10
                case hz10 => intro w hSw; go_simp; try with_reducible rfl
                try simp only [Act.put, List.setIfInBounds_toArray, List.set_cons_zero, List.set_cons_succ]
                refine wpAnyM_pick (i := 9) (some 80) (v := ?vz11) rfl rfl (by kernel_rfl) (by kernel_rfl) (by kernel_rfl) (by kernel_rfl) (fun _ _ _ h => h) (Or.inl ⟨by rfl, ?hz11⟩) (four (HX.out.on B4b HX.out.lt)) ?rz11
                case hz11 => intro w hSw; go_simp; try with_reducible rfl
                try simp only [Act.put, List.setIfInBounds_toArray, List.set_cons_zero, List.set_cons_succ]
                refine wpAnyM_pick (i := 10) (some 81) (v := ?vz12) rfl rfl (by kernel_rfl) (by kernel_rfl) (by kernel_rfl) (by kernel_rfl) (fun _ _ _ h => h) (Or.inl ⟨by rfl, ?hz12⟩) (four (HX.out.on B4b HX.out.lt)) ?rz12
                case hz12 => intro w hSw; go_simp; try with_reducible rfl
                try simp only [Act.put, List.setIfInBounds_toArray, List.set_cons_zero, List.set_cons_succ]
                refine wpAnyM_one (i := 12) (by kernel_rfl) rfl (fun K hK => ?_)
                go_simp
                refine hK.out _ _ (fun _ => four (HX.out.on B5 HX.out.lt)) ?_
                clear hK K
                try simp only [Act.put, List.setIfInBounds_toArray, List.set_cons_zero, List.set_cons_succ]
                refine wpAnyM_one (i := 13) (by kernel_rfl) rfl (fun K hK => ?_)
                go_simp
                refine hK.out _ _ (fun _ => four (HX.out.on B5 HX.out.lt)) ?_
                clear hK K
                try simp only [Act.put, List.setIfInBounds_toArray, List.set_cons_zero, List.set_cons_succ]
                refine wpAnyM_done (by kernel_rfl) ?_ _
                try simp only [Act.put, List.setIfInBounds_toArray, List.set_cons_zero, List.set_cons_succ]
                go_wp2_with fail
                go_meet
                exact ⟨_, p1, p2, p3, p4, p5, p6, rfl, rfl, B5, hD, L5⟩
            · have A1a := bel_al wd (.cells #[.slice none 0 0, .slice none 0 0, .int .i64 0, .slice none 0 0] 28)
              have B1a := hB.trans (A1a.mono hB.size)
              have P1a := Blk.made wd #[.slice none 0 0, .slice none 0 0, .int .i64 0, .slice none 0 0] 28
              have hp1 : wb.heap.size ≤ wd.heap.size := hB.size
              go_simp
              refine hK.out _ _ (fun _ => four (HX.out.on B1a HX.out.lt)) ?_
              clear hK K
              try simp only [Act.put, List.setIfInBounds_toArray, List.set_cons_zero, List.set_cons_succ]
              refine wpAnyM_one (i := 1) (by kernel_rfl) rfl (fun K hK => ?_)
              go_simp
              go_at_call 19
              refine (hru _ (HBV.out.trans (B1a.mono HBV.out.size))).mono ?_
              rintro e u6 ⟨rv6, rfl, ho6, hb6⟩
              have B6b := B1a.trans (hb6.mono B1a.size)
              have P6b := P1a.on hb6 P1a.lt
              have R6b := hid (ho6.lies HRF.out)
              obtain ⟨ra6, rc6, hrv6⟩ := ho6.form
              subst hrv6
              clear ho6
              go_wp2_with fail
              refine hK.out _ _ (fun _ => four (HX.out.on B6b HX.out.lt)) ?_
              clear hK K
              try simp only [Act.put, List.setIfInBounds_toArray, List.set_cons_zero, List.set_cons_succ]
              refine wpAnyM_one (i := 7) (by kernel_rfl) rfl (fun K hK => ?_)
              go_simp
              go_at_call 18
              refine (run_wide _ _ rs R6b.out s _ _ _ ((HS.out.on B6b).in2 HSM.out).2 HSM.out.wf fu hfu (.iface 56 (.agg #[.slice ma ms.length mc])) (.inr ⟨_, _, rfl⟩) (tbM ms) HTB.out (HASK.out.on (HBV.out.trans (B6b.mono HBV.out.size))) hlim hlv hlnum).mono ?_
              rw [HRP.out]
              dsimp only
              rintro e u7 ⟨sv7, rfl, hO5, hb7⟩
              have B7b := B6b.trans (hb7.mono B6b.size)
              have P7b := P6b.on hb7 P6b.lt
              obtain ⟨p1, p2, p3, p4, p5, p6, hsv7, _⟩ := hO5.trio HOKR.out
              subst hsv7
              go_wp2_with fail
              refine hK.out _ _ (fun _ => four (HX.out.on B7b HX.out.lt)) ?_
              clear hK K
              try simp only [Act.put, List.setIfInBounds_toArray, List.set_cons_zero, List.set_cons_succ]
              have a0 := P7b.cell (i := 0) rfl
              have z0 := P7b.free 0
              have m1 := P7b.set 0 (.slice p1 x.ops.length p2)
              have a1 := m1.cell (i := 1) rfl
              have z1 := m1.free 1
              have m2 := m1.set 1 (.slice p3 x.vals.length p4)
              have a2 := m2.cell (i := 2) rfl
              have z2 := m2.free 2
              have m3 := m2.set 2 (.int .i64 x.steps)
              have a3 := m3.cell (i := 3) rfl
              have z3 := m3.free 3
              obtain ⟨hD, hg⟩ := set4 P7b (.slice p1 x.ops.length p2) (.slice p3 x.vals.length p4) (.int .i64 x.steps) (.slice p5 x.heads.length p6)
              have B8 := B7b.grown hg B7b.size (fun k hk => by cases hk; omega)
              have L8 := (hO5.base (Nat.zero_le _)).blk P7b hg
              refine wpAnyM_pick (i := 8) (some 71) (v := ?vz13) rfl rfl (by kernel_rfl) (by kernel_rfl) (by kernel_rfl) (by kernel_rfl) (fun _ _ _ h => h) (Or.inl ⟨by rfl, ?hz13⟩) (four (HX.out.on B7b HX.out.lt)) ?rz13
              case hz13 => intro w hSw; go_simp; try with_reducible rfl
              try simp only [Act.put, List.setIfInBounds_toArray, List.set_cons_zero, List.set_cons_succ]
              refine wpAnyM_pick (i := 9) (some 80) (v := ?vz14) rfl rfl (by kernel_rfl) (by kernel_rfl) (by kernel_rfl) (by kernel_rfl) (fun _ _ _ h => h) (Or.inl ⟨by rfl, ?hz14⟩) (four (HX.out.on B7b HX.out.lt)) ?rz14
              case hz14 => intro w hSw; go_simp; try with_reducible rfl
              try simp only [Act.put, List.setIfInBounds_toArray, List.set_cons_zero, List.set_cons_succ]
              refine wpAnyM_pick (i := 10) (some 81) (v := ?vz15) rfl rfl (by kernel_rfl) (by kernel_rfl) (by kernel_rfl) (by kernel_rfl) (fun _ _ _ h => h) (Or.inl ⟨by rfl, ?hz15⟩) (four (HX.out.on B7b HX.out.lt)) ?rz15
              case hz15 => intro w hSw; go_simp; try with_reducible rfl
              try simp only [Act.put, List.setIfInBounds_toArray, List.set_cons_zero, List.set_cons_succ]
              refine wpAnyM_one (i := 12) (by kernel_rfl) rfl (fun K hK => ?_)
              go_simp
              refine hK.out _ _ (fun _ => four (HX.out.on B8 HX.out.lt)) ?_
              clear hK K
              try simp only [Act.put, List.setIfInBounds_toArray, List.set_cons_zero, List.set_cons_succ]
              refine wpAnyM_one (i := 13) (by kernel_rfl) rfl (fun K hK => ?_)
              go_simp
              refine hK.out _ _ (fun _ => four (HX.out.on B8 HX.out.lt)) ?_
              clear hK K
              try simp only [Act.put, List.setIfInBounds_toArray, List.set_cons_zero, List.set_cons_succ]
              refine wpAnyM_done (by kernel_rfl) ?_ _
              try simp only [Act.put, List.setIfInBounds_toArray, List.set_cons_zero, List.set_cons_succ]
              go_wp2_with fail
              go_meet
              exact ⟨_, p1, p2, p3, p4, p5, p6, rfl, rfl, B8, hD, L8⟩
          case rest =>
            obtain ⟨p, p1, p2, p3, p4, p5, p6, rfl, rfl, hB9, hP9, hO9⟩ := hcut
            have HB9 := hid (HB5.out.trans (hB9.mono HB5.out.size))
            have HXx := hid hP9
            have HSx := hid hO9
            clear HX5 HS5 HB5 hB9 hP9 hO9 HASK
            have hrr : ∀ w1 ov vv hv, Below w.heap.size w w1 → StA w1 ov vv hv s → _ := fun w1 ov vv hv hb hA => rrun_any w1 _ (.slice ma ms.length mc) rs (HR.out.on hb) (tbM ms) HTB.out ⟨_, _, _, rfl⟩ (fun hok w2 hb2 => oneAt_tb w1.heap.size w2 hb2.size _ rs ((HR.out.on hb).on hb2) hok _ ms ((HM.out.l.on hb).on hb2) HM.out.n HTB.out) ov vv hv s hA fu hfu hlim
            rw [HRP.out] at hrr
            dsimp only at hrr
            go_wp2_with (first
              | (go_at_call 12; refine (hrs _ HB9.out).mono ?_; clear hrs; rintro e w5 ⟨sv5, rfl, ho5, hb5⟩; obtain ⟨c1, c2, c3, c4, c5, c6, hsv5, _, _⟩ := ho5.sta HSMs.out; subst hsv5; have A6 := bel_al w5 (.cells #[.slice c1 s.ops.length c2, .slice c3 s.vals.length c4, .int .i64 s.steps, .slice c5 s.heads.length c6] 28); have hA6 := ((ho5.on A6).in2 HSMs.out).1; have HB6 := hid ((HB9.out.trans (hb5.mono HB9.out.size)).trans (A6.mono (HB9.out.trans (hb5.mono HB9.out.size)).size)); have HX6 := hid ((HXx.out.on hb5 HXx.out.lt).on A6 (HXx.out.on hb5 HXx.out.lt).lt); have HS6 := hid ((HSx.out.on hb5).on A6); have hq6 := hrr _ _ _ _ HB6.out hA6; clear hrr hA6 A6 hb5 ho5 HB9 HXx HSx)
              | (go_at_call 20; refine hq6.mono ?_; clear hq6; rintro e w7 ⟨sv7, rfl, hl7, hb7⟩; have hs7 := hl7.lst HOKR.out; obtain ⟨r1, r2, r3, r4, r5, r6, hsv7, _⟩ := id hs7; subst hsv7; have A8 := bel_al w7 (.cells #[.slice r1 x.ops.length r2, .slice r3 x.vals.length r4, .int .i64 x.steps, .slice r5 x.heads.length r6] 28); have HB8 := hid ((HB6.out.trans (hb7.mono HB6.out.size)).trans (A8.mono (HB6.out.trans (hb7.mono HB6.out.size)).size)); have hP8 := (HX6.out.on hb7 HX6.out.lt).on A8 (HX6.out.on hb7 HX6.out.lt).lt; obtain ⟨y0, y1, y2, y3⟩ := four hP8; obtain ⟨q1, q2, q3⟩ := ((HS6.out.on hb7).on A8).lies2 HOKR.out; obtain ⟨_, _, _, _, _, _, e6, t1, t2, t3⟩ := hs7.on A8; simp only [Value.agg.injEq, Array.mk.injEq, List.cons.injEq, Value.slice.injEq, and_true, true_and] at e6; obtain ⟨⟨rfl, rfl⟩, ⟨rfl, rfl⟩, rfl, rfl⟩ := e6; have hsm := rsame_any _ _ _ _ _ _ _ _ _ x.steps _ q1 q2 q3 t1 t2 t3; clear q1 q2 q3 t1 t2 t3 hs7 hl7 hb7 A8 hP8 HX6 HS6 HB6)
              | (go_at_call 13; refine hsm.mono ?_; clear hsm; rintro e w9 ⟨rfl, hb9⟩; have HB10 := hid (HB8.out.trans (hb9.mono HB8.out.size)); clear hb9))
            go_ret
            exact ⟨rfl, HB10.out⟩
        · have hE1 : ¬ (e0 : Int) = 0 := by omega
          have hE2 : ((e0 : Int) == 0) = false := by simp only [beq_eq_false_iff_ne]; omega
          have hsn := hss2 he
          have hl0 : (s.ops.length : Int) = 0 := by rw [hsn]; rfl
          have hl1 : ((s.ops.length : Int) == 0) = true := by rw [hl0]; rfl
          clear hz0 hss hss2 hru hrs he hsn
          go_wp2_with (first | (go_at_call 11; refine (hcp _ HB.out).mono ?_; clear hcp; rintro e w3 ⟨x3, rfl, ho3, hb3⟩; have hl3 := Owns.lies ho3 HFT.out; obtain ⟨xa, xc, hxv, _⟩ := own_cells ho3; subst hxv; have HB3 := hid (HB.out.trans (hb3.mono HB.out.size)); have hq3 := hsa w3 _ hl3; clear hb3 ho3 hl3 hsa) | (go_at_call 10; refine hq3.mono ?_; clear hq3; rintro e w4 ⟨sv4, rfl, ho4, hb4⟩; obtain ⟨s1, s2, s3, s4, s5, s6, hsv, _⟩ := ho4.trio HSK.out; subst hsv; have A5 := bel_al w4 (.cells #[.slice s1 s.ops.length s2, .slice s3 s.vals.length s4, .int .i64 s.steps, .slice s5 s.heads.length s6] 28); have HB5 := hid ((HB3.out.trans (hb4.mono HB3.out.size)).trans (A5.mono (HB3.out.trans (hb4.mono HB3.out.size)).size)); have HX5 := hid (Blk.made w4 #[.slice s1 s.ops.length s2, .slice s3 s.vals.length s4, .int .i64 s.steps, .slice s5 s.heads.length s6] 28); have HS5 := hid ((ho4.base (Nat.zero_le _)).on A5); clear A5 hb4 ho4))
          go_ret
          exact ⟨rfl, HB5.out⟩
  · by_cases hd : rs.length ≤ 64 ∧ fu ≤ 300
    · rw [decide_eq_true hd.1, decide_eq_true hd.2] at hfw
      have h50 : (50 : Int) < (ms.length : Int) := by omega
      clear hr hT hz z1 hfT hfew hd
      go_enter Tryz.func5, Tryz.ntmps5
      go_upto_region 3 with ((go_at_call 9; refine hwk.mono ?_; clear hwk; rintro e w1 ⟨rfl, hb1⟩; have HB1 := hid (HB0.out.trans (hb1.mono HB0.out.size)); have HX1 := HX0.out.on hb1 HX0.out.lt; have c0 : w1.cell? ⟨w.heap.size, 0, none⟩ = some (.slice ma ms.length mc) := HX1.cell (i := 0) rfl; have c1 : w1.cell? ⟨w.heap.size, 1, none⟩ = some (.int .i64 fu) := HX1.cell (i := 1) rfl; clear HB0 HX0 hb1 HX1))
      go_cut [7, 8] from 18 (fun s7 s8 wx => s7 = .slice ma ms.length mc ∧ s8 = .int .i64 fu ∧ Below w.heap.size w wx)
      case first =>
        go_quiet (fail)
        go_wp2_with fail
        go_meet
        exact ⟨rfl, rfl, HB1.out.trans ⟨rfl, rfl, rfl, Nat.le_refl _, fun _ _ => rfl⟩⟩
      obtain ⟨rfl, rfl, hB2⟩ := hcut
      have HB2 := hid hB2
      clear hB2 HB1
      go_wp2_with (go_at_call 17; refine (hfw _ HB2.out).mono ?_; clear hfw; rintro e w2 ⟨rfl, rfl⟩)
      go_ret
      exact ⟨rfl, HB2.out⟩
    · have hd2 : (decide (rs.length ≤ 64) && decide (fu ≤ 300)) = false := by
        cases h1 : decide (rs.length ≤ 64) with
        | false => rfl
        | true =>
          cases h2 : decide (fu ≤ 300) with
          | false => rfl
          | true => exact absurd ⟨of_decide_eq_true h1, of_decide_eq_true h2⟩ hd
      rw [hd2] at hfw
      clear hr hT hz z1 hfT hfew hd hd2
      go_enter Tryz.func5, Tryz.ntmps5
      go_upto_region 3 with ((go_at_call 9; refine hwk.mono ?_; clear hwk; rintro e w1 ⟨rfl, hb1⟩; have HB1 := hid (HB0.out.trans (hb1.mono HB0.out.size)); have HX1 := HX0.out.on hb1 HX0.out.lt; have c0 : w1.cell? ⟨w.heap.size, 0, none⟩ = some (.slice ma ms.length mc) := HX1.cell (i := 0) rfl; have c1 : w1.cell? ⟨w.heap.size, 1, none⟩ = some (.int .i64 fu) := HX1.cell (i := 1) rfl; clear HB0 HX0 hb1 HX1))
      go_cut [7, 8] from 18 (fun s7 s8 wx => s7 = .slice ma ms.length mc ∧ s8 = .int .i64 fu ∧ Below w.heap.size w wx)
      case first =>
        go_quiet (fail)
        go_wp2_with fail
        go_meet
        exact ⟨rfl, rfl, HB1.out.trans ⟨rfl, rfl, rfl, Nat.le_refl _, fun _ _ => rfl⟩⟩
      obtain ⟨rfl, rfl, hB2⟩ := hcut
      have HB2 := hid hB2
      clear hB2 HB1
      go_wp2_with (go_at_call 17; refine (hfw _ HB2.out).mono ?_; clear hfw; rintro e w2 ⟨rfl, rfl⟩)
      go_ret
      exact ⟨rfl, HB2.out⟩

theorem rewriteTables_own : ownKnob Tryz.prog.godebug = none := by kernel_rfl
theorem rewriteTables_laidOut : laidOutB Tryz.prog = true := by kernel_rfl

set_option maxRecDepth 100000 in
theorem rewriteTables_lifted (os : Os) (started : os.Started) (H : Type) (enc : TypeId × Value → H) :
    ReturnsInHanded {} Tryz.checked os 5 .any (Rows.rewriteTablesSpec.pre6 enc Tryz.prog Tryz.f5 Rows.rewriteTablesRow.domain false) (Rows.rewriteTablesSpec.post enc Tryz.prog Tryz.f5 false true false false) := by
  refine returnsInHanded_of_change_sized (C := Tryz.checked) rewriteTables_own started (by kernel_rfl) Tryz.func5
    (ChangeSpec.witness6 (enc := enc) (C := Tryz.checked) false ⟨#[], #[.slice none 0 0, .slice none 0 0, .agg #[.slice none 0 0, .int .i64 0]], []⟩ 8 (by kernel_rfl) (by kernel_rfl) (by kernel_rfl) (by kernel_rfl)) ?_
  intro W base args ds gs before hval0 hW hcnd hsz0 _
  have hsz : (DataW.weightsEach Tryz.prog (Tryz.f5.params.toList ++ Rows.rewriteTablesSpec.plain.varTypes Tryz.prog) (ds ++ gs)).all (· ≤ reachBytes) = true := hsz0
  have hval : ∀ (j : Nat) t v, Tryz.f5.params[j]? = some t → args[j]? = some v → Value.okWide Tryz.prog W .any base t v := hval0
  have hW' := hW
  obtain ⟨p, q, hA0, hV, rfl, hfz, hnd⟩ := hW
  have hA : DataW.TrodAll enc Tryz.prog W 0 (fun _ => true) true Tryz.f5.params.toList args.toList ds p := hA0
  rw [Tryz.params5] at hA hval hsz
  obtain ⟨v0, vs0, d0, ds0, p0, q0, hargs, rfl, rfl, h0, r0⟩ := trodAll_cons hA
  obtain ⟨v1, vs1, d1, ds1, p1, q1, rfl, rfl, rfl, h1, r1⟩ := trodAll_cons r0
  obtain ⟨v2, vs2, d2, ds2, p2, q2, rfl, rfl, rfl, h2, r2⟩ := trodAll_cons r1
  obtain ⟨rfl, rfl, rfl⟩ := trodAll_nil r2
  obtain rfl : args = #[v0, v1, v2] := by cases args; simp_all
  obtain ⟨rfl, rfl⟩ := trodVars_none hV
  have k0 := h0
  have lt0 : ∀ x ∈ p0, x.block < W.heap.size := by obtain ⟨m, hm⟩ := k0; exact DataW.trod_lt m _ _ _ hm
  have k1 := h1
  have lt1 : ∀ x ∈ p1, x.block < W.heap.size := by obtain ⟨m, hm⟩ := k1; exact DataW.trod_lt m _ _ _ hm
  have k2 := h2
  have lt2 : ∀ x ∈ p2, x.block < W.heap.size := by obtain ⟨m, hm⟩ := k2; exact DataW.trod_lt m _ _ _ hm
  obtain ⟨L0, l0, z0⟩ := open_rules (hval 0 41 v0 rfl rfl) h0 (fun n hn => by simpa using List.all_eq_true.1 hsz n (DataW.weights_mem_each (j := 0) (t := 41) rfl rfl n hn))
  obtain ⟨L1, l1, z1⟩ := open_cells (hval 1 23 v1 rfl rfl) h1 (fun n hn => by simpa using List.all_eq_true.1 hsz n (DataW.weights_mem_each (j := 1) (t := 23) rfl rfl n hn))
  obtain ⟨x2a, L2, a2, rfl, l2, w2⟩ := open_told (hval 2 49 v2 rfl rfl) h2 (fun n hn => by simpa using List.all_eq_true.1 hsz n (DataW.weights_mem_each (j := 2) (t := 49) rfl rfl n hn))
  clear hA0 hval0
  refine (rewriteTables_walk v0 L0 v1 L1 x2a L2 a2 w2 W l0 z0 l1 z1 l2).mono fun e W' ⟨he, bel⟩ => ?_
  subst he
  exact ⟨_, rfl, _, _, _, [], _, [], hW', trodAll_mk1 (shut_bool Tryz.underlying4 _), (trodAll_cons_mk (Below.trod rewriteTables_laidOut (by kernel_rfl) (of_decide_eq_true (by kernel_rfl)) k0 bel lt0) (trodAll_cons_mk (Below.trod rewriteTables_laidOut (by kernel_rfl) (of_decide_eq_true (by kernel_rfl)) k1 bel lt1) (trodAll_cons_mk (Below.trod rewriteTables_laidOut (by kernel_rfl) (of_decide_eq_true (by kernel_rfl)) k2 bel lt2) trodAll_mk0))), rfl, bel.frame _, fun h => by cases h⟩

theorem rewriteTables_holds : Rows.RewriteTablesSaid :=
  OpenClaim.holds_of_wide 5 Tryz.f5 rfl rfl rfl rfl rfl rfl rfl ⟨rfl, rfl, rfl, rfl, rfl⟩ rfl rfl rfl rfl rfl (by kernel_rfl) Tryz.func5 (by kernel_rfl)
    (of_decide_eq_true (by kernel_rfl)) (by unfold Func.isWrapper; first | (rw [if_pos (by decide +kernel)]; kernel_rfl) | (rw [if_neg (by decide +kernel)]; exact ⟨rfl, rfl⟩))
    (fun os started H enc _ => rewriteTables_lifted os started H enc)

#print axioms rewriteTables_holds

end Go.Proofs.YtgijdhnkkbenoaaGreat
