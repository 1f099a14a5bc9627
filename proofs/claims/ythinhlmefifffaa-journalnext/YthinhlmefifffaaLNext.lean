/-
  Groups one behind the other, of which each may be cut: each is there wholly or not at all, and the next one is written as if nothing had been; no condition.
-/
import Derived.Test.YthinhlmefifffaaRows
import Derived.Test.YthinhlmefifffaaLc
import Derived.ProofKit
import Derived.OpenShut
import Derived.ShutString
import Derived.ChangeOld
import Derived.Below
import Derived.SizedLaws
import Derived.Lib.SmallJoins
namespace Go.Proofs.Ythinhlmefifffaa
open Go.ChangeShapes Go.WideShapes Go.ChangeAt Go.RowKit Go.Joins
open Go.ChangeMaps (open_string shut_string)
set_option linter.unusedVariables false
set_option linter.unusedSimpArgs false
set_option maxRecDepth 100000

theorem pgB_inj {N : Nat} {a b : List ByteArray} (h1 : 64 ≤ N) (ha : a.length = N) (hb : b.length = N) (h : pgB a = pgB b) : PgEq N a b := by
  have hp := pgs_lo h1
  have hf := frs_end h1
  have key : ∀ (c : List ByteArray), c.length = N → (pgB c)[0]? = c[0]? ∧ ∀ j, j < pgs N - 1 → (pgB c)[j + 1]? = c[frs N + j]? := fun c hc => by
    obtain ⟨s, hs⟩ : ∃ s, c[0]? = some s := ⟨_, List.getElem?_eq_getElem (by omega)⟩
    rw [pgB_take hs, hc]
    refine ⟨by rw [hs]; rfl, fun j hj => ?_⟩
    show (cutB c (frs N) (pgs N - 1))[j]? = _
    exact cutB_at hj
  refine ⟨ha, hb, fun i hi => ?_⟩
  unfold isPg at hi
  by_cases h0 : i = 0
  · subst h0
    rw [← (key a ha).1, ← (key b hb).1, h]
  · obtain ⟨j, rfl⟩ : ∃ j, i = frs N + j := ⟨i - frs N, by omega⟩
    rw [← (key a ha).2 j (by omega), ← (key b hb).2 j (by omega), h]
/-- a disk beside rows that are none of its own -/
def Ro (w W : World) (k : Nat) (d : Ds) (F : List (Value × List ByteArray)) : Prop :=
  ∃ S, Dk W S k d ∧ (∀ j, S j → w.heap.size ≤ j) ∧ Below w.heap.size w W ∧ ∀ x ∈ F, RowS W w.heap.size x.1 x.2 ∧ ∀ g, x.1.ownBlock = some g → ¬ S g
theorem Ro.on {w W W' : World} {k : Nat} {d : Ds} {F : List (Value × List ByteArray)} (h : Ro w W k d F) (hb : Below W.heap.size W W') : Ro w W' k d F := by
  obtain ⟨S, h1, h2, h3, h4⟩ := h
  exact ⟨S, h1.on hb, h2, h3.trans (hb.mono h3.size), fun x hx => ⟨(h4 x hx).1.on hb, (h4 x hx).2⟩⟩
theorem Ro.below {w W : World} {k : Nat} {d : Ds} {F : List (Value × List ByteArray)} (h : Ro w W k d F) : Below w.heap.size w W := by obtain ⟨S, h1, h2, h3, h4⟩ := h; exact h3
theorem Ro.get {w W : World} {k : Nat} {d : Ds} {F : List (Value × List ByteArray)} (h : Ro w W k d F) {v : Value} {L : List ByteArray} (hx : (v, L) ∈ F) : RowS W w.heap.size v L := by obtain ⟨S, h1, h2, h3, h4⟩ := h; exact (h4 _ hx).1
theorem Ro.less {w W : World} {k : Nat} {d : Ds} {F F' : List (Value × List ByteArray)} (h : Ro w W k d F) (hF : ∀ x ∈ F', x ∈ F) : Ro w W k d F' := by
  obtain ⟨S, h1, h2, h3, h4⟩ := h
  exact ⟨S, h1, h2, h3, fun x hx => h4 x (hF x hx)⟩
theorem Ro.image {w W : World} {k : Nat} {d : Ds} {F : List (Value × List ByteArray)} (h : Ro w W k d F) : Calls Try.prog 23 #[.pointer (some ⟨k, 0, none⟩)] W fun e w' => ∃ v', e = .returned v' ∧ RowS w' W.heap.size v' d.bs ∧ Below W.heap.size W w' := by
  obtain ⟨S, h1, h2, h3, h4⟩ := h
  exact image_any W S k d h1
/-- behind calls on the disk -/
theorem Ro.of_wm {w W W' : World} {k : Nat} {d' : Ds} {F : List (Value × List ByteArray)} {S : Nat → Prop} (h2 : ∀ j, S j → w.heap.size ≤ j) (h3 : Below w.heap.size w W) (h4 : ∀ x ∈ F, RowS W w.heap.size x.1 x.2 ∧ ∀ g, x.1.ownBlock = some g → ¬ S g) (h : Wm W S k d' W') : Ro w W' k d' F := by
  obtain ⟨S', g1, g2⟩ := h.disk
  refine ⟨S', g1, fun j hj => (g2 j hj).elim (h2 j) (fun h' => Nat.le_trans h3.size h'), h.below h3 h2, fun x hx => ⟨h.row (h4 x hx).1 (h4 x hx).2, fun g hg hs => ?_⟩⟩
  rcases g2 g hs with h' | h'
  · exact (h4 x hx).2 g hg h'
  · have := (((h4 x hx).1 : W.ownsRow w.heap.size 9 1 _ _ _).lt g hg).2
    omega
/-- a row beside, turned, that is new since v0 -/
theorem Ro.turn {w W0 W W' : World} {k : Nat} {d : Ds} {F : List (Value × List ByteArray)} {gx n c : Nat} {X : List ByteArray} (h : Ro w W0 k d F) (hb : Below W0.heap.size W0 W) (hg : W0.heap.size ≤ gx) (hk : Keep (fun g => g = gx) W W') (hx : RowS W' W0.heap.size (.slice (some ⟨gx, 0, none⟩) n c) X) : Ro w W' k d ((.slice (some ⟨gx, 0, none⟩) n c, X) :: F) := by
  obtain ⟨S, h1, h2, h3, h4⟩ := h
  refine ⟨S, hk.dk (h1.on hb) (fun j hj e => by have := h1.lt j hj; omega), h2, ?_, fun x hxx => ?_⟩
  · have a := h3.trans (hb.mono h3.size)
    exact a.trans (hk.below (fun j e => by subst e; exact Nat.le_trans h3.size hg) a.size)
  · rcases List.mem_cons.1 hxx with rfl | hxx
    · refine ⟨own_base hx h3.size, fun g hgv hs => ?_⟩
      simp [Value.ownBlock] at hgv
      have := h1.lt g hs
      omega
    · refine ⟨hk.row ((h4 x hxx).1.on hb) (fun g hgv e => ?_), (h4 x hxx).2⟩
      have := (((h4 x hxx).1 : W0.ownsRow w.heap.size 9 1 _ _ _).lt g hgv).2
      omega
/-- how the disk stands behind j groups -/
structure NxS (N : Nat) (now : List ByteArray) (j : Nat) (d : Ds) : Prop where
  old : Old N now d.bs
  dn : d.dn = false
  lf : d.lf = -1
  lg : d.lg.length ≤ 1000 * j
theorem NxS.step {N : Nat} {now : List ByteArray} {j : Nat} {d : Ds} (h : NxS N now j d) {L : List Pg} (hg : Gp N L) (h3 : 3 * L.length + lb L.length + 3 ≤ 1000) (lf : Int) :
    ∃ r1 d4, recv (cmt { d with lf := lf } L).2.res = (r1, 0, d4) ∧ d4.dn = false ∧ d4.lf = -1 ∧ d4.lg.length ≤ 1000 * (j + 1) ∧ (Old N (appl now L) d4.bs ∨ (cmt { d with lf := lf } L).1 ≠ 0 ∧ Old N now d4.bs) := by
  have hlg := h.lg
  rcases next_cut hg h.old h.dn lf with ⟨e1, e2, e3, e4, e5⟩ | ⟨e0, e1, e2, e3, e4, e5⟩
  · exact ⟨(recv (cmt { d with lf := lf } L).2.res).1, (recv (cmt { d with lf := lf } L).2.res).2.2, by rw [← e2], e3, e4, by omega, .inl e1⟩
  · exact ⟨(recv (cmt { d with lf := lf } L).2.res).1, (recv (cmt { d with lf := lf } L).2.res).2.2, by rw [← e2], e3, e4, by omega, .inr ⟨e0, e1⟩⟩

set_option maxHeartbeats 16000000 in
theorem journalNext_walk (n : Int) (v1 : Value) (G : List (List ByteArray)) (v2 : Value) (U : List Nat) (wf : (Lit.int .i64 n).wf = true) (w : World) (hG : LiesR w v1 G) (zG : True) (hU : LiesU w v2 U) (zU : True) :
    Calls Try.prog 7 #[.int .i64 n, v1, v2] w fun e w' => e = .returned (.bool true) ∧ Below w.heap.size w w' := by
  obtain ⟨i0, hi, hz0, hz1, hz2⟩ := info_parts info9
  have hwk := wakes_any w
  have l1 := szN_lo n
  have l2 := szN_hi n
  have hq : pgs (szN n) ≤ 180 := by unfold pgs; omega
  have HLA : Hid (∀ w1 : World, Calls Try.prog 14 #[.int .i64 n, .slice none 0 0] w1 fun e w' => ∃ k k', e = .returned (.tuple #[.pointer (some ⟨k, 0, none⟩), .pointer (some ⟨k', 0, none⟩)]) ∧ Tw w1 w' k k' ⟨layK (szN n) [], [], -1, false⟩ ⟨layK (szN n) [], [], -1, false⟩) := fun w1 => laid_any n _ [] w1 ⟨none, 0, rfl, Nat.le_refl _, Nat.zero_le _, fun k p hp => by simp at hp⟩
  have hb0 := layK_len (szN n) []
  have hbz : (layK (szN n) [])[1]? = some Z := by
    show (List.replicate (szN n) Z)[1]? = _
    rw [List.getElem?_replicate, if_pos (by omega)]
  have HGP : Hid (∀ T, Gp (szN n) (grpT (szN n) T) ∧ (grpT (szN n) T).length ≤ 180) := fun T => ⟨grpT_gp l1 (by omega) T, by rw [grpT_len]; omega⟩
  have HGR : Hid (∀ T v1 w1, LiesX w1 v1 T → Calls Try.prog 27 #[.int .i64 n, v1] w1 fun e w' => ∃ v', e = .returned v' ∧ RowP w' w1.heap.size v' (grpT (szN n) T) ∧ Below w1.heap.size w1 w') := fun T v1 w1 h => group_any n v1 T w1 h
  obtain ⟨a1, c1, e1⟩ := hG.form
  subst e1
  obtain ⟨a2, c2, e2⟩ := hU.form
  subst e2
  have HU := hid hU
  have HGG := hid hG
  have hUl := hU.len
  unfold maxLen at hUl
  have hGl := hG.len
  unfold maxLen at hGl
  obtain ⟨b0, hB0⟩ : ∃ b0, layK (szN n) [] = b0 := ⟨_, rfl⟩
  rw [hB0] at HLA hb0 hbz
  obtain ⟨N, hN⟩ : ∃ N, szN n = N := ⟨_, rfl⟩
  rw [hN] at l1 l2 hb0 HGP HGR
  obtain ⟨m, hm⟩ : ∃ m, G.length = m := ⟨_, rfl⟩
  have HM := hid hm
  rw [hm] at hGl ⊢
  obtain ⟨u, hu⟩ : ∃ u, U.length = u := ⟨_, rfl⟩
  have HUN := hid hu
  rw [hu] at hUl ⊢
  have HB0 := hid hb0
  have HBZ := hid hbz
  clear hG zG hU zU hb0 hbz hB0 hN hm hu hq wf
  by_cases hm12 : 12 < m
  · have hmi : decide ((12 : Int) < (m : Int)) = true := decide_eq_true (by omega)
    go_enter Try.func7, Try.ntmps7
    go_wp2_with (first
      | (go_at_call 9; refine hwk.mono ?_; clear hwk; rintro e w1 ⟨rfl, hb1⟩; have HB1 := hid hb1; clear hb1)
      | (go_at_call 14; refine (HLA.out _).mono ?_; clear HLA; rintro e w3 ⟨k, k', rfl, h3⟩; have H3 := hid h3; clear h3))
    go_ret
    exact ⟨rfl, HB1.out.trans (H3.out.dw.below.mono HB1.out.size)⟩
  have hmi : decide ((12 : Int) < (m : Int)) = false := decide_eq_false (by omega)
  go_enter Try.func7, Try.ntmps7
  go_wp2_with (first
    | (go_at_call 9; refine hwk.mono ?_; clear hwk; rintro e w1 ⟨rfl, hb1⟩; have HB1 := hid hb1; clear hb1)
    | (go_at_call 14; refine (HLA.out _).mono ?_; clear HLA; rintro e w3 ⟨k, k', rfl, h3⟩; obtain ⟨S, R, g1, g2, g3, g4, g5, g6⟩ := h3; have HR3 : Hid (Ro w w3 k ⟨b0, [], -1, false⟩ []) := (⟨S, g1, fun j hj => Nat.le_trans HB1.out.size (g4 j hj), HB1.out.trans (g6.mono HB1.out.size), fun x hx => by cases hx⟩); clear g1 g2 g3 g4 g5 g6)
    | (go_at_call 23; refine (HR3.out.image).mono ?_; rintro e w4 ⟨nv, rfl, hr4, hb4⟩; obtain ⟨g4, na, nc, hnv, hgl4⟩ : ∃ g4 na nc, nv = .slice (some ⟨g4, 0, none⟩) N nc ∧ w3.heap.size ≤ g4 := (by obtain ⟨g, c, h1, _, _, h2, _⟩ := own_some hr4 (by show 0 < b0.length; rw [HB0.out]; omega); rw [show (⟨b0, [], -1, false⟩ : Ds).bs.length = N from HB0.out] at h1; exact ⟨g, 0, c, h1, h2⟩); subst hnv; have HR4 := hid (HR3.out.turn hb4 hgl4 (Keep.refl _ _) hr4); clear hr4 hb4 HR3))
  have HN0 : Hid (NxS N b0 0 ⟨b0, [], -1, false⟩) := ⟨⟨HBZ.out, PgEq.refl HB0.out⟩, rfl, rfl, Nat.zero_le _⟩
  clear HB1
  go_loopw [9, 38] (fun x i W => ∃ (t : Nat) (g nc : Nat) (now : List ByteArray) (d : Ds), t ≤ m ∧ i = .int .i64 (t : Nat) ∧ x = .slice (some ⟨g, 0, none⟩) N nc ∧ Hid (Ro w W k d [(.slice (some ⟨g, 0, none⟩) N nc, now)]) ∧ Hid (NxS N now t d)) (fun _ i _ => m - (intOf i).toNat)
  case atStart => exact ⟨0, g4, nc, b0, _, Nat.zero_le _, rfl, rfl, HR4, HN0⟩
  case round =>
    obtain ⟨t, g, nc, now, d, ht, rfl, rfl, HR, HX⟩ := hrel
    clear HR4 HN0
    by_cases hlt : t < m
    · have hti : (t : Int) < (m : Int) := by omega
      obtain ⟨T, hT⟩ : ∃ T, G[t]? = some T := ⟨_, List.getElem?_eq_getElem (by rw [HM.out]; exact hlt)⟩
      obtain ⟨bg, og, x1, hag, hbg, cg, hTx⟩ := HGG.out.at hT
      subst hag
      obtain ⟨hgp, hgl⟩ := HGP.out T
      obtain ⟨a5, c5, e5⟩ := hTx.form
      subst e5
      have cg1 : wr.cell? ⟨bg, og + t, none⟩ = some (.slice a5 T.length c5) := (HR.out.below.cell (p := ⟨bg, og + t, none⟩) hbg).trans cg
      have hgr := HGR.out T _ wr (hTx.on HR.out.below)
      obtain ⟨L, hL⟩ : ∃ L, grpT N T = L := ⟨_, rfl⟩
      rw [hL] at hgp hgl hgr
      have HG := hid hgp
      obtain ⟨lm, hlm⟩ : ∃ lm, L.length = lm := ⟨_, rfl⟩
      have HLM := hid hlm
      rw [hlm] at hgl
      have H36 : Hid (3 * L.length + lb L.length + 3 ≤ 1000) := by show _ ≤ _; rw [hlm]; unfold lb; omega
      clear hT cg hTx hgp hL hlm
      generalize T.length = tl at *
      by_cases hcu : t < u
      · skip
        have hcud : decide ((t : Int) < (u : Int)) = true := decide_eq_true (by omega)
        obtain ⟨cN, hcN⟩ : ∃ cN, U[t]? = some cN := ⟨_, List.getElem?_eq_getElem (by rw [HUN.out]; exact hcu)⟩
        obtain ⟨bu, ou, hau, hbu, cu, hc255⟩ := HU.out.at hcN
        subst hau
        have HCU : Hid (∀ W5, Below w.heap.size w W5 → W5.cell? ⟨bu, ou + t, none⟩ = some (.int .u8 (cN : Nat))) := fun W5 h => (h.cell (p := ⟨bu, ou + t, none⟩) hbu).trans cu
        have hcw : IntKind.i64.wrap (cN : Int) = (cN : Int) := by rw [IntKind.wrap_i64]; omega
        obtain ⟨lf, hlf⟩ : ∃ lf : Int, (cN : Int) = lf := ⟨_, rfl⟩
        clear hcN cu
        obtain ⟨r1, d4, q1, q2, q3, q4, q5⟩ := HX.out.step HG.out H36.out lf
        have HQ1 := hid q1
        have HQ5 := hid q5
        have hlg : d.lg.length ≤ 1000 * t := HX.out.lg
        have hm12' : t ≤ 12 := by omega
        have hcl := cmt_lg { d with lf := lf } L
        have hlbm : lb L.length ≤ 100 := by rw [HLM.out]; unfold lb; omega
        have hcl2 : (cmt { d with lf := lf } L).2.lg.length ≤ 20000 := Nat.le_trans hcl (by show d.lg.length + _ + _ + _ ≤ _; rw [HLM.out] at hlbm ⊢; omega)
        obtain ⟨ec, hec⟩ : ∃ ec, (cmt { d with lf := lf } L).1 = ec := ⟨_, rfl⟩
        obtain ⟨dc, hdc⟩ : ∃ dc, (cmt { d with lf := lf } L).2 = dc := ⟨_, rfl⟩
        have HEC := hid hec
        have HDC := hid hdc
        rw [hec] at HQ5
        rw [hdc] at HQ1 hcl2
        clear q1 q5 hcl hlbm hec hdc
        go_upto_region 11 with (go_at_call 27; refine hgr.mono ?_; clear hgr; rintro e w5 ⟨gv, rfl, hr5, hb5⟩; have HGV := hid hr5; have HR5 := hid (HR.out.on hb5); obtain ⟨ga, gc, hgv⟩ := hr5.form; rw [HLM.out] at hgv; subst hgv; have HLO : Hid (∀ S, (∀ j, S j → j < wr.heap.size) → LiesO w5 S (.slice ga lm gc) L) := (fun S hS => hr5.lies (fun g hg hs => by have a1 := ((hr5 : w5.ownsRow wr.heap.size 54 2 _ _ _).lt g hg).1; have a2 := hS g hs; omega) (fun p hp => by have a1 := HG.out.pl hp; exact ⟨by omega, by rw [(HG.out.ok p hp).2]; decide⟩)); have HB5 := hid hb5; clear hr5 hb5)
        obtain ⟨S, HS⟩ : ∃ S, Hid (Dk w5 S k d ∧ (∀ j, S j → w.heap.size ≤ j) ∧ Below w.heap.size w w5 ∧ (∀ x ∈ [(Value.slice (some ⟨g, 0, none⟩) N nc, now)], RowS w5 w.heap.size x.1 x.2 ∧ ∀ g, x.1.ownBlock = some g → ¬ S g) ∧ LiesO w5 S (.slice ga lm gc) L) := by
          obtain ⟨S, h1, h2, h3, h4⟩ := HR.out
          exact ⟨S, h1.on HB5.out, h2, h3.trans (HB5.out.mono h3.size), fun x hx => ⟨(h4 x hx).1.on HB5.out, (h4 x hx).2⟩, HLO.out S h1.lt⟩
        have HW5 : Hid (Wm w5 S k d w5) := Wm.refl HS.out.1
        have hcm : ∀ W5, Wm w5 S k { d with lf := lf } W5 → Calls Try.prog 18 #[.pointer (some ⟨k, 0, none⟩), .slice ga lm gc] W5 fun e w' => e = .returned (.int .i64 (ec : Nat)) ∧ Wm w5 S k dc w' := fun W5 h => by
          have h6 := commit_wm w5 S k { d with lf := lf } W5 _ L h HS.out.2.2.2.2 (fit_small (by show d.lg.length + 5000 ≤ _; omega))
          rw [HEC.out, HDC.out] at h6
          exact h6
        have hrs : ∀ W5, Wm w5 S k dc W5 → _ := fun W5 h => restore_wm w5 S k dc W5 h
        have hrc : ∀ W5, Wm w5 S k dc.res W5 → Calls Try.prog 25 #[.pointer (some ⟨k, 0, none⟩)] W5 fun e w' => e = .returned (.tuple #[.int .i64 (r1 : Nat), .int .i64 0]) ∧ Wm w5 S k d4 w' := fun W5 h => by
          have h6 := recover_wm w5 S k dc.res W5 h (fit_small (by show dc.lg.length + 1500 ≤ _; omega))
          rw [HQ1.out] at h6
          exact h6
        clear HQ1 HEC HDC HR HLO hcl2 hlg
        have hct := cut_wm w5 S k d w5 (cN : Int) (by omega) HW5.out
        have cu5 := HCU.out w5 HS.out.2.2.1
        rw [show d.cut (cN : Int) = { d with lf := lf } by unfold Ds.cut; rw [hlf]] at hct
        clear hlf
        go_upto_region 18 with (first
          | (go_at_call 15; refine hct.mono ?_; clear hct; rintro e w6 ⟨rfl, h6⟩; have H6 := hid h6; clear h6 HW5 cu5)
          | (go_at_call 18; refine (hcm _ H6.out).mono ?_; clear hcm; rintro e w7 ⟨rfl, h7⟩; have H7 := hid h7; clear h7 H6)
          | (go_at_call 29; refine (hrs _ H7.out).mono ?_; clear hrs; rintro e w8 ⟨rfl, h8⟩; have H8 := hid h8; clear h8 H7)
          | (go_at_call 25; refine (hrc _ H8.out).mono ?_; clear hrc; rintro e w9 ⟨rfl, h9⟩; have H9 := hid h9; clear h9 H8))
        have HR9 : Hid (Ro w w9 k d4 [(.slice (some ⟨g, 0, none⟩) N nc, now)]) := Ro.of_wm HS.out.2.1 HS.out.2.2.1 HS.out.2.2.2.1 H9.out
        have HL9 : Hid (LiesO w9 (fun _ => False) (.slice ga lm gc) L) := by
          obtain ⟨S', g1, g2⟩ := H9.out.disk
          exact (HS.out.2.2.2.2.keep H9.out.keep g2).out (fun j _ h => h.elim)
        have HNW : Hid (now.length = N) := HX.out.old.eq.lb
        have hrow9 : RowS w9 w.heap.size (.slice (some ⟨g, 0, none⟩) N nc) now := HR9.out.get (by simp)
        have hgl9 : g < w9.heap.size := ((hrow9 : w9.ownsRow w.heap.size 9 1 _ _ _).lt g rfl).2
        have HSR : Hid (∀ j u, (flatS now)[j]? = some u → (w9.alloc (.cells #[] 9)).cell? ((⟨g, 0, none⟩ : Addr).add j) = some u) := fun j u hj => by
          have h1 := World.ownsRow.cells hrow9 (g := g) rfl j u hj
          rw [add_plain] at h1 ⊢
          exact ((Below.refl _ w9).alloc (Nat.le_refl _) _ |>.cell (p := ⟨g, 0 + j, none⟩) hgl9).trans h1
        have hll : (flatS now).length = N * 1 := by rw [flatS_length, HNW.out]
        clear H9 HS hrow9 HGV HR5 HB5
        go_wp2_with (at_builtin; refine wpList_append_blk _ rfl (.tmp 70) (.tmp 71) 37 rfl w9.heap.size 9 i0 (.string ⟨#[]⟩) 1 16 Try.underlying37 hi hz0 hz1 hz2 rfl (by decide) _ 0 [] rfl (World.ownsRow_lit (base := w9.heap.size) (e := 9) (size := 1) w9 #[] 0 (Nat.le_refl _) (by decide) rfl) ⟨g, 0, none⟩ N nc (flatS now) rfl hll HSR.out (flatS_one _) ?c2 ?c3 ?c4 ?c5 ?_)
        case c2 => omega
        case c3 => unfold maxLen; omega
        case c4 => omega
        case c5 => simp
        intro v' w10 hown' hgrow hmv
        have HB10 : Hid (Below w9.heap.size w9 w10) := ((Below.refl _ w9).alloc (Nat.le_refl _) _).grown hgrow (by simp) (fun g hg => by simp [Value.ownBlock] at hg; omega)
        have HX10 : Hid (RowS w10 w9.heap.size v' now) := by
          refine hid ?_
          unfold RowS
          rw [HNW.out]
          simpa using hown'
        obtain ⟨gx, xc, hxv, _, _, hgx, _⟩ := own_some HX10.out (by rw [HNW.out]; omega)
        rw [HNW.out] at hxv
        subst hxv
        clear hown' hgrow hmv HSR hll
        go_upto_region 20 with fail
        go_loopw [75] (fun i W => ∃ j : Nat, j ≤ lm ∧ i = .int .i64 (j : Nat) ∧ Hid (RowS W w9.heap.size (.slice (some ⟨gx, 0, none⟩) N xc) (appl now (L.take j))) ∧ Hid (Keep (fun g => g = gx) w10 W)) (fun i _ => lm - (intOf i).toNat)
        case atStart => exact ⟨0, Nat.zero_le _, rfl, HX10, Keep.refl _ _⟩
        case round =>
          obtain ⟨j, hj, rfl, HTr, HKr⟩ := hrel
          clear HX10
          by_cases hlj : j < lm
          · have hji : (j : Int) < (lm : Int) := by omega
            obtain ⟨p, hp⟩ : ∃ p, L[j]? = some p := ⟨_, List.getElem?_eq_getElem (by rw [HLM.out]; exact hlj)⟩
            have hpl := HG.out.pl (List.mem_of_getElem? hp)
            have HAP : Hid (appl now (L.take (j + 1)) = (appl now (L.take j)).set p.pl.toNat p.data) := by
              show _ = _
              rw [take_snoc hp, appl_append]
              rfl
            obtain ⟨bb, oo, hgab, hbb, _, cp0', cp1', _⟩ := HL9.out.at hp
            subst hgab
            have hblk : wr.heap[bb]? = w9.heap[bb]? := (HKr.out.block bb (Nat.lt_of_lt_of_le hbb HB10.out.size) (fun e => by omega)).trans (HB10.out.block bb hbb)
            have cp0 := (World.cell?_of_block (a := ⟨bb, oo + j * 2, none⟩) hblk).trans cp0'
            have cp1 := (World.cell?_of_block (a := ⟨bb, oo + j * 2 + 1, none⟩) hblk).trans cp1'
            obtain ⟨pl, data⟩ := p
            simp only at hpl HAP cp0 cp1
            obtain ⟨x, rfl⟩ : ∃ x : Nat, pl = (x : Int) := ⟨pl.toNat, by omega⟩
            rw [Int.toNat_natCast] at HAP
            have hxN : (x : Int) < (N : Int) := by omega
            have HLN : Hid ((appl now (L.take j)).length = N) := by show _ = _; rw [appl_len, HNW.out]
            obtain ⟨s0, hs0⟩ : ∃ s0, (appl now (L.take j))[x]? = some s0 := ⟨_, List.getElem?_eq_getElem (by rw [HLN.out]; omega)⟩
            obtain ⟨cx, fx⟩ := HTr.out.at hs0
            have cx' : wr.drew.cell? ⟨gx, x, none⟩ = some (.string s0) := cx
            have fx' : wr.drew.frozen? ⟨gx, x, none⟩ = false := fx
            have HSW : wr.drew.cell? ⟨bb, oo + j * 2, none⟩ = some (.int .i64 (x : Nat)) ∧ wr.drew.cell? ⟨bb, oo + j * 2 + 1, none⟩ = some (.string data) := ⟨cp0, cp1⟩
            have HT2 : Hid (RowS (wr.drew.setCell ⟨gx, x, none⟩ (.string data)) w9.heap.size (.slice (some ⟨gx, 0, none⟩) N xc) (appl now (L.take (j + 1)))) := by
              refine hid ?_
              rw [HAP.out]
              exact RowS.set (HTr.out.on (Below.drew (Below.refl _ wr))) HLN.out data
            have HK2 := hid ((HKr.out.trans (Keep.drew (fun g => g = gx) wr) (fun _ _ h => h)).trans (Keep.set (S := fun g => g = gx) wr.drew rfl x (.string data)) (fun _ _ h => h))
            clear hp cp0 cp1 cp0' cp1' hblk cx fx hs0 HTr HKr HAP
            go_wp2_with fail
            refine wp_region_m (fun w' => w'.cell? ⟨bb, oo + j * 2, none⟩ = some (.int .i64 (x : Nat)) ∧ w'.cell? ⟨bb, oo + j * 2 + 1, none⟩ = some (.string data)) 12 (by kernel_rfl) ?_
            refine wpAnyM_pick (i := 0) (some 78) (v := ?vz1) rfl rfl (by kernel_rfl) (by kernel_rfl) (by kernel_rfl) (by kernel_rfl) (fun _ _ _ h => h) (Or.inl ⟨by rfl, ?hz1⟩) HSW ?rz1
            case hz1 => intro w hSw; go_simp; try with_reducible rfl
            try simp only [Act.put, List.setIfInBounds_toArray, List.set_cons_zero, List.set_cons_succ]
            refine wpAnyM_pick (i := 1) (some 79) (v := ?vz2) rfl rfl (by kernel_rfl) (by kernel_rfl) (by kernel_rfl) (by kernel_rfl) (fun _ _ _ h => h) (Or.inl ⟨by rfl, ?hz2⟩) HSW ?rz2
            case hz2 => intro w hSw; go_simp; try with_reducible rfl
            try simp only [Act.put, List.setIfInBounds_toArray, List.set_cons_zero, List.set_cons_succ]
            refine wpAnyM_pick (i := 2) (some 80) (v := ?vz3) rfl rfl (by kernel_rfl) (by kernel_rfl) (by kernel_rfl) (by kernel_rfl) (fun _ _ _ h => h) (Or.inl ⟨by rfl, ?hz3⟩) HSW ?rz3
            case hz3 => intro w hSw; go_simp; try with_reducible rfl
            try simp only [Act.put, List.setIfInBounds_toArray, List.set_cons_zero, List.set_cons_succ]
            refine wpAnyM_pick (i := 3) (some 81) (v := ?vz4) rfl rfl (by kernel_rfl) (by kernel_rfl) (by kernel_rfl) (by kernel_rfl) (fun _ _ _ h => h) (Or.inl ⟨by rfl, ?hz4⟩) HSW ?rz4
            case hz4 => intro w hSw; go_simp; try with_reducible rfl
            try simp only [Act.put, List.setIfInBounds_toArray, List.set_cons_zero, List.set_cons_succ]
            refine wpAnyM_pick (i := 4) (some 82) (v := ?vz5) rfl rfl (by kernel_rfl) (by kernel_rfl) (by kernel_rfl) (by kernel_rfl) (fun _ _ _ h => h) (Or.inl ⟨by rfl, ?hz5⟩) HSW ?rz5
            case hz5 => intro w hSw; go_simp; try with_reducible rfl
            try simp only [Act.put, List.setIfInBounds_toArray, List.set_cons_zero, List.set_cons_succ]
            refine wpAnyM_pick (i := 5) (some 83) (v := ?vz6) rfl rfl (by kernel_rfl) (by kernel_rfl) (by kernel_rfl) (by kernel_rfl) (fun _ _ _ h => h) (Or.inl ⟨by rfl, ?hz6⟩) HSW ?rz6
            case hz6 => intro w hSw; go_simp; try with_reducible rfl
            try simp only [Act.put, List.setIfInBounds_toArray, List.set_cons_zero, List.set_cons_succ]
            refine wpAnyM_pick (i := 6) (some 84) (v := ?vz7) rfl rfl (by kernel_rfl) (by kernel_rfl) (by kernel_rfl) (by kernel_rfl) (fun _ _ _ h => h) (Or.inl ⟨by rfl, ?hz7⟩) HSW ?rz7
            case hz7 => intro w hSw; go_simp; try with_reducible rfl
            try simp only [Act.put, List.setIfInBounds_toArray, List.set_cons_zero, List.set_cons_succ]
            refine wpAnyM_pick (i := 7) (some 85) (v := ?vz8) rfl rfl (by kernel_rfl) (by kernel_rfl) (by kernel_rfl) (by kernel_rfl) (fun _ _ _ h => h) (Or.inl ⟨by rfl, ?hz8⟩) HSW ?rz8
            case hz8 => intro w hSw; go_simp; try with_reducible rfl
            try simp only [Act.put, List.setIfInBounds_toArray, List.set_cons_zero, List.set_cons_succ]
            refine wpAnyM_pick (i := 8) (some 86) (v := ?vz9) rfl rfl (by kernel_rfl) (by kernel_rfl) (by kernel_rfl) (by kernel_rfl) (fun _ _ _ h => h) (Or.inl ⟨by rfl, ?hz9⟩) HSW ?rz9
            case hz9 => intro w hSw; go_simp; try with_reducible rfl
            try simp only [Act.put, List.setIfInBounds_toArray, List.set_cons_zero, List.set_cons_succ]
            refine wpAnyM_pick (i := 9) (some 87) (v := ?vz10) rfl rfl (by kernel_rfl) (by kernel_rfl) (by kernel_rfl) (by kernel_rfl) (fun _ _ _ h => h) (Or.inl ⟨by rfl, ?hz10⟩) HSW ?rz10
            case hz10 => intro w hSw; go_simp; try with_reducible rfl
            try simp only [Act.put, List.setIfInBounds_toArray, List.set_cons_zero, List.set_cons_succ]
            refine wpAnyM_pick (i := 10) (some 88) (v := ?vz11) rfl rfl (by kernel_rfl) (by kernel_rfl) (by kernel_rfl) (by kernel_rfl) (fun _ _ _ h => h) (Or.inl ⟨by rfl, ?hz11⟩) HSW ?rz11
            case hz11 => intro w hSw; go_simp; try with_reducible rfl
            try simp only [Act.put, List.setIfInBounds_toArray, List.set_cons_zero, List.set_cons_succ]
            refine wpAnyM_pick (i := 11) (some 89) (v := ?vz12) rfl rfl (by kernel_rfl) (by kernel_rfl) (by kernel_rfl) (by kernel_rfl) (fun _ _ _ h => h) (Or.inl ⟨by rfl, ?hz12⟩) HSW ?rz12
            case hz12 => intro w hSw; go_simp; try with_reducible rfl
            try simp only [Act.put, List.setIfInBounds_toArray, List.set_cons_zero, List.set_cons_succ]
            refine wpAnyM_one (i := 12) (by kernel_rfl) rfl (fun K hK => ?_)
            go_simp
            refine hK.out _ _ (fun h => absurd h (by decide)) ?_
            clear hK K
            refine wpAnyM_done (by kernel_rfl) ?_ _
            try simp only [Act.put, List.setIfInBounds_toArray, List.set_cons_zero, List.set_cons_succ]
            clear HSW cx' fx'
            go_wp2_with fail
            go_roundw
            case rel => exact ⟨j + 1, by omega, by go_num, HT2, HK2⟩
            case measure => simp [intOf]; omega
          · have hji : ¬ (j : Int) < (lm : Int) := by omega
            obtain rfl : j = lm := by omega
            rw [List.take_of_length_le (by rw [HLM.out]; omega)] at HTr
            have HRl := hid (HR9.out.turn HB10.out hgx HKr.out HTr.out)
            clear HR9 HB10 HTr HKr HL9
            have n64 : 64 ≤ now.length := by rw [HNW.out]; exact l1
            have n20 : now.length ≤ 2048 := by rw [HNW.out]; omega
            have x64 : 64 ≤ (appl now L).length := by rw [appl_len]; exact n64
            have x20 : (appl now L).length ≤ 2048 := by rw [appl_len]; exact n20
            have h4N : d4.bs.length = N := by rcases HQ5.out with h | h; exact h.eq.la; exact h.2.eq.la
            have d64 : 64 ≤ d4.bs.length := by rw [h4N]; exact l1
            have d20 : d4.bs.length ≤ 2048 := by rw [h4N]; omega
            have hpl : ∀ c : List ByteArray, 64 ≤ c.length → c.length ≤ 2048 → (pgB c).length ≤ 100000 := fun c h1 h2 => by rw [pgB_len h1]; have := pgs_hi h2; omega
            have HP1 : Hid (∀ W5 B v, RowS W5 B v d4.bs → Calls Try.prog 30 #[v] W5 fun e w' => ∃ v', e = .returned v' ∧ RowS w' W5.heap.size v' (pgB d4.bs) ∧ Below W5.heap.size W5 w') := fun W5 B v h => pagesL_any W5 B v d4.bs h d64 d20
            have HP2 : Hid (∀ W5 B v, RowS W5 B v (appl now L) → Calls Try.prog 30 #[v] W5 fun e w' => ∃ v', e = .returned v' ∧ RowS w' W5.heap.size v' (pgB (appl now L)) ∧ Below W5.heap.size W5 w') := fun W5 B v h => pagesL_any W5 B v _ h x64 x20
            have HSM : Hid (∀ W5 B B' u v, RowS W5 B u (pgB d4.bs) → RowS W5 B' v (pgB (appl now L)) → Calls Try.prog 22 #[u, v] W5 fun e w' => e = .returned (.bool (decide (pgB d4.bs = pgB (appl now L)))) ∧ Below W5.heap.size W5 w') := fun W5 B B' u v h1 h2 => same_texts_any W5 B B' u v _ _ h1 h2 (hpl _ d64 d20) (hpl _ x64 x20)
            by_cases hsame : pgB d4.bs = pgB (appl now L)
            · rw [decide_eq_true hsame] at HSM
              have HX2 : Hid (NxS N (appl now L) (t + 1) d4) := by
                refine ⟨⟨?_, pgB_inj l1 h4N (by rw [appl_len, HNW.out]) hsame⟩, q2, q3, q4⟩
                rcases HQ5.out with h | h
                · exact h.head
                · exact h.2.head
              clear hsame n64 n20 x64 x20 d64 d20 hpl h4N q2 q3 q4 HQ5 HX
              go_wp2_with (first
                | (go_at_call 23; refine (HRl.out.image).mono ?_; rintro e w11 ⟨v11, rfl, hr11, hb11⟩; have HI11 := hid hr11; have HR11 := hid (HRl.out.on hb11); obtain ⟨a11, c11, hv11⟩ := hr11.form; subst hv11; clear hr11 hb11 HRl)
                | (go_at_call 30; refine (HP1.out _ _ _ HI11.out).mono ?_; clear HP1; rintro e w12 ⟨v12, rfl, hr12, hb12⟩; have HI12 := hid hr12; have HR12 := hid (HR11.out.on hb12); obtain ⟨a12, c12, hv12⟩ := hr12.form; subst hv12; clear hr12 hb12 HR11 HI11)
                | (go_at_call 30; refine (HP2.out _ _ _ (HR12.out.get (by simp))).mono ?_; clear HP2; rintro e w13 ⟨v13, rfl, hr13, hb13⟩; have HN13 := hid hr13; have HI13 := hid (HI12.out.on hb13); have HR13 := hid (HR12.out.on hb13); obtain ⟨a13, c13, hv13⟩ := hr13.form; subst hv13; clear hr13 hb13 HR12 HI12)
                | (go_at_call 22; refine (HSM.out _ _ _ _ _ HI13.out HN13.out).mono ?_; clear HSM; rintro e w14 ⟨rfl, hb14⟩; have HR14 := hid (HR13.out.on hb14); clear hb14 HR13 HI13 HN13))
              go_roundw
              case rel => exact ⟨t + 1, gx, xc, appl now L, d4, by omega, by go_num, rfl, HR14.out.less (fun x hx => by simp at hx ⊢; exact .inl hx), HX2⟩
              case measure => simp [intOf]; omega
            · rw [decide_eq_false hsame] at HSM
              have hq5 : ec ≠ 0 ∧ Old N now d4.bs := by
                rcases HQ5.out with h | h
                · exact absurd (h.eq.pgB l1) hsame
                · exact h
              have HX2 : Hid (NxS N now (t + 1) d4) := ⟨hq5.2, q2, q3, q4⟩
              have hpe : pgB d4.bs = pgB now := hq5.2.eq.pgB l1
              have HP3 : Hid (∀ W5 B v, RowS W5 B v now → Calls Try.prog 30 #[v] W5 fun e w' => ∃ v', e = .returned v' ∧ RowS w' W5.heap.size v' (pgB d4.bs) ∧ Below W5.heap.size W5 w') := fun W5 B v h => by rw [hpe]; exact pagesL_any W5 B v _ h n64 n20
              have HS2 : Hid (∀ W5 B B' u v, RowS W5 B u (pgB d4.bs) → RowS W5 B' v (pgB d4.bs) → Calls Try.prog 22 #[u, v] W5 fun e w' => e = .returned (.bool true) ∧ Below W5.heap.size W5 w') := fun W5 B B' u v h1 h2 => same_self W5 B B' u v _ h1 h2 (hpl _ d64 d20)
              have hecb : ((ec : Int) == 0) = false := by simp; exact hq5.1
              clear hsame n64 n20 x64 x20 d64 d20 hpl h4N q2 q3 q4 HQ5 HX hq5 hpe
              go_wp2_with (first
                | (go_at_call 23; refine (HRl.out.image).mono ?_; rintro e w11 ⟨v11, rfl, hr11, hb11⟩; have HI11 := hid hr11; have HR11 := hid (HRl.out.on hb11); obtain ⟨a11, c11, hv11⟩ := hr11.form; subst hv11; clear hr11 hb11 HRl)
                | (go_at_call 30; refine (HP1.out _ _ _ HI11.out).mono ?_; clear HP1; rintro e w12 ⟨v12, rfl, hr12, hb12⟩; have HI12 := hid hr12; have HR12 := hid (HR11.out.on hb12); obtain ⟨a12, c12, hv12⟩ := hr12.form; subst hv12; clear hr12 hb12 HR11 HI11)
                | (go_at_call 30; refine (HP2.out _ _ _ (HR12.out.get (by simp))).mono ?_; clear HP2; rintro e w13 ⟨v13, rfl, hr13, hb13⟩; have HN13 := hid hr13; have HI13 := hid (HI12.out.on hb13); have HR13 := hid (HR12.out.on hb13); obtain ⟨a13, c13, hv13⟩ := hr13.form; subst hv13; clear hr13 hb13 HR12 HI12)
                | (go_at_call 22; refine (HSM.out _ _ _ _ _ HI13.out HN13.out).mono ?_; clear HSM; rintro e w14 ⟨rfl, hb14⟩; have HR14 := hid (HR13.out.on hb14); have HI14 := hid (HI13.out.on hb14); clear hb14 HR13 HI13 HN13)
                | (go_at_call 30; refine (HP3.out _ _ _ (HR14.out.get (by simp))).mono ?_; clear HP3; rintro e w15 ⟨v15, rfl, hr15, hb15⟩; have HN15 := hid hr15; have HI15 := hid (HI14.out.on hb15); have HR15 := hid (HR14.out.on hb15); obtain ⟨a15, c15, hv15⟩ := hr15.form; subst hv15; clear hr15 hb15 HR14 HI14)
                | (go_at_call 22; refine (HS2.out _ _ _ _ _ HI15.out HN15.out).mono ?_; clear HS2; rintro e w16 ⟨rfl, hb16⟩; have HR16 := hid (HR15.out.on hb16); clear hb16 HR15 HI15 HN15))
              go_roundw
              case rel => exact ⟨t + 1, g, nc, now, d4, by omega, by go_num, rfl, HR16.out.less (fun x hx => by simp at hx ⊢; exact .inr hx), HX2⟩
              case measure => simp [intOf]; omega
      · skip
        have hcud : decide ((t : Int) < (u : Int)) = false := decide_eq_false (by omega)
        obtain ⟨lf, hlf⟩ : ∃ lf : Int, d.lf = lf := ⟨_, rfl⟩
        have HCT : Hid (({ d with lf := lf } : Ds) = d) := by show _ = _; rw [← hlf]
        obtain ⟨r1, d4, q1, q2, q3, q4, q5⟩ := HX.out.step HG.out H36.out lf
        have HQ1 := hid q1
        have HQ5 := hid q5
        have hlg : d.lg.length ≤ 1000 * t := HX.out.lg
        have hm12' : t ≤ 12 := by omega
        have hcl := cmt_lg { d with lf := lf } L
        have hlbm : lb L.length ≤ 100 := by rw [HLM.out]; unfold lb; omega
        have hcl2 : (cmt { d with lf := lf } L).2.lg.length ≤ 20000 := Nat.le_trans hcl (by show d.lg.length + _ + _ + _ ≤ _; rw [HLM.out] at hlbm ⊢; omega)
        obtain ⟨ec, hec⟩ : ∃ ec, (cmt { d with lf := lf } L).1 = ec := ⟨_, rfl⟩
        obtain ⟨dc, hdc⟩ : ∃ dc, (cmt { d with lf := lf } L).2 = dc := ⟨_, rfl⟩
        have HEC := hid hec
        have HDC := hid hdc
        rw [hec] at HQ5
        rw [hdc] at HQ1 hcl2
        clear q1 q5 hcl hlbm hec hdc
        go_upto_region 11 with (go_at_call 27; refine hgr.mono ?_; clear hgr; rintro e w5 ⟨gv, rfl, hr5, hb5⟩; have HGV := hid hr5; have HR5 := hid (HR.out.on hb5); obtain ⟨ga, gc, hgv⟩ := hr5.form; rw [HLM.out] at hgv; subst hgv; have HLO : Hid (∀ S, (∀ j, S j → j < wr.heap.size) → LiesO w5 S (.slice ga lm gc) L) := (fun S hS => hr5.lies (fun g hg hs => by have a1 := ((hr5 : w5.ownsRow wr.heap.size 54 2 _ _ _).lt g hg).1; have a2 := hS g hs; omega) (fun p hp => by have a1 := HG.out.pl hp; exact ⟨by omega, by rw [(HG.out.ok p hp).2]; decide⟩)); have HB5 := hid hb5; clear hr5 hb5)
        obtain ⟨S, HS⟩ : ∃ S, Hid (Dk w5 S k d ∧ (∀ j, S j → w.heap.size ≤ j) ∧ Below w.heap.size w w5 ∧ (∀ x ∈ [(Value.slice (some ⟨g, 0, none⟩) N nc, now)], RowS w5 w.heap.size x.1 x.2 ∧ ∀ g, x.1.ownBlock = some g → ¬ S g) ∧ LiesO w5 S (.slice ga lm gc) L) := by
          obtain ⟨S, h1, h2, h3, h4⟩ := HR.out
          exact ⟨S, h1.on HB5.out, h2, h3.trans (HB5.out.mono h3.size), fun x hx => ⟨(h4 x hx).1.on HB5.out, (h4 x hx).2⟩, HLO.out S h1.lt⟩
        have HW5 : Hid (Wm w5 S k d w5) := Wm.refl HS.out.1
        have hcm : ∀ W5, Wm w5 S k { d with lf := lf } W5 → Calls Try.prog 18 #[.pointer (some ⟨k, 0, none⟩), .slice ga lm gc] W5 fun e w' => e = .returned (.int .i64 (ec : Nat)) ∧ Wm w5 S k dc w' := fun W5 h => by
          have h6 := commit_wm w5 S k { d with lf := lf } W5 _ L h HS.out.2.2.2.2 (fit_small (by show d.lg.length + 5000 ≤ _; omega))
          rw [HEC.out, HDC.out] at h6
          exact h6
        have hrs : ∀ W5, Wm w5 S k dc W5 → _ := fun W5 h => restore_wm w5 S k dc W5 h
        have hrc : ∀ W5, Wm w5 S k dc.res W5 → Calls Try.prog 25 #[.pointer (some ⟨k, 0, none⟩)] W5 fun e w' => e = .returned (.tuple #[.int .i64 (r1 : Nat), .int .i64 0]) ∧ Wm w5 S k d4 w' := fun W5 h => by
          have h6 := recover_wm w5 S k dc.res W5 h (fit_small (by show dc.lg.length + 1500 ≤ _; omega))
          rw [HQ1.out] at h6
          exact h6
        clear HQ1 HEC HDC HR HLO hcl2 hlg
        have H6 : Hid (Wm w5 S k { d with lf := lf } w5) := by rw [HCT.out]; exact HW5
        clear hlf HCT HW5
        go_upto_region 18 with (first
          | (go_at_call 18; refine (hcm _ H6.out).mono ?_; clear hcm; rintro e w7 ⟨rfl, h7⟩; have H7 := hid h7; clear h7 H6)
          | (go_at_call 29; refine (hrs _ H7.out).mono ?_; clear hrs; rintro e w8 ⟨rfl, h8⟩; have H8 := hid h8; clear h8 H7)
          | (go_at_call 25; refine (hrc _ H8.out).mono ?_; clear hrc; rintro e w9 ⟨rfl, h9⟩; have H9 := hid h9; clear h9 H8))
        have HR9 : Hid (Ro w w9 k d4 [(.slice (some ⟨g, 0, none⟩) N nc, now)]) := Ro.of_wm HS.out.2.1 HS.out.2.2.1 HS.out.2.2.2.1 H9.out
        have HL9 : Hid (LiesO w9 (fun _ => False) (.slice ga lm gc) L) := by
          obtain ⟨S', g1, g2⟩ := H9.out.disk
          exact (HS.out.2.2.2.2.keep H9.out.keep g2).out (fun j _ h => h.elim)
        have HNW : Hid (now.length = N) := HX.out.old.eq.lb
        have hrow9 : RowS w9 w.heap.size (.slice (some ⟨g, 0, none⟩) N nc) now := HR9.out.get (by simp)
        have hgl9 : g < w9.heap.size := ((hrow9 : w9.ownsRow w.heap.size 9 1 _ _ _).lt g rfl).2
        have HSR : Hid (∀ j u, (flatS now)[j]? = some u → (w9.alloc (.cells #[] 9)).cell? ((⟨g, 0, none⟩ : Addr).add j) = some u) := fun j u hj => by
          have h1 := World.ownsRow.cells hrow9 (g := g) rfl j u hj
          rw [add_plain] at h1 ⊢
          exact ((Below.refl _ w9).alloc (Nat.le_refl _) _ |>.cell (p := ⟨g, 0 + j, none⟩) hgl9).trans h1
        have hll : (flatS now).length = N * 1 := by rw [flatS_length, HNW.out]
        clear H9 HS hrow9 HGV HR5 HB5
        go_wp2_with (at_builtin; refine wpList_append_blk _ rfl (.tmp 70) (.tmp 71) 37 rfl w9.heap.size 9 i0 (.string ⟨#[]⟩) 1 16 Try.underlying37 hi hz0 hz1 hz2 rfl (by decide) _ 0 [] rfl (World.ownsRow_lit (base := w9.heap.size) (e := 9) (size := 1) w9 #[] 0 (Nat.le_refl _) (by decide) rfl) ⟨g, 0, none⟩ N nc (flatS now) rfl hll HSR.out (flatS_one _) ?c2 ?c3 ?c4 ?c5 ?_)
        case c2 => omega
        case c3 => unfold maxLen; omega
        case c4 => omega
        case c5 => simp
        intro v' w10 hown' hgrow hmv
        have HB10 : Hid (Below w9.heap.size w9 w10) := ((Below.refl _ w9).alloc (Nat.le_refl _) _).grown hgrow (by simp) (fun g hg => by simp [Value.ownBlock] at hg; omega)
        have HX10 : Hid (RowS w10 w9.heap.size v' now) := by
          refine hid ?_
          unfold RowS
          rw [HNW.out]
          simpa using hown'
        obtain ⟨gx, xc, hxv, _, _, hgx, _⟩ := own_some HX10.out (by rw [HNW.out]; omega)
        rw [HNW.out] at hxv
        subst hxv
        clear hown' hgrow hmv HSR hll
        go_upto_region 20 with fail
        go_loopw [75] (fun i W => ∃ j : Nat, j ≤ lm ∧ i = .int .i64 (j : Nat) ∧ Hid (RowS W w9.heap.size (.slice (some ⟨gx, 0, none⟩) N xc) (appl now (L.take j))) ∧ Hid (Keep (fun g => g = gx) w10 W)) (fun i _ => lm - (intOf i).toNat)
        case atStart => exact ⟨0, Nat.zero_le _, rfl, HX10, Keep.refl _ _⟩
        case round =>
          obtain ⟨j, hj, rfl, HTr, HKr⟩ := hrel
          clear HX10
          by_cases hlj : j < lm
          · have hji : (j : Int) < (lm : Int) := by omega
            obtain ⟨p, hp⟩ : ∃ p, L[j]? = some p := ⟨_, List.getElem?_eq_getElem (by rw [HLM.out]; exact hlj)⟩
            have hpl := HG.out.pl (List.mem_of_getElem? hp)
            have HAP : Hid (appl now (L.take (j + 1)) = (appl now (L.take j)).set p.pl.toNat p.data) := by
              show _ = _
              rw [take_snoc hp, appl_append]
              rfl
            obtain ⟨bb, oo, hgab, hbb, _, cp0', cp1', _⟩ := HL9.out.at hp
            subst hgab
            have hblk : wr.heap[bb]? = w9.heap[bb]? := (HKr.out.block bb (Nat.lt_of_lt_of_le hbb HB10.out.size) (fun e => by omega)).trans (HB10.out.block bb hbb)
            have cp0 := (World.cell?_of_block (a := ⟨bb, oo + j * 2, none⟩) hblk).trans cp0'
            have cp1 := (World.cell?_of_block (a := ⟨bb, oo + j * 2 + 1, none⟩) hblk).trans cp1'
            obtain ⟨pl, data⟩ := p
            simp only at hpl HAP cp0 cp1
            obtain ⟨x, rfl⟩ : ∃ x : Nat, pl = (x : Int) := ⟨pl.toNat, by omega⟩
            rw [Int.toNat_natCast] at HAP
            have hxN : (x : Int) < (N : Int) := by omega
            have HLN : Hid ((appl now (L.take j)).length = N) := by show _ = _; rw [appl_len, HNW.out]
            obtain ⟨s0, hs0⟩ : ∃ s0, (appl now (L.take j))[x]? = some s0 := ⟨_, List.getElem?_eq_getElem (by rw [HLN.out]; omega)⟩
            obtain ⟨cx, fx⟩ := HTr.out.at hs0
            have cx' : wr.drew.cell? ⟨gx, x, none⟩ = some (.string s0) := cx
            have fx' : wr.drew.frozen? ⟨gx, x, none⟩ = false := fx
            have HSW : wr.drew.cell? ⟨bb, oo + j * 2, none⟩ = some (.int .i64 (x : Nat)) ∧ wr.drew.cell? ⟨bb, oo + j * 2 + 1, none⟩ = some (.string data) := ⟨cp0, cp1⟩
            have HT2 : Hid (RowS (wr.drew.setCell ⟨gx, x, none⟩ (.string data)) w9.heap.size (.slice (some ⟨gx, 0, none⟩) N xc) (appl now (L.take (j + 1)))) := by
              refine hid ?_
              rw [HAP.out]
              exact RowS.set (HTr.out.on (Below.drew (Below.refl _ wr))) HLN.out data
            have HK2 := hid ((HKr.out.trans (Keep.drew (fun g => g = gx) wr) (fun _ _ h => h)).trans (Keep.set (S := fun g => g = gx) wr.drew rfl x (.string data)) (fun _ _ h => h))
            clear hp cp0 cp1 cp0' cp1' hblk cx fx hs0 HTr HKr HAP
            go_wp2_with fail
            refine wp_region_m (fun w' => w'.cell? ⟨bb, oo + j * 2, none⟩ = some (.int .i64 (x : Nat)) ∧ w'.cell? ⟨bb, oo + j * 2 + 1, none⟩ = some (.string data)) 12 (by kernel_rfl) ?_
            refine wpAnyM_pick (i := 0) (some 78) (v := ?vz13) rfl rfl (by kernel_rfl) (by kernel_rfl) (by kernel_rfl) (by kernel_rfl) (fun _ _ _ h => h) (Or.inl ⟨by rfl, ?hz13⟩) HSW ?rz13
            case hz13 => intro w hSw; go_simp; try with_reducible rfl
            try simp only [Act.put, List.setIfInBounds_toArray, List.set_cons_zero, List.set_cons_succ]
            refine wpAnyM_pick (i := 1) (some 79) (v := ?vz14) rfl rfl (by kernel_rfl) (by kernel_rfl) (by kernel_rfl) (by kernel_rfl) (fun _ _ _ h => h) (Or.inl ⟨by rfl, ?hz14⟩) HSW ?rz14
            case hz14 => intro w hSw; go_simp; try with_reducible rfl
            try simp only [Act.put, List.setIfInBounds_toArray, List.set_cons_zero, List.set_cons_succ]
            refine wpAnyM_pick (i := 2) (some 80) (v := ?vz15) rfl rfl (by kernel_rfl) (by kernel_rfl) (by kernel_rfl) (by kernel_rfl) (fun _ _ _ h => h) (Or.inl ⟨by rfl, ?hz15⟩) HSW ?rz15
            case hz15 => intro w hSw; go_simp; try with_reducible rfl
            try simp only [Act.put, List.setIfInBounds_toArray, List.set_cons_zero, List.set_cons_succ]
            refine wpAnyM_pick (i := 3) (some 81) (v := ?vz16) rfl rfl (by kernel_rfl) (by kernel_rfl) (by kernel_rfl) (by kernel_rfl) (fun _ _ _ h => h) (Or.inl ⟨by rfl, ?hz16⟩) HSW ?rz16
            case hz16 => intro w hSw; go_simp; try with_reducible rfl
            try simp only [Act.put, List.setIfInBounds_toArray, List.set_cons_zero, List.set_cons_succ]
            refine wpAnyM_pick (i := 4) (some 82) (v := ?vz17) rfl rfl (by kernel_rfl) (by kernel_rfl) (by kernel_rfl) (by kernel_rfl) (fun _ _ _ h => h) (Or.inl ⟨by rfl, ?hz17⟩) HSW ?rz17
            case hz17 => intro w hSw; go_simp; try with_reducible rfl
            try simp only [Act.put, List.setIfInBounds_toArray, List.set_cons_zero, List.set_cons_succ]
            refine wpAnyM_pick (i := 5) (some 83) (v := ?vz18) rfl rfl (by kernel_rfl) (by kernel_rfl) (by kernel_rfl) (by kernel_rfl) (fun _ _ _ h => h) (Or.inl ⟨by rfl, ?hz18⟩) HSW ?rz18
            case hz18 => intro w hSw; go_simp; try with_reducible rfl
            try simp only [Act.put, List.setIfInBounds_toArray, List.set_cons_zero, List.set_cons_succ]
            refine wpAnyM_pick (i := 6) (some 84) (v := ?vz19) rfl rfl (by kernel_rfl) (by kernel_rfl) (by kernel_rfl) (by kernel_rfl) (fun _ _ _ h => h) (Or.inl ⟨by rfl, ?hz19⟩) HSW ?rz19
            case hz19 => intro w hSw; go_simp; try with_reducible rfl
            try simp only [Act.put, List.setIfInBounds_toArray, List.set_cons_zero, List.set_cons_succ]
            refine wpAnyM_pick (i := 7) (some 85) (v := ?vz20) rfl rfl (by kernel_rfl) (by kernel_rfl) (by kernel_rfl) (by kernel_rfl) (fun _ _ _ h => h) (Or.inl ⟨by rfl, ?hz20⟩) HSW ?rz20
            case hz20 => intro w hSw; go_simp; try with_reducible rfl
            try simp only [Act.put, List.setIfInBounds_toArray, List.set_cons_zero, List.set_cons_succ]
            refine wpAnyM_pick (i := 8) (some 86) (v := ?vz21) rfl rfl (by kernel_rfl) (by kernel_rfl) (by kernel_rfl) (by kernel_rfl) (fun _ _ _ h => h) (Or.inl ⟨by rfl, ?hz21⟩) HSW ?rz21
            case hz21 => intro w hSw; go_simp; try with_reducible rfl
            try simp only [Act.put, List.setIfInBounds_toArray, List.set_cons_zero, List.set_cons_succ]
            refine wpAnyM_pick (i := 9) (some 87) (v := ?vz22) rfl rfl (by kernel_rfl) (by kernel_rfl) (by kernel_rfl) (by kernel_rfl) (fun _ _ _ h => h) (Or.inl ⟨by rfl, ?hz22⟩) HSW ?rz22
            case hz22 => intro w hSw; go_simp; try with_reducible rfl
            try simp only [Act.put, List.setIfInBounds_toArray, List.set_cons_zero, List.set_cons_succ]
            refine wpAnyM_pick (i := 10) (some 88) (v := ?vz23) rfl rfl (by kernel_rfl) (by kernel_rfl) (by kernel_rfl) (by kernel_rfl) (fun _ _ _ h => h) (Or.inl ⟨by rfl, ?hz23⟩) HSW ?rz23
            case hz23 => intro w hSw; go_simp; try with_reducible rfl
            try simp only [Act.put, List.setIfInBounds_toArray, List.set_cons_zero, List.set_cons_succ]
            refine wpAnyM_pick (i := 11) (some 89) (v := ?vz24) rfl rfl (by kernel_rfl) (by kernel_rfl) (by kernel_rfl) (by kernel_rfl) (fun _ _ _ h => h) (Or.inl ⟨by rfl, ?hz24⟩) HSW ?rz24
            case hz24 => intro w hSw; go_simp; try with_reducible rfl
            try simp only [Act.put, List.setIfInBounds_toArray, List.set_cons_zero, List.set_cons_succ]
            refine wpAnyM_one (i := 12) (by kernel_rfl) rfl (fun K hK => ?_)
            go_simp
            refine hK.out _ _ (fun h => absurd h (by decide)) ?_
            clear hK K
            refine wpAnyM_done (by kernel_rfl) ?_ _
            try simp only [Act.put, List.setIfInBounds_toArray, List.set_cons_zero, List.set_cons_succ]
            clear HSW cx' fx'
            go_wp2_with fail
            go_roundw
            case rel => exact ⟨j + 1, by omega, by go_num, HT2, HK2⟩
            case measure => simp [intOf]; omega
          · have hji : ¬ (j : Int) < (lm : Int) := by omega
            obtain rfl : j = lm := by omega
            rw [List.take_of_length_le (by rw [HLM.out]; omega)] at HTr
            have HRl := hid (HR9.out.turn HB10.out hgx HKr.out HTr.out)
            clear HR9 HB10 HTr HKr HL9
            have n64 : 64 ≤ now.length := by rw [HNW.out]; exact l1
            have n20 : now.length ≤ 2048 := by rw [HNW.out]; omega
            have x64 : 64 ≤ (appl now L).length := by rw [appl_len]; exact n64
            have x20 : (appl now L).length ≤ 2048 := by rw [appl_len]; exact n20
            have h4N : d4.bs.length = N := by rcases HQ5.out with h | h; exact h.eq.la; exact h.2.eq.la
            have d64 : 64 ≤ d4.bs.length := by rw [h4N]; exact l1
            have d20 : d4.bs.length ≤ 2048 := by rw [h4N]; omega
            have hpl : ∀ c : List ByteArray, 64 ≤ c.length → c.length ≤ 2048 → (pgB c).length ≤ 100000 := fun c h1 h2 => by rw [pgB_len h1]; have := pgs_hi h2; omega
            have HP1 : Hid (∀ W5 B v, RowS W5 B v d4.bs → Calls Try.prog 30 #[v] W5 fun e w' => ∃ v', e = .returned v' ∧ RowS w' W5.heap.size v' (pgB d4.bs) ∧ Below W5.heap.size W5 w') := fun W5 B v h => pagesL_any W5 B v d4.bs h d64 d20
            have HP2 : Hid (∀ W5 B v, RowS W5 B v (appl now L) → Calls Try.prog 30 #[v] W5 fun e w' => ∃ v', e = .returned v' ∧ RowS w' W5.heap.size v' (pgB (appl now L)) ∧ Below W5.heap.size W5 w') := fun W5 B v h => pagesL_any W5 B v _ h x64 x20
            have HSM : Hid (∀ W5 B B' u v, RowS W5 B u (pgB d4.bs) → RowS W5 B' v (pgB (appl now L)) → Calls Try.prog 22 #[u, v] W5 fun e w' => e = .returned (.bool (decide (pgB d4.bs = pgB (appl now L)))) ∧ Below W5.heap.size W5 w') := fun W5 B B' u v h1 h2 => same_texts_any W5 B B' u v _ _ h1 h2 (hpl _ d64 d20) (hpl _ x64 x20)
            by_cases hsame : pgB d4.bs = pgB (appl now L)
            · rw [decide_eq_true hsame] at HSM
              have HX2 : Hid (NxS N (appl now L) (t + 1) d4) := by
                refine ⟨⟨?_, pgB_inj l1 h4N (by rw [appl_len, HNW.out]) hsame⟩, q2, q3, q4⟩
                rcases HQ5.out with h | h
                · exact h.head
                · exact h.2.head
              clear hsame n64 n20 x64 x20 d64 d20 hpl h4N q2 q3 q4 HQ5 HX
              go_wp2_with (first
                | (go_at_call 23; refine (HRl.out.image).mono ?_; rintro e w11 ⟨v11, rfl, hr11, hb11⟩; have HI11 := hid hr11; have HR11 := hid (HRl.out.on hb11); obtain ⟨a11, c11, hv11⟩ := hr11.form; subst hv11; clear hr11 hb11 HRl)
                | (go_at_call 30; refine (HP1.out _ _ _ HI11.out).mono ?_; clear HP1; rintro e w12 ⟨v12, rfl, hr12, hb12⟩; have HI12 := hid hr12; have HR12 := hid (HR11.out.on hb12); obtain ⟨a12, c12, hv12⟩ := hr12.form; subst hv12; clear hr12 hb12 HR11 HI11)
                | (go_at_call 30; refine (HP2.out _ _ _ (HR12.out.get (by simp))).mono ?_; clear HP2; rintro e w13 ⟨v13, rfl, hr13, hb13⟩; have HN13 := hid hr13; have HI13 := hid (HI12.out.on hb13); have HR13 := hid (HR12.out.on hb13); obtain ⟨a13, c13, hv13⟩ := hr13.form; subst hv13; clear hr13 hb13 HR12 HI12)
                | (go_at_call 22; refine (HSM.out _ _ _ _ _ HI13.out HN13.out).mono ?_; clear HSM; rintro e w14 ⟨rfl, hb14⟩; have HR14 := hid (HR13.out.on hb14); clear hb14 HR13 HI13 HN13))
              go_roundw
              case rel => exact ⟨t + 1, gx, xc, appl now L, d4, by omega, by go_num, rfl, HR14.out.less (fun x hx => by simp at hx ⊢; exact .inl hx), HX2⟩
              case measure => simp [intOf]; omega
            · rw [decide_eq_false hsame] at HSM
              have hq5 : ec ≠ 0 ∧ Old N now d4.bs := by
                rcases HQ5.out with h | h
                · exact absurd (h.eq.pgB l1) hsame
                · exact h
              have HX2 : Hid (NxS N now (t + 1) d4) := ⟨hq5.2, q2, q3, q4⟩
              have hpe : pgB d4.bs = pgB now := hq5.2.eq.pgB l1
              have HP3 : Hid (∀ W5 B v, RowS W5 B v now → Calls Try.prog 30 #[v] W5 fun e w' => ∃ v', e = .returned v' ∧ RowS w' W5.heap.size v' (pgB d4.bs) ∧ Below W5.heap.size W5 w') := fun W5 B v h => by rw [hpe]; exact pagesL_any W5 B v _ h n64 n20
              have HS2 : Hid (∀ W5 B B' u v, RowS W5 B u (pgB d4.bs) → RowS W5 B' v (pgB d4.bs) → Calls Try.prog 22 #[u, v] W5 fun e w' => e = .returned (.bool true) ∧ Below W5.heap.size W5 w') := fun W5 B B' u v h1 h2 => same_self W5 B B' u v _ h1 h2 (hpl _ d64 d20)
              have hecb : ((ec : Int) == 0) = false := by simp; exact hq5.1
              clear hsame n64 n20 x64 x20 d64 d20 hpl h4N q2 q3 q4 HQ5 HX hq5 hpe
              go_wp2_with (first
                | (go_at_call 23; refine (HRl.out.image).mono ?_; rintro e w11 ⟨v11, rfl, hr11, hb11⟩; have HI11 := hid hr11; have HR11 := hid (HRl.out.on hb11); obtain ⟨a11, c11, hv11⟩ := hr11.form; subst hv11; clear hr11 hb11 HRl)
                | (go_at_call 30; refine (HP1.out _ _ _ HI11.out).mono ?_; clear HP1; rintro e w12 ⟨v12, rfl, hr12, hb12⟩; have HI12 := hid hr12; have HR12 := hid (HR11.out.on hb12); obtain ⟨a12, c12, hv12⟩ := hr12.form; subst hv12; clear hr12 hb12 HR11 HI11)
                | (go_at_call 30; refine (HP2.out _ _ _ (HR12.out.get (by simp))).mono ?_; clear HP2; rintro e w13 ⟨v13, rfl, hr13, hb13⟩; have HN13 := hid hr13; have HI13 := hid (HI12.out.on hb13); have HR13 := hid (HR12.out.on hb13); obtain ⟨a13, c13, hv13⟩ := hr13.form; subst hv13; clear hr13 hb13 HR12 HI12)
                | (go_at_call 22; refine (HSM.out _ _ _ _ _ HI13.out HN13.out).mono ?_; clear HSM; rintro e w14 ⟨rfl, hb14⟩; have HR14 := hid (HR13.out.on hb14); have HI14 := hid (HI13.out.on hb14); clear hb14 HR13 HI13 HN13)
                | (go_at_call 30; refine (HP3.out _ _ _ (HR14.out.get (by simp))).mono ?_; clear HP3; rintro e w15 ⟨v15, rfl, hr15, hb15⟩; have HN15 := hid hr15; have HI15 := hid (HI14.out.on hb15); have HR15 := hid (HR14.out.on hb15); obtain ⟨a15, c15, hv15⟩ := hr15.form; subst hv15; clear hr15 hb15 HR14 HI14)
                | (go_at_call 22; refine (HS2.out _ _ _ _ _ HI15.out HN15.out).mono ?_; clear HS2; rintro e w16 ⟨rfl, hb16⟩; have HR16 := hid (HR15.out.on hb16); clear hb16 HR15 HI15 HN15))
              go_roundw
              case rel => exact ⟨t + 1, g, nc, now, d4, by omega, by go_num, rfl, HR16.out.less (fun x hx => by simp at hx ⊢; exact .inr hx), HX2⟩
              case measure => simp [intOf]; omega
    · have hti : ¬ (t : Int) < (m : Int) := by omega
      obtain rfl : t = m := by omega
      go_wp2_with fail
      go_ret
      exact ⟨rfl, HR.out.below⟩

theorem journalNext_own : ownKnob Try.prog.godebug = none := by kernel_rfl
theorem journalNext_laidOut : laidOutB Try.prog = true := by kernel_rfl

set_option maxRecDepth 100000 in
theorem journalNext_lifted (os : Os) (started : os.Started) (H : Type) (enc : TypeId × Value → H) :
    ReturnsInHanded {} Try.checked os 7 .any (Rows.journalNextSpec.pre6 enc Try.prog Try.f7 Rows.journalNextRow.domain false) (Rows.journalNextSpec.post enc Try.prog Try.f7 false true false false) := by
  refine returnsInHanded_of_change_sized (C := Try.checked) journalNext_own started (by kernel_rfl) Try.func7
    (ChangeSpec.witness6 (enc := enc) (C := Try.checked) false ⟨#[], #[.int .i64 0, .slice none 0 0, .slice none 0 0], []⟩ 8 (by kernel_rfl) (by kernel_rfl) (by kernel_rfl) (by kernel_rfl)) ?_
  intro W base args ds gs before hval0 hW hcnd hsz0 _
  have hsz : (DataW.weightsEach Try.prog (Try.f7.params.toList ++ Rows.journalNextSpec.plain.varTypes Try.prog) (ds ++ gs)).all (· ≤ reachBytes) = true := hsz0
  have hval : ∀ (j : Nat) t v, Try.f7.params[j]? = some t → args[j]? = some v → Value.okWide Try.prog W .any base t v := hval0
  have hW' := hW
  obtain ⟨p, q, hA0, hV, rfl, hfz, hnd⟩ := hW
  have hA : DataW.TrodAll enc Try.prog W 0 (fun _ => true) true Try.f7.params.toList args.toList ds p := hA0
  rw [Try.params7] at hA hval hsz
  obtain ⟨v0, vs0, d0, ds0, p0, q0, hargs, rfl, rfl, h0, r0⟩ := trodAll_cons hA
  obtain ⟨v1, vs1, d1, ds1, p1, q1, rfl, rfl, rfl, h1, r1⟩ := trodAll_cons r0
  obtain ⟨v2, vs2, d2, ds2, p2, q2, rfl, rfl, rfl, h2, r2⟩ := trodAll_cons r1
  obtain ⟨rfl, rfl, rfl⟩ := trodAll_nil r2
  obtain rfl : args = #[v0, v1, v2] := by cases args; simp_all
  obtain ⟨rfl, rfl⟩ := trodVars_none hV
  have k0 := h0
  have lt0 : ∀ x ∈ p0, x.block < W.heap.size := by obtain ⟨m, hm⟩ := k0; exact DataW.trod_lt m _ _ _ hm
  have k1 := h1
  have lt1 : ∀ x ∈ p1, x.block < W.heap.size := by obtain ⟨m, hm⟩ := k1; exact DataW.trod_lt m _ _ _ hm
  have k2 := h2
  have lt2 : ∀ x ∈ p2, x.block < W.heap.size := by obtain ⟨m, hm⟩ := k2; exact DataW.trod_lt m _ _ _ hm
  obtain ⟨a0, rfl, rfl, rfl, w0⟩ := open_int Try.underlying3 (hval 0 3 v0 rfl rfl) h0
  obtain ⟨L1, l1, z1⟩ := open_rows (hval 1 57 v1 rfl rfl) h1 (fun n hn => by simpa using List.all_eq_true.1 hsz n (DataW.weights_mem_each (j := 1) (t := 57) rfl rfl n hn))
  obtain ⟨L2, l2, z2⟩ := open_bytes (hval 2 49 v2 rfl rfl) h2 (fun n hn => by simpa using List.all_eq_true.1 hsz n (DataW.weights_mem_each (j := 2) (t := 49) rfl rfl n hn))
  clear hA0 hval0
  refine (journalNext_walk a0 v1 L1 v2 L2 w0 W l1 z1 l2 z2).mono fun e W' ⟨he, bel⟩ => ?_
  subst he
  exact ⟨_, rfl, _, _, _, [], _, [], hW', trodAll_mk1 (shut_bool Try.underlying4 _), (trodAll_cons_mk (Below.trod journalNext_laidOut (by kernel_rfl) (of_decide_eq_true (by kernel_rfl)) k0 bel lt0) (trodAll_cons_mk (Below.trod journalNext_laidOut (by kernel_rfl) (of_decide_eq_true (by kernel_rfl)) k1 bel lt1) (trodAll_cons_mk (Below.trod journalNext_laidOut (by kernel_rfl) (of_decide_eq_true (by kernel_rfl)) k2 bel lt2) trodAll_mk0))), rfl, bel.frame _, fun h => by cases h⟩

theorem journalNext_holds : Rows.JournalNextSaid :=
  OpenClaim.holds_of_wide 7 Try.f7 rfl rfl rfl rfl rfl rfl rfl ⟨rfl, rfl, rfl, rfl, rfl⟩ rfl rfl rfl rfl rfl (by kernel_rfl) Try.func7 (by kernel_rfl)
    (of_decide_eq_true (by kernel_rfl)) (by unfold Func.isWrapper; first | (rw [if_pos (by decide +kernel)]; kernel_rfl) | (rw [if_neg (by decide +kernel)]; exact ⟨rfl, rfl⟩))
    (fun os started H enc _ => journalNext_lifted os started H enc)

#print axioms journalNext_holds

end Go.Proofs.Ythinhlmefifffaa
