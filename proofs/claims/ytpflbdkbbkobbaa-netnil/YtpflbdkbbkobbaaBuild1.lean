/-
  What the net's Build answers.
-/
import Derived.Test.YtpflbdkbbkobbaaBuild0
import Derived.Deep.DeepAppendWide
import Derived.Deep.CutRange
namespace Go.Proofs.Ytpflbdkbbkobbaa
open Go.RowKit Go.Maps
set_option linter.unusedVariables false
set_option maxRecDepth 100000
set_option linter.unusedSimpArgs false

/-- why there is no net of these rules -/
def bE (rs : List Rl) : Nat := if 64 < rs.length then 10 else chkRs rs
def Built (w : World) (rs : List Rl) (e : Ending) (w' : World) : Prop :=
  Below w.heap.size w w' ∧ ((bE rs ≠ 0 ∧ e = .returned (.tuple #[.pointer none, .int .i64 (bE rs : Nat)])) ∨ (bE rs = 0 ∧ ∃ nb, e = .returned (.tuple #[.pointer (some ⟨nb, 0, none⟩), .int .i64 0]) ∧ NetAt w' w.heap.size nb rs))

theorem info64 : (Try.prog.info? 64).map (fun i => (i.zero, i.size, i.bytes)) = some (some (.agg #[.int .i64 0, .slice none 0 0]), 2, 32) := by kernel_rfl

/-- a new net has no rules -/
theorem new_net (w : World) (B : Nat) (hB : B ≤ w.heap.size) : Tre (w.alloc (.cells #[.slice none 0 0, .map none, .slice none 0 0] 62)) B w.heap.size (.slice none 0 0) 0 (fun p => if p = [] then some ⟨w.heap.size, none, .slice none 0 0⟩ else none) (endsAt (keysR [])) := by
  refine ⟨⟨_, rfl, rfl⟩, ?_, ?_, ?_, ?_⟩
  · intro p d hp
    by_cases e : p = []
    · subst e
      simp only [if_true, Option.some.injEq] at hp
      subst hp
      refine ⟨Blk.made w _ 62, hB, fun _ k => by simp [kidsT], fun m h => (by cases h), World.ownsRow_nil _ _ _ _⟩
    · simp [e] at hp
  · intro p _; rfl
  · intro p k hp; simp
  · intro p q d x hp hq hne
    by_cases e : p = []
    · by_cases e2 : q = []
      · exact absurd (e.trans e2.symm) hne
      · simp [e2] at hq
    · simp [e] at hp

/-- the rules are right -/
def Okd (rs : List Rl) (k : Nat) : Prop := ∀ i x, i < k → rs[i]? = some x → chk x.id x.l x.r = 0
/-- how far the net is built -/
def NetTo (w wr : World) (nb : Nat) (rs : List Rl) (k : Nat) : Prop :=
  ∃ sv mx T, mx ≤ 8 * k ∧ Tre wr w.heap.size nb sv mx T (endsAt (keysR (rs.take k))) ∧ (∀ p, (T p).isSome = true ↔ hasP (keysR (rs.take k)) p) ∧ SidesAt wr w.heap.size sv (rs.take k)

theorem net_step {w wc w9 : World} {nb mx k : Nat} {sv : Value} {T T9 : List Cl → Option Nd} {rs : List Rl} {r : Rl} (hrk : rs[k]? = some r) (htl : (rs.take k).length = k) (hmx : mx ≤ 8 * k) (h8 : r.l.length ≤ 8) (hP : ∀ p, (T p).isSome = true ↔ hasP (keysR (rs.take k)) p) (hS : SidesAt wc w.heap.size sv (rs.take k ++ [r])) (hK : Kq w.heap.size wc.drew w9)
    (hT : Tre w9 w.heap.size nb sv (mx + r.l.length) T9 (updE (endsAt (keysR (rs.take k))) (keysL r.l) (endsAt (keysR (rs.take k)) (keysL r.l) ++ [k]))) (hR : ∀ p, (T9 p).isSome = true ↔ (T p).isSome = true ∨ p <+: keysL r.l) : NetTo w w9 nb rs (k + 1) := by
  have e : rs.take (k + 1) = rs.take k ++ [r] := by rw [List.take_add_one, hrk]; rfl
  have e2 : keysR (rs.take (k + 1)) = keysR (rs.take k) ++ [keysL r.l] := by rw [e]; unfold keysR; rw [List.map_append]; rfl
  have e3 : (keysR (rs.take k)).length = k := by unfold keysR; rw [List.length_map]; exact htl
  refine ⟨sv, mx + r.l.length, T9, by omega, ?_, fun p => ?_, ?_⟩
  · rw [e2, endsAt_snoc, e3]; exact hT
  · rw [e2, hasP_snoc, hR p, hP p]
  · rw [e]
    exact (hS.hi' (w' := wc.drew) fun _ _ _ => rfl).kq hK

set_option maxHeartbeats 8000000 in
theorem build_any (w : World) (rv : Value) (rs : List Rl) (hr : LiesR w rv rs) :
    Calls Try.prog 8 #[rv] w fun e w' => Built w rs e w' := by
  have HR : Hid (LiesR w rv rs) := hr
  obtain ⟨ra, rc, rfl, rl1, rl2, _⟩ := hr
  have hrm : rs.length ≤ 9223372036854775807 := by unfold maxLen at rl2; omega
  by_cases h64 : 64 < rs.length
  · have hi : (rs.length : Int) > 64 := by omega
    have hi2 : decide ((rs.length : Int) > 64) = true := decide_eq_true hi
    have hb : bE rs = 10 := by unfold bE; rw [if_pos h64]
    go_enter Try.func8, Try.ntmps8
    go_wp2_with fail
    go_ret2
    exact ⟨Below.refl _ _, .inl ⟨by rw [hb]; decide, by rw [hb]; rfl⟩⟩
  · have hi : ¬ (rs.length : Int) > 64 := by omega
    have hbE : bE rs = chkRs rs := by unfold bE; rw [if_neg h64]
    have HBE : Hid (bE rs = chkRs rs) := hbE
    clear hbE
    go_enter Try.func8, Try.ntmps8
    go_wp2_with fail
    go_loopw [16] (fun i wr => ∃ k : Nat, k ≤ rs.length ∧ i = .int .i64 (k : Nat) ∧ Hid (Okd rs k) ∧ Below w.heap.size w wr) (fun i _ => rs.length - (intOf i).toNat)
    case atStart => exact ⟨0, Nat.zero_le _, rfl, (fun i x h => by omega), Below.refl _ _⟩
    case round =>
      obtain ⟨k, hk, rfl, HK, hb⟩ := hrel
      have hbs := hb.size
      by_cases hlt : k < rs.length
      · have hki : (k : Int) < (rs.length : Int) := by omega
        obtain ⟨r, hrk⟩ : ∃ r, rs[k]? = some r := ⟨rs[k], List.getElem?_eq_getElem hlt⟩
        obtain ⟨g, off, x, y, rfl, hgl, d0, d1, d2, hlx, hly⟩ := HR.out.at hrk
        have c0 : wr.cell? ⟨g, off + k * 3, none⟩ = some (.int .i64 r.id) := (hb.cell (p := ⟨g, off + k * 3, none⟩) hgl).trans d0
        have c1 : wr.cell? ⟨g, off + k * 3 + 1, none⟩ = some x := (hb.cell (p := ⟨g, off + k * 3 + 1, none⟩) hgl).trans d1
        have c2 : wr.cell? ⟨g, off + k * 3 + 2, none⟩ = some y := (hb.cell (p := ⟨g, off + k * 3 + 2, none⟩) hgl).trans d2
        have hA : Below w.heap.size w (wr.alloc (.cells #[.int .i64 r.id, x, y] 40)) := hb.alloc hbs _
        have hck : ∀ W, Below w.heap.size w W → Calls Try.prog 22 #[.agg #[.int .i64 r.id, x, y]] W fun e w' => e = .returned (.int .i64 (chk r.id r.l r.r : Nat)) ∧ Below W.heap.size W w' := fun W hW => chk_any W r.id x y r.l r.r (hlx.on hW) (hly.on hW)
        obtain ⟨xa, xc, hxv, _⟩ := hlx
        obtain ⟨ya, yc, hyv, _⟩ := hly
        subst hxv hyv
        have hbk := Blk.made wr #[.int .i64 r.id, .slice xa r.l.length xc, .slice ya r.r.length yc] 40
        have k0 := hbk.cell (i := 0) (v := .int .i64 r.id) rfl
        have k1 := hbk.cell (i := 1) (v := .slice xa r.l.length xc) rfl
        have k2 := hbk.cell (i := 2) (v := .slice ya r.r.length yc) rfl
        obtain ⟨q, hq⟩ : ∃ q, q = chk r.id r.l r.r := ⟨_, rfl⟩
        have HQ : Hid (q = chk r.id r.l r.r) := hq
        rw [← hq] at hck
        clear d0 d1 d2 hbk hq
        by_cases hz : q = 0
        · subst hz
          have HK2 : Hid (Okd rs (k + 1)) := fun i x hi hx => by
            by_cases e : i = k
            · subst e; rw [hrk] at hx; cases hx; exact HQ.out.symm
            · exact HK.out i x (by omega) hx
          clear HK HQ hrk
          go_wp2_with (go_at_call 22; refine (hck _ hA).mono ?_; rintro e w1 ⟨rfl, hb1⟩)
          go_roundw
          case rel => exact ⟨k + 1, by omega, by go_num, HK2, hA.trans (hb1.mono hA.size)⟩
          case measure => simp [intOf]; omega
        · have hzi : ((q : Int) == 0) = false := by simp only [beq_eq_false_iff_ne]; omega
          have hzn : ¬ (q : Int) = 0 := by omega
          have HE : Hid (chkRs rs = q) := by
            show _ = _
            have := chkAll_at hrk HK.out (by rw [← HQ.out]; exact hz)
            unfold chkRs
            rw [this, ← HQ.out, if_neg hz]
          clear HK HQ hrk
          go_wp2_with (go_at_call 22; refine (hck _ hA).mono ?_; rintro e w1 ⟨rfl, hb1⟩)
          go_ret2
          refine ⟨hA.trans (hb1.mono hA.size), .inl ⟨?_, ?_⟩⟩
          · rw [HBE.out, HE.out]; exact hz
          · rw [HBE.out, HE.out]; rfl
      · obtain rfl : k = rs.length := by omega
        have hki : ¬ (rs.length : Int) < (rs.length : Int) := by omega
        have HA : Hid (chkAll rs = 0) := by
          show _ = _
          rw [chkAll_zero]
          intro r hr
          obtain ⟨i, hi, rfl⟩ := List.getElem_of_mem hr
          exact HK.out i _ hi (List.getElem?_eq_getElem hi)
        have hrs : ∀ W, Below w.heap.size w W → _ := fun W hW => rising_any W _ rs (HR.out.on hW)
        clear HK
        cases hri : risI rs with
        | false =>
          rw [hri] at hrs
          have HE : Hid (chkRs rs = 19) := by show _ = _; unfold chkRs; rw [if_pos HA.out, if_neg (by rw [hri]; decide)]
          clear hri
          go_wp2_with (go_at_call 23; refine (hrs _ hb).mono ?_; rintro e w1 ⟨rfl, hb1⟩)
          go_ret2
          refine ⟨hb.trans (hb1.mono hb.size), .inl ⟨?_, ?_⟩⟩
          · rw [HBE.out, HE.out]; decide
          · rw [HBE.out, HE.out]; rfl
        | true =>
          rw [hri] at hrs
          have HE : Hid (chkRs rs = 0) := by show _ = _; unfold chkRs; rw [if_pos HA.out, if_pos hri]
          clear hri
          go_wp2_with (go_at_call 23; refine (hrs _ hb).mono ?_; rintro e w1 ⟨rfl, hb1⟩; have hbW := hb.trans (hb1.mono hb.size))
          have hNT : NetTo w (w1.alloc (.cells #[.slice none 0 0, .map none, .slice none 0 0] 62)) w1.heap.size rs 0 := ⟨_, 0, _, Nat.zero_le _, new_net w1 w.heap.size hbW.size, fun p => by
              unfold hasP keysR
              by_cases e : p = []
              · simp [e]
              · simp [e], [], rfl, World.ownsRow_nil _ _ _ _, fun i r h => by simp at h⟩
          have hbN : Below w.heap.size w (w1.alloc (.cells #[.slice none 0 0, .map none, .slice none 0 0] 62)) := hbW.alloc hbW.size _
          have hnb : w.heap.size ≤ w1.heap.size := hbW.size
          generalize w1.heap.size = nb at hNT hnb ⊢
          generalize w1.alloc (.cells #[.slice none 0 0, .map none, .slice none 0 0] 62) = wN at hNT hbN ⊢
          go_loopw [33] (fun i wr => ∃ k : Nat, k ≤ rs.length ∧ i = .int .i64 (k : Nat) ∧ Hid (NetTo w wr nb rs k) ∧ Below w.heap.size w wr) (fun i _ => rs.length - (intOf i).toNat)
          case atStart => exact ⟨0, Nat.zero_le _, rfl, hNT, hbN⟩
          case round =>
            clear hNT hbN hrs
            obtain ⟨k, hk, rfl, HN, hb2⟩ := hrel
            have hbs2 := hb2.size
            by_cases hlt : k < rs.length
            · have hki : (k : Int) < (rs.length : Int) := by omega
              obtain ⟨r, hrk⟩ : ∃ r, rs[k]? = some r := ⟨rs[k], List.getElem?_eq_getElem hlt⟩
              obtain ⟨g, off, x, y, rfl, hgl, d0, d1, d2, hlx, hly⟩ := HR.out.at hrk
              have c0 : wr.cell? ⟨g, off + k * 3, none⟩ = some (.int .i64 r.id) := (hb2.cell (p := ⟨g, off + k * 3, none⟩) hgl).trans d0
              have c1 : wr.cell? ⟨g, off + k * 3 + 1, none⟩ = some x := (hb2.cell (p := ⟨g, off + k * 3 + 1, none⟩) hgl).trans d1
              have c2 : wr.cell? ⟨g, off + k * 3 + 2, none⟩ = some y := (hb2.cell (p := ⟨g, off + k * 3 + 2, none⟩) hgl).trans d2
              obtain ⟨z0, z1, z2, z3, z4, z5⟩ := chk_zero (chkAll_zero.1 HA.out r (List.mem_of_getElem? hrk))
              have hnm := fun c hc => name_len (cellsErr_zero.1 (check_zero z1).2.1 c hc)
              have HFI : Hid (Fine r.l) := fun c hc => by
                have h1 := hnm c hc
                have h2 := cellErr_ar (cellsErr_zero.1 (check_zero z1).2.1 c hc)
                omega
              have hfr : ∀ W, Below w.heap.size w W → Calls Try.prog 24 #[x] W fun e w' => ∃ v', e = .returned v' ∧ Owns w' W.heap.size v' r.l ∧ Below W.heap.size W w' := fun W hW => fresh_any W x r.l (hlx.on hW) (by omega) (fun c hc => by have := hnm c hc; omega)
              have hA : Below w.heap.size w (wr.alloc (.cells #[.int .i64 r.id, x, y] 40)) := hb2.alloc hbs2 _
              obtain ⟨xa, xc, hxv, _⟩ := hlx
              obtain ⟨ya, yc, hyv, _⟩ := hly
              subst hxv hyv
              have hbk := Blk.made wr #[.int .i64 r.id, .slice xa r.l.length xc, .slice ya r.r.length yc] 40
              have HN2 : Hid (∃ sv mx T, mx ≤ 8 * k ∧ Tre (wr.alloc (.cells #[.int .i64 r.id, .slice xa r.l.length xc, .slice ya r.r.length yc] 40)) w.heap.size nb sv mx T (endsAt (keysR (rs.take k))) ∧ (∀ p, (T p).isSome = true ↔ hasP (keysR (rs.take k)) p) ∧ SidesAt (wr.alloc (.cells #[.int .i64 r.id, .slice xa r.l.length xc, .slice ya r.r.length yc] 40)) w.heap.size sv (rs.take k)) := by
                obtain ⟨sv, mx, T, h1, h2, h3, h4⟩ := HN.out
                exact ⟨sv, mx, T, h1, h2.alloc _, h3, h4.hi' fun g _ hg => Below.heap_alloc _ _ g hg⟩
              have HRK : Hid (rs[k]? = some r) := hrk
              have h8 : r.l.length ≤ 8 := z3.1
              clear d0 d1 d2 hrk z0 z1 z2 z3 z4 z5 hnm HN
              go_wp2_with fail
              generalize wr.alloc (.cells #[.int .i64 r.id, .slice xa r.l.length xc, .slice ya r.r.length yc] 40) = wA at HN2 hA hbk ⊢
              go_cut [10] from 38 to 61 (fun s10 wx => ∃ (ob : Nat) (la : Option Addr) (lc : Nat), s10 = .pointer (some ⟨ob, 0, none⟩) ∧ Below wA.heap.size wA wx ∧ Blk wx ob #[.int .i64 r.id, .slice la r.l.length lc] 64 ∧ Owns wx wA.heap.size (.slice la r.l.length lc) r.l ∧ wA.heap.size ≤ ob)
              case first =>
                have hbd : Below wA.heap.size wA wA.drew := (Below.refl _ _).drew
                have HX : Hid (Blk wA wr.heap.size #[.int .i64 r.id, .slice xa r.l.length xc, .slice ya r.r.length yc] 40) := hbk
                have hbl := hbk.lt
                have HS0 : wA.drew.cell? ⟨wr.heap.size, 0, none⟩ = some (.int .i64 r.id) ∧ wA.drew.cell? ⟨wr.heap.size, 1, none⟩ = some (.slice xa r.l.length xc) := ⟨hbk.cell rfl, hbk.cell rfl⟩
                clear hbk c0 c1 c2
                have hbz : Below wA.heap.size wA (wA.alloc (.cells #[.int .i64 0, .slice none 0 0] 64)).drew := ((Below.refl _ wA).alloc (Nat.le_refl _) _).drew
                have HSz : (wA.alloc (.cells #[.int .i64 0, .slice none 0 0] 64)).drew.cell? ⟨wr.heap.size, 0, none⟩ = some (.int .i64 r.id) ∧ (wA.alloc (.cells #[.int .i64 0, .slice none 0 0] 64)).drew.cell? ⟨wr.heap.size, 1, none⟩ = some (.slice xa r.l.length xc) := ⟨(HX.out.on hbz hbl).cell rfl, (HX.out.on hbz hbl).cell rfl⟩
                have hzb : Blk (wA.alloc (.cells #[.int .i64 0, .slice none 0 0] 64)).drew wA.heap.size #[.int .i64 0, .slice none 0 0] 64 := Blk.made wA _ 64
                go_region_held3 (fun w' => w'.cell? ⟨wr.heap.size, 0, none⟩ = some (.int .i64 r.id) ∧ w'.cell? ⟨wr.heap.size, 1, none⟩ = some (.slice xa r.l.length xc)) (first | exact HS0 | exact HSz | exact HS8 | exact HS8a _ _ | exact HS9)
                  (first
                    | (go_at_call 24; refine (hfr _ (hA.trans (hbd.mono hA.size))).mono ?_; rintro e w8 ⟨v8, rfl, ho8, hb8⟩; have hE := hbd.trans (hb8.mono hbd.size); obtain ⟨la, lc, hv8, _⟩ := own_cells ho8; subst hv8; have HO8 := hid (own_base ho8 hbd.size); clear ho8; have HS8 : w8.cell? ⟨wr.heap.size, 0, none⟩ = some (.int .i64 r.id) ∧ w8.cell? ⟨wr.heap.size, 1, none⟩ = some (.slice xa r.l.length xc) := ⟨(HX.out.on hE hbl).cell rfl, (HX.out.on hE hbl).cell rfl⟩; have HS8a : ∀ a b, (w8.alloc (.cells #[a, b] 64)).cell? ⟨wr.heap.size, 0, none⟩ = some (.int .i64 r.id) ∧ (w8.alloc (.cells #[a, b] 64)).cell? ⟨wr.heap.size, 1, none⟩ = some (.slice xa r.l.length xc) := (fun a b => ⟨((HX.out.on hE hbl).alloc _).cell rfl, ((HX.out.on hE hbl).alloc _).cell rfl⟩))
                    | (go_at_call 24; refine (hfr _ (hA.trans (hbz.mono hA.size))).mono ?_; rintro e w8 ⟨v8, rfl, ho8, hb8⟩; have hE := hbz.trans (hb8.mono hbz.size); obtain ⟨la, lc, hv8, _⟩ := own_cells ho8; subst hv8; have HO8 := hid (own_base ho8 hbz.size); have HS8 : w8.cell? ⟨wr.heap.size, 0, none⟩ = some (.int .i64 r.id) ∧ w8.cell? ⟨wr.heap.size, 1, none⟩ = some (.slice xa r.l.length xc) := ⟨(HX.out.on hE hbl).cell rfl, (HX.out.on hE hbl).cell rfl⟩; have hz8 := hzb.on hb8 hzb.lt; obtain ⟨z0, z1, z2, z3, hz4⟩ := hz8.put2 (.int .i64 r.id) (.slice la r.l.length lc); have HO9 : Hid (∀ u v, Owns ((w8.setCell ⟨wA.heap.size, 0, none⟩ u).setCell ⟨wA.heap.size, 1, none⟩ v) wA.heap.size (.slice la r.l.length lc) r.l) := (fun u v => row_same HO8.out (fun g hg => by have h9 : g ≠ wA.heap.size := (fun e => by have h1 := (row_at ho8 hg).1; have h2 := hzb.lt; omega); exact (Below.heap_setCell _ _ _ _ h9).trans (Below.heap_setCell _ _ _ _ h9))); clear ho8; have HS9 : ((w8.setCell ⟨wA.heap.size, 0, none⟩ (.int .i64 r.id)).setCell ⟨wA.heap.size, 1, none⟩ (.slice la r.l.length lc)).cell? ⟨wr.heap.size, 0, none⟩ = some (.int .i64 r.id) ∧ ((w8.setCell ⟨wA.heap.size, 0, none⟩ (.int .i64 r.id)).setCell ⟨wA.heap.size, 1, none⟩ (.slice la r.l.length lc)).cell? ⟨wr.heap.size, 1, none⟩ = some (.slice xa r.l.length xc) := ⟨(((HX.out.on hE hbl).other (by omega) _).other (by omega) _).cell rfl, (((HX.out.on hE hbl).other (by omega) _).other (by omega) _).cell rfl⟩))
                · go_wp2_with fail
                  go_meet
                  exact ⟨w8.heap.size, la, lc, rfl, hE.alloc hE.size _, Blk.made _ _ _, own_below HO8.out ((Below.refl _ w8).alloc (Nat.le_refl _) _), hE.size⟩
                · go_wp2_with fail
                  go_meet
                  exact ⟨wA.heap.size, la, lc, rfl, (hE.setCell (Nat.le_refl _) _).setCell (Nat.le_refl _) _, hz4, HO9.out _ _, Nat.le_refl _⟩
              case rest =>
                obtain ⟨ob, la, lc, rfl, hE, hob, hOl, hobl⟩ := hcut
                obtain ⟨sv, mx, T, hmx, hT, hhp, hsd⟩ := HN2.out
                have hrb : ∀ g, sv.ownBlock = some g → g < wA.heap.size := fun g hg => by
                  obtain ⟨ps, _, hrow, _⟩ := hsd
                  exact lt_of_block (row_at hrow hg).2.choose_spec
                have hT2 := hT.hi' (w' := wc) fun g _ hg => hE.block g hg
                have hs2 := hsd.hi' (w' := wc) fun g _ hg => hE.block g hg
                obtain ⟨ps, hpl, hrow, hel⟩ := hs2
                obtain ⟨i0, hi0, hz0, hz1, hz2⟩ := info_parts info64
                obtain ⟨d0, hd0, hd1⟩ := hT2.root
                have hblk : Blk wc nb #[sv, .map d0.m, d0.e] 62 := by
                  have := (hT2.at' [] d0 hd0).blk
                  rw [hd1] at this
                  exact this
                obtain ⟨va, vc, hsv, _⟩ := own_cells hrow
                have htl : (rs.take k).length = k := by rw [List.length_take]; omega
                have HTL : Hid ((rs.take k).length = k) := htl
                rw [htl] at hsv hrow hpl
                have HT : Hid (Tre wc w.heap.size nb sv mx T (endsAt (keysR (rs.take k)))) := hT2
                have HEL : Hid (∀ (i : Nat) q, (rs.take k)[i]? = some q → ∃ x, ps[i]? = some (q.id, x) ∧ Owns wc w.heap.size x q.l) := hel
                have HP : Hid (∀ p, (T p).isSome = true ↔ hasP (keysR (rs.take k)) p) := hhp
                have hbx : Below w.heap.size w wc := hA.trans (hE.mono hA.size)
                have HOL : Hid (Owns wc w.heap.size (.slice la r.l.length lc) r.l) := own_base hOl hA.size
                have hal := (Below.refl wc.heap.size wc).alloc (Nat.le_refl _) (.cells #[.int .i64 r.id, .slice la r.l.length lc] 64)
                have c0 : wc.drew.cell? ⟨nb, 0, none⟩ = some sv := hblk.cell rfl
                have c1 : (wc.alloc (.cells #[.int .i64 r.id, .slice la r.l.length lc] 64)).drew.cell? ⟨nb, 0, none⟩ = some sv := (hblk.alloc _).cell rfl
                have o0 : wc.drew.cell? ⟨ob, 0, none⟩ = some (.int .i64 r.id) := hob.cell rfl
                have o1 : wc.drew.cell? ⟨ob, 1, none⟩ = some (.slice la r.l.length lc) := hob.cell rfl
                have HOB : Hid (Blk wc ob #[.int .i64 r.id, .slice la r.l.length lc] 64 ∧ wA.heap.size ≤ ob) := ⟨hob, hobl⟩
                have HRB : Hid (∀ g, sv.ownBlock = some g → g < wA.heap.size) := hrb
                have HBK : Hid (Blk wc nb #[sv, .map d0.m, d0.e] 62) := hblk
                have hBc : w.heap.size ≤ wc.heap.size := hbx.size
                have hrowA : (wc.alloc (.cells #[.int .i64 r.id, .slice la r.l.length lc] 64)).drew.ownsRow w.heap.size 64 2 sv k (flatS ps) := hrow.alloc _
                have HPL : Hid (ps.length = k) := hpl
                have HNR : Hid (∀ g, sv.ownBlock = some g → g ≠ nb) := fun g hg e => by
                  obtain ⟨_, cur, h2⟩ := row_at hrow hg
                  have h3 := hblk
                  unfold Blk at h3
                  rw [e, h3] at h2
                  cases h2
                clear hT hT2 hhp hel hsd hd0 HN2 hbk hob hobl hrb hblk hOl hd1 htl hpl
                subst hsv
                go_wp2_with fail
                go_cut [] from 38 to 61 (fun wx => ∃ (na : Option Addr) (nc : Nat), Tre wx w.heap.size nb (.slice na (k + 1) nc) mx T (endsAt (keysR (rs.take k))) ∧ SidesAt wx w.heap.size (.slice na (k + 1) nc) (rs.take k ++ [r]) ∧ Blk wx ob #[.int .i64 r.id, .slice la r.l.length lc] 64 ∧ Owns wx w.heap.size (.slice la r.l.length lc) r.l ∧ Below w.heap.size w wx)
                case first =>
                  go_region_law (first
                    | (refine step_append_own rfl (.tmp 48) (.tmp 50) 57 rfl w.heap.size 64 i0 (.agg #[.int .i64 0, .slice none 0 0]) 2 32 Try.underlying57 hi0 hz0 hz1 hz2 rfl (by decide) _ k (flatS ps) rfl hrowA ⟨wc.heap.size, 0, none⟩ 1 1 [.int .i64 r.id, .slice la r.l.length lc] rfl rfl (two_cells wc _ _ _) (by intro u hu; simp at hu; rcases hu with rfl | rfl <;> rfl) (by unfold maxLen; omega) (by omega) (by simp; omega) ?_; intro v' w5 hown' hgrow; obtain ⟨na, nc, hnv, _⟩ := own_cells hown'; have hnb5 : Blk w5 nb #[.slice va k vc, .map d0.m, d0.e] 62 := (hgrow.block nb (by simp; exact Nat.lt_succ_of_lt HBK.out.lt) (fun e => HNR.out nb e.symm rfl)).trans (HBK.out.alloc _); have c5 := hnb5.cell (i := 0) rfl; have f5 := hnb5.free 0; have HG5 := hid hgrow; have HO5 := hid hown'; clear hgrow hown'; subst hnv))
                  all_goals
                    (go_wp2_with fail
                     go_meet
                     obtain ⟨q1, q2, q3, q4, q5⟩ := side_more HT.out hrow HPL.out HEL.out HTL.out HOL.out HOB.out.1 (fun e => by have h1 := HRB.out _ e; have h2 := HOB.out.2; omega) hBc HG5.out HO5.out HBK.out hnb
                     exact ⟨na, nc, q1, q2, q3, q4, hbx.trans q5⟩)
                case rest =>
                  obtain ⟨na, nc, hT6, hS6, hob6, hO6, hb6⟩ := hcut
                  clear HT HEL hrow hrowA hal c0 c1 o0 o1
                  have hT6d := hT6.drewN 1
                  have HS6 : Hid (SidesAt wc w.heap.size (.slice na (k + 1) nc) (rs.take k ++ [r])) := hS6
                  have HB6 : Hid (Below w.heap.size w wc) := hb6
                  have hlay := lay_any wc.drew w.heap.size nb (.slice na (k + 1) nc) mx T (endsAt (keysR (rs.take k))) (.slice la r.l.length lc) r.l w.heap.size k (hT6.hi' fun _ _ _ => rfl) hO6 HFI.out hb6.size (by omega) (by have := ends_len (keysR (rs.take k)) (keysL r.l); have h2 : (keysR (rs.take k)).length = k := by { unfold keysR; rw [List.length_map]; exact HTL.out }; omega)
                  have HB : Hid (Blk wc ob #[.int .i64 r.id, .slice la r.l.length lc] 64) := hob6
                  have HS0 : wc.drew.cell? ⟨ob, 1, none⟩ = some (.slice la r.l.length lc) := hob6.cell rfl
                  clear hT6 hT6d hS6 hO6 hob6 hb6
                  go_wp2_with fail
                  go_region_held3 (fun w' => w'.cell? ⟨ob, 1, none⟩ = some (.slice la r.l.length lc)) (first | exact HS0 | exact HS9)
                    (first | (go_at_call 25; refine hlay.mono ?_; rintro e w9 ⟨rfl, hK9, T9, hT9, hR9⟩; have HS9 : w9.cell? ⟨ob, 1, none⟩ = some (.slice la r.l.length lc) := (show Blk w9 ob #[.int .i64 r.id, .slice la r.l.length lc] 64 from hK9.keeps ob _ 64 (.inr rfl) HB.out).cell rfl; have HN9 : Hid (NetTo w w9 nb rs (k + 1)) := (net_step HRK.out HTL.out hmx h8 HP.out HS6.out hK9 hT9 hR9); have HB9 := hid (HB6.out.drew.trans hK9.below); clear hK9 hT9 hR9))
                  go_wp2_with fail
                  go_roundw
                  case rel => exact ⟨k + 1, by omega, by go_num, HN9, HB9.out⟩
                  case measure => simp [intOf]; omega
            · obtain rfl : k = rs.length := by omega
              have hki : ¬ (rs.length : Int) < (rs.length : Int) := by omega
              go_wp2_with fail
              go_ret2
              refine ⟨hb2, .inr ⟨?_, nb, rfl, ?_⟩⟩
              · rw [HBE.out, HE.out]
              · obtain ⟨sv, mx, T, _, h1, h2, h3⟩ := HN.out
                rw [List.take_length] at h1 h2 h3
                exact ⟨sv, mx, T, h1, h2, h3⟩

end Go.Proofs.Ytpflbdkbbkobbaa
