/-
  What the document's Same of lists, CopyAll and Same of texts answer.
-/
import Derived.Test.YtgijdhnkkbenoaaGreatW8
import Derived.Test.YtgijdhnkkbenoaaGreatRVars
import Derived.Test.YtgijdhnkkbenoaaGreatRMatch
import Derived.Test.YtgijdhnkkbenoaaGreatRKids
import Derived.Test.YtgijdhnkkbenoaaGreatRFill
import Derived.Deep.RegionLawGrows
namespace Go.Proofs.YtgijdhnkkbenoaaGreat
open Go.RowKit
set_option linter.unusedVariables false
set_option linter.unusedSimpArgs false
set_option maxRecDepth 100000
set_option maxHeartbeats 1000000 in
set_option maxHeartbeats 2000000 in

theorem rground_any (w : World) (v : Value) (L : List Cl) (hv : Lies w v L) :
    Calls Tryz.prog 21 #[v] w fun e w' => e = .returned (.bool (grd L)) ∧ Below w.heap.size w w' := by
  have hck := rCheck_any w v L hv
  by_cases hE : check L = 0
  · have hvars := rVars_ok w v L hv hE
    have HG : Hid (grd L = (((varsOf L).length : Int) == 0)) := by
      show _ = _
      unfold grd
      rw [Bool.eq_iff_iff, decide_eq_true_eq, beq_iff_eq]
      constructor
      · rintro ⟨_, h⟩; rw [h]; rfl
      · intro h; exact ⟨hE, List.eq_nil_of_length_eq_zero (by omega)⟩
    rw [hE] at hck
    obtain ⟨va, vc, rfl, _⟩ := hv
    generalize varsOf L = T at hvars HG
    generalize grd L = G at HG ⊢
    clear hE
    go_enter Tryz.func21, Tryz.ntmps21
    go_wp2_with (first | (go_at_call 31; refine hck.mono ?_; rintro e w1 ⟨rfl, rfl⟩) | (go_at_call 50; refine hvars.mono ?_; rintro e w1 ⟨v1, rfl, ho1, hb1⟩; obtain ⟨sa, sc, hsv⟩ := ho1.form; subst hsv; clear ho1))
    go_ret
    exact ⟨by rw [HG.out]; rfl, hb1⟩
  · have HG : Hid (grd L = false) := by
      show _ = _
      unfold grd
      rw [decide_eq_false_iff_not]
      exact fun h => hE h.1
    have hE1 : ¬ (check L : Int) = 0 := by omega
    generalize check L = E at hck hE1
    obtain ⟨va, vc, rfl, _⟩ := hv
    generalize grd L = G at HG ⊢
    clear hE
    go_enter Tryz.func21, Tryz.ntmps21
    go_wp2_with (go_at_call 31; refine hck.mono ?_; rintro e w1 ⟨rfl, rfl⟩)
    go_ret
    exact ⟨by rw [HG.out]; rfl, Below.refl _ _⟩

theorem flatO_snoc : ∀ (l : List Ow) (o : Ow), flatO (l ++ [o]) = flatO l ++ [.int .i64 o.k, .string o.c.nm, .int .i64 o.c.ar, o.x]
  | [], o => rfl
  | d :: r, o => by simp only [List.cons_append, flatO, flatO_snoc r o]

set_option maxHeartbeats 2000000 in
theorem turned_row (w : World) (v : Value) (os : List Ow) (B0 : Nat) (hrow : w.ownsRow B0 71 4 v os.length (flatO os)) (hx : ∀ o ∈ os, ∃ xa n xc, o.x = .slice xa n xc) (lim : os.length ≤ 2513169500000) :
    Calls Tryz.prog 32 #[v] w fun e w' => ∃ v', e = .returned v' ∧ w'.ownsRow w.heap.size 71 4 v' os.length (flatO os.reverse) ∧ Below w.heap.size w w' := by
  obtain ⟨i0, hi, hz0, hz1, hz2⟩ := info_parts info71
  obtain ⟨a, cap, rfl, c1, c2, c3⟩ := own_cells hrow
  have HC : Hid (∀ (i : Nat) x, (flatO os)[i]? = some x → ∃ g, a = some ⟨g, 0, none⟩ ∧ B0 ≤ g ∧ g < w.heap.size ∧ w.cell? ⟨g, i, none⟩ = some x) := c3
  have HX : Hid (∀ o ∈ os, ∃ xa n xc, o.x = .slice xa n xc) := hx
  have hm : os.length ≤ 9223372036854775807 := by omega
  clear c3 hx hrow
  go_enter Tryz.func32, Tryz.ntmps32
  go_wp2_with fail
  go_loopw [3, 4] (fun o i wr => ∃ (k : Nat) (m : Int), m + k + 1 = os.length ∧ -1 ≤ m ∧ i = .int .i64 m ∧ wr.ownsRow w.heap.size 71 4 o k (flatO (os.reverse.take k)) ∧ Hid (Below w.heap.size w wr)) (fun _ i _ => (intOf i + 1).toNat)
  case atStart => exact ⟨0, (os.length : Int) - 1, by omega, by omega, by go_num, World.ownsRow_nil _ _ _ _, Below.refl _ _⟩
  case round =>
    obtain ⟨k, m, hkm, hm1, rfl, hr, HB⟩ := hrel
    obtain ⟨ra, rc, hrv, _⟩ := own_cells hr
    subst hrv
    by_cases hlt : 0 ≤ m
    · obtain ⟨j, rfl⟩ : ∃ j : Nat, m = (j : Int) := ⟨m.toNat, by omega⟩
      have hjl : j < os.length := by omega
      have hji : (j : Int) < (os.length : Int) := by omega
      obtain ⟨o, ho⟩ : ∃ x, os[j]? = some x := ⟨os[j], List.getElem?_eq_getElem hjl⟩
      have HN : Hid (flatO (os.reverse.take (k + 1)) = flatO (os.reverse.take k) ++ [.int .i64 o.k, .string o.c.nm, .int .i64 o.c.ar, o.x]) := by
        show _ = _
        rw [← flatO_snoc, List.take_add_one, List.getElem?_reverse (by omega), show os.length - 1 - k = j by omega, ho]
        rfl
      obtain ⟨xa, xn, xc, hox⟩ := HX.out o (List.mem_of_getElem? ho)
      obtain ⟨f0, f1, f2, f3⟩ := flatO_at os j o ho
      obtain ⟨g, ha, _, hgl, d0⟩ := HC.out _ _ f0
      subst ha
      obtain ⟨g1, e1, _, _, d1⟩ := HC.out _ _ f1
      obtain ⟨g2, e2, _, _, d2⟩ := HC.out _ _ f2
      obtain ⟨g3, e3, _, _, d3⟩ := HC.out _ _ f3
      cases e1; cases e2; cases e3
      rw [hox] at d3 HN
      have D0 := (HB.out.cell (p := ⟨g, j * 4, none⟩) hgl).trans d0
      have D1 := (HB.out.cell (p := ⟨g, j * 4 + 1, none⟩) hgl).trans d1
      have D2 := (HB.out.cell (p := ⟨g, j * 4 + 2, none⟩) hgl).trans d2
      have D3 := (HB.out.cell (p := ⟨g, j * 4 + 3, none⟩) hgl).trans d3
      have hbs := HB.out.size
      clear f0 f1 f2 f3 d0 d1 d2 d3 ho
      go_wp2_with (at_builtin; refine wpList_append_own_wide _ rfl _ _ 24 rfl w.heap.size 71 i0 (.agg #[.int .i64 0, .string ⟨#[]⟩, .int .i64 0, .slice none 0 0]) 4 56 Tryz.underlying24 hi hz0 hz1 hz2 rfl (by decide) _ k (flatO (os.reverse.take k)) rfl (hr.alloc _) ⟨wr.heap.size, 0, none⟩ 1 1 [.int .i64 o.k, .string o.c.nm, .int .i64 o.c.ar, .slice xa xn xc] rfl rfl (four_cells wr _ _ _ _ _) ?k1 ?k2 ?k3 ?k4 ?_)
      case k1 => intro u hu; simp at hu; rcases hu with rfl | rfl | rfl | rfl <;> rfl
      case k2 => unfold maxLen; omega
      case k3 => exact op_lim (by omega)
      case k4 => simp; omega
      intro v' w6 hown' hgrow _
      rw [← HN.out] at hown'
      have HB6 : Hid (Below w.heap.size w w6) := (HB.out.alloc hbs _).grown hgrow (HB.out.alloc hbs _).size (fun b hb => (hr.lt b hb).1)
      obtain ⟨na, nc, hnv, _⟩ := own_cells hown'
      subst hnv
      clear HN HB hgrow hr
      go_wp2_with fail
      go_roundw
      case rel => exact ⟨k + 1, (j : Int) - 1, by omega, by omega, by go_num, hown', HB6⟩
      case measure => (simp [intOf]; try omega)
    · have hmm : m = -1 := by omega
      subst hmm
      have hkl : k = os.length := by omega
      subst hkl
      rw [List.take_of_length_le (by rw [List.length_reverse]; omega)] at hr
      have HRR : Hid (wr.ownsRow w.heap.size 71 4 (.slice ra os.length rc) os.length (flatO os.reverse)) := hr
      clear hr
      go_wp2_with fail
      go_ret
      exact ⟨_, rfl, HRR.out, HB.out⟩

theorem turned_any {V : Value → List Cl → Prop} (w : World) (v : Value) (ops : List Opr) (B0 : Nat) (h : OpsV V w B0 v ops) (hV : ∀ x l, V x l → ∃ xa n xc, x = .slice xa n xc) (lim : ops.length ≤ 2513169500000) :
    Calls Tryz.prog 32 #[v] w fun e w' => ∃ v', e = .returned v' ∧ OpsV V w' w.heap.size v' ops.reverse ∧ Below w.heap.size w w' := by
  obtain ⟨os, h0, h1, h2⟩ := h
  rw [← h0] at h1
  refine (turned_row w v os B0 h1 (fun o ho => ?_) (by omega)).mono ?_
  · obtain ⟨i, hi⟩ := List.getElem?_of_mem ho
    have hil := (List.getElem?_eq_some_iff.1 hi).1
    obtain ⟨x, hx, _, hv⟩ := h2 i ops[i] (List.getElem?_eq_getElem (by omega))
    rw [hi] at hx
    cases hx
    exact hV _ _ hv
  · rintro e w' ⟨v', rfl, hr, hb⟩
    refine ⟨v', rfl, ⟨os.reverse, by simp [h0], by rw [List.length_reverse, ← h0]; exact hr, fun i o hi => ?_⟩, hb⟩
    have hil := (List.getElem?_eq_some_iff.1 hi).1
    rw [List.length_reverse] at hil
    rw [List.getElem?_reverse hil] at hi
    obtain ⟨x, hx, hc, hv⟩ := h2 _ o hi
    exact ⟨x, by rw [List.getElem?_reverse (by omega), h0]; exact hx, hc, hv⟩

theorem todos_trees (b : List Bd) : ∀ f : Fo, f.todos b = f.trees.map (todo b)
  | .nil => rfl
  | .cons nm k r => by
    have e : (⟨nm, (k.len : Nat)⟩ :: k.flat : List Cl) = (Fo.cons nm k .nil).flat := by simp [Fo.flat]
    simp only [Fo.todos, Fo.trees, List.map_cons, todos_trees b r]
    congr 1
    rw [e, todo_flat]
    simp [Fo.todos]
theorem OpsV.baseO {w : World} {B B' : Nat} {v : Value} {ops : List Opr} (h : OpsV (Owns w B) w B v ops) (hB : B' ≤ B) : OpsV (Owns w B') w B' v ops := by
  obtain ⟨os, h0, h1, h2⟩ := h
  refine ⟨os, h0, own_base h1 hB, fun i o hi => ?_⟩
  obtain ⟨x, q1, q2, q3⟩ := h2 i o hi
  exact ⟨x, q1, q2, own_base q3 hB⟩
theorem OpsV.one (w : World) (B : Nat) (k : Int) (c : Cl) (x : Value) (l : List Cl) (hB : B ≤ w.heap.size) (hx : Owns (w.alloc (.cells #[.int .i64 k, .string c.nm, .int .i64 c.ar, x] 71)) B x l) (h1 : x.oneCell' = true) :
    OpsV (Owns (w.alloc (.cells #[.int .i64 k, .string c.nm, .int .i64 c.ar, x] 71)) B) (w.alloc (.cells #[.int .i64 k, .string c.nm, .int .i64 c.ar, x] 71)) B (.slice (some ⟨w.heap.size, 0, none⟩) 1 1) [⟨k, c, l⟩] := by
  refine ⟨[⟨k, c, x⟩], rfl, ⟨rfl, .inr ⟨w.heap.size, 1, _, rfl, hB, World.alloc_heap_new w _, Nat.le_refl _, by unfold maxLen; omega, rfl, ?_⟩⟩, fun i o hi => ?_⟩
  · rfl
  · obtain ⟨rfl, rfl⟩ := one_get hi
    exact ⟨x, rfl, h1, hx⟩

theorem len_le_size : ∀ f : Fo, f.len ≤ f.size
  | .nil => Nat.le_refl _
  | .cons nm k r => by have := len_le_size r; simp only [Fo.len, Fo.size]; omega
/-- what stands for a variable is right; a symbol stands for itself -/
def Looks (bs : List Bd) (T : List Cl) : Prop := ∀ c ∈ T, (isV c = true → ∃ v, look bs c.nm = some v ∧ check v = 0) ∧ (isV c = false → look bs c.nm = none)
def TodoAt (n : Nat) : Prop := ∀ (w : World) (tv : Value) (nm : ByteArray) (kd : Fo) (bv : Value) (bs : List Bd), kd.size < n → Lies w tv (Fo.cons nm kd .nil).flat → check (Fo.cons nm kd .nil).flat = 0 → LiesB w bv bs → Looks bs (Fo.cons nm kd .nil).flat →
  Calls Tryz.prog 33 #[tv, bv] w fun e w' => ∃ ov, e = .returned ov ∧ OpsV (Owns w' w.heap.size) w' w.heap.size ov (todo bs (Fo.cons nm kd .nil).flat) ∧ Below w.heap.size w w'

set_option maxHeartbeats 4000000 in
theorem rtodo_step (n : Nat) (ih : TodoAt n) : TodoAt (n + 1) := by
  intro w tv nm kd bv bs hn hT hE hbs hlk
  obtain ⟨i0, hi, hz0, hz1, hz2⟩ := info_parts info71
  obtain ⟨h64, hcE, _⟩ := check_zero hE
  have hvar := var_any w tv nm kd hT hE
  have hc0 : (⟨nm, (kd.len : Nat)⟩ : Cl) ∈ (Fo.cons nm kd .nil).flat := by simp [Fo.flat]
  have hT0 := hT
  obtain ⟨ta, tc, rfl, tl1, tl2, hfT, HC⟩ := hT
  obtain ⟨g, off, hta, hgl, t0, t1⟩ := HC 0 ⟨nm, (kd.len : Nat)⟩ (by simp [Fo.flat])
  subst hta
  simp only [Nat.zero_mul, Nat.add_zero] at t0 t1
  have hTp : 0 < (Fo.cons nm kd .nil).flat.length := by simp [Fo.flat]
  have hTp2 : (0 : Int) < ((Fo.cons nm kd .nil).flat.length : Int) := by omega
  obtain ⟨hl1, hl2⟩ := hlk _ hc0
  by_cases hv : kind nm.data.toList = 2
  · have hd : decide (kind nm.data.toList = 2) = true := decide_eq_true hv
    rw [hd] at hvar
    obtain ⟨v, hlook, hcv⟩ := hl1 (isV_kind.2 hv)
    have hk0 : kd = .nil := (plainly_of _ (cellsErr_zero.1 hcE)).1 hv
    have HTD : Hid (todo bs (Fo.cons nm kd .nil).flat = [⟨2, noCl, v⟩]) := by
      show _ = _
      subst hk0
      rw [todo_flat]
      simp only [Fo.todos, List.flatten_cons, List.flatten_nil, List.nil_append, List.append_nil]
      rw [opC_some hlook]
    rw [HTD.out]
    cases hix : idx bs nm with
    | none => rw [idx_none.1 hix] at hlook; cases hlook
    | some q =>
      obtain ⟨v', hq1, hq2⟩ := idx_some hix
      have hvv : v' = v := by rw [hlook] at hq2; exact (Option.some.inj hq2).symm
      subst hvv
      have hat := at_any w bv bs nm hbs
      have ha : atI bs nm = (q : Int) := by unfold atI; rw [hix]
      rw [ha] at hat
      obtain ⟨ba, bc, hbv, bl1, bl2, _⟩ := id hbs
      subst hbv
      obtain ⟨bg, boff, x, hba, hbg, b0, b1, hlx, _⟩ := hbs.spot hq1
      subst hba
      have hql : q < bs.length := (List.getElem?_eq_some_iff.1 hq1).1
      have hqi : (q : Int) < (bs.length : Int) := by omega
      have hcp := copy_any w x v' hlx (by have := (check_zero hcv).1; omega)
      obtain ⟨xa, xc, hxv, _⟩ := hlx
      subst hxv
      generalize (Fo.cons nm kd .nil).flat.length = tn at *
      clear hlook hq1 hq2 ha hix hlk hbs hT0 HC hfT hcE hE hcv hl1 hl2 hc0
      go_enter Tryz.func33, Tryz.ntmps33
      go_wp2_with (first | (go_at_call 54; refine hvar.mono ?_; rintro e w1 ⟨rfl, rfl⟩) | (go_at_call 55; refine hat.mono ?_; rintro e w1 ⟨rfl, rfl⟩) | (go_at_call 11; refine hcp.mono ?_; rintro e w2 ⟨x2, rfl, ho2, hb2⟩; have HO2 := hid ho2; obtain ⟨ya, yc, hyv, _⟩ := own_cells ho2; subst hyv; have HB2 := hid (hb2.alloc hb2.size (.cells #[.int .i64 2, .string ⟨#[]⟩, .int .i64 0, .slice ya v'.length yc] 71)); have hbs2 := hb2.size))
      go_ret
      exact ⟨_, rfl, OpsV.one w2 w.heap.size 2 noCl (.slice ya v'.length yc) v' hbs2 (World.ownsRow.alloc HO2.out _) rfl, HB2.out⟩
  · have hd : decide (kind nm.data.toList = 2) = false := decide_eq_false hv
    rw [hd] at hvar
    have hln := hl2 (by cases h : isV ⟨nm, (kd.len : Nat)⟩ with | false => rfl | true => exact absurd (isV_kind.1 h) hv)
    have hkd := rKids_ok w _ _ hT0 hE nm kd rfl
    have hK : ∀ l ∈ kd.trees, check l = 0 := fun l hl => tree_right hE hl
    have hsz : (Fo.cons nm kd .nil).flat.length = kd.size + 1 := by rw [Fo.flat_length]; simp [Fo.size]
    have hTD : todo bs (Fo.cons nm kd .nil).flat = (kd.trees.map (todo bs)).flatten ++ [⟨1, ⟨nm, (kd.len : Nat)⟩, []⟩] := by
      rw [todo_flat]
      simp only [Fo.todos, List.flatten_cons, List.flatten_nil, List.append_nil]
      rw [opC_none hln, todos_trees]
    have htk : ∀ j, ((kd.trees.take j).map (todo bs)).flatten.length ≤ kd.size := fun j => by
      have e : ((kd.trees.map (todo bs)).flatten).length = kd.size := by rw [← todos_trees, todos_size]
      have : ((kd.trees.take j).map (todo bs)).flatten ++ ((kd.trees.drop j).map (todo bs)).flatten = (kd.trees.map (todo bs)).flatten := by
        rw [← List.flatten_append, ← List.map_append, List.take_append_drop]
      have := congrArg List.length this
      rw [List.length_append, e] at this
      omega
    have hih : ∀ (j : Nat) l, kd.trees[j]? = some l → ∀ w1 x, Below w.heap.size w w1 → Lies w1 x l → Calls Tryz.prog 33 #[x, bv] w1 fun e w' => ∃ ov, e = .returned ov ∧ OpsV (Owns w' w1.heap.size) w' w1.heap.size ov (todo bs l) ∧ Below w1.heap.size w1 w' := fun j l hj w1 x hb hx => by
      obtain ⟨nm', k', e, hs⟩ := trees_get kd l (List.mem_of_getElem? hj)
      have hmem : ∀ c ∈ l, c ∈ (Fo.cons nm kd .nil).flat := fun c hc => by
        have : c ∈ kd.trees.flatten := List.mem_flatten.2 ⟨l, List.mem_of_getElem? hj, hc⟩
        rw [Fo.trees_flatten] at this
        simp [Fo.flat, this]
      have hchk := hK l (List.mem_of_getElem? hj)
      subst e
      exact ih w1 x nm' k' bv bs (by omega) hx hchk (hbs.on hb) (fun c hc => hlk c (hmem c hc))
    have hlen : ∀ l ∈ kd.trees, 0 < (todo bs l).length := fun l hl => by
      rw [todo_len]
      obtain ⟨d, T', e⟩ := check_cons (hK l hl)
      rw [e]; simp
    obtain ⟨ba, bc, hbv, _⟩ := id hbs
    subst hbv
    have HIH := hid hih
    have HKC := hid hK
    have HTD := hid hTD
    have HTK := hid htk
    have HLEN := hid hlen
    have hk63 : kd.size ≤ 63 := by omega
    have hkl := Fo.trees_length kd
    have hklen : kd.trees.length ≤ 63 := by
      have := HTK.out kd.trees.length
      have h2 : kd.len ≤ kd.size := len_le_size kd
      omega
    rw [hTD]
    generalize (Fo.cons nm kd .nil).flat.length = tn at *
    generalize kd.trees = K at *
    clear hih hK hTD htk hlen hlk hbs hT0 HC hfT hcE hE hl1 hl2 hc0 hd hv hsz ih hln HTD hkl
    go_enter Tryz.func33, Tryz.ntmps33
    go_wp2_with (first | (go_at_call 54; refine hvar.mono ?_; rintro e w1 ⟨rfl, rfl⟩) | (go_at_call 52; refine hkd.mono ?_; rintro e w1 ⟨kv, rfl, hk1, hb1⟩; have HK1 := hid hk1; obtain ⟨ka, kc, hkv, kl1, kl2⟩ := hk1.form; subst hkv; have HB1 := hid hb1; clear hk1))
    have HL1 := hid (HK1.out.lies (fun l hl => fine_check (HKC.out l hl)))
    have hBs := HB1.out.size
    clear HK1 hkd hvar
    go_loopw [5, 27] (fun o i wr => ∃ k : Nat, k ≤ K.length ∧ i = .int .i64 (k : Nat) ∧ Hid (OpsV (Owns wr w1.heap.size) wr w1.heap.size o ((K.take k).map (todo bs)).flatten) ∧ Hid (Below w1.heap.size w1 wr)) (fun _ i _ => K.length - (intOf i).toNat)
    case atStart => exact ⟨0, Nat.zero_le _, rfl, ⟨[], rfl, World.ownsRow_nil _ _ _ _, fun i o h => by simp at h⟩, Below.refl _ _⟩
    case round =>
      obtain ⟨k, hk, rfl, HO, HB⟩ := hrel
      have hDl := HTK.out k
      have hbr := HB.out.size
      have HBW := hid (HB1.out.trans (HB.out.mono hBs))
      by_cases hlt : k < K.length
      · obtain ⟨l, hl⟩ : ∃ l, K[k]? = some l := ⟨K[k], List.getElem?_eq_getElem hlt⟩
        have hki : (k : Int) < (K.length : Int) := by omega
        have HN : Hid (((K.take (k + 1)).map (todo bs)).flatten = ((K.take k).map (todo bs)).flatten ++ todo bs l) := by
          show _ = _
          rw [List.take_add_one, hl]
          simp
        have hD2 := HTK.out (k + 1)
        rw [HN.out, List.length_append] at hD2
        have hlp := HLEN.out l (List.mem_of_getElem? hl)
        obtain ⟨kg, koff, x, hka, hkg, kc0, hlx⟩ := (HL1.out.on HB.out).at hl
        subst hka
        have hcall := HIH.out k l hl wr x HBW.out hlx
        obtain ⟨xa, xc, hxv, _⟩ := hlx
        subst hxv
        obtain ⟨D, hD⟩ : ∃ D, ((K.take k).map (todo bs)).flatten = D := ⟨_, rfl⟩
        rw [hD] at HO HN hDl hD2
        generalize todo bs l = E at hcall HN hD2 hlp
        obtain ⟨oa, oc, hov⟩ := HO.out.form
        subst hov
        clear hD hl
        go_wp2_with (first | (go_at_call 33; refine hcall.mono ?_; rintro e w3 ⟨nv, rfl, hn3, hb3⟩; obtain ⟨ns, ng, nc, hnv, hnl, hnc, hn1, hnel⟩ := hn3.open hlp; subst hnv; have hO3 := HO.out.below hb3; obtain ⟨os, hol, hrow, hel⟩ := hO3) | (at_builtin; refine wpList_append_own_wide _ rfl _ _ 24 rfl w1.heap.size 71 i0 (.agg #[.int .i64 0, .string ⟨#[]⟩, .int .i64 0, .slice none 0 0]) 4 56 Tryz.underlying24 hi hz0 hz1 hz2 rfl (by decide) _ D.length (flatO os) rfl hrow ⟨ng, 0, none⟩ E.length nc (flatO ns) rfl ?k0 hnc hn1 ?k2 ?k3 ?k4 ?_))
        case k0 => rw [flatO_len, hnl]
        case k2 => unfold maxLen; omega
        case k3 => exact op_lim (by omega)
        case k4 => have := hb3.size; omega
        intro v' w6 hown' hgrow _
        have HB6 : Hid (Below w1.heap.size w1 w6) := (HB.out.trans (hb3.mono hbr)).grown hgrow (HB.out.trans (hb3.mono hbr)).size (fun b hb => (hrow.lt b hb).1)
        have HO6 : Hid (OpsV (Owns w6 w1.heap.size) w6 w1.heap.size v' (D ++ E)) := OpsV.more hol hel hnl (fun i o hi => by
          obtain ⟨x, q1, q2, q3⟩ := hnel i o hi
          exact ⟨x, q1, q2, own_apart7 (own_base q3 hbr) hrow (by decide) hgrow⟩) hown' (fun x l hx => own_apart7 hx hrow (by decide) hgrow)
        obtain ⟨na, nc', hnv, _⟩ := own_cells hown'
        subst hnv
        clear hown' hgrow hrow hel hnel hol hnl hnc hn1 hn3 hb3
        go_wp2_with fail
        go_roundw
        case rel => exact ⟨k + 1, by omega, by go_num, by rw [HN.out]; exact HO6, HB6⟩
        case measure => simp [intOf]; omega
      · have hki : ¬ (k : Int) < (K.length : Int) := by omega
        have hO2 := HO.out
        rw [List.take_of_length_le (by omega)] at hO2
        have HO2 := hid hO2
        clear hO2
        rw [List.take_of_length_le (by omega)] at hDl
        have T0 := (HBW.out.cell (p := ⟨g, off, none⟩) hgl).trans t0
        have T1 := (HBW.out.cell (p := ⟨g, off + 1, none⟩) hgl).trans t1
        obtain ⟨D, hD⟩ : ∃ D, (K.map (todo bs)).flatten = D := ⟨_, rfl⟩
        rw [hD] at HO2 hDl
        have HD := hid hD
        clear hD
        obtain ⟨oa, oc, hov⟩ := HO2.out.form
        subst hov
        obtain ⟨os, hol, hrow, hel⟩ := HO2.out
        clear HO
        go_wp2_with (at_builtin; refine wpList_append_own_wide _ rfl _ _ 24 rfl w1.heap.size 71 i0 (.agg #[.int .i64 0, .string ⟨#[]⟩, .int .i64 0, .slice none 0 0]) 4 56 Tryz.underlying24 hi hz0 hz1 hz2 rfl (by decide) _ D.length (flatO os) rfl (hrow.alloc _) ⟨wr.heap.size, 0, none⟩ 1 1 [.int .i64 1, .string nm, .int .i64 (kd.len : Nat), .slice none 0 0] rfl rfl (four_cells wr _ _ _ _ _) ?m1 ?m2 ?m3 ?m4 ?_)
        case m1 => first | exact ⟨rfl, rfl, rfl, rfl⟩ | (intro u hu; simp at hu; rcases hu with rfl | rfl | rfl | rfl <;> rfl)
        case m2 => unfold maxLen; omega
        case m3 => exact op_lim (by omega)
        case m4 => first | omega | (simp; omega)
        intro v' w6 hown' hgrow _
        have hba := HB.out.alloc hbr (.cells #[.int .i64 1, .string nm, .int .i64 (kd.len : Nat), .slice none 0 0] 71)
        have HB6 : Hid (Below w1.heap.size w1 w6) := hba.grown hgrow hba.size (fun b hb => (hrow.lt b hb).1)
        have HO6 : Hid (OpsV (Owns w6 w1.heap.size) w6 w1.heap.size v' (D ++ [⟨1, ⟨nm, (kd.len : Nat)⟩, []⟩])) := OpsV.more (ns := [⟨1, ⟨nm, (kd.len : Nat)⟩, .slice none 0 0⟩]) hol hel rfl (fun i o hi => by
          obtain ⟨rfl, rfl⟩ := one_get hi
          exact ⟨_, rfl, rfl, World.ownsRow_nil _ _ _ _⟩) hown' (fun x l hx => own_apart7 (World.ownsRow.alloc hx _) (hrow.alloc _) (by decide) hgrow)
        obtain ⟨na, nc', hnv, _⟩ := own_cells hown'
        subst hnv
        clear hown' hgrow hrow hel hol hba HO2
        go_wp2_with fail
        go_ret
        refine ⟨_, rfl, ?_, HB1.out.trans (HB6.out.mono hBs)⟩
        rw [HD.out]
        exact HO6.out.baseO hBs

theorem rtodo_at : ∀ n, TodoAt n := by
  intro n
  induction n with
  | zero => intro w tv nm kd bv bs h; omega
  | succ n ih => exact rtodo_step n ih
theorem rtodo_any (w : World) (tv : Value) (T : List Cl) (hT : Lies w tv T) (hE : check T = 0) (bv : Value) (bs : List Bd) (hbs : LiesB w bv bs) (hlk : Looks bs T) :
    Calls Tryz.prog 33 #[tv, bv] w fun e w' => ∃ ov, e = .returned ov ∧ OpsV (Owns w' w.heap.size) w' w.heap.size ov (todo bs T) ∧ Below w.heap.size w w' := by
  obtain ⟨nm, kd, e⟩ := check_term hE
  subst e
  exact rtodo_at (kd.size + 1) w tv nm kd bv bs (by omega) hT hE hbs hlk

theorem looks_none {T : List Cl} (h : grd T = true) : Looks [] T := fun c hc => ⟨fun hv => (by rw [(grd_iff.1 h).2 c hc] at hv; cases hv), fun _ => rfl⟩

set_option maxHeartbeats 4000000 in
theorem rstart_any (w : World) (tv : Value) (T : List Cl) (hT : Lies w tv T) :
    Calls Tryz.prog 12 #[tv] w fun e w' => ∃ sv, e = .returned (.tuple #[sv, .int .i64 ((startP T).2 : Nat)]) ∧ OutSt w.heap.size w' sv (startP T).1 ∧ Below w.heap.size w w' := by
  have HB0 : Hid (Below w.heap.size w (w.alloc (.cells #[.slice none 0 0, .slice none 0 0, .int .i64 0, .slice none 0 0] 28))) := (Below.refl _ w).alloc (Nat.le_refl _) _
  have HR : Hid (Blk (w.alloc (.cells #[.slice none 0 0, .slice none 0 0, .int .i64 0, .slice none 0 0] 28)) w.heap.size #[.slice none 0 0, .slice none 0 0, .int .i64 0, .slice none 0 0] 28) := Blk.made _ _ _
  have hc1 := rCheck_any (w.alloc (.cells #[.slice none 0 0, .slice none 0 0, .int .i64 0, .slice none 0 0] 28)) tv T (hT.on HB0.out)
  have hc2 := rground_any (w.alloc (.cells #[.slice none 0 0, .slice none 0 0, .int .i64 0, .slice none 0 0] 28)) tv T (hT.on HB0.out)
  have HT : Hid (Lies w tv T) := hT
  have HE : Hid (startP T = if check T = 0 then (if grd T = true then (⟨(todo [] T).reverse, [], 0, []⟩, 0) else (noStt, 7)) else (noStt, check T)) := rfl
  obtain ⟨ta, tc, htv, _⟩ := hT
  subst htv
  generalize startP T = RP at HE ⊢
  by_cases hE : check T = 0
  · rw [hE] at hc1
    cases hg : grd T with
    | false =>
      rw [hg] at hc2
      have HRP : Hid (RP = (noStt, 7)) := by show _ = _; rw [HE.out, if_pos hE, hg]; rfl
      clear HE hE hg
      go_enter Tryz.func12, Tryz.ntmps12
      go_wp2_with (first | (go_at_call 31; refine hc1.mono ?_; rintro e w1 ⟨rfl, rfl⟩) | (go_at_call 21; refine hc2.mono ?_; rintro e w2 ⟨rfl, hb2⟩; have hB2 := HB0.out.trans (hb2.mono HB0.out.size); have hR2 := HR.out.on hb2 HR.out.lt; have a0 := hR2.cell (i := 0) rfl; have z0 := hR2.free 0; have m1 := hR2.set 0 (.slice none 0 0); have a1 := m1.cell (i := 1) rfl; have z1 := m1.free 1; have m2 := m1.set 1 (.slice none 0 0); have a2 := m2.cell (i := 2) rfl; have z2 := m2.free 2; have m3 := m2.set 2 (.int .i64 0); have a3 := m3.cell (i := 3) rfl; have z3 := m3.free 3))
      obtain ⟨hD, hg⟩ := set4 hR2 (.slice none 0 0) (.slice none 0 0) (.int .i64 0) (.slice none 0 0)
      have e0 := hD.cell (i := 0) rfl
      have e1 := hD.cell (i := 1) rfl
      have e2 := hD.cell (i := 2) rfl
      have e3 := hD.cell (i := 3) rfl
      try simp only [Exit.inBlock, Exit.then]
      refine bodyPost_ret (v := .tuple #[.agg #[.slice none 0 0, .slice none 0 0, .int .i64 0, .slice none 0 0], .int .i64 (RP.2 : Nat)]) (by rw [HRP.out]; simp [results, Tryz.results12, go_sem, e0, e1, e2, e3]) rfl ⟨_, rfl, by rw [HRP.out]; exact outSt_none _ _, hB2.grown hg hB2.size (fun k hk => by cases hk; omega)⟩
    | true =>
      rw [hg] at hc2
      have hRP : RP = (⟨(todo [] T).reverse, [], 0, []⟩, 0) := by rw [HE.out, if_pos hE, hg]; rfl
      have htl := todo_len [] T
      have h64 := (check_zero hE).1
      have htd : ∀ w1, Below w.heap.size w w1 → _ := fun w1 hb => rtodo_any w1 (.slice ta T.length tc) T (HT.out.on hb) hE (.slice none 0 0) [] ⟨none, 0, rfl, Nat.le_refl _, Nat.zero_le _, fun i b h => by simp at h⟩ (looks_none hg)
      obtain ⟨D, hD⟩ : ∃ D, todo [] T = D := ⟨_, rfl⟩
      rw [hD] at hRP htd htl
      obtain ⟨DR, hDR⟩ : ∃ DR, D.reverse = DR := ⟨_, rfl⟩
      rw [hDR] at hRP
      have HRP : Hid (RP = (⟨DR, [], 0, []⟩, 0)) := hRP
      have HDR := hid hDR
      have hDl : D.length ≤ 64 := by rw [htl]; exact h64
      clear HE hE hg hRP hD hDR htl
      go_enter Tryz.func12, Tryz.ntmps12
      go_wp2_with (first | (go_at_call 31; refine hc1.mono ?_; rintro e w1 ⟨rfl, rfl⟩) | (go_at_call 21; refine hc2.mono ?_; rintro e w2 ⟨rfl, hb2⟩; have hB2 := HB0.out.trans (hb2.mono HB0.out.size); have hR2 := HR.out.on hb2 HR.out.lt) | (go_at_call 33; refine (htd _ hB2).mono ?_; rintro e w3 ⟨ov3, rfl, hO3, hb3⟩; have hB3 := hB2.trans (hb3.mono hB2.size); have hR3 := hR2.on hb3 hR2.lt; have htu := turned_any w3 ov3 D _ hO3 (fun x l hx => by { obtain ⟨a, c, e, _⟩ := own_cells hx; exact ⟨a, _, c, e⟩ }) (by omega); rw [HDR.out] at htu; obtain ⟨a3, c3, f3⟩ := hO3.form; subst f3) | (go_at_call 32; refine htu.mono ?_; rintro e w5 ⟨ov5, rfl, hO5, hb5⟩; have HO5 := hid hO5; obtain ⟨a5, c5, f5⟩ := hO5.form; subst f5; have hR5 := hR3.on hb5 hR3.lt; have hB5 := hB3.trans (hb5.mono hB3.size); have a0 := hR5.cell (i := 0) rfl; have z0 := hR5.free 0; have m1 := hR5.set 0 (.slice a5 DR.length c5); have a1 := m1.cell (i := 1) rfl; have z1 := m1.free 1; have m2 := m1.set 1 (.slice none 0 0); have a2 := m2.cell (i := 2) rfl; have z2 := m2.free 2; have m3 := m2.set 2 (.int .i64 0); have a3 := m3.cell (i := 3) rfl; have z3 := m3.free 3))
      obtain ⟨hD, hg⟩ := set4 hR5 (.slice a5 DR.length c5) (.slice none 0 0) (.int .i64 0) (.slice none 0 0)
      have e0 := hD.cell (i := 0) rfl
      have e1 := hD.cell (i := 1) rfl
      have e2 := hD.cell (i := 2) rfl
      have e3 := hD.cell (i := 3) rfl
      try simp only [Exit.inBlock, Exit.then]
      have hout : OutSt w.heap.size w5 (.agg #[.slice a5 DR.length c5, .slice none 0 0, .int .i64 0, .slice none 0 0]) ⟨DR, [], 0, []⟩ := by
        obtain ⟨os, h0, h1, h2⟩ := HO5.out
        refine ⟨_, _, _, rfl, ⟨os, h0, own_base h1 hB3.size, fun i o hi => ?_⟩, ⟨[], World.ownsRow_nil _ _ _ _, fun i o h => by simp at h⟩, World.ownsRow_nil _ _ _ _⟩
        obtain ⟨x, q1, q2, q3⟩ := h2 i o hi
        exact ⟨x, q1, q2, own_base (own_below q3 hb5) hB2.size⟩
      refine bodyPost_ret (v := .tuple #[.agg #[.slice a5 DR.length c5, .slice none 0 0, .int .i64 0, .slice none 0 0], .int .i64 (RP.2 : Nat)]) (by rw [HRP.out]; simp [results, Tryz.results12, go_sem, e0, e1, e2, e3]) rfl ⟨_, rfl, by rw [HRP.out]; exact hout.blk hR5 hg, hB5.grown hg hB5.size (fun k hk => by cases hk; omega)⟩
  · have HRP : Hid (RP = (noStt, check T)) := by show _ = _; rw [HE.out, if_neg hE]
    have hE1 : ¬ (check T : Int) = 0 := by omega
    generalize check T = E at hc1 HRP hE1
    clear HE hE
    go_enter Tryz.func12, Tryz.ntmps12
    go_wp2_with (go_at_call 31; refine hc1.mono ?_; rintro e w1 ⟨rfl, rfl⟩)
    have e0 := HR.out.cell (i := 0) rfl
    have e1 := HR.out.cell (i := 1) rfl
    have e2 := HR.out.cell (i := 2) rfl
    have e3 := HR.out.cell (i := 3) rfl
    try simp only [Exit.inBlock, Exit.then]
    refine bodyPost_ret (v := .tuple #[.agg #[.slice none 0 0, .slice none 0 0, .int .i64 0, .slice none 0 0], .int .i64 (RP.2 : Nat)]) (by rw [HRP.out]; simp [results, Tryz.results12, go_sem, e0, e1, e2, e3]) rfl ⟨_, rfl, by rw [HRP.out]; exact outSt_none _ _, HB0.out⟩

theorem sameAll_any (w : World) (u v : Value) (K J : List (List Cl)) (hu : LiesT w u K) (hv : LiesT w v J) (hK : K.length ≤ 9223372036854775807) :
    Calls Tryz.prog 35 #[u, v] w fun e w' => e = .returned (.bool (decide (K = J))) ∧ Below w.heap.size w w' := by
  obtain ⟨d, hd⟩ : ∃ d, decide (K = J) = d := ⟨_, rfl⟩
  have HD : Hid (decide (K = J) = d) := hd
  rw [hd]
  have HU : Hid (LiesT w u K) := hu
  have HW : Hid (LiesT w v J) := hv
  obtain ⟨ua, uc, rfl, hu1, hu2, _⟩ := hu
  obtain ⟨va, vc, rfl, hv1, hv2, _⟩ := hv
  clear hd
  by_cases hl : K.length = J.length
  · have l1 : ((K.length : Int) != (J.length : Int)) = false := by simp; omega
    have l2 : (K.length : Int) = (J.length : Int) := by omega
    have HL : Hid (K.length = J.length) := hl
    clear hl
    go_enter Tryz.func35, Tryz.ntmps35
    go_wp2_with fail
    clear l1 l2
    go_loopw [13] (fun i wr => ∃ k : Nat, k ≤ K.length ∧ i = .int .i64 k ∧ Hid (K.take k = J.take k) ∧ Below w.heap.size w wr) (fun i _ => K.length - (intOf i).toNat)
    case atStart => exact ⟨0, Nat.zero_le _, rfl, rfl, Below.refl _ _⟩
    case round =>
      obtain ⟨k, hk, rfl, HTK, hbr⟩ := hrel
      by_cases hlt : k < K.length
      · have hlj : k < J.length := by have := HL.out; omega
        obtain ⟨x, hx⟩ : ∃ x, K[k]? = some x := ⟨K[k], List.getElem?_eq_getElem hlt⟩
        obtain ⟨y, hy⟩ : ∃ y, J[k]? = some y := ⟨J[k], List.getElem?_eq_getElem hlj⟩
        have HX : Hid (K[k]? = some x ∧ J[k]? = some y) := ⟨hx, hy⟩
        obtain ⟨b1, o1, x1, ha1, g1, c1, m1⟩ : ∃ b off x1, ua = some ⟨b, off, none⟩ ∧ b < w.heap.size ∧ w.cell? ⟨b, off + k, none⟩ = some x1 ∧ Lies w x1 x := by
          obtain ⟨a', cap', hv', _, _, HC'⟩ := HU.out
          cases hv'
          exact HC' k x hx
        obtain ⟨b2, o2, y1, ha2, g2, c2, m2⟩ : ∃ b off x1, va = some ⟨b, off, none⟩ ∧ b < w.heap.size ∧ w.cell? ⟨b, off + k, none⟩ = some x1 ∧ Lies w x1 y := by
          obtain ⟨a', cap', hv', _, _, HC'⟩ := HW.out
          cases hv'
          exact HC' k y hy
        subst ha1 ha2
        have e1 : wr.drew.cell? ⟨b1, o1 + k, none⟩ = some x1 := (hbr.cell (p := ⟨b1, o1 + k, none⟩) g1).trans c1
        have e2 : wr.drew.cell? ⟨b2, o2 + k, none⟩ = some y1 := (hbr.cell (p := ⟨b2, o2 + k, none⟩) g2).trans c2
        have hsm := same_any wr.drew x1 y1 x y (m1.on hbr.drew) (m2.on hbr.drew)
        have hki : (k : Int) < (K.length : Int) := by omega
        have hkj : (k : Int) < (J.length : Int) := by omega
        have HBD : Hid (Below w.heap.size w wr.drew) := hbr.drew
        have hbs := hbr.size
        clear c1 c2 m1 m2 hx hy hbr
        by_cases hxy : x = y
        · have HT2 : Hid (K.take (k + 1) = J.take (k + 1)) := by show _ = _; rw [List.take_add_one, List.take_add_one, HTK.out, HX.out.1, HX.out.2, hxy]
          rw [decide_eq_true hxy] at hsm
          clear hxy
          go_wp2_with fail
          go_region_law (first
            | (go_simp; go_at_call 25; refine hsm.mono ?_; rintro e w3 ⟨rfl, hb3⟩; have HB3 := HBD.out.trans (hb3.mono hbs)))
          all_goals
            (go_wp2_with fail
             go_roundw
             case rel => exact ⟨k + 1, by omega, by go_num, HT2, HB3⟩
             case measure => simp [intOf]; omega)
        · have HR : Hid (d = false) := by
            show _ = _
            rw [← HD.out]
            refine decide_eq_false fun e => hxy ?_
            have h1 := HX.out.1
            rw [e, HX.out.2] at h1
            cases h1; rfl
          rw [decide_eq_false hxy] at hsm
          clear hxy
          go_wp2_with fail
          go_region_law (first
            | (go_simp; go_at_call 25; refine hsm.mono ?_; rintro e w3 ⟨rfl, hb3⟩; have HB3 := HBD.out.trans (hb3.mono hbs)))
          all_goals
            (go_wp2_with fail
             go_ret
             exact ⟨by rw [HR.out]; rfl, HB3⟩)
      · have HR : Hid (d = true) := by
          show _ = _
          rw [← HD.out]
          refine decide_eq_true ?_
          have := HTK.out
          rw [show k = K.length by omega, List.take_length, HL.out, List.take_length] at this
          exact this
        have hki : ¬ (k : Int) < (K.length : Int) := by omega
        have hdk : decide (k < K.length) = false := decide_eq_false hlt
        have hlj : J.length ≤ k := by have := HL.out; omega
        have hkj : ¬ (k : Int) < (J.length : Int) := by omega
        go_wp2_with fail
        go_ret
        exact ⟨by rw [HR.out]; rfl, hbr⟩
  · have l1 : ((K.length : Int) != (J.length : Int)) = true := by simp; omega
    have l2 : ¬ (K.length : Int) = (J.length : Int) := by omega
    have HR : Hid (d = false) := by
      show _ = _
      rw [← HD.out]
      exact decide_eq_false fun e => hl (by rw [e])
    go_enter Tryz.func35, Tryz.ntmps35
    go_wp2_with fail
    go_ret
    exact ⟨by rw [HR.out]; rfl, Below.refl _ _⟩

set_option maxHeartbeats 2000000 in
theorem copyAll_any (w : World) (kv : Value) (K : List (List Cl)) (hK : LiesT w kv K) (hk : K.length * 24 ≤ 140737488355328) (hl : ∀ l ∈ K, l.length * 24 ≤ 140737488355328) :
    Calls Tryz.prog 43 #[kv] w fun e w' => ∃ v', e = .returned v' ∧ OwnsT w' w.heap.size v' K ∧ Below w.heap.size w w' := by
  obtain ⟨i0, hi, hz0, hz1, hz2⟩ := info_parts info23
  have HK : Hid (LiesT w kv K) := hK
  have HLL : Hid (∀ l ∈ K, l.length * 24 ≤ 140737488355328) := hl
  obtain ⟨ka, kc, rfl, hk1, hk2, _⟩ := hK
  clear hl
  go_enter Tryz.func43, Tryz.ntmps43
  go_wp2_with fail
  go_loopw [3, 7] (fun mv i wr => ∃ j : Nat, j ≤ K.length ∧ OwnsT wr w.heap.size mv (K.take j) ∧ Below w.heap.size w wr ∧ i = .int .i64 (j : Nat)) (fun _ i _ => K.length - (intOf i).toNat)
  case atStart => exact ⟨0, Nat.zero_le _, OwnsT.nil _ _, Below.refl _ _, rfl⟩
  case round =>
    obtain ⟨j, hj, hO, hbr, rfl⟩ := hrel
    have hbs := hbr.size
    obtain ⟨vs, hrow, hel⟩ := hO
    obtain ⟨ma, mc, hmv, _⟩ := own_cells hrow
    subst hmv
    by_cases hlt : j < K.length
    · obtain ⟨l, hl⟩ : ∃ l, K[j]? = some l := ⟨K[j], List.getElem?_eq_getElem hlt⟩
      obtain ⟨b, off, x, ha, hbl, hcx, hlx⟩ : ∃ b off x, ka = some ⟨b, off, none⟩ ∧ b < wr.heap.size ∧ wr.cell? ⟨b, off + j, none⟩ = some x ∧ Lies wr x l := by
        obtain ⟨a', cap', hv', _, _, HC'⟩ := HK.out.on hbr
        cases hv'
        exact HC' j _ hl
      subst ha
      have hji : (j : Int) < (K.length : Int) := by omega
      have hcp := copy_any wr x l hlx (HLL.out l (List.mem_of_getElem? hl))
      obtain ⟨xa, xc, rfl, _⟩ := hlx
      have HT2 : Hid (K.take (j + 1) = K.take j ++ [l]) := by show _ = _; rw [List.take_add_one, hl]; rfl
      have htl : (K.take j).length = j := by rw [List.length_take]; omega
      have HEL : Hid (∀ (i : Nat) m, (K.take j)[i]? = some m → ∃ x, vs[i]? = some x ∧ Owns wr w.heap.size x m) := hel
      obtain ⟨D, hD⟩ : ∃ D, K.take j = D := ⟨_, rfl⟩
      rw [hD] at HEL hrow htl HT2 ⊢
      have hdl : D.length + 1 ≤ K.length := by omega
      clear hel hl hD htl
      go_wp2_with (first | (go_at_call 11; refine hcp.mono ?_; rintro e w3 ⟨x3, rfl, hx3, hb3⟩; obtain ⟨ya, yc, hyv, _⟩ := own_cells hx3; subst hyv; have hrow3 := own_below hrow hb3; have hx4 : Owns w3 w.heap.size (.slice ya l.length yc) l := own_base hx3 hbs; have HBR3 := hbr.trans (hb3.mono hbs); have HEL3 : Hid (∀ (i : Nat) m, D[i]? = some m → ∃ x, vs[i]? = some x ∧ Owns w3 w.heap.size x m) := (fun i m hi => by { obtain ⟨x, h1, h2⟩ := HEL.out i m hi; exact ⟨x, h1, own_below h2 hb3⟩ }); have hs3 := HBR3.size) | (at_builtin; refine wpList_append_own _ rfl _ _ 25 rfl w.heap.size 23 i0 (.slice none 0 0) 1 24 Tryz.underlying25 hi hz0 hz1 hz2 rfl (by decide) _ D.length vs rfl (hrow3.alloc _) ⟨w3.heap.size, 0, none⟩ 1 1 [.slice ya l.length yc] rfl rfl ?c1 ?c2 ?c3 ?c4 ?c5 ?_))
      case c1 => exact one_cell w3 _ _
      case c2 => intro u hu; simp at hu; subst hu; rfl
      case c3 => unfold maxLen; omega
      case c4 => omega
      case c5 => simp; omega
      intro v' w4 hown' hgrow _
      have hOT := more_term hrow3 HEL3.out hx4 hown' hgrow
      have hb4 : Below w.heap.size w w4 := (HBR3.alloc hs3 _).grown hgrow (by simp; omega) (fun k hk => (hrow3.lt k hk).1)
      clear hown' hgrow hrow3 hx4 hx3 hb3 HEL3 HEL hrow HBR3 hbr
      go_wp2_with fail
      go_roundw
      case rel => exact ⟨j + 1, by omega, by rw [HT2.out]; exact hOT, hb4, by go_num⟩
      case measure => simp [intOf]; omega
    · obtain rfl : j = K.length := by omega
      have hfin : OwnsT wr w.heap.size (.slice ma (K.take K.length).length mc) (K.take K.length) := ⟨vs, hrow, hel⟩
      rw [List.take_length] at hfin
      have HFIN : Hid (OwnsT wr w.heap.size (.slice ma K.length mc) K) := hfin
      clear hfin hrow hel
      rw [List.take_length]
      go_wp2_with fail
      go_ret
      exact ⟨.slice ma K.length mc, rfl, HFIN.out, hbr⟩

set_option maxHeartbeats 2000000 in
theorem same3_any (w : World) (u v : Value) (K J : List ByteArray) (hu : LiesS w u K) (hv : LiesS w v J) :
    Calls Tryz.prog 34 #[u, v] w fun e w' => e = .returned (.bool (decide (K = J))) ∧ Below w.heap.size w w' := by
  obtain ⟨d, hd⟩ : ∃ d, decide (K = J) = d := ⟨_, rfl⟩
  have HD : Hid (decide (K = J) = d) := hd
  rw [hd]
  obtain ⟨ua, uc, rfl, hu1, hu2, HU⟩ := hu
  obtain ⟨va, vc, rfl, hv1, hv2, HW⟩ := hv
  have HU := hid HU
  have HW := hid HW
  have hK : K.length ≤ 9223372036854775807 := by unfold maxLen at hu2; omega
  clear hd
  by_cases hl : K.length = J.length
  · have l1 : ((K.length : Int) != (J.length : Int)) = false := by simp; omega
    have l2 : (K.length : Int) = (J.length : Int) := by omega
    have HL : Hid (K.length = J.length) := hl
    clear hl
    go_enter Tryz.func34, Tryz.ntmps34
    go_wp2_with fail
    clear l1 l2
    go_loopw [13] (fun i wr => ∃ k : Nat, k ≤ K.length ∧ i = .int .i64 k ∧ Hid (K.take k = J.take k) ∧ ∃ nq, wr = w.drewN nq) (fun i _ => K.length - (intOf i).toNat)
    case atStart => exact ⟨0, Nat.zero_le _, rfl, rfl, 0, rfl⟩
    case round =>
      obtain ⟨k, hk, rfl, HTK, nq, rfl⟩ := hrel
      by_cases hlt : k < K.length
      · have hlj : k < J.length := by have := HL.out; omega
        obtain ⟨x, hx⟩ : ∃ x, K[k]? = some x := ⟨K[k], List.getElem?_eq_getElem hlt⟩
        obtain ⟨y, hy⟩ : ∃ y, J[k]? = some y := ⟨J[k], List.getElem?_eq_getElem hlj⟩
        have HX : Hid (K[k]? = some x ∧ J[k]? = some y) := ⟨hx, hy⟩
        obtain ⟨b1, o1, ha1, g1, c1⟩ := HU.out k x hx
        obtain ⟨b2, o2, ha2, g2, c2⟩ := HW.out k y hy
        subst ha1 ha2
        have hki : (k : Int) < (K.length : Int) := by omega
        have hkj : (k : Int) < (J.length : Int) := by omega
        clear hx hy
        by_cases hxy : x = y
        · have HT2 : Hid (K.take (k + 1) = J.take (k + 1)) := by show _ = _; rw [List.take_add_one, List.take_add_one, HTK.out, HX.out.1, HX.out.2, hxy]
          subst hxy
          go_wp2_with fail
          go_quiet (fail)
          go_wp2_with fail
          go_roundw
          case rel => exact ⟨k + 1, by omega, by go_num, HT2, _, rfl⟩
          case measure => simp [intOf]; omega
        · have HR : Hid (d = false) := by
            show _ = _
            rw [← HD.out]
            refine decide_eq_false fun e => hxy ?_
            have h1 := HX.out.1
            rw [e, HX.out.2] at h1
            cases h1; rfl
          have q2 : (x.toList == y.toList) = false := bytes_ne hxy
          have q3 : ¬ x.toList = y.toList := by simpa using q2
          go_wp2_with fail
          go_quiet (fail)
          go_wp2_with fail
          go_ret
          exact ⟨by rw [HR.out]; rfl, (by first | exact below_drewN _ _ | exact below_dd _ _ _)⟩
      · have HR : Hid (d = true) := by
          show _ = _
          rw [← HD.out]
          have := HTK.out
          rw [List.take_of_length_le (by omega), List.take_of_length_le (by have := HL.out; omega)] at this
          exact decide_eq_true this
        have hki : ¬ (k : Int) < (K.length : Int) := by omega
        have hdk : decide (k < K.length) = false := decide_eq_false hlt
        have hlj : J.length ≤ k := by have := HL.out; omega
        have hkj : ¬ (k : Int) < (J.length : Int) := by omega
        go_wp2_with fail
        go_ret
        exact ⟨by rw [HR.out]; rfl, (by first | exact below_drewN _ _ | exact below_dd _ _ _)⟩
  · have HR : Hid (d = false) := by
      show _ = _
      rw [← HD.out]
      exact decide_eq_false fun e => hl (by rw [e])
    have l1 : ((K.length : Int) != (J.length : Int)) = true := by simp; omega
    have l2 : ¬ (K.length : Int) = (J.length : Int) := by omega
    clear hl
    go_enter Tryz.func34, Tryz.ntmps34
    go_wp2_with fail
    go_ret
    exact ⟨by rw [HR.out]; rfl, Below.refl _ _⟩

end Go.Proofs.YtgijdhnkkbenoaaGreat
