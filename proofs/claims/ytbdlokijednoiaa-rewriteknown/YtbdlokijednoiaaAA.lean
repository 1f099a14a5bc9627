/-
  What the document's Same of lists, CopyAll and Same of texts answer.
-/
import Derived.Test.YtbdlokijednoiaaW8
import Derived.Test.YtbdlokijednoiaaRVars
import Derived.Test.YtbdlokijednoiaaRMatch
import Derived.Test.YtbdlokijednoiaaRKids
import Derived.Test.YtbdlokijednoiaaRFill
import Derived.Deep.RegionLawGrows
namespace Go.Proofs.Ytbdlokijednoiaa
open Go.RowKit
set_option linter.unusedVariables false
set_option linter.unusedSimpArgs false
set_option maxRecDepth 100000
set_option maxHeartbeats 1000000 in
set_option maxHeartbeats 2000000 in

theorem flatO_snoc : ∀ (l : List Ow) (o : Ow), flatO (l ++ [o]) = flatO l ++ [.int .i64 o.k, .string o.c.nm, .int .i64 o.c.ar, o.x]
  | [], o => rfl
  | d :: r, o => by simp only [List.cons_append, flatO, flatO_snoc r o]

theorem todos_trees (b : List Bd) : ∀ f : Fo, f.todos b = f.trees.map (todo b)
  | .nil => rfl
  | .cons nm k r => by
    have e : (⟨nm, (k.len : Nat)⟩ :: k.flat : List Cl) = (Fo.cons nm k .nil).flat := by simp [Fo.flat]
    simp only [Fo.todos, Fo.trees, List.map_cons, todos_trees b r]
    congr 1
    rw [e, todo_flat]
    simp [Fo.todos]
theorem OpsV.baseO {w : World} {B B' : Nat} {v : Value} {ops : List Opr} (h : OpsV (Owns w B) w B v ops) (hB : B' ≤ B) : OpsV (Owns w B') w B' v ops := by
  obtain ⟨os, h0, h1, h2⟩ := h
  refine ⟨os, h0, own_base h1 hB, fun i o hi => ?_⟩
  obtain ⟨x, q1, q2, q3⟩ := h2 i o hi
  exact ⟨x, q1, q2, own_base q3 hB⟩
theorem OpsV.one (w : World) (B : Nat) (k : Int) (c : Cl) (x : Value) (l : List Cl) (hB : B ≤ w.heap.size) (hx : Owns (w.alloc (.cells #[.int .i64 k, .string c.nm, .int .i64 c.ar, x] 51)) B x l) (h1 : x.oneCell' = true) :
    OpsV (Owns (w.alloc (.cells #[.int .i64 k, .string c.nm, .int .i64 c.ar, x] 51)) B) (w.alloc (.cells #[.int .i64 k, .string c.nm, .int .i64 c.ar, x] 51)) B (.slice (some ⟨w.heap.size, 0, none⟩) 1 1) [⟨k, c, l⟩] := by
  refine ⟨[⟨k, c, x⟩], rfl, ⟨rfl, .inr ⟨w.heap.size, 1, _, rfl, hB, World.alloc_heap_new w _, Nat.le_refl _, by unfold maxLen; omega, rfl, ?_⟩⟩, fun i o hi => ?_⟩
  · rfl
  · obtain ⟨rfl, rfl⟩ := one_get hi
    exact ⟨x, rfl, h1, hx⟩

theorem len_le_size : ∀ f : Fo, f.len ≤ f.size
  | .nil => Nat.le_refl _
  | .cons nm k r => by have := len_le_size r; simp only [Fo.len, Fo.size]; omega
/-- what stands for a variable is right; a symbol stands for itself -/
def Looks (bs : List Bd) (T : List Cl) : Prop := ∀ c ∈ T, (isV c = true → ∃ v, look bs c.nm = some v ∧ check v = 0) ∧ (isV c = false → look bs c.nm = none)
theorem looks_none {T : List Cl} (h : grd T = true) : Looks [] T := fun c hc => ⟨fun hv => (by rw [(grd_iff.1 h).2 c hc] at hv; cases hv), fun _ => rfl⟩

theorem sameAll_any (w : World) (u v : Value) (K J : List (List Cl)) (hu : LiesT w u K) (hv : LiesT w v J) (hK : K.length ≤ 9223372036854775807) :
    Calls Try.prog 27 #[u, v] w fun e w' => e = .returned (.bool (decide (K = J))) ∧ Below w.heap.size w w' := by
  obtain ⟨d, hd⟩ : ∃ d, decide (K = J) = d := ⟨_, rfl⟩
  have HD : Hid (decide (K = J) = d) := hd
  rw [hd]
  have HU : Hid (LiesT w u K) := hu
  have HW : Hid (LiesT w v J) := hv
  obtain ⟨ua, uc, rfl, hu1, hu2, _⟩ := hu
  obtain ⟨va, vc, rfl, hv1, hv2, _⟩ := hv
  clear hd
  by_cases hl : K.length = J.length
  · have l1 : ((K.length : Int) != (J.length : Int)) = false := by simp; omega
    have l2 : (K.length : Int) = (J.length : Int) := by omega
    have HL : Hid (K.length = J.length) := hl
    clear hl
    go_enter Try.func27, Try.ntmps27
    go_wp2_with fail
    clear l1 l2
    go_loopw [13] (fun i wr => ∃ k : Nat, k ≤ K.length ∧ i = .int .i64 k ∧ Hid (K.take k = J.take k) ∧ Below w.heap.size w wr) (fun i _ => K.length - (intOf i).toNat)
    case atStart => exact ⟨0, Nat.zero_le _, rfl, rfl, Below.refl _ _⟩
    case round =>
      obtain ⟨k, hk, rfl, HTK, hbr⟩ := hrel
      by_cases hlt : k < K.length
      · have hlj : k < J.length := by have := HL.out; omega
        obtain ⟨x, hx⟩ : ∃ x, K[k]? = some x := ⟨K[k], List.getElem?_eq_getElem hlt⟩
        obtain ⟨y, hy⟩ : ∃ y, J[k]? = some y := ⟨J[k], List.getElem?_eq_getElem hlj⟩
        have HX : Hid (K[k]? = some x ∧ J[k]? = some y) := ⟨hx, hy⟩
        obtain ⟨b1, o1, x1, ha1, g1, c1, m1⟩ : ∃ b off x1, ua = some ⟨b, off, none⟩ ∧ b < w.heap.size ∧ w.cell? ⟨b, off + k, none⟩ = some x1 ∧ Lies w x1 x := by
          obtain ⟨a', cap', hv', _, _, HC'⟩ := HU.out
          cases hv'
          exact HC' k x hx
        obtain ⟨b2, o2, y1, ha2, g2, c2, m2⟩ : ∃ b off x1, va = some ⟨b, off, none⟩ ∧ b < w.heap.size ∧ w.cell? ⟨b, off + k, none⟩ = some x1 ∧ Lies w x1 y := by
          obtain ⟨a', cap', hv', _, _, HC'⟩ := HW.out
          cases hv'
          exact HC' k y hy
        subst ha1 ha2
        have e1 : wr.drew.cell? ⟨b1, o1 + k, none⟩ = some x1 := (hbr.cell (p := ⟨b1, o1 + k, none⟩) g1).trans c1
        have e2 : wr.drew.cell? ⟨b2, o2 + k, none⟩ = some y1 := (hbr.cell (p := ⟨b2, o2 + k, none⟩) g2).trans c2
        have hsm := same_any wr.drew x1 y1 x y (m1.on hbr.drew) (m2.on hbr.drew)
        have hki : (k : Int) < (K.length : Int) := by omega
        have hkj : (k : Int) < (J.length : Int) := by omega
        have HBD : Hid (Below w.heap.size w wr.drew) := hbr.drew
        have hbs := hbr.size
        clear c1 c2 m1 m2 hx hy hbr
        by_cases hxy : x = y
        · have HT2 : Hid (K.take (k + 1) = J.take (k + 1)) := by show _ = _; rw [List.take_add_one, List.take_add_one, HTK.out, HX.out.1, HX.out.2, hxy]
          rw [decide_eq_true hxy] at hsm
          clear hxy
          go_wp2_with fail
          go_region_law (first
            | (go_simp; go_at_call 12; refine hsm.mono ?_; rintro e w3 ⟨rfl, hb3⟩; have HB3 := HBD.out.trans (hb3.mono hbs)))
          all_goals
            (go_wp2_with fail
             go_roundw
             case rel => exact ⟨k + 1, by omega, by go_num, HT2, HB3⟩
             case measure => simp [intOf]; omega)
        · have HR : Hid (d = false) := by
            show _ = _
            rw [← HD.out]
            refine decide_eq_false fun e => hxy ?_
            have h1 := HX.out.1
            rw [e, HX.out.2] at h1
            cases h1; rfl
          rw [decide_eq_false hxy] at hsm
          clear hxy
          go_wp2_with fail
          go_region_law (first
            | (go_simp; go_at_call 12; refine hsm.mono ?_; rintro e w3 ⟨rfl, hb3⟩; have HB3 := HBD.out.trans (hb3.mono hbs)))
          all_goals
            (go_wp2_with fail
             go_ret
             exact ⟨by rw [HR.out]; rfl, HB3⟩)
      · have HR : Hid (d = true) := by
          show _ = _
          rw [← HD.out]
          refine decide_eq_true ?_
          have := HTK.out
          rw [show k = K.length by omega, List.take_length, HL.out, List.take_length] at this
          exact this
        have hki : ¬ (k : Int) < (K.length : Int) := by omega
        have hdk : decide (k < K.length) = false := decide_eq_false hlt
        have hlj : J.length ≤ k := by have := HL.out; omega
        have hkj : ¬ (k : Int) < (J.length : Int) := by omega
        go_wp2_with fail
        go_ret
        exact ⟨by rw [HR.out]; rfl, hbr⟩
  · have l1 : ((K.length : Int) != (J.length : Int)) = true := by simp; omega
    have l2 : ¬ (K.length : Int) = (J.length : Int) := by omega
    have HR : Hid (d = false) := by
      show _ = _
      rw [← HD.out]
      exact decide_eq_false fun e => hl (by rw [e])
    go_enter Try.func27, Try.ntmps27
    go_wp2_with fail
    go_ret
    exact ⟨by rw [HR.out]; rfl, Below.refl _ _⟩

set_option maxHeartbeats 2000000 in
theorem copyAll_any (w : World) (kv : Value) (K : List (List Cl)) (hK : LiesT w kv K) (hk : K.length * 24 ≤ 140737488355328) (hl : ∀ l ∈ K, l.length * 24 ≤ 140737488355328) :
    Calls Try.prog 25 #[kv] w fun e w' => ∃ v', e = .returned v' ∧ OwnsT w' w.heap.size v' K ∧ Below w.heap.size w w' := by
  obtain ⟨i0, hi, hz0, hz1, hz2⟩ := info_parts info23
  have HK : Hid (LiesT w kv K) := hK
  have HLL : Hid (∀ l ∈ K, l.length * 24 ≤ 140737488355328) := hl
  obtain ⟨ka, kc, rfl, hk1, hk2, _⟩ := hK
  clear hl
  go_enter Try.func25, Try.ntmps25
  go_wp2_with fail
  go_loopw [3, 7] (fun mv i wr => ∃ j : Nat, j ≤ K.length ∧ OwnsT wr w.heap.size mv (K.take j) ∧ Below w.heap.size w wr ∧ i = .int .i64 (j : Nat)) (fun _ i _ => K.length - (intOf i).toNat)
  case atStart => exact ⟨0, Nat.zero_le _, OwnsT.nil _ _, Below.refl _ _, rfl⟩
  case round =>
    obtain ⟨j, hj, hO, hbr, rfl⟩ := hrel
    have hbs := hbr.size
    obtain ⟨vs, hrow, hel⟩ := hO
    obtain ⟨ma, mc, hmv, _⟩ := own_cells hrow
    subst hmv
    by_cases hlt : j < K.length
    · obtain ⟨l, hl⟩ : ∃ l, K[j]? = some l := ⟨K[j], List.getElem?_eq_getElem hlt⟩
      obtain ⟨b, off, x, ha, hbl, hcx, hlx⟩ : ∃ b off x, ka = some ⟨b, off, none⟩ ∧ b < wr.heap.size ∧ wr.cell? ⟨b, off + j, none⟩ = some x ∧ Lies wr x l := by
        obtain ⟨a', cap', hv', _, _, HC'⟩ := HK.out.on hbr
        cases hv'
        exact HC' j _ hl
      subst ha
      have hji : (j : Int) < (K.length : Int) := by omega
      have hcp := copy_any wr x l hlx (HLL.out l (List.mem_of_getElem? hl))
      obtain ⟨xa, xc, rfl, _⟩ := hlx
      have HT2 : Hid (K.take (j + 1) = K.take j ++ [l]) := by show _ = _; rw [List.take_add_one, hl]; rfl
      have htl : (K.take j).length = j := by rw [List.length_take]; omega
      have HEL : Hid (∀ (i : Nat) m, (K.take j)[i]? = some m → ∃ x, vs[i]? = some x ∧ Owns wr w.heap.size x m) := hel
      obtain ⟨D, hD⟩ : ∃ D, K.take j = D := ⟨_, rfl⟩
      rw [hD] at HEL hrow htl HT2 ⊢
      have hdl : D.length + 1 ≤ K.length := by omega
      clear hel hl hD htl
      go_wp2_with (first | (go_at_call 9; refine hcp.mono ?_; rintro e w3 ⟨x3, rfl, hx3, hb3⟩; obtain ⟨ya, yc, hyv, _⟩ := own_cells hx3; subst hyv; have hrow3 := own_below hrow hb3; have hx4 : Owns w3 w.heap.size (.slice ya l.length yc) l := own_base hx3 hbs; have HBR3 := hbr.trans (hb3.mono hbs); have HEL3 : Hid (∀ (i : Nat) m, D[i]? = some m → ∃ x, vs[i]? = some x ∧ Owns w3 w.heap.size x m) := (fun i m hi => by { obtain ⟨x, h1, h2⟩ := HEL.out i m hi; exact ⟨x, h1, own_below h2 hb3⟩ }); have hs3 := HBR3.size) | (at_builtin; refine wpList_append_own _ rfl _ _ 25 rfl w.heap.size 24 i0 (.slice none 0 0) 1 24 Try.underlying25 hi hz0 hz1 hz2 rfl (by decide) _ D.length vs rfl (hrow3.alloc _) ⟨w3.heap.size, 0, none⟩ 1 1 [.slice ya l.length yc] rfl rfl ?c1 ?c2 ?c3 ?c4 ?c5 ?_))
      case c1 => exact one_cell w3 _ _
      case c2 => intro u hu; simp at hu; subst hu; rfl
      case c3 => unfold maxLen; omega
      case c4 => omega
      case c5 => simp; omega
      intro v' w4 hown' hgrow _
      have hOT := more_term hrow3 HEL3.out hx4 hown' hgrow
      have hb4 : Below w.heap.size w w4 := (HBR3.alloc hs3 _).grown hgrow (by simp; omega) (fun k hk => (hrow3.lt k hk).1)
      clear hown' hgrow hrow3 hx4 hx3 hb3 HEL3 HEL hrow HBR3 hbr
      go_wp2_with fail
      go_roundw
      case rel => exact ⟨j + 1, by omega, by rw [HT2.out]; exact hOT, hb4, by go_num⟩
      case measure => simp [intOf]; omega
    · obtain rfl : j = K.length := by omega
      have hfin : OwnsT wr w.heap.size (.slice ma (K.take K.length).length mc) (K.take K.length) := ⟨vs, hrow, hel⟩
      rw [List.take_length] at hfin
      have HFIN : Hid (OwnsT wr w.heap.size (.slice ma K.length mc) K) := hfin
      clear hfin hrow hel
      rw [List.take_length]
      go_wp2_with fail
      go_ret
      exact ⟨.slice ma K.length mc, rfl, HFIN.out, hbr⟩

set_option maxHeartbeats 2000000 in
theorem same3_any (w : World) (u v : Value) (K J : List ByteArray) (hu : LiesS w u K) (hv : LiesS w v J) :
    Calls Try.prog 26 #[u, v] w fun e w' => e = .returned (.bool (decide (K = J))) ∧ Below w.heap.size w w' := by
  obtain ⟨d, hd⟩ : ∃ d, decide (K = J) = d := ⟨_, rfl⟩
  have HD : Hid (decide (K = J) = d) := hd
  rw [hd]
  obtain ⟨ua, uc, rfl, hu1, hu2, HU⟩ := hu
  obtain ⟨va, vc, rfl, hv1, hv2, HW⟩ := hv
  have HU := hid HU
  have HW := hid HW
  have hK : K.length ≤ 9223372036854775807 := by unfold maxLen at hu2; omega
  clear hd
  by_cases hl : K.length = J.length
  · have l1 : ((K.length : Int) != (J.length : Int)) = false := by simp; omega
    have l2 : (K.length : Int) = (J.length : Int) := by omega
    have HL : Hid (K.length = J.length) := hl
    clear hl
    go_enter Try.func26, Try.ntmps26
    go_wp2_with fail
    clear l1 l2
    go_loopw [13] (fun i wr => ∃ k : Nat, k ≤ K.length ∧ i = .int .i64 k ∧ Hid (K.take k = J.take k) ∧ ∃ nq, wr = w.drewN nq) (fun i _ => K.length - (intOf i).toNat)
    case atStart => exact ⟨0, Nat.zero_le _, rfl, rfl, 0, rfl⟩
    case round =>
      obtain ⟨k, hk, rfl, HTK, nq, rfl⟩ := hrel
      by_cases hlt : k < K.length
      · have hlj : k < J.length := by have := HL.out; omega
        obtain ⟨x, hx⟩ : ∃ x, K[k]? = some x := ⟨K[k], List.getElem?_eq_getElem hlt⟩
        obtain ⟨y, hy⟩ : ∃ y, J[k]? = some y := ⟨J[k], List.getElem?_eq_getElem hlj⟩
        have HX : Hid (K[k]? = some x ∧ J[k]? = some y) := ⟨hx, hy⟩
        obtain ⟨b1, o1, ha1, g1, c1⟩ := HU.out k x hx
        obtain ⟨b2, o2, ha2, g2, c2⟩ := HW.out k y hy
        subst ha1 ha2
        have hki : (k : Int) < (K.length : Int) := by omega
        have hkj : (k : Int) < (J.length : Int) := by omega
        clear hx hy
        by_cases hxy : x = y
        · have HT2 : Hid (K.take (k + 1) = J.take (k + 1)) := by show _ = _; rw [List.take_add_one, List.take_add_one, HTK.out, HX.out.1, HX.out.2, hxy]
          subst hxy
          go_wp2_with fail
          go_quiet (fail)
          go_wp2_with fail
          go_roundw
          case rel => exact ⟨k + 1, by omega, by go_num, HT2, _, rfl⟩
          case measure => simp [intOf]; omega
        · have HR : Hid (d = false) := by
            show _ = _
            rw [← HD.out]
            refine decide_eq_false fun e => hxy ?_
            have h1 := HX.out.1
            rw [e, HX.out.2] at h1
            cases h1; rfl
          have q2 : (x.toList == y.toList) = false := bytes_ne hxy
          have q3 : ¬ x.toList = y.toList := by simpa using q2
          go_wp2_with fail
          go_quiet (fail)
          go_wp2_with fail
          go_ret
          exact ⟨by rw [HR.out]; rfl, (by first | exact below_drewN _ _ | exact below_dd _ _ _)⟩
      · have HR : Hid (d = true) := by
          show _ = _
          rw [← HD.out]
          have := HTK.out
          rw [List.take_of_length_le (by omega), List.take_of_length_le (by have := HL.out; omega)] at this
          exact decide_eq_true this
        have hki : ¬ (k : Int) < (K.length : Int) := by omega
        have hdk : decide (k < K.length) = false := decide_eq_false hlt
        have hlj : J.length ≤ k := by have := HL.out; omega
        have hkj : ¬ (k : Int) < (J.length : Int) := by omega
        go_wp2_with fail
        go_ret
        exact ⟨by rw [HR.out]; rfl, (by first | exact below_drewN _ _ | exact below_dd _ _ _)⟩
  · have HR : Hid (d = false) := by
      show _ = _
      rw [← HD.out]
      exact decide_eq_false fun e => hl (by rw [e])
    have l1 : ((K.length : Int) != (J.length : Int)) = true := by simp; omega
    have l2 : ¬ (K.length : Int) = (J.length : Int) := by omega
    clear hl
    go_enter Try.func26, Try.ntmps26
    go_wp2_with fail
    go_ret
    exact ⟨by rw [HR.out]; rfl, Below.refl _ _⟩

end Go.Proofs.Ytbdlokijednoiaa
