/-
  What the document's One answers: an op that makes a node.
-/
import Derived.Test.YtgijdhnkkbenoaaGreatBL
namespace Go.Proofs.YtgijdhnkkbenoaaGreat
open Go.RowKit
set_option linter.unusedVariables false
set_option linter.unusedSimpArgs false
set_option maxRecDepth 100000

theorem liesS_lit (w : World) (x : ByteArray) : LiesS (w.alloc (.cells #[.string x] 9)) (.slice (some ⟨w.heap.size, 0, none⟩) 1 1) [x] := by
  refine ⟨some ⟨w.heap.size, 0, none⟩, 1, rfl, Nat.le_refl _, by unfold maxLen; omega, fun i y hi => ?_⟩
  obtain ⟨rfl, rfl⟩ := one_get hi
  exact ⟨w.heap.size, 0, rfl, by simp, (Blk.made w #[.string y] 9).cell (i := 0) rfl⟩
/-- ops as append takes them -/
theorem LiesO.src {w : World} {ad : Addr} {n c : Nat} {ops : List Opr} (h : LiesO w (.slice (some ad) n c) ops) : ∃ os : List Ow, os.length = ops.length ∧ (∀ (i : Nat) o, ops[i]? = some o → ∃ x, os[i]? = some ⟨o.k, o.c, x⟩ ∧ x.oneCell' = true ∧ Lies w x o.v) ∧ (∀ j u, (flatO os)[j]? = some u → w.cell? (ad.add j) = some u) ∧ ∀ u ∈ flatO os, u.oneCell' = true := by
  have hx : ∀ i : Nat, ∃ x : Value, ∀ o, ops[i]? = some o → x.oneCell' = true ∧ Lies w x o.v ∧ ∃ g off, ad = ⟨g, off, none⟩ ∧ w.cell? ⟨g, off + i * 4, none⟩ = some (.int .i64 o.k) ∧ w.cell? ⟨g, off + i * 4 + 1, none⟩ = some (.string o.c.nm) ∧ w.cell? ⟨g, off + i * 4 + 2, none⟩ = some (.int .i64 o.c.ar) ∧ w.cell? ⟨g, off + i * 4 + 3, none⟩ = some x := fun i => by
    cases hi : ops[i]? with
    | none => exact ⟨.bool false, fun o ho => by cases ho⟩
    | some o =>
      obtain ⟨g, off, x, h1, h2, h3, h4, h5, h6, h7⟩ := h.at hi
      cases h1
      exact ⟨x, fun o' ho => by cases ho; exact ⟨h7.one, h7, g, off, rfl, h3, h4, h5, h6⟩⟩
  obtain ⟨F, hF⟩ : ∃ F : Nat → Value, ∀ i o, ops[i]? = some o → (F i).oneCell' = true ∧ Lies w (F i) o.v ∧ ∃ g off, ad = ⟨g, off, none⟩ ∧ w.cell? ⟨g, off + i * 4, none⟩ = some (.int .i64 o.k) ∧ w.cell? ⟨g, off + i * 4 + 1, none⟩ = some (.string o.c.nm) ∧ w.cell? ⟨g, off + i * 4 + 2, none⟩ = some (.int .i64 o.c.ar) ∧ w.cell? ⟨g, off + i * 4 + 3, none⟩ = some (F i) := ⟨fun i => Classical.choose (hx i), fun i => Classical.choose_spec (hx i)⟩
  clear hx
  have hos : ∀ i : Nat, (ops.mapIdx fun i o => (⟨o.k, o.c, F i⟩ : Ow))[i]? = (ops[i]?).map fun o => ⟨o.k, o.c, F i⟩ := fun i => by rw [List.getElem?_mapIdx]
  refine ⟨ops.mapIdx fun i o => ⟨o.k, o.c, F i⟩, List.length_mapIdx, fun i o hi => ?_, fun j u hu => ?_, fun u hu => ?_⟩
  · obtain ⟨q1, q2, _⟩ := hF i o hi
    exact ⟨F i, by rw [hos, hi]; rfl, q1, q2⟩
  · have hjl : j < ops.length * 4 := by
      have := (List.getElem?_eq_some_iff.1 hu).1
      rw [flatO_length, List.length_mapIdx] at this
      exact this
    obtain ⟨i, r, hr, hj⟩ : ∃ i r, r < 4 ∧ j = i * 4 + r := ⟨j / 4, j % 4, by omega, by omega⟩
    subst hj
    obtain ⟨o, ho⟩ : ∃ o, ops[i]? = some o := ⟨ops[i]'(by omega), List.getElem?_eq_getElem (by omega)⟩
    obtain ⟨_, _, g, off, had, q0, q1, q2, q3⟩ := hF i o ho
    have ho2 := hos i
    rw [ho] at ho2
    obtain ⟨f0, f1, f2, f3⟩ := flatO_at _ _ _ ho2
    subst had
    rw [add_plain]
    have h4 : r = 0 ∨ r = 1 ∨ r = 2 ∨ r = 3 := by omega
    rcases h4 with h4 | h4 | h4 | h4
    · subst h4; rw [Nat.add_zero] at hu ⊢; rw [f0] at hu; cases hu; exact q0
    · subst h4; rw [f1] at hu; cases hu; rw [← Nat.add_assoc]; exact q1
    · subst h4; rw [f2] at hu; cases hu; rw [← Nat.add_assoc]; exact q2
    · subst h4; rw [f3] at hu; cases hu; rw [← Nat.add_assoc]; exact q3
  · refine flatO_one _ (fun o ho => ?_) u hu
    obtain ⟨i, hi⟩ := List.getElem?_of_mem ho
    rw [hos] at hi
    cases ho' : ops[i]? with
    | none => rw [ho'] at hi; cases hi
    | some o' =>
      rw [ho'] at hi
      cases hi
      exact (hF i o' ho').1
theorem node_take {c : Cl} {V : List (List Cl)} {m j : Nat} {l : List Cl} (hj : V[j]? = some l) (hm : V.length - m ≤ j) : c :: ((V.take (j + 1)).drop (V.length - m)).flatten = (c :: ((V.take j).drop (V.length - m)).flatten) ++ l := by
  have hjl := (List.getElem?_eq_some_iff.1 hj).1
  rw [List.take_add_one, hj]
  simp only [Option.toList]
  rw [List.drop_append_of_le_length (by rw [List.length_take]; omega)]
  simp
theorem flat_lim : ∀ (K : List (List Cl)), (∀ l ∈ K, l.length ≤ 64) → K.flatten.length ≤ 64 * K.length
  | [], _ => Nat.le_refl _
  | l :: r, h => by
    have := flat_lim r (fun x hx => h x (by simp [hx]))
    have := h l (by simp)
    simp only [List.flatten_cons, List.length_append, List.length_cons]
    omega

/-- the call's three blocks -/
structure M3 (w : World) (bx ob : Array Value) (wr : World) : Prop where
  b0 : Blk wr w.heap.size bx 28
  b1 : Blk wr (w.heap.size + 1) #[.slice none 0 0, .slice none 0 0, .int .i64 0, .slice none 0 0] 28
  b2 : Blk wr (w.heap.size + 1 + 1) ob 71
  low : Below w.heap.size w wr
theorem M3.on {w : World} {bx ob : Array Value} {wr wr' : World} (h : M3 w bx ob wr) (hb : Below wr.heap.size wr wr') : M3 w bx ob wr' :=
  ⟨h.b0.on hb h.b0.lt, h.b1.on hb h.b1.lt, h.b2.on hb h.b2.lt, h.low.trans (hb.mono h.low.size)⟩
theorem M3.grow {w : World} {bx ob : Array Value} {wr wr' : World} {row : Option Nat} (h : M3 w bx ob wr) (hg : wr.grownBy wr' row) (hr : ∀ k, row = some k → w.heap.size + 1 + 1 + 1 ≤ k) : M3 w bx ob wr' :=
  ⟨(hg.block _ h.b0.lt (fun e => by have := hr _ e.symm; omega)).trans h.b0, (hg.block _ h.b1.lt (fun e => by have := hr _ e.symm; omega)).trans h.b1, (hg.block _ h.b2.lt (fun e => by have := hr _ e.symm; omega)).trans h.b2, h.low.grown hg h.low.size (fun k hk => by have := hr k hk; omega)⟩
theorem M3.size {w : World} {bx ob : Array Value} {wr : World} (h : M3 w bx ob wr) : w.heap.size + 1 + 1 + 1 ≤ wr.heap.size := h.b2.lt

set_option maxHeartbeats 8000000 in
theorem rone_make (B : Nat) (w : World) (hB0 : B ≤ w.heap.size) (rv mv : Value) (rs : List Rl) (hr : LiesR w rv rs) (hok : RsOk rs) (ms : List Mm) (hm : LiesM w mv ms) (hmn : ∀ x ∈ ms, x.n.length * 24 ≤ 140737488355328) (htb : TbOk (tbM ms)) (A : List Opr) (onm : ByteArray) (oar : Int) (V : List (List Cl)) (n : Int) (S : List ByteArray) (f : Int) (oa : Option Addr) (oc : Nat) (va : Option Addr) (vc : Nat) (ha : Option Addr) (hc : Nat) (ho : LiesO w (.slice oa (A.length + 1) oc) (A ++ [⟨1, ⟨onm, oar⟩, []⟩])) (ht : LiesT w (.slice va V.length vc) V) (hs : LiesS w (.slice ha S.length hc) S)
    (hkd : kind onm.data.toList = 1) (h0 : 0 ≤ oar) (h4 : oar ≤ 4) (hn1 : oar.toNat ≤ V.length) (hh : Hds S) (zv : ∀ l ∈ V, grd l = true) (lv : V.length + 1 ≤ 7539508500002) (la : A.length + 8 ≤ 2513169500020) (hfu : -9223372036854775808 ≤ f ∧ f ≤ 9223372036854775807) (hst : -9223372036854775808 ≤ n ∧ n ≤ 9223372036854775807)
    (hlo : OpsV (VL B w) w 0 (.slice oa (A.length + 1) oc) (A ++ [⟨1, ⟨onm, oar⟩, []⟩])) (hls : OwnsS w 0 (.slice ha S.length hc) S) (hkn0 : knownI ms (node ⟨onm, oar⟩ V) = none) (out : Out) (hout : one rs (tbM ms) ⟨1, ⟨onm, oar⟩, []⟩ ⟨A.reverse, V, n, S, f⟩ = out) :
    Calls Tryz.prog 82 #[rv, .agg #[.slice oa (A.length + 1) oc, .slice va V.length vc, .int .i64 n, .slice ha S.length hc], .int .i64 f, mv] w fun e w' => OneOut B w' e (.agg #[.slice oa (A.length + 1) oc, .slice va V.length vc, .int .i64 n, .slice ha S.length hc]) f out ∧ Below w.heap.size w w' := by
  obtain ⟨i1, hi1, hy0, hy1, hy2⟩ := info_parts info23
  obtain ⟨i5, hi5, hw0, hw1, hw2⟩ := info_parts info59
  obtain ⟨i7, hi7, hv0, hv1, hv2⟩ := info_parts info71
  obtain ⟨i9, hi9, hx0, hx1', hx2⟩ := info_parts info9
  have HR := hid hr
  have HOK := hid hok
  have HM := hid hm
  have HMN := hid hmn
  have HTB := hid htb
  have HHD := hid hh
  have HKD := hid hkd
  have HZV := hid zv
  have HOUT := hid hout
  have HKN0 := hid hkn0
  have HLO := hid hlo
  have LV := hid (val_lim lv)
  obtain ⟨m, rfl⟩ : ∃ m : Nat, oar = (m : Int) := ⟨oar.toNat, by omega⟩
  have hm4 : m ≤ 4 := by omega
  have hmV : m ≤ V.length := by simpa using hn1
  have HO := hid ho
  have HT := hid ht
  have HS := hid hs
  obtain ⟨g, off, x, hoa, hgl, c0, c1, c2, c3, hlx⟩ := ho.at (i := A.length) (o := ⟨1, ⟨onm, ((m : Nat) : Int)⟩, []⟩) (by rw [List.getElem?_append_right (Nat.le_refl _)]; simp)
  subst hoa
  simp only at c0 c1 c2 c3 hlx
  obtain ⟨xa, xc, hxv, _⟩ := id hlx
  have hxv2 : x = .slice xa 0 xc := hxv
  subst hxv2
  have hcap : A.length + 1 ≤ oc ∧ oc ≤ 9223372036854775807 := by
    obtain ⟨_, _, e, h1, h2, _⟩ := ho
    simp only [Value.slice.injEq] at e
    obtain ⟨_, _, e3⟩ := e
    unfold maxLen at h2
    simp at h1
    omega
  have hB1 : Below w.heap.size w (((w.alloc (.cells #[.slice (some ⟨g, off, none⟩) (A.length + 1) oc, .slice va V.length vc, .int .i64 n, .slice ha S.length hc] 28)).alloc (.cells #[.slice none 0 0, .slice none 0 0, .int .i64 0, .slice none 0 0] 28)).alloc (.cells #[.int .i64 1, .string onm, .int .i64 (m : Nat), .slice xa 0 xc] 71)) := (((Below.refl _ w).alloc (Nat.le_refl _) _).alloc (by simp) _).alloc (by simp; omega) _
  have hX1 : Blk (((w.alloc (.cells #[.slice (some ⟨g, off, none⟩) (A.length + 1) oc, .slice va V.length vc, .int .i64 n, .slice ha S.length hc] 28)).alloc (.cells #[.slice none 0 0, .slice none 0 0, .int .i64 0, .slice none 0 0] 28)).alloc (.cells #[.int .i64 1, .string onm, .int .i64 (m : Nat), .slice xa 0 xc] 71)) w.heap.size #[.slice (some ⟨g, off, none⟩) (A.length + 1) oc, .slice va V.length vc, .int .i64 n, .slice ha S.length hc] 28 := ((Blk.made w _ 28).alloc _).alloc _
  have hY1 : Blk (((w.alloc (.cells #[.slice (some ⟨g, off, none⟩) (A.length + 1) oc, .slice va V.length vc, .int .i64 n, .slice ha S.length hc] 28)).alloc (.cells #[.slice none 0 0, .slice none 0 0, .int .i64 0, .slice none 0 0] 28)).alloc (.cells #[.int .i64 1, .string onm, .int .i64 (m : Nat), .slice xa 0 xc] 71)) (w.heap.size + 1) #[.slice none 0 0, .slice none 0 0, .int .i64 0, .slice none 0 0] 28 := (Blk.madeAt _ _ _ (by simp)).alloc _
  have hQ1 : Blk (((w.alloc (.cells #[.slice (some ⟨g, off, none⟩) (A.length + 1) oc, .slice va V.length vc, .int .i64 n, .slice ha S.length hc] 28)).alloc (.cells #[.slice none 0 0, .slice none 0 0, .int .i64 0, .slice none 0 0] 28)).alloc (.cells #[.int .i64 1, .string onm, .int .i64 (m : Nat), .slice xa 0 xc] 71)) (w.heap.size + 1 + 1) #[.int .i64 1, .string onm, .int .i64 (m : Nat), .slice xa 0 xc] 71 := Blk.madeAt _ _ _ (by simp)
  have HB1 := hid hB1
  have HX1 := hid hX1
  have HY1 := hid hY1
  have HQ1 := hid hQ1
  have e1 : ((A.length + 1 : Nat) : Int) - 1 = (A.length : Int) := by omega
  have e2 : (A.length : Int) + 1 - 1 = (A.length : Int) := by omega
  obtain ⟨ra, rc, hrv, _⟩ := id hr
  subst hrv
  obtain ⟨ma, mc, hmv, _⟩ := id hm
  subst hmv
  clear ho ht hs hlx zv hr hok hm hmn htb hh hkd hout hkn0 hlo hls h0 h4 hn1 hB1 hX1 hY1 hQ1
  go_enter Tryz.func82, Tryz.ntmps82
  go_wp2_with fail
  have hq0 : (V.length : Int) - (m : Int) = ((V.length - m : Nat) : Int) := by omega
  rw [hq0]
  have HM2 : Hid (M3 w #[.slice (some ⟨g, off, none⟩) (A.length + 1) oc, .slice va V.length vc, .int .i64 n, .slice ha S.length hc] #[.int .i64 1, .string onm, .int .i64 (m : Nat), .slice xa 0 xc] ((((w.alloc (.cells #[.slice (some ⟨g, off, none⟩) (A.length + 1) oc, .slice va V.length vc, .int .i64 n, .slice ha S.length hc] 28)).alloc (.cells #[.slice none 0 0, .slice none 0 0, .int .i64 0, .slice none 0 0] 28)).alloc (.cells #[.int .i64 1, .string onm, .int .i64 (m : Nat), .slice xa 0 xc] 71)).alloc (.cells #[.string onm, .int .i64 (m : Nat)] 54))) := M3.on ⟨HX1.out, HY1.out, HQ1.out, HB1.out⟩ (bel_al _ _)
  have HN2 : Hid (Owns ((((w.alloc (.cells #[.slice (some ⟨g, off, none⟩) (A.length + 1) oc, .slice va V.length vc, .int .i64 n, .slice ha S.length hc] 28)).alloc (.cells #[.slice none 0 0, .slice none 0 0, .int .i64 0, .slice none 0 0] 28)).alloc (.cells #[.int .i64 1, .string onm, .int .i64 (m : Nat), .slice xa 0 xc] 71)).alloc (.cells #[.string onm, .int .i64 (m : Nat)] 54)) (w.heap.size + 1 + 1 + 1) (.slice (some ⟨w.heap.size + 1 + 1 + 1, 0, none⟩) 1 1) [⟨onm, (m : Nat)⟩]) := by
    have := own_lit (((w.alloc (.cells #[.slice (some ⟨g, off, none⟩) (A.length + 1) oc, .slice va V.length vc, .int .i64 n, .slice ha S.length hc] 28)).alloc (.cells #[.slice none 0 0, .slice none 0 0, .int .i64 0, .slice none 0 0] 28)).alloc (.cells #[.int .i64 1, .string onm, .int .i64 (m : Nat), .slice xa 0 xc] 71)) [⟨onm, (m : Nat)⟩] (by unfold maxLen; simp)
    rw [show (((w.alloc (.cells #[.slice (some ⟨g, off, none⟩) (A.length + 1) oc, .slice va V.length vc, .int .i64 n, .slice ha S.length hc] 28)).alloc (.cells #[.slice none 0 0, .slice none 0 0, .int .i64 0, .slice none 0 0] 28)).alloc (.cells #[.int .i64 1, .string onm, .int .i64 (m : Nat), .slice xa 0 xc] 71)).heap.size = w.heap.size + 1 + 1 + 1 by simp] at this
    exact this
  generalize ((((w.alloc (.cells #[.slice (some ⟨g, off, none⟩) (A.length + 1) oc, .slice va V.length vc, .int .i64 n, .slice ha S.length hc] 28)).alloc (.cells #[.slice none 0 0, .slice none 0 0, .int .i64 0, .slice none 0 0] 28)).alloc (.cells #[.int .i64 1, .string onm, .int .i64 (m : Nat), .slice xa 0 xc] 71)).alloc (.cells #[.string onm, .int .i64 (m : Nat)] 54)) = W2 at HM2 HN2 ⊢
  clear HX1 HY1 HQ1 HB1 hq0
  obtain ⟨q, hq⟩ : ∃ q, V.length - m = q := ⟨_, rfl⟩
  have hqm : q + m = V.length := by omega
  have HND : Hid (node ⟨onm, (m : Nat)⟩ V = ⟨onm, (m : Nat)⟩ :: ((V.take V.length).drop q).flatten ∧ left ⟨onm, (m : Nat)⟩ V = V.take q) := by
    rw [List.take_length]
    unfold node left
    simp only [Int.toNat_natCast, hq]
    exact ⟨trivial, trivial⟩
  rw [hq]
  have HQV : Hid (V.length - m = q ∧ q + m = V.length) := ⟨hq, hqm⟩
  have hqV : q ≤ V.length := by omega
  clear hq hqm e1 e2
  go_loopw [14, 15] (fun nv i wr => ∃ j : Nat, q ≤ j ∧ j ≤ V.length ∧ i = .int .i64 (j : Nat) ∧ Hid (Owns wr (w.heap.size + 1 + 1 + 1) nv (⟨onm, (m : Nat)⟩ :: ((V.take j).drop q).flatten)) ∧ Hid (M3 w #[.slice (some ⟨g, off, none⟩) (A.length + 1) oc, .slice va V.length vc, .int .i64 n, .slice ha S.length hc] #[.int .i64 1, .string onm, .int .i64 (m : Nat), .slice xa 0 xc] wr)) (fun _ i _ => V.length - (intOf i).toNat)
  case atStart => exact ⟨q, Nat.le_refl _, hqV, rfl, (by rw [List.drop_eq_nil_of_le (by rw [List.length_take]; omega)]; exact HN2), HM2⟩
  case round =>
    obtain ⟨j, hj1, hj2, rfl, HN, HMr⟩ := hrel
    clear HM2 HN2
    have d1 := HMr.out.b0.cell (i := 1) rfl
    by_cases hlt : j < V.length
    · obtain ⟨l, hl⟩ : ∃ l, V[j]? = some l := ⟨V[j], List.getElem?_eq_getElem hlt⟩
      have hji : (j : Int) < (V.length : Int) := by omega
      have hlow := HMr.out.low
      obtain ⟨g2, off2, x2, hva, hgl2, k0, hlx2⟩ := (HT.out.on hlow).at hl
      subst hva
      have HNT : Hid ((⟨onm, (m : Nat)⟩ : Cl) :: ((V.take (j + 1)).drop q).flatten = (⟨onm, (m : Nat)⟩ :: ((V.take j).drop q).flatten) ++ l) := by
        have := node_take (c := ⟨onm, (m : Nat)⟩) (m := m) hl (by have := HQV.out.1; omega)
        rw [HQV.out.1] at this
        exact this
      have hgl' := HZV.out l (List.mem_of_getElem? hl)
      have hl64 := (grd_small hgl').1
      have hfl := flat_lim ((V.take j).drop q) (fun l hl => (grd_small (HZV.out l (List.mem_of_mem_take (List.mem_of_mem_drop hl)))).1)
      have hfl2 : ((V.take j).drop q).length ≤ 4 := by have := HQV.out.2; rw [List.length_drop, List.length_take]; omega
      have hrow := HN.out
      obtain ⟨D, hD⟩ : ∃ D, (⟨onm, (m : Nat)⟩ : Cl) :: ((V.take j).drop q).flatten = D := ⟨_, rfl⟩
      have hDl : D.length ≤ 300 := by rw [← hD]; simp only [List.length_cons]; omega
      rw [hD] at hrow HNT
      obtain ⟨da, dc, hdv, _⟩ := own_cells hrow
      have hdv2 : _ = Value.slice da D.length dc := hdv
      subst hdv2
      obtain ⟨xa2, xc2, hxv2, _, _, _, hcells⟩ := hlx2
      subst hxv2
      obtain ⟨c0', T', hlc⟩ := check_cons (grd_iff.1 hgl').1
      cases xa2 with
      | none => have := CellsAt.nil_or hcells; rw [hlc] at this; cases this
      | some ad2 =>
        have hsrc := CellsAt.src hcells
        have hws := HMr.out.size
        have HRW := hid hrow
        have HSRC := hid hsrc
        clear hlc hfl hfl2 hD hl hlow hcells hsrc hgl' HN
        go_wp2_with (at_builtin; refine wpList_append_own_wide _ rfl _ _ 23 rfl (w.heap.size + 1 + 1 + 1) 54 i5 (.agg #[.string ⟨#[]⟩, .int .i64 0]) 2 24 Tryz.underlying23 hi5 hw0 hw1 hw2 rfl (by decide) _ D.length (flatC D) rfl HRW.out ad2 l.length xc2 (flatC l) rfl (flatC_length l) HSRC.out (flatC_one l) ?k1 ?k2 ?k3 ?_)
        case k1 => unfold maxLen; omega
        case k2 => exact wide_of (by clear la lv; omega) (by decide)
        case k3 => exact hws
        intro v' w4 hown' hgrow _
        have HN4 : Hid (Owns w4 (w.heap.size + 1 + 1 + 1) v' (D ++ l)) := by
          show w4.ownsRow _ _ _ _ _ _
          rw [List.length_append, flatC_append]
          exact hown'
        have HM4 := hid (HMr.out.grow hgrow (fun k hk => (HRW.out.lt k hk).1))
        obtain ⟨na, nc, hnv, _⟩ := own_cells hown'
        have hnv2 : v' = .slice na (D.length + l.length) nc := hnv
        subst hnv2
        clear hown' hgrow HRW HSRC hrow HMr d1
        go_wp2_with fail
        go_roundw
        case rel => exact ⟨j + 1, by omega, by omega, by go_num, (by rw [HNT.out]; exact HN4), HM4⟩
        case measure => (simp [intOf]; try omega)
    · have hji : ¬ (j : Int) < (V.length : Int) := by omega
      have hjv : j = V.length := by omega
      subst hjv
      have hN := HN.out
      rw [← HND.out.1] at hN
      have HLF := hid HND.out.2
      clear HN HND
      obtain ⟨ND, hND⟩ : ∃ ND, node ⟨onm, (m : Nat)⟩ V = ND := ⟨_, rfl⟩
      have HNDe : Hid (node ⟨onm, (m : Nat)⟩ V = ND) := hND
      rw [hND] at hN
      have HN := hid hN
      obtain ⟨da, dc, hdv, _⟩ := own_cells hN
      have hdv2 : _ = Value.slice da ND.length dc := hdv
      subst hdv2
      clear hN hND
      by_cases h64 : 64 < ND.length
      · have HO6 : Hid (out = .stop 6) := by
          show _ = _
          rw [← HOUT.out]
          unfold one
          simp only [HNDe.out]
          rw [if_neg (by decide), if_pos h64]
        have h64i : (64 : Int) < (ND.length : Int) := by omega
        have d0 := HMr.out.b0.cell (i := 0) rfl
        have d2 := HMr.out.b0.cell (i := 2) rfl
        have d3 := HMr.out.b0.cell (i := 3) rfl
        clear HOUT HNDe HLF
        have hpY := HMr.out.b1
        have a0 := hpY.cell (i := 0) rfl
        have z0 := hpY.free 0
        have p1 := hpY.set 0 (.slice (some ⟨g, off, none⟩) (A.length + 1) oc)
        have a1 := p1.cell (i := 1) rfl
        have z1 := p1.free 1
        have p2 := p1.set 1 (.slice va V.length vc)
        have a2 := p2.cell (i := 2) rfl
        have z2 := p2.free 2
        have p3 := p2.set 2 (.int .i64 n)
        have a3 := p3.cell (i := 3) rfl
        have z3 := p3.free 3
        obtain ⟨hD, hg⟩ := set4 hpY (.slice (some ⟨g, off, none⟩) (A.length + 1) oc) (.slice va V.length vc) (.int .i64 n) (.slice ha S.length hc)
        have e0 := hD.cell (i := 0) rfl
        have e1 := hD.cell (i := 1) rfl
        have e2 := hD.cell (i := 2) rfl
        have e3 := hD.cell (i := 3) rfl
        have HBF := hid (HMr.out.low.grown hg HMr.out.low.size (fun k hk => by cases hk; omega))
        go_wp2_with fail
        try simp only [Exit.inBlock, Exit.then]
        exact bodyPost_ret (v := .tuple #[.agg #[.slice (some ⟨g, off, none⟩) (A.length + 1) oc, .slice va V.length vc, .int .i64 n, .slice ha S.length hc], .int .i64 (f), .int .i64 6]) (by simp [results, Tryz.results82, go_sem, e0, e1, e2, e3]) rfl ⟨by rw [HO6.out]; rfl, HBF.out⟩
      · have h64i : ¬ (64 : Int) < (ND.length : Int) := by omega
        have hGN : grd ND = true := by
          rw [← HNDe.out]
          exact node_grd HKD.out (by simp) (by simp; omega) HZV.out (by simpa using hmV) (by rw [HNDe.out]; omega)
        have hFN : Fine ND := fine_check (grd_iff.1 hGN).1
        have HGN := hid hGN
        have hnl : (ND.length : Int) ≤ 64 := by omega
        have HLN := hid (Owns.lies HN.out hFN)
        have hqn : (q : Int) ≤ (V.length : Int) := by omega
        have hvcap : V.length ≤ vc ∧ vc ≤ 9223372036854775807 := by
          obtain ⟨_, _, e, h1, h2, _⟩ := HT.out
          simp only [Value.slice.injEq] at e
          obtain ⟨_, _, e3⟩ := e
          unfold maxLen at h2
          omega
        have hca : ∀ w1, Below w.heap.size w w1 → _ := fun w1 hb => copyAllW_any w1 _ (V.take q) ((HT.out.on hb).front (k := q) hqV) (by rw [List.length_take]; omega) (fun l hl => by have := (grd_small (HZV.out l (List.mem_of_mem_take hl))).1; omega)
        have hkn : ∀ w1, Below wr.heap.size wr w1 → _ := fun w1 hb => known_any w1 _ ms ((HM.out.on HMr.out.low).on hb) _ ND (HLN.out.on hb)
        have htq : (V.take q).length = q := by rw [List.length_take]; omega
        cases hK : knownI ms ND with
        | some k =>
          exfalso
          have := HKN0.out
          rw [HNDe.out, hK] at this
          cases this
        | none =>
          have hKZ : knownZ ms ND = -1 := by unfold knownZ; rw [hK]
          rw [hKZ] at hkn
          have hjo : ∀ w1, Below w.heap.size w w1 → _ := fun w1 hb => rjoin_any (w1.alloc (.cells #[.string onm] 9)) _ _ S [onm] ((HS.out.on hb).on (bel_al _ _)) (liesS_lit w1 onm) (fun i => by
            have := (HHD.out.many (M := [onm].take i) (fun x hx => by have := List.mem_of_mem_take hx; simp at this; subst this; exact HKD.out)).len
            omega)
          have hjn : jn S [onm] = jn1 S onm := rfl
          rw [hjn] at hjo
          have hfi : ∀ w1, Below wr.heap.size wr w1 → _ := fun w1 hb => rfirst_any w1 _ rs ((HR.out.on HMr.out.low).on hb) HOK.out _ ND (HLN.out.on hb) (grd_iff.1 HGN.out).1
          have HTN : Hid (tbM ms ND = none) := by show _ = _; unfold tbM; rw [hK]; rfl
          clear hK hKZ hjn HTB
          cases hF : firstI rs ND with
          | none =>
            have HO1 : Hid (out = .go ⟨A.reverse, V.take q ++ [ND], n, jn1 S onm, f⟩) := by
              show _ = _
              rw [← HOUT.out]
              unfold one
              simp only [HNDe.out, HLF.out]
              rw [if_neg (by decide), if_neg h64, HTN.out, firstI_none hF]
            clear HOUT HNDe HLF HTN
            go_upto_region 20 with (first
              | (go_at_call 43; refine (hca _ HMr.out.low).mono ?_; clear hca; rintro e w2 ⟨kv, rfl, ho2, hb2⟩; have HK2 := hid (ho2.base HMr.out.size); obtain ⟨ka, kc, hkv, _⟩ := ho2.form; rw [htq] at hkv; subst hkv; have HM2 := hid (HMr.out.on hb2); have HB2 := hid hb2; clear hb2 ho2)
              | (go_at_call 106; refine (hkn _ HB2.out).mono ?_; clear hkn; rintro e w3 ⟨rfl, hb3⟩; have HM3 := hid (HM2.out.on hb3); have HK3 := hid (HK2.out.on hb3); have HB3 := hid (HB2.out.trans (hb3.mono HB2.out.size)); have u3 := HM3.out.b0.cell (i := 3) rfl; have u4 := HM3.out.b2.cell (i := 1) rfl; clear hb3 HM2 HK2 HB2)
              | (go_at_call 107; refine (hjo _ HM3.out.low).mono ?_; clear hjo; rintro e w4 ⟨jv, rfl, ho4, hb4⟩; have A4 := bel_al w3 (.cells #[.string onm] 9); have B4 := A4.trans (hb4.mono A4.size); have HM4 := hid (HM3.out.on B4); have HK4 := hid (HK3.out.on B4); have HJ4 : Hid (OwnsS w4 (w.heap.size + 1 + 1 + 1) jv (jn1 S onm)) := own_base ho4 (Nat.le_trans HM3.out.size A4.size); have HB4 := hid (HB3.out.trans (B4.mono HB3.out.size)); obtain ⟨ja, jc, hjv⟩ := OwnsS.form ho4; subst hjv; clear u3 u4 A4 B4 hb4 ho4 HM3 HK3 HB3)
              | (go_at_call 53; refine (hfi _ HB4.out).mono ?_; clear hfi; rintro e w5 ⟨hcase, hb5⟩; obtain ⟨_, rfl⟩ : firstI rs ND = none ∧ e = _ := (by rcases hcase with h | ⟨k, b, bv, h, _⟩; exact h; rw [hF] at h; cases h); have HM5 := hid (HM4.out.on hb5); have HK5 := hid (HK4.out.on hb5); have HJ5 := hid (own_below HJ4.out hb5); have HB5 := hid (HB4.out.trans (hb5.mono HB4.out.size)); clear hb5 HM4 HK4 HJ4 HB4))
            obtain ⟨vs, hrow0, hel⟩ := HK5.out
            have hrow : w5.ownsRow (w.heap.size + 1 + 1 + 1) 23 1 (.slice ka q kc) q vs := by have := hrow0; rw [htq] at this; exact this
            have HROW := hid hrow
            have HR6 := hid (hrow.alloc (.cells #[.slice da ND.length dc] 23))
            have HM6 := hid (HM5.out.on (bel_al w5 (.cells #[.slice da ND.length dc] 23)))
            have HNO := hid (own_below HN.out HB5.out)
            have HEL := hid hel
            have hsz6 := HM6.out.size
            have u2 := HM6.out.b0.cell (i := 2) rfl
            clear hrow0 hrow hel u2
            go_wp2_with (at_builtin; refine wpList_append_own_wide _ rfl _ _ 25 rfl (w.heap.size + 1 + 1 + 1) 23 i1 (.slice none 0 0) 1 24 Tryz.underlying25 hi1 hy0 hy1 hy2 rfl (by decide) _ q vs rfl HR6.out ⟨w5.heap.size, 0, none⟩ 1 1 [.slice da ND.length dc] rfl rfl (one_cell w5 _ _) ?k1 ?k2 ?k3 ?k4 ?_)
            case k1 => first | rfl | (intro u hu; simp at hu; subst hu; rfl)
            case k2 => unfold maxLen; omega
            case k3 => exact val_lim (by omega)
            case k4 => exact hsz6
            intro v' w7 hown' hgrow _
            have HM7 := hid (HM6.out.grow hgrow (fun k hk => (HROW.out.lt k hk).1))
            obtain ⟨na, nc, hnv, _⟩ := own_cells hown'
            have hnv2 : v' = .slice na (q + 1) nc := hnv
            subst hnv2
            have u2 := HM7.out.b0.cell (i := 2) rfl
            have hpY := HM7.out.b1
            have a0 := hpY.cell (i := 0) rfl
            have z0 := hpY.free 0
            have p1 := hpY.set 0 (.slice (some ⟨g, off, none⟩) A.length oc)
            have a1 := p1.cell (i := 1) rfl
            have z1 := p1.free 1
            have p2 := p1.set 1 (.slice na (q + 1) nc)
            have a2 := p2.cell (i := 2) rfl
            have z2 := p2.free 2
            have p3 := p2.set 2 (.int .i64 n)
            have a3 := p3.cell (i := 3) rfl
            have z3 := p3.free 3
            obtain ⟨hD, hg⟩ := set4 hpY (.slice (some ⟨g, off, none⟩) A.length oc) (.slice na (q + 1) nc) (.int .i64 n) (.slice ja (jn1 S onm).length jc)
            have e0 := hD.cell (i := 0) rfl
            have e1 := hD.cell (i := 1) rfl
            have e2 := hD.cell (i := 2) rfl
            have e3 := hD.cell (i := 3) rfl
            have HBF := hid (HM7.out.low.grown hg HM7.out.low.size (fun k hk => by cases hk; omega))
            have HPOST : Hid (LT B ((((w7.setCell ⟨w.heap.size + 1, 0, none⟩ (.slice (some ⟨g, off, none⟩) A.length oc)).setCell ⟨w.heap.size + 1, 1, none⟩ (.slice na (q + 1) nc)).setCell ⟨w.heap.size + 1, 2, none⟩ (.int .i64 n)).setCell ⟨w.heap.size + 1, 3, none⟩ (.slice ja (jn1 S onm).length jc)) (.agg #[.slice (some ⟨g, off, none⟩) A.length oc, .slice na (q + 1) nc, .int .i64 n, .slice ja (jn1 S onm).length jc]) ⟨A, V.take q ++ [ND], n, jn1 S onm⟩) := by
              have hBF := HBF.out
              have hl1 : (V.take q ++ [ND]).length = q + 1 := by rw [List.length_append, htq]; rfl
              have st : ∀ {B e size : Nat} {v : Value} {k : Nat} {xs : List Value}, w5.ownsRow B e size v k xs → e ≠ 23 → e ≠ 28 → World.ownsRow ((((w7.setCell ⟨w.heap.size + 1, 0, none⟩ (.slice (some ⟨g, off, none⟩) A.length oc)).setCell ⟨w.heap.size + 1, 1, none⟩ (.slice na (q + 1) nc)).setCell ⟨w.heap.size + 1, 2, none⟩ (.int .i64 n)).setCell ⟨w.heap.size + 1, 3, none⟩ (.slice ja (jn1 S onm).length jc)) B e size v k xs := fun h h1 h2 => row_blk (own_apart7 (h.alloc _) HR6.out h1 hgrow) HM7.out.b1 h2 hg
              refine ⟨some ⟨g, off, none⟩, oc, na, nc, ja, jc, by rw [hl1], OpsV.on HLO.out.front hBF (fun x l hx => hx.on (K7.of hBF hB0)), ?_, own_base (st HJ5.out (by decide) (by decide)) (Nat.zero_le _)⟩
              rw [hl1]
              refine ValsV.more (V := fun x l => VL B ((((w7.setCell ⟨w.heap.size + 1, 0, none⟩ (.slice (some ⟨g, off, none⟩) A.length oc)).setCell ⟨w.heap.size + 1, 1, none⟩ (.slice na (q + 1) nc)).setCell ⟨w.heap.size + 1, 2, none⟩ (.int .i64 n)).setCell ⟨w.heap.size + 1, 3, none⟩ (.slice ja (jn1 S onm).length jc)) x l) (vs := vs) (K := V.take q) (ns := [.slice da ND.length dc]) (N := [ND]) (by rw [htq]; exact row_len HROW.out) (fun i l hi => ?_) (fun i l hi => ?_) (by rw [htq]; exact own_base (row_blk hown' HM7.out.b1 (by decide) hg) (Nat.zero_le _)) (fun _ _ h => h)
              · obtain ⟨x, q1, q2⟩ := HEL.out i l hi
                obtain ⟨xa', xc', hxv', _⟩ := own_cells q2
                exact ⟨x, q1, by rw [hxv']; rfl, VL.own (st q2 (by decide) (by decide)) (fine_check (grd_iff.1 (HZV.out l (List.mem_of_mem_take (List.mem_of_getElem? hi)))).1)⟩
              · obtain ⟨rfl, rfl⟩ := one_get hi
                exact ⟨_, rfl, rfl, VL.own (st HNO.out (by decide) (by decide)) hFN⟩
            clear HR6 hown' hgrow HM6 HROW HEL HNO hD hg hpY p1 p2 p3
            go_wp2_with fail
            try simp only [Exit.inBlock, Exit.then]
            exact bodyPost_ret (v := .tuple #[.agg #[.slice (some ⟨g, off, none⟩) A.length oc, .slice na (q + 1) nc, .int .i64 n, .slice ja (jn1 S onm).length jc], .int .i64 (f), .int .i64 0]) (by simp [results, Tryz.results82, go_sem, e0, e1, e2, e3]) rfl ⟨by rw [HO1.out]; exact ⟨_, rfl, by simpa [Cf.stt] using HPOST.out⟩, HBF.out⟩
          | some p =>
            obtain ⟨ri, bs⟩ := p
            obtain ⟨r, hri, hmt⟩ := firstI_some hF
            have hfR : firstR rs ND = some (r.r, bs) := by
              rw [firstI_R, hF]
              simp only [Option.bind_some, hri, Option.map_some]
            by_cases hf0 : f ≤ 0
            · have HO14 : Hid (out = .stop 14) := by
                show _ = _
                rw [← HOUT.out]
                unfold one
                simp only [HNDe.out, HLF.out]
                rw [if_neg (by decide), if_neg h64, HTN.out, hfR]
                simp only
                rw [if_pos hf0]
              clear HOUT HNDe HLF HTN hfR hmt hri
              go_upto_region 20 with (first
                | (go_at_call 43; refine (hca _ HMr.out.low).mono ?_; clear hca; rintro e w2 ⟨kv, rfl, ho2, hb2⟩; have HK2 := hid (ho2.base HMr.out.size); obtain ⟨ka, kc, hkv, _⟩ := ho2.form; rw [htq] at hkv; subst hkv; have HM2 := hid (HMr.out.on hb2); have HB2 := hid hb2; clear hb2 ho2)
                | (go_at_call 106; refine (hkn _ HB2.out).mono ?_; clear hkn; rintro e w3 ⟨rfl, hb3⟩; have HM3 := hid (HM2.out.on hb3); have HK3 := hid (HK2.out.on hb3); have HB3 := hid (HB2.out.trans (hb3.mono HB2.out.size)); have u3 := HM3.out.b0.cell (i := 3) rfl; have u4 := HM3.out.b2.cell (i := 1) rfl; clear hb3 HM2 HK2 HB2)
                | (go_at_call 107; refine (hjo _ HM3.out.low).mono ?_; clear hjo; rintro e w4 ⟨jv, rfl, ho4, hb4⟩; have A4 := bel_al w3 (.cells #[.string onm] 9); have B4 := A4.trans (hb4.mono A4.size); have HM4 := hid (HM3.out.on B4); have HK4 := hid (HK3.out.on B4); have HJ4 : Hid (OwnsS w4 (w.heap.size + 1 + 1 + 1) jv (jn1 S onm)) := own_base ho4 (Nat.le_trans HM3.out.size A4.size); have HB4 := hid (HB3.out.trans (B4.mono HB3.out.size)); obtain ⟨ja, jc, hjv⟩ := OwnsS.form ho4; subst hjv; clear u3 u4 A4 B4 hb4 ho4 HM3 HK3 HB3)
                | (go_at_call 53; refine (hfi _ HB4.out).mono ?_; clear hfi; rintro e w5 ⟨hcase, hb5⟩; obtain ⟨bv, rfl, hob⟩ : ∃ bv, e = .returned (.tuple #[.int .i64 (ri : Int), bv]) ∧ OwnsB w5 w4.heap.size bv bs := (by rcases hcase with ⟨h, _⟩ | ⟨k, b, bv, h, h2, h3⟩; (rw [hF] at h; cases h); (rw [hF] at h; cases h; exact ⟨bv, h2, h3⟩)); have HOB := hid hob; obtain ⟨bva, bvc, hbvv, _⟩ := hob.form; subst hbvv; clear hcase hob; have HM5 := hid (HM4.out.on hb5); have HK5 := hid (HK4.out.on hb5); have HJ5 := hid (own_below HJ4.out hb5); have HB5 := hid (HB4.out.trans (hb5.mono HB4.out.size)); clear hb5 HM4 HK4 HJ4 HB4))
              have hri0 : ¬ (ri : Int) < 0 := by omega
              have d0 := HM5.out.b0.cell (i := 0) rfl
              have d2 := HM5.out.b0.cell (i := 2) rfl
              have d3 := HM5.out.b0.cell (i := 3) rfl
              have d1 := HM5.out.b0.cell (i := 1) rfl
              have hpY := HM5.out.b1
              have a0 := hpY.cell (i := 0) rfl
              have z0 := hpY.free 0
              have p1 := hpY.set 0 (.slice (some ⟨g, off, none⟩) (A.length + 1) oc)
              have a1 := p1.cell (i := 1) rfl
              have z1 := p1.free 1
              have p2 := p1.set 1 (.slice va V.length vc)
              have a2 := p2.cell (i := 2) rfl
              have z2 := p2.free 2
              have p3 := p2.set 2 (.int .i64 n)
              have a3 := p3.cell (i := 3) rfl
              have z3 := p3.free 3
              obtain ⟨hD, hg⟩ := set4 hpY (.slice (some ⟨g, off, none⟩) (A.length + 1) oc) (.slice va V.length vc) (.int .i64 n) (.slice ha S.length hc)
              have e0 := hD.cell (i := 0) rfl
              have e1 := hD.cell (i := 1) rfl
              have e2 := hD.cell (i := 2) rfl
              have e3 := hD.cell (i := 3) rfl
              have HBF := hid (HM5.out.low.grown hg HM5.out.low.size (fun k hk => by cases hk; omega))
              go_wp2_with fail
              try simp only [Exit.inBlock, Exit.then]
              exact bodyPost_ret (v := .tuple #[.agg #[.slice (some ⟨g, off, none⟩) (A.length + 1) oc, .slice va V.length vc, .int .i64 n, .slice ha S.length hc], .int .i64 (f), .int .i64 14]) (by simp [results, Tryz.results82, go_sem, e0, e1, e2, e3]) rfl ⟨by rw [HO14.out]; rfl, HBF.out⟩
            · have HO1 : Hid (out = .go ⟨todo bs r.r ++ A.reverse, V.take q, inc n, jn1 S onm, f - 1⟩) := by
                show _ = _
                rw [← HOUT.out]
                unfold one
                simp only [HNDe.out, HLF.out]
                rw [if_neg (by decide), if_neg h64, HTN.out, hfR]
                simp only
                rw [if_neg hf0]
              clear HOUT HNDe HLF HTN hfR
              go_upto_region 20 with (first
                | (go_at_call 43; refine (hca _ HMr.out.low).mono ?_; clear hca; rintro e w2 ⟨kv, rfl, ho2, hb2⟩; have HK2 := hid (ho2.base HMr.out.size); obtain ⟨ka, kc, hkv, _⟩ := ho2.form; rw [htq] at hkv; subst hkv; have HM2 := hid (HMr.out.on hb2); have HB2 := hid hb2; clear hb2 ho2)
                | (go_at_call 106; refine (hkn _ HB2.out).mono ?_; clear hkn; rintro e w3 ⟨rfl, hb3⟩; have HM3 := hid (HM2.out.on hb3); have HK3 := hid (HK2.out.on hb3); have HB3 := hid (HB2.out.trans (hb3.mono HB2.out.size)); have u3 := HM3.out.b0.cell (i := 3) rfl; have u4 := HM3.out.b2.cell (i := 1) rfl; clear hb3 HM2 HK2 HB2)
                | (go_at_call 107; refine (hjo _ HM3.out.low).mono ?_; clear hjo; rintro e w4 ⟨jv, rfl, ho4, hb4⟩; have A4 := bel_al w3 (.cells #[.string onm] 9); have B4 := A4.trans (hb4.mono A4.size); have HM4 := hid (HM3.out.on B4); have HK4 := hid (HK3.out.on B4); have HJ4 : Hid (OwnsS w4 (w.heap.size + 1 + 1 + 1) jv (jn1 S onm)) := own_base ho4 (Nat.le_trans HM3.out.size A4.size); have HB4 := hid (HB3.out.trans (B4.mono HB3.out.size)); obtain ⟨ja, jc, hjv⟩ := OwnsS.form ho4; subst hjv; clear u3 u4 A4 B4 hb4 ho4 HM3 HK3 HB3)
                | (go_at_call 53; refine (hfi _ HB4.out).mono ?_; clear hfi; rintro e w5 ⟨hcase, hb5⟩; obtain ⟨bv, rfl, hob⟩ : ∃ bv, e = .returned (.tuple #[.int .i64 (ri : Int), bv]) ∧ OwnsB w5 w4.heap.size bv bs := (by rcases hcase with ⟨h, _⟩ | ⟨k, b, bv, h, h2, h3⟩; (rw [hF] at h; cases h); (rw [hF] at h; cases h; exact ⟨bv, h2, h3⟩)); have HOB := hid hob; obtain ⟨bva, bvc, hbvv, _⟩ := hob.form; subst hbvv; clear hcase hob; have HM5 := hid (HM4.out.on hb5); have HK5 := hid (HK4.out.on hb5); have HJ5 := hid (own_below HJ4.out hb5); have HB5 := hid (HB4.out.trans (hb5.mono HB4.out.size)); clear hb5 HM4 HK4 HJ4 HB4))
              have hri0 : ¬ (ri : Int) < 0 := by omega
              have hck := HOK.out r (List.mem_of_getElem? hri)
              obtain ⟨_, _, hcr, h8, _⟩ := chk_zero hck
              have HCK := hid hck
              have HMT := hid hmt
              have hlooks : Looks bs r.r := fun c hc => by
                obtain ⟨q1, q2⟩ := rule_looks hck hmt HGN.out c hc
                exact ⟨fun hv => by obtain ⟨v, v1, v2⟩ := q1 hv; exact ⟨v, v1, (grd_iff.1 v2).1⟩, q2⟩
              have hmf := (mt_facts hmt).2.1
              have HLB := hid (HOB.out.lies (fun b hb => ⟨fine_check (hmf b hb).1, by have := nm_size (hmf b hb).2; omega⟩))
              obtain ⟨T, hT⟩ : ∃ T, (todo bs r.r).reverse = T := ⟨_, rfl⟩
              have hTl : T.length ≤ 8 ∧ 0 < T.length := by
                rw [← hT, List.length_reverse, todo_len]
                obtain ⟨c0, L0, e⟩ := check_cons hcr
                exact ⟨h8.2, by rw [e]; simp⟩
              obtain ⟨gr, offr, xr, yr, hra, hgrl, _, _, k2, _, hly⟩ := (HR.out.on HM5.out.low).at hri
              subst hra
              obtain ⟨os, hol, hosrow, hosel⟩ := HLO.out.front
              have hoscell : ∀ j u, (flatO os)[j]? = some u → w.cell? ((⟨g, off, none⟩ : Addr).add j) = some u := fun j u hj => by
                obtain ⟨a', c', hv', _, _, hc3⟩ := own_cells hosrow
                obtain ⟨g', ha', _, _, hc'⟩ := hc3 j u hj
                simp only [Value.slice.injEq] at hv'
                obtain ⟨e1, _, _⟩ := hv'
                rw [ha'] at e1
                cases e1
                rw [add_plain, Nat.zero_add]
                exact hc'
              have hosone : ∀ u ∈ flatO os, u.oneCell' = true := fun u hu => flatO_one os (fun o ho => by
                obtain ⟨i, hi'⟩ := List.getElem?_of_mem ho
                have hil := (List.getElem?_eq_some_iff.1 hi').1
                obtain ⟨x, q1, q2, _⟩ := hosel i _ (List.getElem?_eq_getElem (by rw [← hol]; exact hil))
                rw [hi'] at q1
                cases q1
                exact q2) u hu
              have hsrc5 : ∀ j u, (flatO os)[j]? = some u → w5.cell? ((⟨g, off, none⟩ : Addr).add j) = some u := fun j u hj => by
                have := hoscell j u hj
                rw [add_plain] at this ⊢
                exact (HM5.out.low.cell (p := ⟨g, off + j, none⟩) hgl).trans this
              have hril := (List.getElem?_eq_some_iff.1 hri).1
              have hrii : (ri : Int) < (rs.length : Int) := by omega
              have HSRC5 := hid hsrc5
              have HOSEL := hid hosel
              have HONE := hid hosone
              have HOL := hid hol
              have HTT := hid hT
              have HLY := hid hly
              have hrn : w5.ownsRow w5.heap.size 71 4 (.slice none 0 0) 0 [] := World.ownsRow_nil _ _ _ _
              have HRN := hid hrn
              have htd : ∀ w1, Below w5.heap.size w5 w1 → _ := fun w1 hb => rtodo_any w1 yr r.r (HLY.out.on hb) hcr _ bs (HLB.out.on hb) hlooks
              obtain ⟨ya, yc, hyv, _⟩ := hly
              subst hyv
              have HR56 := hid k2
              clear hsrc5 hosel hosone hol hoscell hosrow hT hri hck hmf hF hmt hrn
              go_wp2_with (at_builtin; refine wpList_append_own_wide _ rfl _ _ 24 rfl w5.heap.size 71 i7 (.agg #[.int .i64 0, .string ⟨#[]⟩, .int .i64 0, .slice none 0 0]) 4 56 Tryz.underlying24 hi7 hv0 hv1 hv2 rfl (by decide) _ 0 [] rfl HRN.out ⟨g, off, none⟩ A.length oc (flatO os) rfl (by rw [flatO_length, HOL.out]) HSRC5.out HONE.out ?k1 ?k2 ?k3 ?_)
              case k1 => unfold maxLen; omega
              case k2 => exact op_lim (by omega)
              try (case k3 => exact Nat.le_refl _)
              intro v6 w6 hown6 hgrow6 _
              try simp only [Nat.zero_add, List.nil_append] at hown6
              have b6 : Below w5.heap.size w5 w6 := (Below.refl _ _).grown hgrow6 (Nat.le_refl _) (fun k hk => by cases hk)
              have HB6 := hid b6
              have k26 := (b6.cell (p := ⟨gr, offr + ri * 3 + 2, none⟩) (Nat.lt_of_lt_of_le hgrl (Nat.le_refl _))).trans HR56.out
              obtain ⟨n6, c6, hv6, _⟩ := own_cells hown6
              have hv62 : v6 = .slice n6 A.length c6 := hv6
              subst hv62
              have HOW6 := hid hown6
              clear hown6 hgrow6 b6 k2
              go_wp2_with (first
                | (go_at_call 33; refine (htd _ HB6.out).mono ?_; clear htd; rintro e w7 ⟨tv7, rfl, ho7, hb7⟩; have htu := turned_any w7 tv7 (todo bs r.r) w6.heap.size ho7 (fun x l hx => by obtain ⟨xa', xc', e, _⟩ := own_cells hx; exact ⟨_, _, _, e⟩) (by rw [todo_len]; omega); rw [HTT.out] at htu; obtain ⟨t7, c7, ht7⟩ := ho7.form; subst ht7; have HB7 := hid (HB6.out.trans (hb7.mono HB6.out.size)); have HOW7 := hid (own_below HOW6.out hb7); clear ho7 hb7 HOW6 HB6)
                | (go_at_call 32; refine htu.mono ?_; clear htu; rintro e w8 ⟨tv8, rfl, ho8, hb8⟩; have HB8 := hid (HB7.out.trans (hb8.mono HB7.out.size)); have HOW8 := hid (own_below HOW7.out hb8); obtain ⟨ts, t0, t1, t2⟩ := ho8; obtain ⟨ta8, tc8, htv8, _, _, tcell⟩ := own_cells t1; have htv82 : tv8 = .slice ta8 T.length tc8 := htv8; subst htv82; obtain ⟨g8, hg8, hsrc8⟩ : ∃ g8, ta8 = some ⟨g8, 0, none⟩ ∧ ∀ j u, (flatO ts)[j]? = some u → w8.cell? ((⟨g8, 0, none⟩ : Addr).add j) = some u := (by obtain ⟨o0, ho0⟩ : ∃ o0, T[0]? = some o0 := ⟨T[0]'hTl.2, List.getElem?_eq_getElem hTl.2⟩; obtain ⟨x0, hx0', _⟩ := t2 0 o0 ho0; obtain ⟨f0, _⟩ := flatO_at ts 0 _ hx0'; obtain ⟨g8, hg8, _⟩ := tcell _ _ f0; refine ⟨g8, hg8, fun j u hj => ?_⟩; obtain ⟨g9, hg9, _, _, hc9⟩ := tcell j u hj; rw [hg8] at hg9; cases hg9; rw [add_plain, Nat.zero_add]; exact hc9); subst hg8; have HT0 := hid t0; have HT2 := hid t2; have HSRC8 := hid hsrc8; have HT1 := hid t1; have HB78 := hid hb8; clear t0 t1 t2 tcell hsrc8 hb8 HOW7 HB7)
                | (at_builtin; refine wpList_append_own_wide _ rfl _ _ 24 rfl w5.heap.size 71 i7 (.agg #[.int .i64 0, .string ⟨#[]⟩, .int .i64 0, .slice none 0 0]) 4 56 Tryz.underlying24 hi7 hv0 hv1 hv2 rfl (by decide) _ A.length (flatO os) rfl HOW8.out ⟨g8, 0, none⟩ T.length tc8 (flatO ts) rfl (by rw [flatO_length, HT0.out]) HSRC8.out (fun u hu => flatO_one ts (fun o ho => by obtain ⟨i, hi'⟩ := List.getElem?_of_mem ho; have hil := (List.getElem?_eq_some_iff.1 hi').1; obtain ⟨x, q1, q2, _⟩ := HT2.out i _ (List.getElem?_eq_getElem (by rw [← HT0.out]; exact hil)); rw [hi'] at q1; cases q1; exact q2) u hu) ?k5 ?k6 ?k7 ?_))
              case k5 => unfold maxLen; omega
              case k6 => exact op_lim (by omega)
              case k7 => exact HB8.out.size
              intro v9 w9 hown9 hgrow9 _
              have B9 : Below w5.heap.size w5 w9 := HB8.out.grown hgrow9 HB8.out.size (fun k hk => (HOW8.out.lt k hk).1)
              have HM9 := hid (HM5.out.on B9)
              obtain ⟨na, nc, hnv, _⟩ := own_cells hown9
              have hnv2 : v9 = .slice na (A.length + T.length) nc := hnv
              subst hnv2
              have u2 := HM9.out.b0.cell (i := 2) rfl
              have hpY := HM9.out.b1
              have a0 := hpY.cell (i := 0) rfl
              have z0 := hpY.free 0
              have p1 := hpY.set 0 (.slice na (A.length + T.length) nc)
              have a1 := p1.cell (i := 1) rfl
              have z1 := p1.free 1
              have p2 := p1.set 1 (.slice ka q kc)
              have a2 := p2.cell (i := 2) rfl
              have z2 := p2.free 2
              have p3 := p2.set 2 (.int .i64 (wrap64 (n + 1)))
              have a3 := p3.cell (i := 3) rfl
              have z3 := p3.free 3
              obtain ⟨hD, hg⟩ := set4 hpY (.slice na (A.length + T.length) nc) (.slice ka q kc) (.int .i64 (wrap64 (n + 1))) (.slice ja (jn1 S onm).length jc)
              have e0 := hD.cell (i := 0) rfl
              have e1 := hD.cell (i := 1) rfl
              have e2 := hD.cell (i := 2) rfl
              have e3 := hD.cell (i := 3) rfl
              have HBF := hid (HM9.out.low.grown hg HM9.out.low.size (fun k hk => by cases hk; omega))
              have HPOST : Hid (LT B ((((w9.setCell ⟨w.heap.size + 1, 0, none⟩ (.slice na (A.length + T.length) nc)).setCell ⟨w.heap.size + 1, 1, none⟩ (.slice ka q kc)).setCell ⟨w.heap.size + 1, 2, none⟩ (.int .i64 (wrap64 (n + 1)))).setCell ⟨w.heap.size + 1, 3, none⟩ (.slice ja (jn1 S onm).length jc)) (.agg #[.slice na (A.length + T.length) nc, .slice ka q kc, .int .i64 (wrap64 (n + 1)), .slice ja (jn1 S onm).length jc]) ⟨A ++ T, V.take q, wrap64 (n + 1), jn1 S onm⟩) := by
                have hBF := HBF.out
                have st : ∀ {B e size : Nat} {v : Value} {k : Nat} {xs : List Value}, w5.ownsRow B e size v k xs → e ≠ 28 → World.ownsRow ((((w9.setCell ⟨w.heap.size + 1, 0, none⟩ (.slice na (A.length + T.length) nc)).setCell ⟨w.heap.size + 1, 1, none⟩ (.slice ka q kc)).setCell ⟨w.heap.size + 1, 2, none⟩ (.int .i64 (wrap64 (n + 1)))).setCell ⟨w.heap.size + 1, 3, none⟩ (.slice ja (jn1 S onm).length jc)) B e size v k xs := fun h h2 => row_blk (own_below h B9) HM9.out.b1 h2 hg
                refine ⟨na, nc, ka, kc, ja, jc, by rw [List.length_append, htq], ?_, ?_, own_base (st HJ5.out (by decide)) (Nat.zero_le _)⟩
                · rw [List.length_append]
                  refine OpsV.more (V := VL B w) (os := os) (ns := ts) HOL.out HOSEL.out HT0.out (fun i o hi' => ?_) (own_base (row_blk hown9 HM9.out.b1 (by decide) hg) (Nat.zero_le _)) (fun x l hx => hx.on (K7.of hBF hB0))
                  obtain ⟨x, q1, q2, q3⟩ := HT2.out i o hi'
                  refine ⟨x, q1, q2, VL.own (row_blk (own_apart7 (own_below q3 HB78.out) HOW8.out (by decide) hgrow9) HM9.out.b1 (by decide) hg) ?_⟩
                  exact ((todo_ok HCK.out HMT.out HGN.out).1 o (List.mem_reverse.1 (by rw [HTT.out]; exact List.mem_of_getElem? hi'))).fine
                · obtain ⟨vs, hrow0, hel⟩ := HK5.out
                  rw [htq]
                  refine ⟨vs, own_base (st hrow0 (by decide)) (Nat.zero_le _), fun i l hi' => ?_⟩
                  obtain ⟨x, q1, q2⟩ := hel i l hi'
                  obtain ⟨xa', xc', hxv', _⟩ := own_cells q2
                  exact ⟨x, q1, by rw [hxv']; rfl, VL.own (st q2 (by decide)) (fine_check (grd_iff.1 (HZV.out l (List.mem_of_mem_take (List.mem_of_getElem? hi')))).1)⟩
              clear hown9 hgrow9 hD hg hpY p1 p2 p3 B9 HOW8 HSRC8 HT1 HT2 HSRC5
              go_wp2_with fail
              try simp only [Exit.inBlock, Exit.then]
              exact bodyPost_ret (v := .tuple #[.agg #[.slice na (A.length + T.length) nc, .slice ka q kc, .int .i64 (wrap64 (n + 1)), .slice ja (jn1 S onm).length jc], .int .i64 (f - 1), .int .i64 0]) (by simp [results, Tryz.results82, go_sem, e0, e1, e2, e3]) rfl ⟨by rw [HO1.out]; exact ⟨_, rfl, by simpa [Cf.stt, inc, HTT.out] using HPOST.out⟩, HBF.out⟩


end Go.Proofs.YtgijdhnkkbenoaaGreat
