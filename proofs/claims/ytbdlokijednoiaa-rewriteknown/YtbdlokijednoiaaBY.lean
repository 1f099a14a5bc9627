/-
  What the table of the laws tells: Known.Find.
-/
import Derived.Test.YtbdlokijednoiaaBW
import Derived.Test.YtbdlokijednoiaaBO
namespace Go.Proofs.Ytbdlokijednoiaa
open Go.RowKit
set_option linter.unusedVariables false
set_option linter.unusedSimpArgs false
set_option maxRecDepth 100000

/-- what Find answers -/
def Found (B : Nat) (r : Option (List Cl × List ByteArray)) (e : Ending) (w' : World) : Prop :=
  match r with
  | none => e = .returned (.tuple #[.slice none 0 0, .slice none 0 0, .bool false])
  | some p => ∃ nv hv, e = .returned (.tuple #[nv, hv, .bool true]) ∧ Owns w' B nv p.1 ∧ OwnsS w' B hv p.2

/-- append(own, texts...), the own slice being empty -/
theorem app_heads {u : World} {o : Oper} {a : Act} {K : Act → World → Prop} {Q : Exit → Act → World → Prop} (s x : Operand) (ho : o.op = .call { callee := .builtin .append, args := #[s, x], argTypes := #[34, 34] }) (base b : Nat) (hs : a.eval s = .slice (some ⟨b, 0, none⟩) 0 0) (hown : u.ownsRow base 9 1 (.slice (some ⟨b, 0, none⟩) 0 0) 0 []) (hd : List ByteArray) (za : Option Addr) (zc : Nat) (hx : a.eval x = .slice za hd.length zc) (hl : LiesS u (.slice za hd.length zc) hd) (hnil : za = none → zc = 0) (hlen : hd.length * 16 ≤ 140737488355328) (hbase : base ≤ u.heap.size)
    (h : ∀ v' w', OwnsS w' base v' hd → u.grownBy w' (some b) → K (a.put o.dst v') w') : o.wp Try.prog a u K Q := by
  obtain ⟨i9, hi9, hx0, hx1, hx2⟩ := info_parts info9
  obtain ⟨a', c', hv', h1, h2, hcell⟩ := hl
  cases hv'
  cases za with
  | none =>
    have hd0 : hd = [] := by
      cases hh : hd with
      | nil => rfl
      | cons y r =>
        exfalso
        obtain ⟨b', o', e, _⟩ := hcell 0 y (by rw [hh]; rfl)
        cases e
    have hz0 := hnil rfl
    subst hd0 hz0
    have hrun := run_append_owned_none (P := Try.prog) (w := u) base 34 o.type 9 i9 1 Try.underlying34 hi9 _ 0 [] hown
    have hK := h (.slice (some ⟨b, 0, none⟩) 0 0) u hown ⟨rfl, rfl, rfl, Nat.le_refl _, fun _ _ _ => rfl⟩
    unfold Oper.wp
    simp only [List.length_nil] at hx
    simp [execOp, ho, resolve, invoke, builtin, hs, hx, hrun, Result.andThen]
    exact hK
  | some ad =>
    refine wp_append_own_wide u s x 34 ho base 9 i9 (.string ⟨#[]⟩) 1 16 Try.underlying34 hi9 hx0 hx1 hx2 rfl (by decide) _ 0 [] hs hown ad hd.length zc (hd.map Value.string) hx (by simp) (fun j v hj => ?_) (fun v hv => by simp only [List.mem_map] at hv; obtain ⟨_, _, rfl⟩ := hv; rfl) (by unfold maxLen; omega) (by rw [Nat.zero_add]; exact wide_of (by omega) (by decide)) hbase (fun v' w' h3 h4 _ => h v' w' (by simpa [OwnsS] using h3) h4)
    cases hy : hd[j]? with
    | none => rw [List.getElem?_map, hy] at hj; cases hj
    | some y =>
      rw [List.getElem?_map, hy] at hj
      cases hj
      obtain ⟨b', o', e, _, h6⟩ := hcell j y hy
      cases e
      rw [add_plain]
      exact h6

set_option maxHeartbeats 4000000 in
theorem find_any (w : World) (mv : Value) (ms : List Mm) (hm : LiesM w mv ms) (hmn : ∀ x ∈ ms, x.n.length * 24 ≤ 140737488355328) (hmh : ∀ x ∈ ms, x.h.length * 16 ≤ 140737488355328) (hmz : ∀ g off n c, mv = .slice (some ⟨g, off, none⟩) n c → ∀ i < n, ∀ k cc, w.cell? ⟨g, off + i * 3 + 2, none⟩ = some (.slice none k cc) → cc = 0) (tv : Value) (T : List Cl) (hT : Lies w tv T) :
    Calls Try.prog 116 #[.agg #[mv], tv] w fun e w' => Found w.heap.size (tbM ms T) e w' ∧ Below w.heap.size w w' := by
  obtain ⟨i9, hi9, hx0, hx1, hx2⟩ := info_parts info9
  have HM := hid hm
  obtain ⟨ma, mc, hmv, _⟩ := id hm
  subst hmv
  obtain ⟨ta, tc, htv, _⟩ := id hT
  subst htv
  have HB0 : Hid (Below w.heap.size w (w.alloc (.cells #[.slice ma ms.length mc] 44))) := (Below.refl _ w).alloc (Nat.le_refl _) _
  have hX0 : Blk (w.alloc (.cells #[.slice ma ms.length mc] 44)) w.heap.size #[.slice ma ms.length mc] 44 := Blk.made _ _ _
  have c0 := hX0.cell (i := 0) rfl
  have HX0 := hid hX0
  have hkn := known_any (w.alloc (.cells #[.slice ma ms.length mc] 44)) _ ms (hm.on HB0.out) _ T (hT.on HB0.out)
  cases hK : knownI ms T with
  | none =>
    have hKZ : knownZ ms T = -1 := by unfold knownZ; rw [hK]
    rw [hKZ] at hkn
    have HTN : Hid (tbM ms T = none) := by show _ = _; unfold tbM; rw [hK]; rfl
    clear hK hKZ hm hT hX0
    go_enter Try.func116, Try.ntmps116
    go_wp2_with (go_at_call 117; refine hkn.mono ?_; clear hkn; rintro e w1 ⟨rfl, hb1⟩; have HB1 := hid (HB0.out.trans (hb1.mono HB0.out.size)); clear hb1)
    try simp only [Exit.inBlock, Exit.then]
    exact bodyPost_ret (v := .tuple #[.slice none 0 0, .slice none 0 0, .bool false]) (by simp [results, Try.results116, go_sem]) rfl ⟨by rw [HTN.out]; rfl, HB1.out⟩
  | some kk =>
    obtain ⟨mk, hmk, _⟩ := knownI_get hK
    have HTN : Hid (tbM ms T = some (mk.n, mk.h)) := by show _ = _; unfold tbM; rw [hK]; simp [hmk]
    have hKZ : knownZ ms T = (kk : Int) := by unfold knownZ; rw [hK]
    rw [hKZ] at hkn
    obtain ⟨gm, om, xm, ym, zm, hma, hgml, _, k1, k2, _, hly, hlz⟩ := HM.out.at hmk
    subst hma
    have hkk : kk < ms.length := (List.getElem?_eq_some_iff.1 hmk).1
    have hkki : (kk : Int) < (ms.length : Int) := by omega
    have hkk0 : (0 : Int) ≤ (kk : Int) := by omega
    have hkk1 : ¬ (kk : Int) < 0 := by omega
    have hnm := hmn mk (List.mem_of_getElem? hmk)
    have hhm := hmh mk (List.mem_of_getElem? hmk)
    have HLY := hid hly
    have HLZ := hid hlz
    have hcm : ∀ w1, Below w.heap.size w w1 → _ := fun w1 hb => copy_any w1 ym mk.n (HLY.out.on hb) hnm
    obtain ⟨ya, yc, hyv, _⟩ := id hly
    subst hyv
    obtain ⟨za, zc, hzv, hz1, hz2, hzc⟩ := id hlz
    subst hzv
    have hzn : za = none → zc = 0 := fun e => by subst e; exact hmz gm om _ _ rfl kk hkk _ _ k2
    have HZN := hid hzn
    have HK1 := hid k1
    have HK2 := hid k2
    clear hK hKZ hmk hly hlz k1 k2 hm hT hX0 hmn hmh hmz hzn hzc
    go_enter Try.func116, Try.ntmps116
    go_upto_region 4 with (go_at_call 117; refine hkn.mono ?_; clear hkn; rintro e w1 ⟨rfl, hb1⟩; have HB1 := hid (HB0.out.trans (hb1.mono HB0.out.size)); have HX1 := hid (HX0.out.on hb1 HX0.out.lt); clear hb1 HB0 HX0 c0)
    have hB : Below w.heap.size w w1.drew := HB1.out.drew
    have hX : Blk w1.drew w.heap.size #[.slice (some ⟨gm, om, none⟩) ms.length mc] 44 := HX1.out
    have HC0 := (show (w1.drew.cell? ⟨w.heap.size, 0, none⟩ = some (.slice (some ⟨gm, om, none⟩) ms.length mc) ∧ w1.drew.cell? ⟨gm, om + kk * 3 + 1, none⟩ = some (.slice ya mk.n.length yc) ∧ w1.drew.cell? ⟨gm, om + kk * 3 + 2, none⟩ = some (.slice za mk.h.length zc)) from ⟨hX.cell (i := 0) rfl, (hB.cell (p := ⟨gm, om + kk * 3 + 1, none⟩) hgml).trans HK1.out, (hB.cell (p := ⟨gm, om + kk * 3 + 2, none⟩) hgml).trans HK2.out⟩)
    refine wp_region_m (fun w' => (w'.cell? ⟨w.heap.size, 0, none⟩ = some (.slice (some ⟨gm, om, none⟩) ms.length mc) ∧ w'.cell? ⟨gm, om + kk * 3 + 1, none⟩ = some (.slice ya mk.n.length yc) ∧ w'.cell? ⟨gm, om + kk * 3 + 2, none⟩ = some (.slice za mk.h.length zc))) 100 (by kernel_rfl) ?_
    generalize w1.drew = wd at hB hX HC0 ⊢
    refine wpAnyM_pick (i := 0) (some 14) (v := ?vz1) rfl rfl (by kernel_rfl) (by kernel_rfl) (by kernel_rfl) (by kernel_rfl) (fun _ _ _ h => h) (Or.inl ⟨by rfl, ?hz1⟩) HC0 ?rz1
    case hz1 => intro w hSw; go_simp; try with_reducible rfl
    try simp only [Act.put, List.setIfInBounds_toArray, List.set_cons_zero, List.set_cons_succ]
    refine wpAnyM_pick (i := 1) (some 15) (v := ?vz2) rfl rfl (by kernel_rfl) (by kernel_rfl) (by kernel_rfl) (by kernel_rfl) (fun _ _ _ h => h) (Or.inl ⟨by rfl, ?hz2⟩) HC0 ?rz2
    case hz2 => intro w hSw; go_simp; try with_reducible rfl
    try simp only [Act.put, List.setIfInBounds_toArray, List.set_cons_zero, List.set_cons_succ]
    refine wpAnyM_pick (i := 2) (some 16) (v := ?vz3) rfl rfl (by kernel_rfl) (by kernel_rfl) (by kernel_rfl) (by kernel_rfl) (fun _ _ _ h => h) (Or.inl ⟨by rfl, ?hz3⟩) HC0 ?rz3
    case hz3 => intro w hSw; go_simp; try with_reducible rfl
    try simp only [Act.put, List.setIfInBounds_toArray, List.set_cons_zero, List.set_cons_succ]
    refine wpAnyM_pick (i := 3) (some 17) (v := ?vz4) rfl rfl (by kernel_rfl) (by kernel_rfl) (by kernel_rfl) (by kernel_rfl) (fun _ _ _ h => h) (Or.inl ⟨by rfl, ?hz4⟩) HC0 ?rz4
    case hz4 => intro w hSw; go_simp; try with_reducible rfl
    try simp only [Act.put, List.setIfInBounds_toArray, List.set_cons_zero, List.set_cons_succ]
    refine wpAnyM_pick (i := 4) (some 18) (v := ?vz5) rfl rfl (by kernel_rfl) (by kernel_rfl) (by kernel_rfl) (by kernel_rfl) (fun _ _ _ h => h) (Or.inl ⟨by rfl, ?hz5⟩) HC0 ?rz5
    case hz5 => intro w hSw; go_simp; try with_reducible rfl
    try simp only [Act.put, List.setIfInBounds_toArray, List.set_cons_zero, List.set_cons_succ]
    refine wpAnyM_pick (i := 5) (some 19) (v := ?vz6) rfl rfl (by kernel_rfl) (by kernel_rfl) (by kernel_rfl) (by kernel_rfl) (fun _ _ _ h => h) (Or.inl ⟨by rfl, ?hz6⟩) HC0 ?rz6
    case hz6 => intro w hSw; go_simp; try with_reducible rfl
    try simp only [Act.put, List.setIfInBounds_toArray, List.set_cons_zero, List.set_cons_succ]
    refine wpAnyM_pick (i := 8) (some 22) (v := ?vz7) rfl rfl (by kernel_rfl) (by kernel_rfl) (by kernel_rfl) (by kernel_rfl) (fun _ _ _ h => h) (Or.inl ⟨by rfl, ?hz7⟩) HC0 ?rz7
    case hz7 => intro w hSw; go_simp; try with_reducible rfl
    try simp only [Act.put, List.setIfInBounds_toArray, List.set_cons_zero, List.set_cons_succ]
    refine wpAnyM_pick (i := 9) (some 23) (v := ?vz8) rfl rfl (by kernel_rfl) (by kernel_rfl) (by kernel_rfl) (by kernel_rfl) (fun _ _ _ h => h) (Or.inl ⟨by rfl, ?hz8⟩) HC0 ?rz8
    case hz8 => intro w hSw; go_simp; try with_reducible rfl
    try simp only [Act.put, List.setIfInBounds_toArray, List.set_cons_zero, List.set_cons_succ]
    refine wpAnyM_pick (i := 10) (some 24) (v := ?vz9) rfl rfl (by kernel_rfl) (by kernel_rfl) (by kernel_rfl) (by kernel_rfl) (fun _ _ _ h => h) (Or.inl ⟨by rfl, ?hz9⟩) HC0 ?rz9
    case hz9 => intro w hSw; go_simp; try with_reducible rfl
    try simp only [Act.put, List.setIfInBounds_toArray, List.set_cons_zero, List.set_cons_succ]
    refine wpAnyM_pick (i := 11) (some 25) (v := ?vz10) rfl rfl (by kernel_rfl) (by kernel_rfl) (by kernel_rfl) (by kernel_rfl) (fun _ _ _ h => h) (Or.inl ⟨by rfl, ?hz10⟩) HC0 ?rz10
    case hz10 => intro w hSw; go_simp; try with_reducible rfl
    try simp only [Act.put, List.setIfInBounds_toArray, List.set_cons_zero, List.set_cons_succ]
    refine wpAnyM_pick (i := 12) (some 26) (v := ?vz11) rfl rfl (by kernel_rfl) (by kernel_rfl) (by kernel_rfl) (by kernel_rfl) (fun _ _ _ h => h) (Or.inl ⟨by rfl, ?hz11⟩) HC0 ?rz11
    case hz11 => intro w hSw; go_simp; try with_reducible rfl
    try simp only [Act.put, List.setIfInBounds_toArray, List.set_cons_zero, List.set_cons_succ]
    refine wpAnyM_pick (i := 13) (some 27) (v := ?vz12) rfl rfl (by kernel_rfl) (by kernel_rfl) (by kernel_rfl) (by kernel_rfl) (fun _ _ _ h => h) (Or.inl ⟨by rfl, ?hz12⟩) HC0 ?rz12
    case hz12 => intro w hSw; go_simp; try with_reducible rfl
    try simp only [Act.put, List.setIfInBounds_toArray, List.set_cons_zero, List.set_cons_succ]
    have hp0 := hX.lt
    refine wpAnyM_two (i := 6) (j := 7) (by kernel_rfl) rfl rfl (fun K hK => ?_) (fun K hK => ?_)
    · go_simp
      go_at_call 9
      refine (hcm _ hB).mono ?_
      rintro e u1 ⟨nv, rfl, hN, hb1⟩
      have X1 := hX.on hb1 hX.lt
      have B1 := hB.trans (hb1.mono hB.size)
      have hN1 := own_base hN hB.size
      go_wp2_with fail
      refine hK.out _ _ (fun _ => ⟨X1.cell (i := 0) rfl, (B1.cell (p := ⟨gm, om + kk * 3 + 1, none⟩) hgml).trans HK1.out, (B1.cell (p := ⟨gm, om + kk * 3 + 2, none⟩) hgml).trans HK2.out⟩) ?_
      clear hK K
      try simp only [Act.put, List.setIfInBounds_toArray, List.set_cons_zero, List.set_cons_succ]
      have hp1 := X1.lt
      refine wpAnyM_one (i := 7) (by kernel_rfl) rfl (fun K hK => ?_)
      have A2 := bel_al u1 (.cells #[] 9)
      have X2 := X1.on A2 X1.lt
      have B2 := B1.trans (A2.mono B1.size)
      have P2 : (u1.alloc (.cells #[] 9)).ownsRow w.heap.size 9 1 (.slice (some ⟨u1.heap.size, 0, none⟩) 0 0) 0 [] := ⟨rfl, .inr ⟨u1.heap.size, 0, #[], rfl, B1.size, Blk.made u1 #[] 9, Nat.le_refl _, Nat.zero_le _, rfl, rfl⟩⟩
      have hN2 := own_below hN1 A2
      go_simp
      refine hK.out _ _ (fun _ => ⟨X2.cell (i := 0) rfl, (B2.cell (p := ⟨gm, om + kk * 3 + 1, none⟩) hgml).trans HK1.out, (B2.cell (p := ⟨gm, om + kk * 3 + 2, none⟩) hgml).trans HK2.out⟩) ?_
      clear hK K
      try simp only [Act.put, List.setIfInBounds_toArray, List.set_cons_zero, List.set_cons_succ]
      refine wpAnyM_one (i := 14) (by kernel_rfl) rfl (fun K hK => ?_)
      simp only [List.getElem_toArray, List.getElem_cons_succ, List.getElem_cons_zero]
      rw [if_pos (by rfl)]
      refine app_heads (.tmp 21) (.tmp 27) rfl w.heap.size u1.heap.size rfl P2 mk.h za zc rfl (HLZ.out.on B2) HZN.out hhm B2.size ?_
      intro hv' u3 hH3 hgr3
      have X3 : Blk u3 w.heap.size #[.slice (some ⟨gm, om, none⟩) ms.length mc] 44 := (hgr3.block _ X2.lt (by simp; omega)).trans X2
      have B3 := B2.grown hgr3 B2.size (fun k hk => by cases hk; omega)
      have hN3 := own_apart7 hN2 P2 (by decide) hgr3
      refine hK.out _ _ (fun _ => ⟨X3.cell (i := 0) rfl, (B3.cell (p := ⟨gm, om + kk * 3 + 1, none⟩) hgml).trans HK1.out, (B3.cell (p := ⟨gm, om + kk * 3 + 2, none⟩) hgml).trans HK2.out⟩) ?_
      clear hK K
      try simp only [Act.put, List.setIfInBounds_toArray, List.set_cons_zero, List.set_cons_succ]
      refine wpAnyM_one (i := 15) (by kernel_rfl) rfl (fun K hK => ?_)
      go_simp
      refine hK.out _ _ (fun _ => ⟨X3.cell (i := 0) rfl, (B3.cell (p := ⟨gm, om + kk * 3 + 1, none⟩) hgml).trans HK1.out, (B3.cell (p := ⟨gm, om + kk * 3 + 2, none⟩) hgml).trans HK2.out⟩) ?_
      clear hK K
      try simp only [Act.put, List.setIfInBounds_toArray, List.set_cons_zero, List.set_cons_succ]
      refine wpAnyM_one (i := 16) (by kernel_rfl) rfl (fun K hK => ?_)
      go_simp
      refine hK.out _ _ (fun _ => ⟨X3.cell (i := 0) rfl, (B3.cell (p := ⟨gm, om + kk * 3 + 1, none⟩) hgml).trans HK1.out, (B3.cell (p := ⟨gm, om + kk * 3 + 2, none⟩) hgml).trans HK2.out⟩) ?_
      clear hK K
      try simp only [Act.put, List.setIfInBounds_toArray, List.set_cons_zero, List.set_cons_succ]
      refine wpAnyM_one (i := 17) (by kernel_rfl) rfl (fun K hK => ?_)
      go_simp
      refine hK.out _ _ (fun _ => ⟨X3.cell (i := 0) rfl, (B3.cell (p := ⟨gm, om + kk * 3 + 1, none⟩) hgml).trans HK1.out, (B3.cell (p := ⟨gm, om + kk * 3 + 2, none⟩) hgml).trans HK2.out⟩) ?_
      clear hK K
      try simp only [Act.put, List.setIfInBounds_toArray, List.set_cons_zero, List.set_cons_succ]
      refine wpAnyM_done (by kernel_rfl) ?_ _
      try simp only [Act.put, List.setIfInBounds_toArray, List.set_cons_zero, List.set_cons_succ]
      go_wp2_with fail
      try simp only [Exit.inBlock, Exit.then]
      exact bodyPost_ret (v := .tuple #[nv, hv', .bool true]) (by simp [results, Try.results116, go_sem]) rfl ⟨by rw [HTN.out]; exact ⟨_, _, rfl, hN3, hH3⟩, B3⟩
    · have A4 := bel_al wd (.cells #[] 9)
      have X4 := hX.on A4 hX.lt
      have B4 := hB.trans (A4.mono hB.size)
      have P4 : (wd.alloc (.cells #[] 9)).ownsRow w.heap.size 9 1 (.slice (some ⟨wd.heap.size, 0, none⟩) 0 0) 0 [] := ⟨rfl, .inr ⟨wd.heap.size, 0, #[], rfl, hB.size, Blk.made wd #[] 9, Nat.le_refl _, Nat.zero_le _, rfl, rfl⟩⟩
      go_simp
      refine hK.out _ _ (fun _ => ⟨X4.cell (i := 0) rfl, (B4.cell (p := ⟨gm, om + kk * 3 + 1, none⟩) hgml).trans HK1.out, (B4.cell (p := ⟨gm, om + kk * 3 + 2, none⟩) hgml).trans HK2.out⟩) ?_
      clear hK K
      try simp only [Act.put, List.setIfInBounds_toArray, List.set_cons_zero, List.set_cons_succ]
      refine wpAnyM_one (i := 6) (by kernel_rfl) rfl (fun K hK => ?_)
      go_simp
      go_at_call 9
      refine (hcm _ B4).mono ?_
      rintro e u5 ⟨nv, rfl, hN, hb5⟩
      have X5 := X4.on hb5 X4.lt
      have B5 := B4.trans (hb5.mono B4.size)
      have hN5 := own_base hN B4.size
      have P5 := own_below P4 hb5
      go_wp2_with fail
      refine hK.out _ _ (fun _ => ⟨X5.cell (i := 0) rfl, (B5.cell (p := ⟨gm, om + kk * 3 + 1, none⟩) hgml).trans HK1.out, (B5.cell (p := ⟨gm, om + kk * 3 + 2, none⟩) hgml).trans HK2.out⟩) ?_
      clear hK K
      try simp only [Act.put, List.setIfInBounds_toArray, List.set_cons_zero, List.set_cons_succ]
      refine wpAnyM_one (i := 14) (by kernel_rfl) rfl (fun K hK => ?_)
      simp only [List.getElem_toArray, List.getElem_cons_succ, List.getElem_cons_zero]
      rw [if_pos (by rfl)]
      refine app_heads (.tmp 21) (.tmp 27) rfl w.heap.size wd.heap.size rfl P5 mk.h za zc rfl (HLZ.out.on B5) HZN.out hhm B5.size ?_
      intro hv' u6 hH6 hgr6
      have X6 : Blk u6 w.heap.size #[.slice (some ⟨gm, om, none⟩) ms.length mc] 44 := (hgr6.block _ X5.lt (by simp; omega)).trans X5
      have B6 := B5.grown hgr6 B5.size (fun k hk => by cases hk; omega)
      have hN6 := own_apart7 hN5 P5 (by decide) hgr6
      refine hK.out _ _ (fun _ => ⟨X6.cell (i := 0) rfl, (B6.cell (p := ⟨gm, om + kk * 3 + 1, none⟩) hgml).trans HK1.out, (B6.cell (p := ⟨gm, om + kk * 3 + 2, none⟩) hgml).trans HK2.out⟩) ?_
      clear hK K
      try simp only [Act.put, List.setIfInBounds_toArray, List.set_cons_zero, List.set_cons_succ]
      refine wpAnyM_one (i := 15) (by kernel_rfl) rfl (fun K hK => ?_)
      go_simp
      refine hK.out _ _ (fun _ => ⟨X6.cell (i := 0) rfl, (B6.cell (p := ⟨gm, om + kk * 3 + 1, none⟩) hgml).trans HK1.out, (B6.cell (p := ⟨gm, om + kk * 3 + 2, none⟩) hgml).trans HK2.out⟩) ?_
      clear hK K
      try simp only [Act.put, List.setIfInBounds_toArray, List.set_cons_zero, List.set_cons_succ]
      refine wpAnyM_one (i := 16) (by kernel_rfl) rfl (fun K hK => ?_)
      go_simp
      refine hK.out _ _ (fun _ => ⟨X6.cell (i := 0) rfl, (B6.cell (p := ⟨gm, om + kk * 3 + 1, none⟩) hgml).trans HK1.out, (B6.cell (p := ⟨gm, om + kk * 3 + 2, none⟩) hgml).trans HK2.out⟩) ?_
      clear hK K
      try simp only [Act.put, List.setIfInBounds_toArray, List.set_cons_zero, List.set_cons_succ]
      refine wpAnyM_one (i := 17) (by kernel_rfl) rfl (fun K hK => ?_)
      go_simp
      refine hK.out _ _ (fun _ => ⟨X6.cell (i := 0) rfl, (B6.cell (p := ⟨gm, om + kk * 3 + 1, none⟩) hgml).trans HK1.out, (B6.cell (p := ⟨gm, om + kk * 3 + 2, none⟩) hgml).trans HK2.out⟩) ?_
      clear hK K
      try simp only [Act.put, List.setIfInBounds_toArray, List.set_cons_zero, List.set_cons_succ]
      refine wpAnyM_done (by kernel_rfl) ?_ _
      try simp only [Act.put, List.setIfInBounds_toArray, List.set_cons_zero, List.set_cons_succ]
      go_wp2_with fail
      try simp only [Exit.inBlock, Exit.then]
      exact bodyPost_ret (v := .tuple #[nv, hv', .bool true]) (by simp [results, Try.results116, go_sem]) rfl ⟨by rw [HTN.out]; exact ⟨_, _, rfl, hN6, hH6⟩, B6⟩

end Go.Proofs.Ytbdlokijednoiaa
