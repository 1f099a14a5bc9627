/-
  What the shelf's hold does.
-/
import Derived.Test.YtoecopmbaoklkaaGreatSd
namespace Go.Proofs.YtoecopmbaoklkaaGreat
open Go.RowKit
set_option linter.unusedVariables false
set_option linter.unusedSimpArgs false
set_option maxRecDepth 100000

section
variable {w : World} {T : Nat → Prop} {k q room rd : Nat} {hs : List Hp} {ch : List Pg} {U : List Int}

/-- the last two statements: into the map, behind the uses -/
theorem Su.held {w1 w2 w3 : World} {T3 : Nat → Prop} {a : Int} {s : ByteArray} {m : Nat} (hf : fndH hs a = none) (h : Sh w1 T k q room rd hs ch) (c : w1.cell? ⟨q, 3, none⟩ = some (.map (some m)))
    (hm : IMap w2 m (if (hmap hs a).isSome then hs.length else hs.length + 1) (fun c => if c = a then some (.agg #[.string s, .int .i64 0]) else hmap hs c)) (hg : w1.grownBy w2 (some m)) :
    Su w2 T k q room rd (hs.map Hp.pl) (hs ++ [⟨a, 0, s⟩]) ch ∧ Keep T w1 w2 := by
  have e : (hmap hs a).isSome = false := by unfold hmap; rw [hf]; rfl
  rw [e, if_neg (by decide)] at hm
  refine Su.put (hs := hs) h m c ?_ hg
  rw [show (hs ++ [(⟨a, 0, s⟩ : Hp)]).length = hs.length + 1 by simp]
  exact hm.ext (fun c => (hmap_snoc s hf c).symm)

set_option maxHeartbeats 2000000 in
theorem hold_any (a : Int) (ha : I64 a) (s : ByteArray) (hs0 : s.size ≤ maxLen) (hn : NdH hs) (hl : hs.length ≤ 1024) (hr : room ≤ 1024) (hi : ∀ x ∈ hs, I64 x.pl) (hf : fndH hs a = none) (h : Sh w T k q room rd hs ch) :
    Calls Tryz.prog 47 #[.pointer (some ⟨q, 2, none⟩), .int .i64 a, .string s] w fun e w' => e = .returned (.tuple #[]) ∧ Sm w T k q room rd (holdH room hs a s) ch w' := by
  have hfull := full_any hn hl hi h
  have H := hid h
  -- what is done behind the room was made
  have HF : Hid (∀ (w1 w2 w3 : World) (L : List Hp) (T1 T3 : Nat → Prop) (m : Nat), fndH L a = none → Grows T T1 w → Keep T w w1 → Sh w1 T1 k q room rd L ch → w1.cell? ⟨q, 3, none⟩ = some (.map (some m)) → IMap w2 m (if (hmap L a).isSome then L.length else L.length + 1) (fun c => if c = a then some (.agg #[.string s, .int .i64 0]) else hmap L c) → w1.grownBy w2 (some m) → Su w3 T3 k q room rd (L.map Hp.pl ++ [a]) (L ++ [⟨a, 0, s⟩]) ch → Grows T1 T3 w2 → Keep T1 w2 w3 → Sm w T k q room rd (L ++ [⟨a, 0, s⟩]) ch w3) := fun w1 w2 w3 L T1 T3 m hf g1 k1 s1 c1 m2 gg2 s3 g3 k3 => by
    obtain ⟨_, k2⟩ := Su.held (w3 := w3) (T3 := T3) hf s1 c1 m2 gg2
    refine Sm.trans (room := room) (rd := rd) (hs := L) (ch := ch) g1 k1 ⟨⟨T3, ?_, fun j hj => ?_⟩, k2.trans k3 (fun _ _ h => h)⟩
    · unfold Sh
      simpa using s3
    · rcases g3 j hj with t | t
      · exact .inl t
      · exact .inr (Nat.le_trans k2.size t)
  by_cases hfu : fullH room hs = true
  · rw [hfu] at hfull
    have e : holdH room hs a s = hs := by
      unfold fullH at hfu
      rw [Bool.and_eq_true, decide_eq_true_eq, Option.isNone_iff_eq_none] at hfu
      unfold holdH
      rw [if_neg (by omega), hfu.2]
    rw [e]
    clear h e hfu HF
    go_enter Tryz.func47, Tryz.ntmps47
    go_wp2_with (first
      | (go_at_call 62; refine hfull.mono ?_; clear hfull; rintro e w1 ⟨rfl, hb1⟩; have HB1 := hid hb1; clear hb1))
    (try simp only [Exit.inBlock, Exit.then])
    refine bodyPost_ret (results_none rfl _ _ _) rfl ?_
    exact ⟨rfl, (Sm.refl H.out).on HB1.out⟩
  have hfu2 : fullH room hs = false := by simpa using hfu
  rw [hfu2] at hfull
  by_cases hlr : hs.length < room
  · have e : holdH room hs a s = hs ++ [⟨a, 0, s⟩] := by unfold holdH; rw [if_pos hlr]
    rw [e]
    have HR : Hid (∀ w1, Below w.heap.size w w1 → ∃ va vc m, w1.drew.cell? ⟨q, 2, none⟩ = some (.int .i64 (room : Nat)) ∧ w1.drew.cell? ⟨q, 4, none⟩ = some (.slice va hs.length vc) ∧ w1.drew.cell? ⟨q, 3, none⟩ = some (.map (some m)) ∧ IMap w1.drew m hs.length (hmap hs) ∧ Sh w1.drew T k q room rd hs ch) := fun w1 hb => by
      have s1 : Sh w1.drew T k q room rd hs ch := (h.on hb).on ((Below.refl _ _).drew)
      have s2 := s1
      obtain ⟨_, _, cv, uv, m, hb3, _, hu, hm, _⟩ := s1
      obtain ⟨va, vc, e1⟩ := hu.form
      subst e1
      rw [List.length_map] at hb3
      exact ⟨va, vc, m, hb3.cell (i := 2) rfl, hb3.cell (i := 4) rfl, hb3.cell (i := 3) rfl, hm, s2⟩
    have HFN := hid hf
    have HT := hid h.1
    obtain ⟨n, hnn⟩ : ∃ n, hs.length = n := ⟨_, rfl⟩
    have HNN := hid hnn
    rw [hnn] at HR hlr hl
    have hlr2 : ¬ (room : Int) ≤ (n : Int) := by omega
    have hlr3 : decide (room ≤ n) = false := decide_eq_false (by omega)
    have hnm : n < maxLen := by unfold maxLen; omega
    clear h e hfu hfu2 hnn hf H hn hi
    go_enter Tryz.func47, Tryz.ntmps47
    go_wp2_with (first
      | (go_at_call 62; refine hfull.mono ?_; clear hfull; rintro e w1 ⟨rfl, hb1⟩; have HB1 := hid hb1; clear hb1))
    obtain ⟨va, vc, m, c2, c4, c3, hm, hsh⟩ := HR.out w1 HB1.out
    have HM := hid hm
    have HSH := hid hsh
    have HC3 := hid c3
    clear HR hm hsh
    go_region
    clear c2
    generalize hwd : w1.drew = w2 at *
    have HB2 : Hid (Below w.heap.size w w2) := by show Below _ _ _; rw [← hwd]; exact HB1.out.drew
    clear hwd HB1
    go_wp2_with (first
      | (at_mapUpdate; refine wpList_put _ rfl _ _ _ rfl m _ _ rfl (HNN.out ▸ HM.out) (by rw [HNN.out]; exact hnm) a _ rfl rfl ha ?_; clear c3 c4; intro w3 hm3 hg3; have HM3 := hid hm3; have HG3 := hid hg3; have HS3 := hid (Su.held (w3 := w3) (T3 := T) HFN.out HSH.out HC3.out hm3 hg3); clear hm3 hg3; obtain ⟨va, vc, c4, _, f4, _⟩ := HS3.out.1.read; rw [List.length_map, HNN.out] at c4)
      | (at_builtin; refine wpList_uses HS3.out.1 rfl (.tmp 39) (.tmp 41) rfl a n (by rw [List.length_map, HNN.out]) (by omega) va vc c4 rfl rfl ?_; clear c4 f4; intro ua uc w4 c4 f4 hs4; have HS4 := hs4; clear hs4))
    go_end0
    obtain ⟨T4, s4, g4, k4⟩ := HS4.out
    exact ⟨rfl, HF.out _ _ _ _ _ _ m HFN.out (fun j hj => .inl hj) (Keep.of_below HB2.out) HSH.out HC3.out HM3.out HG3.out s4 g4 k4⟩
  · obtain ⟨f, hfr⟩ : ∃ f, freeH hs = some f := by
      cases e : freeH hs with
      | some f => exact ⟨f, rfl⟩
      | none =>
        exfalso
        unfold fullH at hfu
        rw [e, decide_eq_true (by omega)] at hfu
        exact hfu rfl
    obtain ⟨A, B, hAB, hA, hpf⟩ := find_split hfr
    have hpf0 : f.pins = 0 := by simpa using hpf
    have hA0 : ∀ y ∈ A, ¬ y.pins = 0 := by simpa using hA
    subst hAB
    have e : holdH room (A ++ f :: B) a s = A ++ B ++ [⟨a, 0, s⟩] := by
      unfold holdH
      rw [if_neg hlr, hfr]
      show remH _ _ ++ _ = _
      rw [remH_split hn]
    rw [e]
    have hnx1 : nextI (A ++ f :: B) = (A.length : Nat) := (nextI_at (k := A.length) (h := f) (fun i x hi hx => hA0 x (by rw [List.getElem?_append_left hi] at hx; exact List.mem_of_getElem? hx)) (by simp) hpf0).1
    have HNX : Hid (∀ w1, Below w.heap.size w w1 → Calls Tryz.prog 76 #[.pointer (some ⟨q, 2, none⟩)] w1 fun e w' => e = .returned (.int .i64 (A.length : Nat)) ∧ Below w1.heap.size w1 w') := fun w1 hb => by
      have := next_any hn hl hi (h.on hb)
      rw [hnx1] at this
      exact this
    have hfl : fndH (A ++ B) a = none := by
      rw [fndH_del hn]
      split
      · rfl
      · exact hf
    have HFN := hid hfl
    have HDR : Hid (∀ w1, Below w.heap.size w w1 → Calls Tryz.prog 42 #[.pointer (some ⟨q, 2, none⟩), .int .i64 f.pl] w1 fun e w' => e = .returned (.tuple #[]) ∧ Sm w T k q room rd (A ++ B) ch w') := fun w1 hb =>
      (drop_any (hi f (by simp)) hn hl (h.on hb)).mono fun e w' hh => ⟨hh.1, hh.2.base hb h.1⟩
    obtain ⟨g, uc, HK⟩ : ∃ g uc, Hid (∀ w5, Below w.heap.size w w5 → w5.cell? ⟨q, 2, none⟩ = some (.int .i64 (room : Nat)) ∧ w5.cell? ⟨q, 4, none⟩ = some (.slice (some ⟨g, 0, none⟩) (A.length + 1 + B.length) uc) ∧ w5.cell? ⟨g, A.length, none⟩ = some (.int .i64 f.pl)) := by
      have hlen : ((A ++ f :: B).map Hp.pl).length = A.length + 1 + B.length := by rw [List.length_map, List.length_append, List.length_cons]; omega
      obtain ⟨_, _, cv, uv, m, hb3, _, hu, hm, _⟩ := h
      obtain ⟨va, vc, e1⟩ := hu.form
      subst e1
      obtain ⟨g, e2, _, hgl, cg, _⟩ := hu.at (k := A.length) (x := f.pl) (by simp)
      subst e2
      rw [hlen] at hb3
      exact ⟨g, vc, fun w5 hb => ⟨(hb.cell (p := ⟨q, 2, none⟩) hb3.lt).trans (hb3.cell (i := 2) rfl), (hb.cell (p := ⟨q, 4, none⟩) hb3.lt).trans (hb3.cell (i := 4) rfl), (hb.cell (p := ⟨g, A.length, none⟩) hgl).trans cg⟩⟩
    have hl2 : A.length + 1 + B.length ≤ 1024 := by rw [List.length_append, List.length_cons] at hl; omega
    have hlr1 : room ≤ A.length + 1 + B.length := by rw [List.length_append, List.length_cons] at hlr; omega
    have HLN : Hid ((A ++ B).length = A.length + 1 + B.length - 1) := by show _ = _; rw [List.length_append]; omega
    clear h e hfu hfu2 hf H hn hi hfl hlr hl hnx1 hfr hA hpf hA0 hpf0
    generalize A ++ B = L at *
    obtain ⟨n, hnn⟩ : ∃ n, A.length + 1 + B.length = n := ⟨_, rfl⟩
    have hin : A.length < n := by omega
    have hini : (A.length : Int) < (n : Int) := by omega
    rw [hnn] at HK hl2 hlr1 HLN
    generalize A.length = i at *
    clear hnn
    generalize f.pl = z at *
    have hlr2 : (room : Int) ≤ (n : Int) := by omega
    obtain ⟨n', hn'⟩ : ∃ n', n - 1 = n' := ⟨_, rfl⟩
    rw [hn'] at HLN
    have hnl : n' ≤ 1024 := by omega
    have hnm : n' < maxLen := by unfold maxLen; omega
    clear hn'
    go_enter Tryz.func47, Tryz.ntmps47
    go_wp2_with (first
      | (go_at_call 62; refine hfull.mono ?_; clear hfull; rintro e w1 ⟨rfl, hb1⟩; have HB1 := hid hb1; clear hb1))
    have HB2 := hid (HB1.out.drew)
    have HSX := HK.out _ HB2.out
    obtain ⟨c2, c4, cg⟩ := HSX
    go_region
    clear c2 c4 cg
    go_wp2_with fail
    have HBd := hid (HB2.out.drew)
    have HS0 := HK.out _ HBd.out
    clear HB1 HB2
    obtain ⟨c2, c4, cg⟩ := HS0
    refine wp_region_m (fun w' => True) 0 (by kernel_rfl) ?_
    refine wpAnyM_late (i := 0) (some 18) (v := ?vz1) rfl rfl (by kernel_rfl) (by kernel_rfl) (by kernel_rfl) (by kernel_rfl) (fun _ _ _ h => h) (Or.inl ⟨by rfl, ?hz1⟩) ?rz1
    case hz1 => intro w hSw; go_simp; try with_reducible rfl
    try simp only [Act.put, List.setIfInBounds_toArray, List.set_cons_zero, List.set_cons_succ]
    refine wpAnyM_late (i := 1) (some 19) (v := ?vz2) rfl rfl (by kernel_rfl) (by kernel_rfl) (by kernel_rfl) (by kernel_rfl) (fun _ _ _ h => h) (Or.inl ⟨by rfl, ?hz2⟩) ?rz2
    case hz2 => intro w hSw; go_simp; try with_reducible rfl
    try simp only [Act.put, List.setIfInBounds_toArray, List.set_cons_zero, List.set_cons_succ]
    refine wpAnyM_late (i := 2) (some 20) (v := ?vz3) rfl rfl (by kernel_rfl) (by kernel_rfl) (by kernel_rfl) (by kernel_rfl) (fun _ _ _ h => h) (Or.inl ⟨by rfl, ?hz3⟩) ?rz3
    case hz3 => intro w hSw; go_simp; try with_reducible rfl
    try simp only [Act.put, List.setIfInBounds_toArray, List.set_cons_zero, List.set_cons_succ]
    refine wpAnyM_late (i := 3) (some 21) (v := ?vz4) rfl rfl (by kernel_rfl) (by kernel_rfl) (by kernel_rfl) (by kernel_rfl) (fun _ _ _ h => h) (Or.inl ⟨by rfl, ?hz4⟩) ?rz4
    case hz4 => intro w hSw; go_simp; try with_reducible rfl
    try simp only [Act.put, List.setIfInBounds_toArray, List.set_cons_zero, List.set_cons_succ]
    refine wpAnyM_late (i := 5) (some 23) (v := ?vz5) rfl rfl (by kernel_rfl) (by kernel_rfl) (by kernel_rfl) (by kernel_rfl) (fun _ _ _ h => h) (Or.inl ⟨by rfl, ?hz5⟩) ?rz5
    case hz5 => intro w hSw; go_simp; try with_reducible rfl
    try simp only [Act.put, List.setIfInBounds_toArray, List.set_cons_zero, List.set_cons_succ]
    refine wpAnyM_two (i := 4) (j := 6) (by kernel_rfl) rfl rfl (fun K hK => ?_) (fun K hK => ?_)
    · go_simp
      refine hK.out _ _ (fun h => absurd h (by decide)) ?_
      clear hK K
      try simp only [Act.put, List.setIfInBounds_toArray, List.set_cons_zero, List.set_cons_succ]
      refine wpAnyM_one (i := 6) (by kernel_rfl) rfl (fun K hK => ?_)
      go_simp
      go_at_call 76
      refine (HNX.out _ HBd.out).mono ?_
      rintro e w5 ⟨rfl, hb5⟩
      have HB5 := hid (HBd.out.trans (hb5.mono HBd.out.size))
      obtain ⟨d2, d4, dg⟩ := HK.out w5 HB5.out
      clear hb5 c2 c4 cg
      try go_simp
      refine hK.out _ _ (fun h => absurd h (by decide)) ?_
      clear hK K
      try simp only [Act.put, List.setIfInBounds_toArray, List.set_cons_zero, List.set_cons_succ]
      refine wpAnyM_one (i := 7) (by kernel_rfl) rfl (fun K hK => ?_)
      go_simp
      refine hK.out _ _ (fun h => absurd h (by decide)) ?_
      clear hK K
      try simp only [Act.put, List.setIfInBounds_toArray, List.set_cons_zero, List.set_cons_succ]
      refine wpAnyM_one (i := 8) (by kernel_rfl) rfl (fun K hK => ?_)
      go_simp
      refine hK.out _ _ (fun h => absurd h (by decide)) ?_
      clear hK K
      try simp only [Act.put, List.setIfInBounds_toArray, List.set_cons_zero, List.set_cons_succ]
      refine wpAnyM_one (i := 9) (by kernel_rfl) rfl (fun K hK => ?_)
      go_simp
      go_at_call 42
      refine (HDR.out _ HB5.out).mono ?_
      clear HDR d2 d4 dg
      rintro e w6 ⟨rfl, hs6⟩
      have HS6 := hid hs6
      clear hs6
      try go_simp
      refine hK.out _ _ (fun h => absurd h (by decide)) ?_
      clear hK K
      try simp only [Act.put, List.setIfInBounds_toArray, List.set_cons_zero, List.set_cons_succ]
      refine wpAnyM_done (by kernel_rfl) ?_ _
      try simp only [Act.put, List.setIfInBounds_toArray, List.set_cons_zero, List.set_cons_succ]
      obtain ⟨T6, hs6, hg6⟩ := HS6.out.sh
      have HK6 := hid HS6.out.keep
      have HSH := hid hs6
      have HG6 := hid hg6
      clear HS6 HK HBd HB5
      obtain ⟨m, c3, hm⟩ := Su.map (U := L.map Hp.pl) hs6
      have HM := hid hm
      have HC3 := hid c3
      clear hs6 hg6 hm
      go_wp2_with (first
        | (at_mapUpdate; refine wpList_put _ rfl _ _ _ rfl m _ _ rfl HM.out (by rw [HLN.out]; exact hnm) a _ rfl rfl ha ?_; clear c3; intro w7 hm7 hg7; have HM7 := hid hm7; have HG7 := hid hg7; have HS7 := hid (Su.held (w3 := w7) (T3 := T6) HFN.out HSH.out HC3.out hm7 hg7); clear hm7 hg7; obtain ⟨va, vc, c4, _, f4, _⟩ := HS7.out.1.read; rw [List.length_map, HLN.out] at c4)
        | (at_builtin; refine wpList_uses HS7.out.1 rfl (.tmp 39) (.tmp 41) rfl a n' (by rw [List.length_map, HLN.out]) (by omega) va vc c4 rfl rfl ?_; clear c4 f4; intro ua uc w8 c4 f4 hs8; have HS8 := hs8; clear hs8))
      go_end0
      obtain ⟨T8, s8, g8, k8⟩ := HS8.out
      exact ⟨rfl, HF.out _ _ _ _ _ _ m HFN.out HG6.out HK6.out HSH.out HC3.out HM7.out HG7.out s8 g8 k8⟩
    · go_simp
      go_at_call 76
      refine (HNX.out _ HBd.out).mono ?_
      rintro e w5 ⟨rfl, hb5⟩
      have HB5 := hid (HBd.out.trans (hb5.mono HBd.out.size))
      obtain ⟨d2, d4, dg⟩ := HK.out w5 HB5.out
      clear hb5 c2 c4 cg
      try go_simp
      refine hK.out _ _ (fun h => absurd h (by decide)) ?_
      clear hK K
      try simp only [Act.put, List.setIfInBounds_toArray, List.set_cons_zero, List.set_cons_succ]
      refine wpAnyM_one (i := 4) (by kernel_rfl) rfl (fun K hK => ?_)
      go_simp
      refine hK.out _ _ (fun h => absurd h (by decide)) ?_
      clear hK K
      try simp only [Act.put, List.setIfInBounds_toArray, List.set_cons_zero, List.set_cons_succ]
      refine wpAnyM_one (i := 7) (by kernel_rfl) rfl (fun K hK => ?_)
      go_simp
      refine hK.out _ _ (fun h => absurd h (by decide)) ?_
      clear hK K
      try simp only [Act.put, List.setIfInBounds_toArray, List.set_cons_zero, List.set_cons_succ]
      refine wpAnyM_one (i := 8) (by kernel_rfl) rfl (fun K hK => ?_)
      go_simp
      refine hK.out _ _ (fun h => absurd h (by decide)) ?_
      clear hK K
      try simp only [Act.put, List.setIfInBounds_toArray, List.set_cons_zero, List.set_cons_succ]
      refine wpAnyM_one (i := 9) (by kernel_rfl) rfl (fun K hK => ?_)
      go_simp
      go_at_call 42
      refine (HDR.out _ HB5.out).mono ?_
      clear HDR d2 d4 dg
      rintro e w6 ⟨rfl, hs6⟩
      have HS6 := hid hs6
      clear hs6
      try go_simp
      refine hK.out _ _ (fun h => absurd h (by decide)) ?_
      clear hK K
      try simp only [Act.put, List.setIfInBounds_toArray, List.set_cons_zero, List.set_cons_succ]
      refine wpAnyM_done (by kernel_rfl) ?_ _
      try simp only [Act.put, List.setIfInBounds_toArray, List.set_cons_zero, List.set_cons_succ]
      obtain ⟨T6, hs6, hg6⟩ := HS6.out.sh
      have HK6 := hid HS6.out.keep
      have HSH := hid hs6
      have HG6 := hid hg6
      clear HS6 HK HBd HB5
      obtain ⟨m, c3, hm⟩ := Su.map (U := L.map Hp.pl) hs6
      have HM := hid hm
      have HC3 := hid c3
      clear hs6 hg6 hm
      go_wp2_with (first
        | (at_mapUpdate; refine wpList_put _ rfl _ _ _ rfl m _ _ rfl HM.out (by rw [HLN.out]; exact hnm) a _ rfl rfl ha ?_; clear c3; intro w7 hm7 hg7; have HM7 := hid hm7; have HG7 := hid hg7; have HS7 := hid (Su.held (w3 := w7) (T3 := T6) HFN.out HSH.out HC3.out hm7 hg7); clear hm7 hg7; obtain ⟨va, vc, c4, _, f4, _⟩ := HS7.out.1.read; rw [List.length_map, HLN.out] at c4)
        | (at_builtin; refine wpList_uses HS7.out.1 rfl (.tmp 39) (.tmp 41) rfl a n' (by rw [List.length_map, HLN.out]) (by omega) va vc c4 rfl rfl ?_; clear c4 f4; intro ua uc w8 c4 f4 hs8; have HS8 := hs8; clear hs8))
      go_end0
      obtain ⟨T8, s8, g8, k8⟩ := HS8.out
      exact ⟨rfl, HF.out _ _ _ _ _ _ m HFN.out HG6.out HK6.out HSH.out HC3.out HM7.out HG7.out s8 g8 k8⟩
end

end Go.Proofs.YtoecopmbaoklkaaGreat
