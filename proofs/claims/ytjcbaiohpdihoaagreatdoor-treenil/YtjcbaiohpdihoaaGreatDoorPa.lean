/-
  A pager of the program with its disk; New, refuses, Reads, Undo, Unpin; of a nil pager all.
-/
import Derived.Test.YtjcbaiohpdihoaaGreatDoorSd
import Derived.Test.YtjcbaiohpdihoaaGreatDoorRv
import Derived.Test.YtjcbaiohpdihoaaGreatDoorSx
namespace Go.Proofs.YtjcbaiohpdihoaaGreatDoor
open Go.RowKit
set_option linter.unusedVariables false
set_option linter.unusedSimpArgs false
set_option maxRecDepth 100000

section
variable {w : World} {T : Nat → Prop} {k q room rd : Nat} {hs : List Hp} {ch : List Pg} {U : List Int}

/-- the last two statements: into the map, behind the uses -/
theorem Su.held {w1 w2 w3 : World} {T3 : Nat → Prop} {a : Int} {s : ByteArray} {m : Nat} (hf : fndH hs a = none) (h : Sh w1 T k q room rd hs ch) (c : w1.cell? ⟨q, 3, none⟩ = some (.map (some m)))
    (hm : IMap w2 m (if (hmap hs a).isSome then hs.length else hs.length + 1) (fun c => if c = a then some (.agg #[.string s, .int .i64 0]) else hmap hs c)) (hg : w1.grownBy w2 (some m)) :
    Su w2 T k q room rd (hs.map Hp.pl) (hs ++ [⟨a, 0, s⟩]) ch ∧ Keep T w1 w2 := by
  have e : (hmap hs a).isSome = false := by unfold hmap; rw [hf]; rfl
  rw [e, if_neg (by decide)] at hm
  refine Su.put (hs := hs) h m c ?_ hg
  rw [show (hs ++ [(⟨a, 0, s⟩ : Hp)]).length = hs.length + 1 by simp]
  exact hm.ext (fun c => (hmap_snoc s hf c).symm)

set_option maxHeartbeats 2000000 in
theorem hold_any (a : Int) (ha : I64 a) (s : ByteArray) (hs0 : s.size ≤ maxLen) (hn : NdH hs) (hl : hs.length ≤ 1024) (hr : room ≤ 1024) (hi : ∀ x ∈ hs, I64 x.pl) (hf : fndH hs a = none) (h : Sh w T k q room rd hs ch) :
    Calls Tryz.prog 144 #[.pointer (some ⟨q, 2, none⟩), .int .i64 a, .string s] w fun e w' => e = .returned (.tuple #[]) ∧ Sm w T k q room rd (holdH room hs a s) ch w' := by
  have hfull := full_any hn hl hi h
  have H := hid h
  -- what is done behind the room was made
  have HF : Hid (∀ (w1 w2 w3 : World) (L : List Hp) (T1 T3 : Nat → Prop) (m : Nat), fndH L a = none → Grows T T1 w → Keep T w w1 → Sh w1 T1 k q room rd L ch → w1.cell? ⟨q, 3, none⟩ = some (.map (some m)) → IMap w2 m (if (hmap L a).isSome then L.length else L.length + 1) (fun c => if c = a then some (.agg #[.string s, .int .i64 0]) else hmap L c) → w1.grownBy w2 (some m) → Su w3 T3 k q room rd (L.map Hp.pl ++ [a]) (L ++ [⟨a, 0, s⟩]) ch → Grows T1 T3 w2 → Keep T1 w2 w3 → Sm w T k q room rd (L ++ [⟨a, 0, s⟩]) ch w3) := fun w1 w2 w3 L T1 T3 m hf g1 k1 s1 c1 m2 gg2 s3 g3 k3 => by
    obtain ⟨_, k2⟩ := Su.held (w3 := w3) (T3 := T3) hf s1 c1 m2 gg2
    refine Sm.trans (room := room) (rd := rd) (hs := L) (ch := ch) g1 k1 ⟨⟨T3, ?_, fun j hj => ?_⟩, k2.trans k3 (fun _ _ h => h)⟩
    · unfold Sh
      simpa using s3
    · rcases g3 j hj with t | t
      · exact .inl t
      · exact .inr (Nat.le_trans k2.size t)
  by_cases hfu : fullH room hs = true
  · rw [hfu] at hfull
    have e : holdH room hs a s = hs := by
      unfold fullH at hfu
      rw [Bool.and_eq_true, decide_eq_true_eq, Option.isNone_iff_eq_none] at hfu
      unfold holdH
      rw [if_neg (by omega), hfu.2]
    rw [e]
    clear h e hfu HF
    go_enter Tryz.func144, Tryz.ntmps144
    go_wp2_with (first
      | (go_at_call 209; refine hfull.mono ?_; clear hfull; rintro e w1 ⟨rfl, hb1⟩; have HB1 := hid hb1; clear hb1))
    (try simp only [Exit.inBlock, Exit.then])
    refine bodyPost_ret (results_none rfl _ _ _) rfl ?_
    exact ⟨rfl, (Sm.refl H.out).on HB1.out⟩
  have hfu2 : fullH room hs = false := by simpa using hfu
  rw [hfu2] at hfull
  by_cases hlr : hs.length < room
  · have e : holdH room hs a s = hs ++ [⟨a, 0, s⟩] := by unfold holdH; rw [if_pos hlr]
    rw [e]
    have HR : Hid (∀ w1, Below w.heap.size w w1 → ∃ va vc m, w1.drew.cell? ⟨q, 2, none⟩ = some (.int .i64 (room : Nat)) ∧ w1.drew.cell? ⟨q, 4, none⟩ = some (.slice va hs.length vc) ∧ w1.drew.cell? ⟨q, 3, none⟩ = some (.map (some m)) ∧ IMap w1.drew m hs.length (hmap hs) ∧ Sh w1.drew T k q room rd hs ch) := fun w1 hb => by
      have s1 : Sh w1.drew T k q room rd hs ch := (h.on hb).on ((Below.refl _ _).drew)
      have s2 := s1
      obtain ⟨_, _, cv, uv, m, hb3, _, hu, hm, _⟩ := s1
      obtain ⟨va, vc, e1⟩ := hu.form
      subst e1
      rw [List.length_map] at hb3
      exact ⟨va, vc, m, hb3.cell (i := 2) rfl, hb3.cell (i := 4) rfl, hb3.cell (i := 3) rfl, hm, s2⟩
    have HFN := hid hf
    have HT := hid h.1
    obtain ⟨n, hnn⟩ : ∃ n, hs.length = n := ⟨_, rfl⟩
    have HNN := hid hnn
    rw [hnn] at HR hlr hl
    have hlr2 : ¬ (room : Int) ≤ (n : Int) := by omega
    have hlr3 : decide (room ≤ n) = false := decide_eq_false (by omega)
    have hnm : n < maxLen := by unfold maxLen; omega
    clear h e hfu hfu2 hnn hf H hn hi
    go_enter Tryz.func144, Tryz.ntmps144
    go_wp2_with (first
      | (go_at_call 209; refine hfull.mono ?_; clear hfull; rintro e w1 ⟨rfl, hb1⟩; have HB1 := hid hb1; clear hb1))
    obtain ⟨va, vc, m, c2, c4, c3, hm, hsh⟩ := HR.out w1 HB1.out
    have HM := hid hm
    have HSH := hid hsh
    have HC3 := hid c3
    clear HR hm hsh
    go_region
    clear c2
    generalize hwd : w1.drew = w2 at *
    have HB2 : Hid (Below w.heap.size w w2) := by show Below _ _ _; rw [← hwd]; exact HB1.out.drew
    clear hwd HB1
    go_wp2_with (first
      | (at_mapUpdate; refine wpList_put _ rfl _ _ _ rfl m _ _ rfl (HNN.out ▸ HM.out) (by rw [HNN.out]; exact hnm) a _ rfl rfl ha ?_; clear c3 c4; intro w3 hm3 hg3; have HM3 := hid hm3; have HG3 := hid hg3; have HS3 := hid (Su.held (w3 := w3) (T3 := T) HFN.out HSH.out HC3.out hm3 hg3); clear hm3 hg3; obtain ⟨va, vc, c4, _, f4, _⟩ := HS3.out.1.read; rw [List.length_map, HNN.out] at c4)
      | (at_builtin; refine wpList_uses HS3.out.1 rfl (.tmp 39) (.tmp 41) rfl a n (by rw [List.length_map, HNN.out]) (by omega) va vc c4 rfl rfl ?_; clear c4 f4; intro ua uc w4 c4 f4 hs4; have HS4 := hs4; clear hs4))
    go_end0
    obtain ⟨T4, s4, g4, k4⟩ := HS4.out
    exact ⟨rfl, HF.out _ _ _ _ _ _ m HFN.out (fun j hj => .inl hj) (Keep.of_below HB2.out) HSH.out HC3.out HM3.out HG3.out s4 g4 k4⟩
  · obtain ⟨f, hfr⟩ : ∃ f, freeH hs = some f := by
      cases e : freeH hs with
      | some f => exact ⟨f, rfl⟩
      | none =>
        exfalso
        unfold fullH at hfu
        rw [e, decide_eq_true (by omega)] at hfu
        exact hfu rfl
    obtain ⟨A, B, hAB, hA, hpf⟩ := find_split hfr
    have hpf0 : f.pins = 0 := by simpa using hpf
    have hA0 : ∀ y ∈ A, ¬ y.pins = 0 := by simpa using hA
    subst hAB
    have e : holdH room (A ++ f :: B) a s = A ++ B ++ [⟨a, 0, s⟩] := by
      unfold holdH
      rw [if_neg hlr, hfr]
      show remH _ _ ++ _ = _
      rw [remH_split hn]
    rw [e]
    have hnx1 : nextI (A ++ f :: B) = (A.length : Nat) := (nextI_at (k := A.length) (h := f) (fun i x hi hx => hA0 x (by rw [List.getElem?_append_left hi] at hx; exact List.mem_of_getElem? hx)) (by simp) hpf0).1
    have HNX : Hid (∀ w1, Below w.heap.size w w1 → Calls Tryz.prog 210 #[.pointer (some ⟨q, 2, none⟩)] w1 fun e w' => e = .returned (.int .i64 (A.length : Nat)) ∧ Below w1.heap.size w1 w') := fun w1 hb => by
      have := next_any hn hl hi (h.on hb)
      rw [hnx1] at this
      exact this
    have hfl : fndH (A ++ B) a = none := by
      rw [fndH_del hn]
      split
      · rfl
      · exact hf
    have HFN := hid hfl
    have HDR : Hid (∀ w1, Below w.heap.size w w1 → Calls Tryz.prog 102 #[.pointer (some ⟨q, 2, none⟩), .int .i64 f.pl] w1 fun e w' => e = .returned (.tuple #[]) ∧ Sm w T k q room rd (A ++ B) ch w') := fun w1 hb =>
      (drop_any (hi f (by simp)) hn hl (h.on hb)).mono fun e w' hh => ⟨hh.1, hh.2.base hb h.1⟩
    obtain ⟨g, uc, HK⟩ : ∃ g uc, Hid (∀ w5, Below w.heap.size w w5 → w5.cell? ⟨q, 2, none⟩ = some (.int .i64 (room : Nat)) ∧ w5.cell? ⟨q, 4, none⟩ = some (.slice (some ⟨g, 0, none⟩) (A.length + 1 + B.length) uc) ∧ w5.cell? ⟨g, A.length, none⟩ = some (.int .i64 f.pl)) := by
      have hlen : ((A ++ f :: B).map Hp.pl).length = A.length + 1 + B.length := by rw [List.length_map, List.length_append, List.length_cons]; omega
      obtain ⟨_, _, cv, uv, m, hb3, _, hu, hm, _⟩ := h
      obtain ⟨va, vc, e1⟩ := hu.form
      subst e1
      obtain ⟨g, e2, _, hgl, cg, _⟩ := hu.at (k := A.length) (x := f.pl) (by simp)
      subst e2
      rw [hlen] at hb3
      exact ⟨g, vc, fun w5 hb => ⟨(hb.cell (p := ⟨q, 2, none⟩) hb3.lt).trans (hb3.cell (i := 2) rfl), (hb.cell (p := ⟨q, 4, none⟩) hb3.lt).trans (hb3.cell (i := 4) rfl), (hb.cell (p := ⟨g, A.length, none⟩) hgl).trans cg⟩⟩
    have hl2 : A.length + 1 + B.length ≤ 1024 := by rw [List.length_append, List.length_cons] at hl; omega
    have hlr1 : room ≤ A.length + 1 + B.length := by rw [List.length_append, List.length_cons] at hlr; omega
    have HLN : Hid ((A ++ B).length = A.length + 1 + B.length - 1) := by show _ = _; rw [List.length_append]; omega
    clear h e hfu hfu2 hf H hn hi hfl hlr hl hnx1 hfr hA hpf hA0 hpf0
    generalize A ++ B = L at *
    obtain ⟨n, hnn⟩ : ∃ n, A.length + 1 + B.length = n := ⟨_, rfl⟩
    have hin : A.length < n := by omega
    have hini : (A.length : Int) < (n : Int) := by omega
    rw [hnn] at HK hl2 hlr1 HLN
    generalize A.length = i at *
    clear hnn
    generalize f.pl = z at *
    have hlr2 : (room : Int) ≤ (n : Int) := by omega
    obtain ⟨n', hn'⟩ : ∃ n', n - 1 = n' := ⟨_, rfl⟩
    rw [hn'] at HLN
    have hnl : n' ≤ 1024 := by omega
    have hnm : n' < maxLen := by unfold maxLen; omega
    clear hn'
    go_enter Tryz.func144, Tryz.ntmps144
    go_wp2_with (first
      | (go_at_call 209; refine hfull.mono ?_; clear hfull; rintro e w1 ⟨rfl, hb1⟩; have HB1 := hid hb1; clear hb1))
    have HB2 := hid (HB1.out.drew)
    have HSX := HK.out _ HB2.out
    obtain ⟨c2, c4, cg⟩ := HSX
    go_region
    clear c2 c4 cg
    go_wp2_with fail
    have HBd := hid (HB2.out.drew)
    have HS0 := HK.out _ HBd.out
    clear HB1 HB2
    obtain ⟨c2, c4, cg⟩ := HS0
    refine wp_region_m (fun w' => True) 0 (by kernel_rfl) ?_
    refine wpAnyM_late (i := 0) (some 18) (v := ?vz1) rfl rfl (by kernel_rfl) (by kernel_rfl) (by kernel_rfl) (by kernel_rfl) (fun _ _ _ h => h) (Or.inl ⟨by rfl, ?hz1⟩) ?rz1
    case hz1 => intro w hSw; go_simp; try with_reducible rfl
    try simp only [Act.put, List.setIfInBounds_toArray, List.set_cons_zero, List.set_cons_succ]
    refine wpAnyM_late (i := 1) (some 19) (v := ?vz2) rfl rfl (by kernel_rfl) (by kernel_rfl) (by kernel_rfl) (by kernel_rfl) (fun _ _ _ h => h) (Or.inl ⟨by rfl, ?hz2⟩) ?rz2
    case hz2 => intro w hSw; go_simp; try with_reducible rfl
    try simp only [Act.put, List.setIfInBounds_toArray, List.set_cons_zero, List.set_cons_succ]
    refine wpAnyM_late (i := 2) (some 20) (v := ?vz3) rfl rfl (by kernel_rfl) (by kernel_rfl) (by kernel_rfl) (by kernel_rfl) (fun _ _ _ h => h) (Or.inl ⟨by rfl, ?hz3⟩) ?rz3
    case hz3 => intro w hSw; go_simp; try with_reducible rfl
    try simp only [Act.put, List.setIfInBounds_toArray, List.set_cons_zero, List.set_cons_succ]
    refine wpAnyM_late (i := 3) (some 21) (v := ?vz4) rfl rfl (by kernel_rfl) (by kernel_rfl) (by kernel_rfl) (by kernel_rfl) (fun _ _ _ h => h) (Or.inl ⟨by rfl, ?hz4⟩) ?rz4
    case hz4 => intro w hSw; go_simp; try with_reducible rfl
    try simp only [Act.put, List.setIfInBounds_toArray, List.set_cons_zero, List.set_cons_succ]
    refine wpAnyM_late (i := 5) (some 23) (v := ?vz5) rfl rfl (by kernel_rfl) (by kernel_rfl) (by kernel_rfl) (by kernel_rfl) (fun _ _ _ h => h) (Or.inl ⟨by rfl, ?hz5⟩) ?rz5
    case hz5 => intro w hSw; go_simp; try with_reducible rfl
    try simp only [Act.put, List.setIfInBounds_toArray, List.set_cons_zero, List.set_cons_succ]
    refine wpAnyM_two (i := 4) (j := 6) (by kernel_rfl) rfl rfl (fun K hK => ?_) (fun K hK => ?_)
    · go_simp
      refine hK.out _ _ (fun h => absurd h (by decide)) ?_
      clear hK K
      try simp only [Act.put, List.setIfInBounds_toArray, List.set_cons_zero, List.set_cons_succ]
      refine wpAnyM_one (i := 6) (by kernel_rfl) rfl (fun K hK => ?_)
      go_simp
      go_at_call 210
      refine (HNX.out _ HBd.out).mono ?_
      rintro e w5 ⟨rfl, hb5⟩
      have HB5 := hid (HBd.out.trans (hb5.mono HBd.out.size))
      obtain ⟨d2, d4, dg⟩ := HK.out w5 HB5.out
      clear hb5 c2 c4 cg
      try go_simp
      refine hK.out _ _ (fun h => absurd h (by decide)) ?_
      clear hK K
      try simp only [Act.put, List.setIfInBounds_toArray, List.set_cons_zero, List.set_cons_succ]
      refine wpAnyM_one (i := 7) (by kernel_rfl) rfl (fun K hK => ?_)
      go_simp
      refine hK.out _ _ (fun h => absurd h (by decide)) ?_
      clear hK K
      try simp only [Act.put, List.setIfInBounds_toArray, List.set_cons_zero, List.set_cons_succ]
      refine wpAnyM_one (i := 8) (by kernel_rfl) rfl (fun K hK => ?_)
      go_simp
      refine hK.out _ _ (fun h => absurd h (by decide)) ?_
      clear hK K
      try simp only [Act.put, List.setIfInBounds_toArray, List.set_cons_zero, List.set_cons_succ]
      refine wpAnyM_one (i := 9) (by kernel_rfl) rfl (fun K hK => ?_)
      go_simp
      go_at_call 102
      refine (HDR.out _ HB5.out).mono ?_
      clear HDR d2 d4 dg
      rintro e w6 ⟨rfl, hs6⟩
      have HS6 := hid hs6
      clear hs6
      try go_simp
      refine hK.out _ _ (fun h => absurd h (by decide)) ?_
      clear hK K
      try simp only [Act.put, List.setIfInBounds_toArray, List.set_cons_zero, List.set_cons_succ]
      refine wpAnyM_done (by kernel_rfl) ?_ _
      try simp only [Act.put, List.setIfInBounds_toArray, List.set_cons_zero, List.set_cons_succ]
      obtain ⟨T6, hs6, hg6⟩ := HS6.out.sh
      have HK6 := hid HS6.out.keep
      have HSH := hid hs6
      have HG6 := hid hg6
      clear HS6 HK HBd HB5
      obtain ⟨m, c3, hm⟩ := Su.map (U := L.map Hp.pl) hs6
      have HM := hid hm
      have HC3 := hid c3
      clear hs6 hg6 hm
      go_wp2_with (first
        | (at_mapUpdate; refine wpList_put _ rfl _ _ _ rfl m _ _ rfl HM.out (by rw [HLN.out]; exact hnm) a _ rfl rfl ha ?_; clear c3; intro w7 hm7 hg7; have HM7 := hid hm7; have HG7 := hid hg7; have HS7 := hid (Su.held (w3 := w7) (T3 := T6) HFN.out HSH.out HC3.out hm7 hg7); clear hm7 hg7; obtain ⟨va, vc, c4, _, f4, _⟩ := HS7.out.1.read; rw [List.length_map, HLN.out] at c4)
        | (at_builtin; refine wpList_uses HS7.out.1 rfl (.tmp 39) (.tmp 41) rfl a n' (by rw [List.length_map, HLN.out]) (by omega) va vc c4 rfl rfl ?_; clear c4 f4; intro ua uc w8 c4 f4 hs8; have HS8 := hs8; clear hs8))
      go_end0
      obtain ⟨T8, s8, g8, k8⟩ := HS8.out
      exact ⟨rfl, HF.out _ _ _ _ _ _ m HFN.out HG6.out HK6.out HSH.out HC3.out HM7.out HG7.out s8 g8 k8⟩
    · go_simp
      go_at_call 210
      refine (HNX.out _ HBd.out).mono ?_
      rintro e w5 ⟨rfl, hb5⟩
      have HB5 := hid (HBd.out.trans (hb5.mono HBd.out.size))
      obtain ⟨d2, d4, dg⟩ := HK.out w5 HB5.out
      clear hb5 c2 c4 cg
      try go_simp
      refine hK.out _ _ (fun h => absurd h (by decide)) ?_
      clear hK K
      try simp only [Act.put, List.setIfInBounds_toArray, List.set_cons_zero, List.set_cons_succ]
      refine wpAnyM_one (i := 4) (by kernel_rfl) rfl (fun K hK => ?_)
      go_simp
      refine hK.out _ _ (fun h => absurd h (by decide)) ?_
      clear hK K
      try simp only [Act.put, List.setIfInBounds_toArray, List.set_cons_zero, List.set_cons_succ]
      refine wpAnyM_one (i := 7) (by kernel_rfl) rfl (fun K hK => ?_)
      go_simp
      refine hK.out _ _ (fun h => absurd h (by decide)) ?_
      clear hK K
      try simp only [Act.put, List.setIfInBounds_toArray, List.set_cons_zero, List.set_cons_succ]
      refine wpAnyM_one (i := 8) (by kernel_rfl) rfl (fun K hK => ?_)
      go_simp
      refine hK.out _ _ (fun h => absurd h (by decide)) ?_
      clear hK K
      try simp only [Act.put, List.setIfInBounds_toArray, List.set_cons_zero, List.set_cons_succ]
      refine wpAnyM_one (i := 9) (by kernel_rfl) rfl (fun K hK => ?_)
      go_simp
      go_at_call 102
      refine (HDR.out _ HB5.out).mono ?_
      clear HDR d2 d4 dg
      rintro e w6 ⟨rfl, hs6⟩
      have HS6 := hid hs6
      clear hs6
      try go_simp
      refine hK.out _ _ (fun h => absurd h (by decide)) ?_
      clear hK K
      try simp only [Act.put, List.setIfInBounds_toArray, List.set_cons_zero, List.set_cons_succ]
      refine wpAnyM_done (by kernel_rfl) ?_ _
      try simp only [Act.put, List.setIfInBounds_toArray, List.set_cons_zero, List.set_cons_succ]
      obtain ⟨T6, hs6, hg6⟩ := HS6.out.sh
      have HK6 := hid HS6.out.keep
      have HSH := hid hs6
      have HG6 := hid hg6
      clear HS6 HK HBd HB5
      obtain ⟨m, c3, hm⟩ := Su.map (U := L.map Hp.pl) hs6
      have HM := hid hm
      have HC3 := hid c3
      clear hs6 hg6 hm
      go_wp2_with (first
        | (at_mapUpdate; refine wpList_put _ rfl _ _ _ rfl m _ _ rfl HM.out (by rw [HLN.out]; exact hnm) a _ rfl rfl ha ?_; clear c3; intro w7 hm7 hg7; have HM7 := hid hm7; have HG7 := hid hg7; have HS7 := hid (Su.held (w3 := w7) (T3 := T6) HFN.out HSH.out HC3.out hm7 hg7); clear hm7 hg7; obtain ⟨va, vc, c4, _, f4, _⟩ := HS7.out.1.read; rw [List.length_map, HLN.out] at c4)
        | (at_builtin; refine wpList_uses HS7.out.1 rfl (.tmp 39) (.tmp 41) rfl a n' (by rw [List.length_map, HLN.out]) (by omega) va vc c4 rfl rfl ?_; clear c4 f4; intro ua uc w8 c4 f4 hs8; have HS8 := hs8; clear hs8))
      go_end0
      obtain ⟨T8, s8, g8, k8⟩ := HS8.out
      exact ⟨rfl, HF.out _ _ _ _ _ _ m HFN.out HG6.out HK6.out HSH.out HC3.out HM7.out HG7.out s8 g8 k8⟩
end

/-- a pager at block q over a disk at block k: all of it lies in S -/
def Pk (w : World) (S : Nat → Prop) (k q : Nat) (p : Pp) : Prop :=
  ∃ D T : Nat → Prop, (∀ j, S j ↔ D j ∨ T j) ∧ (∀ j, D j → ¬ T j) ∧ Dk w D k p.d ∧ Sh w T k q p.room p.rd p.hs p.ch
/-- what a call leaves -/
structure Pm (w : World) (S : Nat → Prop) (k q : Nat) (p : Pp) (W : World) : Prop where
  pk : ∃ S', Pk W S' k q p ∧ Grows S S' w
  keep : Keep S w W
theorem Pk.lt {w : World} {S : Nat → Prop} {k q : Nat} {p : Pp} (h : Pk w S k q p) : ∀ j, S j → j < w.heap.size := by
  obtain ⟨D, T, h1, _, h3, h4⟩ := h
  intro j hj
  rcases (h1 j).1 hj with hj | hj
  · exact h3.lt j hj
  · exact h4.1 j hj
theorem Keep.pk {R S : Nat → Prop} {w w' : World} {k q : Nat} {p : Pp} (h : Keep R w w') (hp : Pk w S k q p) (hn : ∀ j, S j → ¬ R j) : Pk w' S k q p := by
  obtain ⟨D, T, h1, h2, h3, h4⟩ := hp
  exact ⟨D, T, h1, h2, h.dk h3 (fun j hj => hn j ((h1 j).2 (.inl hj))), h.sh h4 (fun j hj => hn j ((h1 j).2 (.inr hj)))⟩
theorem Pk.on {w w' : World} {S : Nat → Prop} {k q : Nat} {p : Pp} (h : Pk w S k q p) (hb : Below w.heap.size w w') : Pk w' S k q p := (Keep.of_below (S := fun _ => False) hb).pk h (fun _ _ h => h)
theorem Pm.refl {w : World} {S : Nat → Prop} {k q : Nat} {p : Pp} (h : Pk w S k q p) : Pm w S k q p w := ⟨⟨S, h, Grows.refl _ _⟩, Keep.refl _ _⟩
theorem Pm.on {w W V : World} {S : Nat → Prop} {k q : Nat} {p : Pp} (h : Pm w S k q p W) (hb : Below W.heap.size W V) : Pm w S k q p V := by
  obtain ⟨S', h1, h2⟩ := h.pk
  exact ⟨⟨S', h1.on hb, h2⟩, h.keep.trans (Keep.of_below (S := fun _ => False) hb) (fun _ _ h => h.elim)⟩
theorem Pm.base {w W V : World} {S : Nat → Prop} {k q : Nat} {p : Pp} (h : Pm W S k q p V) (hb : Below w.heap.size w W) : Pm w S k q p V := by
  obtain ⟨S', h1, h2⟩ := h.pk
  refine ⟨⟨S', h1, fun j hj => ?_⟩, (Keep.of_below (S := S) hb).trans h.keep (fun _ _ h => h)⟩
  rcases h2 j hj with h' | h'
  · exact .inl h'
  · exact .inr (Nat.le_trans hb.size h')
theorem Pm.trans {w W V : World} {S S' : Nat → Prop} {k q : Nat} {p' : Pp} (hg : Grows S S' w) (hk : Keep S w W) (h : Pm W S' k q p' V) : Pm w S k q p' V := by
  obtain ⟨T2, h1, h2⟩ := h.pk
  refine ⟨⟨T2, h1, hg.trans h2 hk.size⟩, hk.trans h.keep (fun j hj h' => ?_)⟩
  rcases hg j h' with h' | h'
  · exact h'
  · omega
/-- the pager's own part turned -/
theorem Pm.shelf {w W : World} {S D T : Nat → Prop} {k q : Nat} {p : Pp} {hs : List Hp} {ch : List Pg} {rd : Nat} (h1 : ∀ j, S j ↔ D j ∨ T j) (h2 : ∀ j, D j → ¬ T j) (h3 : Dk w D k p.d) (h : Sm w T k q p.room rd hs ch W) : Pm w S k q { p with hs := hs, ch := ch, rd := rd } W := by
  obtain ⟨T', s1, s2⟩ := h.sh
  refine ⟨⟨fun j => D j ∨ T' j, ⟨D, T', fun j => Iff.rfl, fun j hj ht => ?_, h.keep.dk h3 h2, s1⟩, fun j hj => ?_⟩, h.keep.mono (fun j _ hj => (h1 j).2 (.inr hj))⟩
  · rcases s2 j ht with t | t
    · exact h2 j hj t
    · have := h3.lt j hj; omega
  · rcases hj with hj | hj
    · exact .inl ((h1 j).2 (.inl hj))
    · rcases s2 j hj with t | t
      · exact .inl ((h1 j).2 (.inr t))
      · exact .inr t
/-- the disk turned -/
theorem Pm.disk {w W : World} {S D T : Nat → Prop} {k q : Nat} {p : Pp} {d : Ds} (h1 : ∀ j, S j ↔ D j ∨ T j) (h2 : ∀ j, D j → ¬ T j) (h4 : Sh w T k q p.room p.rd p.hs p.ch) (h : Wm w D k d W) : Pm w S k q { p with d := d } W := by
  obtain ⟨D', s1, s2⟩ := h.disk
  refine ⟨⟨fun j => D' j ∨ T j, ⟨D', T, fun j => Iff.rfl, fun j hj ht => ?_, s1, h.keep.sh h4 (fun j hj hd => h2 j hd hj)⟩, fun j hj => ?_⟩, h.keep.mono (fun j _ hj => (h1 j).2 (.inl hj))⟩
  · rcases s2 j hj with t | t
    · exact h2 j t ht
    · have := h4.1 j ht; omega
  · rcases hj with hj | hj
    · rcases s2 j hj with t | t
      · exact .inl ((h1 j).2 (.inl t))
      · exact .inr t
    · exact .inl ((h1 j).2 (.inr hj))

theorem pnew_nil (r : Int) (w : World) : Calls Tryz.prog 66 #[.pointer none, .int .i64 r] w fun e w' => e = .returned (.tuple #[.pointer none, .int .i64 18]) ∧ w = w' := by
  go_enter Tryz.func66, Tryz.ntmps66
  go_wp2
  go_ret2
  exact ⟨rfl, rfl⟩
theorem pnew_no (k : Nat) (r : Int) (hr : ¬ (1 ≤ r ∧ r ≤ 1024)) (w : World) : Calls Tryz.prog 66 #[.pointer (some ⟨k, 0, none⟩), .int .i64 r] w fun e w' => e = .returned (.tuple #[.pointer none, .int .i64 1]) ∧ w = w' := by
  by_cases h1 : r < 1
  · have h2 : decide (r < 1) = true := decide_eq_true h1
    go_enter Tryz.func66, Tryz.ntmps66
    go_wp2
    go_ret2
    exact ⟨rfl, rfl⟩
  · have h2 : decide (r < 1) = false := decide_eq_false h1
    have h3 : 1024 < r := by omega
    go_enter Tryz.func66, Tryz.ntmps66
    go_wp2
    go_ret2
    exact ⟨rfl, rfl⟩
/-- a pager without pages -/
def pw (d : Ds) (room : Nat) : Pp := ⟨d, room, [], [], 0⟩
theorem size_alloc (w : World) (o : Obj) : (w.alloc o).heap.size = w.heap.size + 1 := by unfold World.alloc; exact Array.size_push _
theorem pnew_made (S : Nat → Prop) (k : Nat) (d : Ds) (r : Nat) (w : World) (hd : Dk w S k d) : ∃ S', Pk ((w.alloc (.map #[] 0)).alloc (.cells #[.pointer (some ⟨k, 0, none⟩), .slice none 0 0, .int .i64 (r : Nat), .map (some w.heap.size), .slice none 0 0, .int .i64 0] 157)) S' k (w.heap.size + 1) (pw d r) ∧ Grows S S' w := by
  have hb1 : Below w.heap.size w (w.alloc (.map #[] 0)) := (Below.refl _ _).alloc (Nat.le_refl _) _
  have hd2 := hd.on hb1
  have hm2 : ∀ o : Obj, IMap ((w.alloc (.map #[] 0)).alloc o) w.heap.size 0 (fun _ => none) := fun o => (IMap.made w).same (Below.heap_alloc _ _ _ (by rw [size_alloc]; omega))
  have hbk := Blk.made (w.alloc (.map #[] 0)) #[.pointer (some ⟨k, 0, none⟩), .slice none 0 0, .int .i64 (r : Nat), .map (some w.heap.size), .slice none 0 0, .int .i64 0] 157
  rw [size_alloc] at hbk
  refine ⟨fun j => S j ∨ (j = w.heap.size ∨ j = w.heap.size + 1), ⟨S, fun j => j = w.heap.size ∨ j = w.heap.size + 1, fun j => Iff.rfl, fun j hj hh => ?_, hd2.on ((Below.refl _ _).alloc (Nat.le_refl _) _), ⟨fun j hj => ?_, .inr rfl, .slice none 0 0, .slice none 0 0, w.heap.size, hbk, World.ownsRow_nil _ _ _ _, World.ownsRow_nil _ _ _ _, hm2 _, fun g e => (by simp [Value.ownBlock] at e), fun g e => (by simp [Value.ownBlock] at e), .inl rfl⟩⟩, fun j hj => ?_⟩
  · have := hd.lt j hj; omega
  · rw [size_alloc, size_alloc]
    omega
  · rcases hj with hj | hj
    · exact .inl hj
    · exact .inr (by omega)
theorem pnew_any (S : Nat → Prop) (k : Nat) (d : Ds) (r : Nat) (hr : 1 ≤ r ∧ r ≤ 1024) (w : World) (hd : Dk w S k d) : Calls Tryz.prog 66 #[.pointer (some ⟨k, 0, none⟩), .int .i64 (r : Nat)] w fun e w' => ∃ q, e = .returned (.tuple #[.pointer (some ⟨q, 0, none⟩), .int .i64 0]) ∧ (∃ S', Pk w' S' k q (pw d r) ∧ Grows S S' w) ∧ Below w.heap.size w w' := by
  have h1 : ¬ (r : Int) < 1 := by omega
  have h2 : decide ((r : Int) < 1) = false := decide_eq_false h1
  have h3 : ¬ 1024 < (r : Int) := by omega
  have HD := hid (pnew_made S k d r w hd)
  have HB : Hid (∀ o : Obj, Below w.heap.size w ((w.alloc (.map #[] 0)).alloc o)) := fun o => ((Below.refl _ _).alloc (Nat.le_refl _) _).alloc (by rw [size_alloc]; omega) _
  have hsz := size_alloc w (.map #[] 0)
  clear hd
  have hmk : ∀ v : World, (Instr.makeMap 153 none).run Tryz.prog v = .ok (.map (some v.heap.size)) (v.alloc (.map #[] 0)) := fun v => by kernel_rfl
  have hb56 : ∀ (v : World) (x : Int) (m : Option Nat), (Instr.build 155 #[(0, .int .i64 x), (1, .map m)]).run Tryz.prog v = .ok (.agg #[.int .i64 x, .map m, .slice none 0 0]) v := fun v x m => by kernel_rfl
  have hb59 : ∀ (v : World) (x : Int) (m : Option Nat) (a : Option Addr), (Instr.build 157 #[(0, .pointer a), (2, .agg #[.int .i64 x, .map m, .slice none 0 0])]).run Tryz.prog v = .ok (.agg #[.pointer a, .slice none 0 0, .int .i64 x, .map m, .slice none 0 0, .int .i64 0]) v := fun v x m a => by kernel_rfl
  go_enter Tryz.func66, Tryz.ntmps66
  go_wp2
  go_ret2
  exact ⟨_, rfl, HD.out, HB.out _⟩

theorem pisPage_if (n f g : Nat) (b1 : g ≤ 1019) (b2 : 31 ≤ g) (b3 : f ≤ 2000) (a : Int) (w : World) (z : Bool) (hz : z = true ↔ (a = 0 ∨ (f : Int) ≤ a ∧ a < (f : Int) + (g : Int) - 1))
    (hf : Calls Tryz.prog 137 #[.int .i64 (n : Nat)] w fun e w' => e = .returned (.int .i64 (f : Nat)) ∧ w = w') (hp : Calls Tryz.prog 175 #[.int .i64 (n : Nat)] w fun e w' => e = .returned (.int .i64 (g : Nat)) ∧ w = w') : Calls Tryz.prog 156 #[.int .i64 (n : Nat), .int .i64 a] w fun e w' => e = .returned (.bool z) ∧ w = w' := by
  by_cases h0 : a = 0
  · obtain rfl : z = true := hz.2 (.inl h0)
    subst h0
    clear hz
    go_enter Tryz.func156, Tryz.ntmps156
    go_wp2_with (first
      | (go_at_call 137; refine hf.mono ?_; clear hf; rintro e w1 ⟨rfl, rfl⟩))
    go_ret
    exact ⟨rfl, rfl⟩
  · have h0b : (a == 0) = false := by simp; omega
    by_cases h3 : (f : Int) ≤ a
    · have h3b : decide ((f : Int) ≤ a) = true := decide_eq_true h3
      by_cases h4 : a < (f : Int) + (g : Int) - 1
      · obtain rfl : z = true := hz.2 (.inr ⟨h3, h4⟩)
        clear hz
        go_enter Tryz.func156, Tryz.ntmps156
        go_wp2_with (first
          | (go_at_call 137; refine hf.mono ?_; clear hf; rintro e w1 ⟨rfl, rfl⟩)
          | (go_at_call 175; refine hp.mono ?_; clear hp; rintro e w1 ⟨rfl, rfl⟩))
        go_ret
        exact ⟨rfl, rfl⟩
      · obtain rfl : z = false := by cases z with | false => rfl | true => exact absurd (hz.1 rfl) (by omega)
        clear hz
        go_enter Tryz.func156, Tryz.ntmps156
        go_wp2_with (first
          | (go_at_call 137; refine hf.mono ?_; clear hf; rintro e w1 ⟨rfl, rfl⟩)
          | (go_at_call 175; refine hp.mono ?_; clear hp; rintro e w1 ⟨rfl, rfl⟩))
        go_ret
        exact ⟨by rw [← decide_eq_false (show ¬ a < (f : Int) + (g : Int) - 1 by omega)]; rfl, rfl⟩
    · have h3b : decide ((f : Int) ≤ a) = false := decide_eq_false h3
      obtain rfl : z = false := by cases z with | false => rfl | true => exact absurd (hz.1 rfl) (by omega)
      clear hz
      go_enter Tryz.func156, Tryz.ntmps156
      go_wp2_with (first
        | (go_at_call 137; refine hf.mono ?_; clear hf; rintro e w1 ⟨rfl, rfl⟩))
      go_ret
      exact ⟨rfl, rfl⟩
theorem pisPage_any (n : Nat) (h1 : 64 ≤ n) (h2 : n ≤ 2048) (a : Int) (w : World) : Calls Tryz.prog 156 #[.int .i64 (n : Nat), .int .i64 a] w fun e w' => e = .returned (.bool (decide (isPg n a))) ∧ w = w' := by
  have b1 := pgs_hi h2
  have b2 := pgs_lo h1
  exact pisPage_if n (frs n) (pgs n) b1 b2 (by unfold frs lb; omega) a w _ (by rw [decide_eq_true_eq]; unfold isPg; omega) (first_any n h1 h2 w) (pages_any n h1 h2 w)

section
variable {w : World} {S : Nat → Prop} {k q : Nat} {p : Pp}
theorem Pk.blk (h : Pk w S k q p) : ∃ cv uv m, Blk w q #[.pointer (some ⟨k, 0, none⟩), cv, .int .i64 (p.room : Nat), .map (some m), uv, .int .i64 (p.rd : Nat)] 157 := by
  obtain ⟨D, T, _, _, _, _, _, cv, uv, m, h, _⟩ := h
  exact ⟨cv, uv, m, h⟩
theorem prefuses_nil (a : Int) (w : World) : Calls Tryz.prog 100 #[.pointer none, .int .i64 a] w fun e w' => e = .returned (.int .i64 18) ∧ w = w' := by
  go_enter Tryz.func100, Tryz.ntmps100
  go_wp2
  go_ret
  exact ⟨rfl, rfl⟩
theorem prefuses_any (a : Int) (h : Pk w S k q p) : Calls Tryz.prog 100 #[.pointer (some ⟨q, 0, none⟩), .int .i64 a] w fun e w' => e = .returned (.int .i64 (if isPg p.d.bs.length a then 0 else 1)) ∧ w = w' := by
  obtain ⟨cv, uv, m, hb⟩ := h.blk
  have c0 : w.cell? ⟨q, 0, none⟩ = some (.pointer (some ⟨k, 0, none⟩)) := hb.cell (i := 0) rfl
  obtain ⟨D, T, _, _, hd, _⟩ := h
  have hln := len_any w D k p.d hd
  have hip := pisPage_any p.d.bs.length hd.1.lo hd.1.hi a w
  clear hb hd
  by_cases hp : isPg p.d.bs.length a
  · rw [if_pos hp]
    rw [decide_eq_true hp] at hip
    clear hp
    generalize p.d.bs.length = n at *
    go_enter Tryz.func100, Tryz.ntmps100
    go_wp2_with (first
      | (go_at_call 84; refine hln.mono ?_; clear hln; rintro e w1 ⟨rfl, rfl⟩)
      | (go_at_call 156; refine hip.mono ?_; clear hip; rintro e w1 ⟨rfl, rfl⟩))
    go_ret
    exact ⟨rfl, rfl⟩
  · rw [if_neg hp]
    rw [decide_eq_false hp] at hip
    clear hp
    generalize p.d.bs.length = n at *
    go_enter Tryz.func100, Tryz.ntmps100
    go_wp2_with (first
      | (go_at_call 84; refine hln.mono ?_; clear hln; rintro e w1 ⟨rfl, rfl⟩)
      | (go_at_call 156; refine hip.mono ?_; clear hip; rintro e w1 ⟨rfl, rfl⟩))
    go_ret
    exact ⟨rfl, rfl⟩
theorem undo_nil (w : World) : Calls Tryz.prog 58 #[.pointer none] w fun e w' => e = .returned (.tuple #[]) ∧ w = w' := by
  go_enter Tryz.func58, Tryz.ntmps58
  go_wp2
  go_end0
  exact ⟨rfl, rfl⟩
/-- a cell of the pager's block turned -/
theorem Su.cell1 {T : Nat → Prop} {room rd : Nat} {U : List Int} {hs : List Hp} {ch ch' : List Pg} (h : Su w T k q room rd U hs ch) {cv : Value} (hr : RowP w 0 cv ch') (hc : In T cv) : Su (w.setCell ⟨q, 1, none⟩ cv) T k q room rd U hs ch' ∧ Keep T w (w.setCell ⟨q, 1, none⟩ cv) := by
  obtain ⟨h1, h2, cv0, uv, m, h3, h4, h5, h6, h7, h8, h9⟩ := h
  have k2 : Keep (fun j => j = q) w (w.setCell ⟨q, 1, none⟩ cv) := Keep.set (S := fun j => j = q) w rfl 1 cv
  refine ⟨⟨fun j hj => ?_, h2, cv, uv, m, h3.set 1 cv, k2.row hr (fun g e => h3.ne hr (by decide) e), k2.row h5 (fun g e => h3.ne h5 (by decide) e), k2.imap h6 (fun e => (h6.ne_blk h3) e.symm), hc, h8, h9⟩, Keep.set (S := T) w h2 1 cv⟩
  have := h1 j hj
  simpa [World.setCell] using this
theorem Su.cell5 {T : Nat → Prop} {room rd rd' : Nat} {U : List Int} {hs : List Hp} {ch : List Pg} (h : Su w T k q room rd U hs ch) : Su (w.setCell ⟨q, 5, none⟩ (.int .i64 (rd' : Nat))) T k q room rd' U hs ch ∧ Keep T w (w.setCell ⟨q, 5, none⟩ (.int .i64 (rd' : Nat))) := by
  obtain ⟨h1, h2, cv0, uv, m, h3, h4, h5, h6, h7, h8, h9⟩ := h
  have k2 : Keep (fun j => j = q) w (w.setCell ⟨q, 5, none⟩ (.int .i64 (rd' : Nat))) := Keep.set (S := fun j => j = q) w rfl 5 _
  refine ⟨⟨fun j hj => ?_, h2, cv0, uv, m, h3.set 5 _, k2.row h4 (fun g e => h3.ne h4 (by decide) e), k2.row h5 (fun g e => h3.ne h5 (by decide) e), k2.imap h6 (fun e => (h6.ne_blk h3) e.symm), h7, h8, h9⟩, Keep.set (S := T) w h2 5 _⟩
  have := h1 j hj
  simpa [World.setCell] using this
theorem undo_any (h : Pk w S k q p) : Calls Tryz.prog 58 #[.pointer (some ⟨q, 0, none⟩)] w fun e w' => e = .returned (.tuple #[]) ∧ Pm w S k q p.undo w' := by
  obtain ⟨cv, uv, m, hb⟩ := h.blk
  have c1 := hb.cell (i := 1) rfl
  have f1 := hb.free 1
  obtain ⟨D, T, h1, h2, h3, h4⟩ := h
  have h5 := Su.cell1 (ch' := []) (cv := .slice none 0 0) h4 (World.ownsRow_nil _ _ _ _) (fun g e => by simp [Value.ownBlock] at e)
  have HF := hid (Pm.shelf (p := p) (rd := p.rd) (hs := p.hs) (ch := []) h1 h2 h3 ⟨⟨T, h5.1, Grows.refl _ _⟩, h5.2⟩)
  clear hb h1 h2 h3 h4 h5
  go_enter Tryz.func58, Tryz.ntmps58
  go_wp2
  go_end0
  exact ⟨rfl, HF.out⟩
end

end Go.Proofs.YtjcbaiohpdihoaaGreatDoor
