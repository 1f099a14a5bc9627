/-
  What the reader's readTerm does.
-/
import Derived.Test.YtjpmlnigjbdnnaaDoorName
import Derived.Deep.LoopGhost
namespace Go.Proofs.YtjpmlnigjbdnnaaDoor
open Go.RowKit
set_option linter.unusedVariables false
set_option maxRecDepth 100000

theorem flatC_setA (a : Int) : ∀ (L : List Cl) (i : Nat), flatC (setA L i a) = (flatC L).set (i * 2 + 1) (.int .i64 a)
  | [], i => by simp [setA, flatC]
  | c :: r, 0 => rfl
  | c :: r, i + 1 => by
    have := flatC_setA a r i
    unfold setA at this ⊢
    rw [List.modify_succ_cons, show (i + 1) * 2 + 1 = i * 2 + 1 + 1 + 1 by omega]
    simp only [flatC, List.set_cons_succ, this]

theorem own_set {w : World} {B : Nat} {e : TypeId} {size n cap g : Nat} {xs : List Value} (h : w.ownsRow B e size (.slice (some ⟨g, 0, none⟩) n cap) n xs) (i : Nat) (u : Value) :
    (w.setCell ⟨g, i, none⟩ u).ownsRow B e size (.slice (some ⟨g, 0, none⟩) n cap) n (xs.set i u) := by
  obtain ⟨hl, hn | ⟨g', cap', cur, hv, hB, hg, h1, h2, h3, h4⟩⟩ := h
  · cases hn.1
  · cases hv
    refine ⟨by rw [List.length_set]; exact hl, .inr ⟨g, cap, cur.setIfInBounds i u, rfl, hB, ?_, h1, h2, by rw [Array.size_setIfInBounds]; exact h3, ?_⟩⟩
    · simp only [World.setCell, Array.getElem?_modify, hg, if_true]
      rfl
    · rw [Array.toList_setIfInBounds, ← h4, List.take_set]

theorem Rdr.setAr {w : World} {b : Nat} {s : ByteArray} {k : Nat} {L : List Cl} {n cap g : Nat} (h : Rdr w b s k (.slice (some ⟨g, 0, none⟩) n cap) L) (hn : n = L.length) (i : Nat) (a : Int) (ha0 : 0 ≤ a) (ha4 : a ≤ 4) (hbg : b < g) :
    Rdr (w.setCell ⟨g, i * 2 + 1, none⟩ (.int .i64 a)) b s k (.slice (some ⟨g, 0, none⟩) n cap) (setA L i a) ∧ Below b w (w.setCell ⟨g, i * 2 + 1, none⟩ (.int .i64 a)) := by
  subst hn
  refine ⟨⟨?_, ?_, ?_⟩, (Below.refl b w).setCell (by show b ≤ g; omega) _⟩
  · rw [Below.heap_setCell _ _ _ _ (by show b ≠ g; omega)]; exact h.blk
  · show World.ownsRow _ _ _ _ _ _ _
    rw [flatC_setA, setA_length]
    exact own_set h.own _ _
  · intro c hc
    unfold setA at hc
    obtain ⟨j, hj⟩ := List.getElem?_of_mem hc
    rw [List.getElem?_modify] at hj
    cases h0 : L[j]? with
    | none => rw [h0] at hj; simp at hj
    | some c0 =>
      have f0 := h.fine c0 (List.mem_of_getElem? h0)
      rw [h0] at hj
      by_cases hij : i = j
      · simp only [hij, if_true, Option.map_eq_map, Option.map_some, Option.some.injEq] at hj
        subst hj
        exact ⟨f0.1, by show _ ≤ a; omega, by show a ≤ _; omega⟩
      · simp only [hij, if_false, Option.map_eq_map, Option.map_some, Option.some.injEq] at hj
        subst hj; exact f0

/-- a place of a list of the reader's, as cells -/
theorem Rdr.at {w : World} {b : Nat} {s : ByteArray} {k : Nat} {v : Value} {L : List Cl} (h : Rdr w b s k v L) {i : Nat} {c : Cl} (hi : L[i]? = some c) :
    ∃ g cap, v = .slice (some ⟨g, 0, none⟩) L.length cap ∧ b < g ∧ g < w.heap.size ∧ L.length ≤ cap ∧ w.cell? ⟨g, i * 2, none⟩ = some (.string c.nm) ∧ w.cell? ⟨g, i * 2 + 1, none⟩ = some (.int .i64 c.ar) ∧ w.frozen? ⟨g, i * 2 + 1, none⟩ = false := by
  obtain ⟨hl, hn | ⟨g, cap, cur, hv, hB, hg, h1, h2, h3, h4⟩⟩ := h.own
  · obtain ⟨_, h0⟩ := hn
    rw [List.eq_nil_of_length_eq_zero h0] at hi
    simp at hi
  · have hlt : g < w.heap.size := by
      rcases Nat.lt_or_ge g w.heap.size with h' | h'
      · exact h'
      · rw [Array.getElem?_eq_none h'] at hg; cases hg
    obtain ⟨a, cap', hv', _, _, h5⟩ := own_cells h.own
    obtain ⟨g1, e1, _, _, c1⟩ := h5 (i * 2) (.string c.nm) (by rw [flatC_even, hi]; rfl)
    obtain ⟨g2, e2, _, _, c2⟩ := h5 (i * 2 + 1) (.int .i64 c.ar) (by rw [flatC_odd, hi]; rfl)
    rw [hv] at hv'
    cases hv'
    cases e1; cases e2
    exact ⟨g, cap, hv, by omega, hlt, h1, c1, c2, Lib.frozen_of_heap hg _⟩

/-- how a call of the reader's ends -/
def Ends (w : World) (b : Nat) (s : ByteArray) (r : R) (x : Ending) (w' : World) : Prop :=
  match r with
  | .bad j e => x = .panicked (fl j e) ∧ Below b w w'
  | .ok M j => x = .returned (.tuple #[]) ∧ Below b w w' ∧ ∃ v', Rdr w' b s j v' M

theorem rd_err {s : ByteArray} {f k : Nat} {L : List Cl} {e : Nat} (h : nameErr s k L = some e) : rd s (f + 1) k L = .bad k e := by
  rw [rd]
  unfold nameErr at h
  by_cases h1 : endw s.data.toList k = k
  · rw [if_pos h1] at h ⊢; cases h; rfl
  · rw [if_neg h1] at h ⊢
    by_cases h2 : kind (s.extract k (endw s.data.toList k)).data.toList = 0
    · rw [if_pos h2] at h ⊢; cases h; rfl
    · rw [if_neg h2] at h ⊢
      by_cases h3 : L.length = 64
      · rw [if_pos h3] at h ⊢; cases h; rfl
      · rw [if_neg h3] at h; cases h
theorem rd_go {s : ByteArray} {f k : Nat} {L : List Cl} (h : nameErr s k L = none) : L.length ≠ 64 ∧ rd s (f + 1) k L = (if stand s (endw s.data.toList k) 40 then
      (if kind (s.extract k (endw s.data.toList k)).data.toList = 2 then .bad (endw s.data.toList k) 5
       else args (rd s f) s.data.toList L.length 4 (endw s.data.toList k) (L ++ [⟨s.extract k (endw s.data.toList k), 0⟩]))
    else .ok (L ++ [⟨s.extract k (endw s.data.toList k), 0⟩]) (endw s.data.toList k)) := by
  unfold nameErr at h
  rw [rd]
  by_cases h1 : endw s.data.toList k = k
  · rw [if_pos h1] at h; cases h
  · rw [if_neg h1] at h ⊢
    by_cases h2 : kind (s.extract k (endw s.data.toList k)).data.toList = 0
    · rw [if_pos h2] at h; cases h
    · rw [if_neg h2] at h ⊢
      by_cases h3 : L.length = 64
      · rw [if_pos h3] at h; cases h
      · rw [if_neg h3]
        refine ⟨h3, ?_⟩
        unfold stand
        simp only [decide_eq_true_eq]
theorem args_next {f : Nat → List Cl → R} {s : ByteArray} {own m k : Nat} {L : List Cl} : args f s.data.toList own (m + 1) k L = match f (k + 1) L with
    | .bad j e => .bad j e
    | .ok M j => match behindArg s j ((4 - m : Nat) : Int) with
      | some e => .bad j e
      | none => if stand s j 41 then .ok (setA M own ((4 - m : Nat) : Int)) (j + 1) else args f s.data.toList own m j (setA M own ((4 - m : Nat) : Int)) := by
  rw [args]
  cases f (k + 1) L with
  | bad j e => rfl
  | ok M j =>
    simp only
    unfold behindArg stand
    generalize s.data.toList[j]? = o
    by_cases h41 : o = some 41
    · subst h41; simp
    · by_cases h44 : o = some 44
      · subst h44
        by_cases hm : m = 0
        · subst hm; simp
        · have : ¬ ((4 - m : Nat) : Int) = 4 := by omega
          simp [hm, this]
      · simp [h41, h44]

theorem readName_bad {w : World} {b : Nat} {s : ByteArray} {k : Nat} {v : Value} {L : List Cl} (h : Rdr w b s k v L) (hs : s.size ≤ 1024) (hk : k ≤ s.size) (hL : L.length ≤ 64) {e : Nat} (he : nameErr s k L = some e) :
    Calls Tryd.prog 89 #[.pointer (some ⟨b, 0, none⟩)] w fun x w' => x = .panicked (fl k e) ∧ Below b w w' := by
  refine (readName_any w b s k v L h hs hk hL).mono fun x w' hx => ?_
  rcases hx with ⟨e', h1, h2⟩ | ⟨h1, _⟩
  · rw [he] at h1; cases h1; exact h2
  · rw [he] at h1; cases h1
theorem readName_good {w : World} {b : Nat} {s : ByteArray} {k : Nat} {v : Value} {L : List Cl} (h : Rdr w b s k v L) (hs : s.size ≤ 1024) (hk : k ≤ s.size) (hL : L.length ≤ 64) (he : nameErr s k L = none) :
    Calls Tryd.prog 89 #[.pointer (some ⟨b, 0, none⟩)] w fun x w' => x = .returned (.tuple #[]) ∧ Below b w w' ∧ ∃ v', Rdr w' b s (endw s.data.toList k) v' (L ++ [⟨s.extract k (endw s.data.toList k), 0⟩]) := by
  refine (readName_any w b s k v L h hs hk hL).mono fun x w' hx => ?_
  rcases hx with ⟨e', h1, h2⟩ | ⟨_, h2⟩
  · rw [he] at h1; cases h1
  · exact h2

set_option maxHeartbeats 2000000 in
theorem readTerm_any (s : ByteArray) (hs : s.size ≤ 1024) : ∀ (f : Nat) (w : World) (b k : Nat) (v : Value) (L : List Cl), Rdr w b s k v L → k ≤ s.size → L.length ≤ 64 → 65 ≤ f + L.length →
    Calls Tryd.prog 72 #[.pointer (some ⟨b, 0, none⟩)] w fun x w' => Ends w b s (rd s f k L) x w' := by
  intro f
  induction f with
  | zero => intro w b k v L _ _ h1 h2; omega
  | succ f ih =>
    intro w b k v L hR hk hL hf
    have c2 := hR.c2
    have hlt := hR.lt
    obtain ⟨al, capv, hvv, _⟩ := own_cells hR.own
    subst hvv
    have hge := endw_ge s.data.toList k
    have hle := endw_le s.data.toList k (by rw [size_list]; exact hk)
    rw [size_list] at hle
    cases hne : nameErr s k L with
    | some e0 =>
      have HR : Hid (rd s (f + 1) k L = .bad k e0) := rd_err hne
      have hname := readName_bad hR hs hk hL hne
      clear ih hne hge hle
      generalize rd s (f + 1) k L = RES at HR ⊢
      go_enter Tryd.func72, Tryd.ntmps72
      go_wp2_with (go_at_call 89; refine hname.mono ?_; rintro x w1 ⟨rfl, hb1⟩)
      exact ⟨rfl, by rw [HR.out]; exact ⟨rfl, hb1⟩⟩
    | none =>
      obtain ⟨hL64, hgo⟩ := rd_go (f := f) hne
      have HR : Hid (rd s (f + 1) k L = _) := hgo
      have hname := readName_good hR hs hk hL hne
      have hnsz : (s.extract k (endw s.data.toList k)).size ≤ 1024 := by rw [ByteArray.size_extract]; omega
      generalize rd s (f + 1) k L = RES at HR ⊢
      generalize endw s.data.toList k = to at HR hname hge hle hnsz
      generalize s.extract k to = nm at HR hname hnsz
      clear hgo hne
      have H40 : ∀ w1 v1 L1, Rdr w1 b s to v1 L1 → _ := fun w1 v1 L1 h1 => stands_any w1 b s to v1 L1 40 h1 hs
      have e40 : ((40 : UInt8).toNat : Int) = 40 := rfl
      simp only [e40] at H40
      by_cases h40 : stand s to 40 = true
      · have HR2 : Hid (RES = if kind nm.data.toList = 2 then .bad to 5 else args (rd s f) s.data.toList L.length 4 to (L ++ [⟨nm, 0⟩])) := by show _ = _; rw [HR.out, if_pos h40]
        have hkd := fun w => kind_any nm w (by unfold maxLen; omega)
        rw [h40] at H40
        have HAT : Hid (s.data.toList[to]? = some 40) := by show _ = _; unfold stand at h40; simpa using h40
        clear HR h40
        generalize kind nm.data.toList = q at HR2 hkd
        by_cases hq : q = 2
        · subst hq
          have HR3 : Hid (RES = .bad to 5) := HR2.out
          have HG : ∀ w1 v1 L1, Rdr w1 b s to v1 L1 → _ := fun w1 v1 L1 h1 => giveUp_any w1 b s to v1 L1 5 h1
          clear HR2 ih
          go_enter Tryd.func72, Tryd.ntmps72
          go_wp2_with (first
            | (go_at_call 89; refine hname.mono ?_; rintro x w1 ⟨rfl, hb1, v1, R1⟩)
            | (go_at_call 90; refine (H40 _ _ _ R1).mono ?_; rintro x w2 ⟨rfl, hb2⟩; have R2 := R1.on hb2; obtain ⟨g, cap1, hv1, hbg, hgl, hcp, d1, d2, d3⟩ := R2.at (i := L.length) (c := ⟨nm, 0⟩) (by simp); subst hv1; have d4 := R2.c2; have hb3 := hb1.trans (hb2.mono (Nat.le_of_lt R1.lt)); have hll : (L ++ [(⟨nm, 0⟩ : Cl)]).length = L.length + 1 := by simp)
            | (go_at_call 33; refine (hkd _).mono ?_; rintro x w4 ⟨rfl, rfl⟩)
            | (go_at_call 91; refine (HG _ _ _ R2).mono ?_; rintro x w5 ⟨rfl, rfl⟩))
          exact ⟨rfl, by rw [HR3.out]; exact ⟨rfl, hb3⟩⟩
        · have HR3 : Hid (RES = args (rd s f) s.data.toList L.length 4 to (L ++ [⟨nm, 0⟩])) := by show _ = _; rw [HR2.out, if_neg hq]
          have q1 : ((q : Int) == 2) = false := by simp only [beq_eq_false_iff_ne]; omega
          have q2 : ¬ (q : Int) = 2 := by omega
          have H41 : ∀ w1 j v1 L1, Rdr w1 b s j v1 L1 → _ := fun w1 j v1 L1 h1 => stands_any w1 b s j v1 L1 41 h1 hs
          have e41 : ((41 : UInt8).toNat : Int) = 41 := rfl
          simp only [e41] at H41
          have HIH : Hid (∀ (w : World) (k : Nat) (v : Value) (L : List Cl), Rdr w b s k v L → k ≤ s.size → L.length ≤ 64 → 65 ≤ f + L.length →
              Calls Tryd.prog 72 #[.pointer (some ⟨b, 0, none⟩)] w fun x w' => Ends w b s (rd s f k L) x w') := fun w k v L => ih w b k v L
          clear HR2 ih
          go_enter Tryd.func72, Tryd.ntmps72
          go_wp2_with (first
            | (go_at_call 89; refine hname.mono ?_; rintro x w1 ⟨rfl, hb1, v1, R1⟩)
            | (go_at_call_of 90 (Value.int IntKind.u8 40); refine (H40 _ _ _ R1).mono ?_; rintro x w2 ⟨rfl, hb2⟩; have R2 := R1.on hb2; obtain ⟨g, cap1, hv1, hbg, hgl, hcp, d1, d2, d3⟩ := R2.at (i := L.length) (c := ⟨nm, 0⟩) (by simp); subst hv1; have d4 := R2.c2; have hb3 := hb1.trans (hb2.mono (Nat.le_of_lt R1.lt)); have hll : (L ++ [(⟨nm, 0⟩ : Cl)]).length = L.length + 1 := by simp)
            | (go_at_call 33; refine (hkd _).mono ?_; rintro x w4 ⟨rfl, rfl⟩))
          have R2h : Hid (Rdr _ b s to _ (L ++ [⟨nm, 0⟩])) := R2
          have hb3h := hb3
          clear R1 R2 hb1 hb2 d1 d2 d3 d4 hname H40 hkd hb3
          go_loopg [] 4 (fun m wr => ∃ (j : Nat) (v' : Value) (X : List Cl), Rdr wr b s j v' (L ++ ⟨nm, ((4 - m : Nat) : Int)⟩ :: X) ∧ Below b w wr ∧ j ≤ s.size ∧ m ≤ 4 ∧ (L ++ (⟨nm, ((4 - m : Nat) : Int)⟩ : Cl) :: X).length ≤ 64 ∧
            ((stand s j 41 = false ∧ j < s.size ∧ 0 < m ∧ Hid (RES = args (rd s f) s.data.toList L.length m j (L ++ ⟨nm, ((4 - m : Nat) : Int)⟩ :: X))) ∨ (stand s j 41 = true ∧ Hid (RES = .ok (L ++ ⟨nm, ((4 - m : Nat) : Int)⟩ :: X) (j + 1)))))
          case atStart => exact ⟨to, _, [], R2h.out, hb3h, hle, Nat.le_refl _, by simp; omega, .inl ⟨by unfold stand; rw [HAT.out]; decide, by have := lt_of_get HAT.out; rwa [size_list] at this, by omega, HR3.out⟩⟩
          case round =>
            obtain ⟨j, v', X, hR', hb', hj, hm, hX, hst⟩ := hrel
            have hbl := hR'.lt
            have hjsz : j ≤ 1024 := by omega
            rcases hst with ⟨hs41, hj2, hm0, HA⟩ | ⟨hs41, HA⟩
            · obtain ⟨m', rfl⟩ : ∃ m', gk = m' + 1 := ⟨gk - 1, by omega⟩
              obtain ⟨a, ha⟩ : ∃ a : Nat, 4 - (m' + 1) = a := ⟨_, rfl⟩
              have ha3 : a ≤ 3 := by omega
              have ham : ((4 - m' : Nat) : Int) = (a : Int) + 1 := by omega
              have HAM : Hid (((4 - m' : Nat) : Int) = (a : Int) + 1) := ham
              rw [ha] at hR' hX HA
              have HA2 : Hid (RES = match rd s f (j + 1) (L ++ ⟨nm, (a : Int)⟩ :: X) with
                  | .bad j e => .bad j e
                  | .ok M j => match behindArg s j ((a : Int) + 1) with
                    | some e => .bad j e
                    | none => if stand s j 41 then .ok (setA M L.length ((a : Int) + 1)) (j + 1) else args (rd s f) s.data.toList L.length m' j (setA M L.length ((a : Int) + 1))) := by
                show _ = _
                rw [HA.out, args_next, ham]
              have hst41 := H41 wr j v' _ hR'
              rw [hs41] at hst41
              have HIH2 : Hid (∀ w1, Rdr w1 b s (j + 1) v' (L ++ ⟨nm, (a : Int)⟩ :: X) → Calls Tryd.prog 72 #[.pointer (some ⟨b, 0, none⟩)] w1 fun x w' => Ends w1 b s (rd s f (j + 1) (L ++ ⟨nm, (a : Int)⟩ :: X)) x w') :=
                fun w1 h1 => HIH.out w1 (j + 1) v' _ h1 (by omega) hX (by simp at hX ⊢; omega)
              have HGOT : Hid (∀ M j1, rd s f (j + 1) (L ++ ⟨nm, (a : Int)⟩ :: X) = .ok M j1 → ∃ t, Got s.data.toList (j + 1) (L ++ ⟨nm, (a : Int)⟩ :: X) M j1 t) :=
                fun M j1 h1 => rd_ok s f _ _ _ _ h1 (by rw [size_list]; omega) hX
              clear HA ham ha hs41
              cases hrd : rd s f (j + 1) (L ++ ⟨nm, (a : Int)⟩ :: X) with
              | bad j1 e1 =>
                have HA3 : Hid (RES = .bad j1 e1) := by show _ = _; rw [HA2.out, hrd]
                have HIH3 : Hid (∀ w1, Rdr w1 b s (j + 1) v' (L ++ ⟨nm, (a : Int)⟩ :: X) → Calls Tryd.prog 72 #[.pointer (some ⟨b, 0, none⟩)] w1 fun x w' => x = .panicked (fl j1 e1) ∧ Below b w1 w') := by
                  intro w1 h1
                  refine (HIH2.out w1 h1).mono fun x w' hx => ?_
                  rw [hrd] at hx; exact hx
                clear HA2 HIH2 HGOT hrd
                go_wp2_with (first
                  | (go_at_call_of 90 (Value.int IntKind.u8 41); refine hst41.mono ?_; rintro x w5 ⟨rfl, hb5⟩; have R5 := hR'.on hb5; have f1 := R5.c1; have f2 := R5.fz 1; have hb6 := hb'.trans (hb5.mono (Nat.le_of_lt hbl)); have HR6 := R5.moveTo (j + 1); have hcall := HIH3.out _ HR6; have hb7 : Below b w (w5.setCell ⟨b, 1, none⟩ (.int .i64 ((j + 1 : Nat) : Int))) := hb6.setCell (Nat.le_refl _) _)
                  | (go_at_call 72; refine hcall.mono ?_; rintro x w8 ⟨rfl, hb8⟩))
                exact ⟨rfl, by rw [HA3.out]; exact ⟨rfl, hb7.trans hb8⟩⟩
              | ok M1 j1 =>
                obtain ⟨t, G⟩ := HGOT.out M1 j1 hrd
                have HM1 : Hid (M1 = L ++ ⟨nm, (a : Int)⟩ :: (X ++ t.flat)) := by show _ = _; rw [G.cells]; simp
                have HML : Hid (M1[L.length]? = some ⟨nm, (a : Int)⟩) := by show _ = _; rw [HM1.out]; simp
                have hML : L.length < M1.length := by rw [HM1.out]; simp
                have hMi : (L.length : Int) < (M1.length : Int) := by omega
                have hM64 := G.small
                have hj1 := G.le
                rw [size_list] at hj1
                have HA3 : Hid (RES = match behindArg s j1 ((a : Int) + 1) with
                    | some e => .bad j1 e
                    | none => if stand s j1 41 then .ok (setA M1 L.length ((a : Int) + 1)) (j1 + 1) else args (rd s f) s.data.toList L.length m' j1 (setA M1 L.length ((a : Int) + 1))) := by
                  show _ = _; rw [HA2.out, hrd]
                have HSET : Hid (setA M1 L.length ((a : Int) + 1) = L ++ ⟨nm, ((4 - m' : Nat) : Int)⟩ :: (X ++ t.flat)) := by show _ = _; rw [HM1.out, setA_at, HAM.out]
                have HIH3 : Hid (∀ w1, Rdr w1 b s (j + 1) v' (L ++ ⟨nm, (a : Int)⟩ :: X) → Calls Tryd.prog 72 #[.pointer (some ⟨b, 0, none⟩)] w1 fun x w' => x = .returned (.tuple #[]) ∧ Below b w1 w' ∧ ∃ v', Rdr w' b s j1 v' M1) := by
                  intro w1 h1
                  refine (HIH2.out w1 h1).mono fun x w' hx => ?_
                  rw [hrd] at hx; exact hx
                clear HA2 HIH2 HGOT hrd G
                have HCB : Hid (∀ w1 v1, Rdr w1 b s j1 v1 (setA M1 L.length ((a : Int) + 1)) → Calls Tryd.prog 92 #[.pointer (some ⟨b, 0, none⟩), .int .i64 ((a : Int) + 1)] w1 fun x w' => x = endsAs j1 (behindArg s j1 ((a : Int) + 1)) ∧ Below w1.heap.size w1 w') :=
                  fun w1 v1 h1 => checkBehind_any w1 b s j1 v1 _ _ h1 hs
                cases hba : behindArg s j1 ((a : Int) + 1) with
                | some e1 =>
                  have HA4 : Hid (RES = .bad j1 e1) := by show _ = _; rw [HA3.out, hba]
                  have HCB2 : Hid (∀ w1 v1, Rdr w1 b s j1 v1 (setA M1 L.length ((a : Int) + 1)) → Calls Tryd.prog 92 #[.pointer (some ⟨b, 0, none⟩), .int .i64 ((a : Int) + 1)] w1 fun x w' => x = .panicked (fl j1 e1) ∧ Below w1.heap.size w1 w') := by
                    intro w1 v1 h1
                    have := HCB.out w1 v1 h1
                    rw [hba] at this; exact this
                  clear HA3 HCB hba
                  go_wp2_with (first
                    | (go_at_call_of 90 (Value.int IntKind.u8 41); refine hst41.mono ?_; rintro x w5 ⟨rfl, hb5⟩; have R5 := hR'.on hb5; have f1 := R5.c1; have f2 := R5.fz 1; have hb6 := hb'.trans (hb5.mono (Nat.le_of_lt hbl)); have HR6 := R5.moveTo (j + 1); have hcall := HIH3.out _ HR6; have hb7 : Below b w (w5.setCell ⟨b, 1, none⟩ (.int .i64 ((j + 1 : Nat) : Int))) := hb6.setCell (Nat.le_refl _) _)
                    | (go_at_call 72; refine hcall.mono ?_; rintro x w8 ⟨rfl, hb8, v1, R8⟩; obtain ⟨g1, cp1, hv1, hbg1, hgl1, hcp1, d1, d2, d3⟩ := R8.at (i := L.length) (c := ⟨nm, (a : Int)⟩) HML.out; subst hv1; have d4 := R8.c2; obtain ⟨R9, hb9⟩ := R8.setAr rfl L.length ((a : Int) + 1) (by omega) (by omega) hbg1; have d5 := R9.c2; have hb10 := (hb7.trans hb8).trans hb9; have hcb := HCB2.out _ _ R9)
                    | (go_at_call 92; refine hcb.mono ?_; rintro x w9 ⟨rfl, hb11⟩))
                  exact ⟨rfl, by rw [HA4.out]; exact ⟨rfl, hb10.trans (hb11.mono (Nat.le_of_lt R9.lt))⟩⟩
                | none =>
                  have HA4 : Hid (RES = if stand s j1 41 then .ok (setA M1 L.length ((a : Int) + 1)) (j1 + 1) else args (rd s f) s.data.toList L.length m' j1 (setA M1 L.length ((a : Int) + 1))) := by show _ = _; rw [HA3.out, hba]
                  have HBA : Hid (behindArg s j1 ((a : Int) + 1) = none) := hba
                  have HCB2 : Hid (∀ w1 v1, Rdr w1 b s j1 v1 (setA M1 L.length ((a : Int) + 1)) → Calls Tryd.prog 92 #[.pointer (some ⟨b, 0, none⟩), .int .i64 ((a : Int) + 1)] w1 fun x w' => x = .returned (.tuple #[]) ∧ Below w1.heap.size w1 w') := by
                    intro w1 v1 h1
                    have := HCB.out w1 v1 h1
                    rw [hba] at this; exact this
                  clear HA3 HCB hba
                  go_wp2_with (first
                    | (go_at_call_of 90 (Value.int IntKind.u8 41); refine hst41.mono ?_; rintro x w5 ⟨rfl, hb5⟩; have R5 := hR'.on hb5; have f1 := R5.c1; have f2 := R5.fz 1; have hb6 := hb'.trans (hb5.mono (Nat.le_of_lt hbl)); have HR6 := R5.moveTo (j + 1); have hcall := HIH3.out _ HR6; have hb7 : Below b w (w5.setCell ⟨b, 1, none⟩ (.int .i64 ((j + 1 : Nat) : Int))) := hb6.setCell (Nat.le_refl _) _)
                    | (go_at_call 72; refine hcall.mono ?_; rintro x w8 ⟨rfl, hb8, v1, R8⟩; obtain ⟨g1, cp1, hv1, hbg1, hgl1, hcp1, d1, d2, d3⟩ := R8.at (i := L.length) (c := ⟨nm, (a : Int)⟩) HML.out; subst hv1; have d4 := R8.c2; obtain ⟨R9, hb9⟩ := R8.setAr rfl L.length ((a : Int) + 1) (by omega) (by omega) hbg1; have d5 := R9.c2; have hb10 := (hb7.trans hb8).trans hb9; have hcb := HCB2.out _ _ R9)
                    | (go_at_call 92; refine hcb.mono ?_; rintro x w9 ⟨rfl, hb11⟩; have R10 := R9.on hb11; have hb12 := hb10.trans (hb11.mono (Nat.le_of_lt R9.lt))))
                  go_roundg m'
                  case measure => omega
                  case rel =>
                    rw [HSET.out] at R10 HA4
                    have hlen : (L ++ (⟨nm, ((4 - m' : Nat) : Int)⟩ : Cl) :: (X ++ t.flat)).length ≤ 64 := by rw [HM1.out] at hM64; simpa using hM64
                    refine ⟨j1, _, X ++ t.flat, R10, hb12, hj1, by omega, hlen, ?_⟩
                    by_cases h41 : stand s j1 41 = true
                    · exact .inr ⟨h41, by show _ = _; rw [HA4.out, if_pos h41]⟩
                    · have hb0 := HBA.out
                      unfold behindArg at hb0
                      rw [if_neg h41] at hb0
                      by_cases h44 : stand s j1 44 = true
                      · rw [if_pos h44] at hb0
                        have h4 : ¬ (a : Int) + 1 = 4 := by intro e; rw [if_pos e] at hb0; cases hb0
                        refine .inl ⟨by simpa using h41, ?_, by have := HAM.out; omega, by show _ = _; rw [HA4.out, if_neg h41]⟩
                        unfold stand at h44
                        have := lt_of_get (of_decide_eq_true h44)
                        rwa [size_list] at this
                      · rw [if_neg h44] at hb0; cases hb0
            · have HR5 : Hid (Rdr wr b s j v' _) := hR'
              have hst41 := H41 wr j v' _ hR'
              rw [hs41] at hst41
              clear hs41
              go_wp2_with (go_at_call_of 90 (Value.int IntKind.u8 41); refine hst41.mono ?_; rintro x w5 ⟨rfl, hb5⟩; have R5 := hR'.on hb5; have f1 := R5.c1; have f2 := R5.fz 1; have hb6 := hb'.trans (hb5.mono (Nat.le_of_lt hbl)); have HR6 := R5.moveTo (j + 1); have hb7 : Below b w (w5.setCell ⟨b, 1, none⟩ (.int .i64 ((j + 1 : Nat) : Int))) := hb6.setCell (Nat.le_refl _) _)
              go_end0
              rw [HA.out]
              exact ⟨rfl, hb7, _, HR6⟩
      · have h40' : stand s to 40 = false := by simpa using h40
        have HR2 : Hid (RES = .ok (L ++ [⟨nm, 0⟩]) to) := by show _ = _; rw [HR.out, if_neg h40]
        rw [h40'] at H40
        clear HR h40 h40' ih
        go_enter Tryd.func72, Tryd.ntmps72
        go_wp2_with (first
          | (go_at_call 89; refine hname.mono ?_; rintro x w1 ⟨rfl, hb1, v1, R1⟩)
          | (go_at_call 90; refine (H40 _ _ _ R1).mono ?_; rintro x w2 ⟨rfl, hb2⟩; have R2 := R1.on hb2; have hb3 := hb1.trans (hb2.mono (Nat.le_of_lt R1.lt))))
        refine bodyPost_ret (results_none rfl _ _ _) rfl ?_
        rw [HR2.out]
        exact ⟨rfl, hb3, _, R2⟩

end Go.Proofs.YtjpmlnigjbdnnaaDoor
