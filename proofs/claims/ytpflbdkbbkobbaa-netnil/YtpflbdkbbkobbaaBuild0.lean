/-
  What the net's isRising answers; a net's sides in memory, and the net as a whole.
-/
import Derived.Test.YtpflbdkbbkobbaaRs
import Derived.Test.YtpflbdkbbkobbaaSorts
namespace Go.Proofs.Ytpflbdkbbkobbaa
open Go.RowKit Go.Maps
set_option linter.unusedVariables false
set_option maxRecDepth 100000
set_option linter.unusedSimpArgs false

set_option maxHeartbeats 2000000 in
theorem rising_any (w : World) (v : Value) (rs : List Rl) (h : LiesR w v rs) :
    Calls Try.prog 23 #[v] w fun e w' => e = .returned (.bool (risI rs)) ∧ Below w.heap.size w w' := by
  have HR : Hid (LiesR w v rs) := h
  obtain ⟨a, cap, rfl, c1, c2, _⟩ := h
  have hm : rs.length ≤ 9223372036854775807 := by unfold maxLen at c2; omega
  obtain ⟨d, hd⟩ : ∃ d, risI rs = d := ⟨_, rfl⟩
  have HD : Hid (risI rs = d) := hd
  rw [hd]
  clear hd
  go_enter Try.func23, Try.ntmps23
  go_wp2_with fail
  go_loopw [6] (fun i wr => ∃ k : Nat, k ≤ rs.length ∧ i = .int .i64 (k : Nat) ∧ Hid (∀ i x y, i + 1 < k → rs[i]? = some x → rs[i + 1]? = some y → x.id < y.id) ∧ ∃ nq, wr = w.drewN nq) (fun i _ => rs.length - (intOf i).toNat)
  case atStart => exact ⟨0, Nat.zero_le _, rfl, (fun i x y h => by omega), 0, rfl⟩
  case round =>
    obtain ⟨k, hk, rfl, HK, nq, rfl⟩ := hrel
    by_cases hlt : k < rs.length
    · have hki : (k : Int) < (rs.length : Int) := by omega
      obtain ⟨y, hy⟩ : ∃ y, rs[k]? = some y := ⟨rs[k], List.getElem?_eq_getElem hlt⟩
      obtain ⟨b, off, _, _, rfl, _, hc, _⟩ := HR.out.at hy
      cases k with
      | zero =>
        have HK2 : Hid (∀ i x y, i + 1 < 0 + 1 → rs[i]? = some x → rs[i + 1]? = some y → x.id < y.id) := fun i x y h => by omega
        clear HK hy
        go_wp2_with fail
        go_quiet (fail)
        go_wp2_with fail
        go_roundw
        case rel => exact ⟨0 + 1, by omega, by go_num, HK2, _, rfl⟩
        case measure => simp [intOf]; omega
      | succ j =>
        obtain ⟨x, hx⟩ : ∃ x, rs[j]? = some x := ⟨rs[j]'(by omega), List.getElem?_eq_getElem (by omega)⟩
        obtain ⟨b', off', _, _, e, _, hc', _⟩ := HR.out.at hx
        cases e
        have hj1 : (((j + 1 : Nat) : Int) - 1) = (j : Int) := by omega
        have hjl : (j : Int) < (rs.length : Int) := by omega
        have hj2 : decide (((j + 1 : Nat) : Int) > 0) = true := decide_eq_true (by omega)
        by_cases hxy : x.id < y.id
        · have HK2 : Hid (∀ i x y, i + 1 < j + 1 + 1 → rs[i]? = some x → rs[i + 1]? = some y → x.id < y.id) := fun i x' y' h h1 h2 => by
            by_cases e : i = j
            · subst e; rw [hx] at h1; rw [hy] at h2; cases h1; cases h2; exact hxy
            · exact HK.out i x' y' (by omega) h1 h2
          have q1 : decide (y.id ≤ x.id) = false := decide_eq_false (by omega)
          have q3 : ¬ y.id ≤ x.id := by omega
          clear HK hy hx hxy
          go_wp2_with fail
          go_quiet (fail)
          go_wp2_with fail
          go_roundw
          case rel => exact ⟨j + 1 + 1, by omega, by go_num, HK2, _, rfl⟩
          case measure => simp [intOf]; omega
        · have HRF : Hid (d = false) := by
            show _ = _
            rw [← HD.out]
            cases hr : risI rs with
            | false => rfl
            | true => exact absurd ((risI_iff rs).1 hr j x y hx hy) hxy
          have q1 : decide (y.id ≤ x.id) = true := decide_eq_true (by omega)
          have q3 : y.id ≤ x.id := by omega
          clear HK hy hx hxy
          go_wp2_with fail
          go_quiet (fail)
          go_wp2_with fail
          go_ret
          exact ⟨by rw [HRF.out]; rfl, (by first | exact below_drewN _ _ | exact below_dd _ _ _)⟩
    · have HRT : Hid (d = true) := by
        show _ = _
        rw [← HD.out]
        exact (risI_iff rs).2 fun i x y h1 h2 => HK.out i x y (by have := (List.getElem?_eq_some_iff.1 h2).1; omega) h1 h2
      have hki : ¬ (k : Int) < (rs.length : Int) := by omega
      clear HK
      go_wp2_with fail
      go_ret
      exact ⟨by rw [HRT.out]; rfl, (by first | exact below_drewN _ _ | exact below_dd _ _ _)⟩

theorem Tre.but64 {w w' : World} {B nb mx : Nat} {sv : Value} {T : List Cl → Option Nd} {E : List Cl → List Nat} (h : Tre w B nb sv mx T E) (hs : ∀ g, g < w.heap.size → w'.heap[g]? = w.heap[g]? ∨ ∃ cur, w.heap[g]? = some (.cells cur 64 (0, 0))) : Tre w' B nb sv mx T E := by
  refine ⟨h.root, fun p d hp => ?_, h.gone, h.pre, h.apart⟩
  have hat := h.at' p d hp
  refine hat.same ?_ (fun g hg => ?_) (fun g hg => ?_)
  · rcases hs d.a hat.blk.lt with h1 | ⟨cur, h1⟩
    · exact h1
    · have h2 := hat.blk
      unfold Blk at h2
      rw [h1] at h2
      simp only [Option.some.injEq, Obj.cells.injEq] at h2
      have h3 := h2.2.1
      unfold tyP at h3
      split at h3 <;> cases h3
  · obtain ⟨_, n, _, hM⟩ := hat.mp g hg
    rcases hs g hM.lt with h1 | ⟨cur, h1⟩
    · exact h1
    · obtain ⟨es, c, h2⟩ := hM.at
      rw [h1] at h2; cases h2
  · obtain ⟨_, c, h2⟩ := row_at hat.ends hg
    rcases hs g (lt_of_block h2) with h1 | ⟨cur, h1⟩
    · exact h1
    · rw [h1] at h2; cases h2
theorem Tre.sides {w : World} {B nb mx : Nat} {sv : Value} {T : List Cl → Option Nd} {E : List Cl → List Nat} (h : Tre w B nb sv mx T E) (v' : Value) : Tre (w.setCell ⟨nb, 0, none⟩ v') B nb v' mx T E := by
  obtain ⟨r, hr, hra⟩ := h.root
  have hrt := h.at' [] r hr
  refine ⟨h.root, fun p d hp => ?_, h.gone, h.pre, h.apart⟩
  have hat := h.at' p d hp
  have hne := hat.ne_blk (q := []) hrt.blk
  rw [hra] at hne
  have b2 : ∀ g, d.m = some g → (w.setCell ⟨nb, 0, none⟩ v').heap[g]? = w.heap[g]? := fun g hg => Below.heap_setCell _ _ _ _ (hne.1 g hg)
  have b3 : ∀ g, d.e.ownBlock = some g → (w.setCell ⟨nb, 0, none⟩ v').heap[g]? = w.heap[g]? := fun g hg => Below.heap_setCell _ _ _ _ (hne.2 g hg)
  by_cases e : p = []
  · subst e
    rw [hr] at hp; cases hp
    have hb : Blk (w.setCell ⟨nb, 0, none⟩ v') r.a #[v', .map r.m, r.e] 62 := by
      have h1 : Blk w nb #[sv, .map r.m, r.e] 62 := by have := hrt.blk; rw [hra] at this; exact this
      have := h1.set 0 v'
      rw [hra]
      exact this
    exact ⟨hb, hat.hi, hat.no, fun m hm => ⟨(hat.mp m hm).1, by obtain ⟨n, h5, h6⟩ := (hat.mp m hm).2; exact ⟨n, h5, h6.same (b2 m hm)⟩⟩, row_same hat.ends b3⟩
  · have h1 : d.a ≠ nb := by rw [← hra]; exact (h.apart p [] d r hp hr e).1
    have hb : Blk (w.setCell ⟨nb, 0, none⟩ v') d.a (csP sv p d) (tyP p) := hat.blk.other h1 v'
    have ec : csP v' p d = csP sv p d := by unfold csP; rw [if_neg e, if_neg e]
    exact ⟨by rw [ec]; exact hb, hat.hi, hat.no, fun m hm => ⟨(hat.mp m hm).1, by obtain ⟨n, h5, h6⟩ := (hat.mp m hm).2; exact ⟨n, h5, h6.same (b2 m hm)⟩⟩, row_same hat.ends b3⟩
/-- a side as it stands in memory -/
def flatS : List (Int × Value) → List Value
  | [] => []
  | s :: r => .int .i64 s.1 :: s.2 :: flatS r
theorem flatS_len : ∀ l, (flatS l).length = l.length * 2
  | [] => rfl
  | s :: r => by simp only [flatS, List.length_cons, flatS_len r]; omega
theorem flatS_snoc : ∀ (l : List (Int × Value)) (o : Int × Value), flatS (l ++ [o]) = flatS l ++ [.int .i64 o.1, o.2]
  | [], o => rfl
  | d :: r, o => by simp only [List.cons_append, flatS, flatS_snoc r o]
theorem flatS_at : ∀ (l : List (Int × Value)) (i : Nat) (o : Int × Value), l[i]? = some o → (flatS l)[i * 2]? = some (.int .i64 o.1) ∧ (flatS l)[i * 2 + 1]? = some o.2
  | [], i, o, h => by simp at h
  | d :: r, 0, o, h => by simp at h; subst h; exact ⟨rfl, rfl⟩
  | d :: r, i + 1, o, h => by
    rw [show (i + 1) * 2 = i * 2 + 1 + 1 by omega]
    simp only [flatS, List.getElem?_cons_succ]
    exact flatS_at r i o (by simpa using h)
/-- a net's sides -/
def SidesAt (w : World) (B : Nat) (sv : Value) (rs : List Rl) : Prop :=
  ∃ ps : List (Int × Value), ps.length = rs.length ∧ w.ownsRow B 64 2 sv rs.length (flatS ps) ∧ ∀ (i : Nat) r, rs[i]? = some r → ∃ x, ps[i]? = some (r.id, x) ∧ Owns w B x r.l
theorem SidesAt.hi' {w w' : World} {B : Nat} {sv : Value} {rs : List Rl} (h : SidesAt w B sv rs) (hs : ∀ g, B ≤ g → g < w.heap.size → w'.heap[g]? = w.heap[g]?) : SidesAt w' B sv rs := by
  obtain ⟨ps, h1, h2, h3⟩ := h
  refine ⟨ps, h1, row_same h2 fun g hg => hs g (row_at h2 hg).1 (lt_of_block (row_at h2 hg).2.choose_spec), fun i r hi => ?_⟩
  obtain ⟨x, h4, h5⟩ := h3 i r hi
  exact ⟨x, h4, row_same h5 fun g hg => hs g (row_at h5 hg).1 (lt_of_block (row_at h5 hg).2.choose_spec)⟩
theorem SidesAt.kq {w w' : World} {B B' : Nat} {sv : Value} {rs : List Rl} (h : SidesAt w B sv rs) (hk : Kq B' w w') : SidesAt w' B sv rs := by
  obtain ⟨ps, h1, h2, h3⟩ := h
  refine ⟨ps, h1, Kq.row h2 hk (.inr rfl), fun i r hi => ?_⟩
  obtain ⟨x, h4, h5⟩ := h3 i r hi
  exact ⟨x, h4, Kq.row h5 hk (.inl rfl)⟩
/-- one side more -/
theorem side_more {wc w5 : World} {B nb mx k ob : Nat} {sv v' lv : Value} {T : List Cl → Option Nd} {E : List Cl → List Nat} {rs' : List Rl} {r : Rl} {ps : List (Int × Value)} {o : Obj} {cs : Array Value} (hT : Tre wc B nb sv mx T E) (hrow : wc.ownsRow B 64 2 sv k (flatS ps)) (hpl : ps.length = k) (hel : ∀ (i : Nat) q, rs'[i]? = some q → ∃ x, ps[i]? = some (q.id, x) ∧ Owns wc B x q.l) (hlen : rs'.length = k) (hOL : Owns wc B lv r.l) (hob : Blk wc ob #[.int .i64 r.id, lv] 64) (hobn : sv.ownBlock ≠ some ob) (hBc : B ≤ wc.heap.size)
    (hg : (wc.alloc o).drew.grownBy w5 sv.ownBlock) (hown : w5.ownsRow B 64 2 v' (k + 1) (flatS ps ++ [.int .i64 r.id, lv])) (hblk : Blk wc nb cs 62) (hnb : B ≤ nb) :
    Tre (w5.setCell ⟨nb, 0, none⟩ v') B nb v' mx T E ∧ SidesAt (w5.setCell ⟨nb, 0, none⟩ v') B v' (rs' ++ [r]) ∧ Blk (w5.setCell ⟨nb, 0, none⟩ v') ob #[.int .i64 r.id, lv] 64 ∧ Owns (w5.setCell ⟨nb, 0, none⟩ v') B lv r.l ∧ Below B wc (w5.setCell ⟨nb, 0, none⟩ v') := by
  have hold5 : ∀ g, g < wc.heap.size → sv.ownBlock ≠ some g → w5.heap[g]? = wc.heap[g]? := fun g h1 h2 => (hg.block g (by simp; omega) (fun e => h2 e.symm)).trans (Below.heap_alloc wc o g h1)
  have hold : ∀ g, g < wc.heap.size → sv.ownBlock ≠ some g → g ≠ nb → (w5.setCell ⟨nb, 0, none⟩ v').heap[g]? = wc.heap[g]? := fun g h1 h2 h3 => (Below.heap_setCell _ _ _ _ h3).trans (hold5 g h1 h2)
  have hsB : ∀ g, sv.ownBlock = some g → B ≤ g := fun g hg' => (row_at hrow hg').1
  have hnr : ∀ g, sv.ownBlock = some g → g ≠ nb := fun g hg' e => by
    obtain ⟨_, cur, h2⟩ := row_at hrow hg'
    unfold Blk at hblk
    rw [e, hblk] at h2; cases h2
  have hn5 : Blk w5 nb cs 62 := (hold5 nb hblk.lt (fun e => hnr nb e rfl)).trans hblk
  have h51 : ∀ x q, Owns wc B x q → Owns (w5.setCell ⟨nb, 0, none⟩ v') B x q := fun x q h => row_same h fun g hg' => by
    obtain ⟨_, cur, h2⟩ := row_at h hg'
    refine hold g (lt_of_block h2) (fun e => ?_) (fun e => ?_)
    · obtain ⟨_, cur', h3⟩ := row_at hrow e
      rw [h2] at h3; cases h3
    · unfold Blk at hblk
      rw [e, hblk] at h2; cases h2
  have hon : ob ≠ nb := fun e => by
    unfold Blk at hblk hob
    rw [e, hblk] at hob; cases hob
  have hT5 : Tre w5 B nb sv mx T E := hT.but64 fun g h1 => by
    by_cases e : sv.ownBlock = some g
    · exact .inr (row_at hrow e).2
    · exact .inl (hold5 g h1 e)
  refine ⟨hT5.sides v', ⟨ps ++ [(r.id, lv)], by simp [hpl, hlen], ?_, fun i q hi => ?_⟩, (hold ob hob.lt hobn hon).trans hob, h51 _ _ hOL, ?_⟩
  · rw [flatS_snoc, List.length_append, List.length_singleton, hlen]
    exact row_same hown fun g hg' => Below.heap_setCell _ _ _ _ (fun (e : g = nb) => by
      obtain ⟨_, cur, h2⟩ := row_at hown hg'
      unfold Blk at hn5
      rw [e, hn5] at h2; cases h2)
  · rcases Nat.lt_or_ge i rs'.length with h | h
    · rw [List.getElem?_append_left h] at hi
      obtain ⟨x, q1, q2⟩ := hel i q hi
      exact ⟨x, by rw [List.getElem?_append_left (by omega)]; exact q1, h51 _ _ q2⟩
    · have hi2 := hi
      rw [List.getElem?_append_right h] at hi2
      have h0 : i - rs'.length = 0 := by have := (List.getElem?_eq_some_iff.1 hi2).1; simp at this; omega
      rw [h0] at hi2
      simp at hi2
      subst hi2
      exact ⟨lv, by rw [List.getElem?_append_right (by omega), hpl, ← hlen, h0]; rfl, h51 _ _ hOL⟩
  · have h1 : Below B wc w5 := ((Below.refl B wc).alloc hBc o).drew.grown hg (by simp; omega) hsB
    exact h1.setCell hnb _
def keysR (rs : List Rl) : List (List Cl) := rs.map fun r => keysL r.l
/-- a net of these rules -/
def NetAt (w : World) (B nb : Nat) (rs : List Rl) : Prop :=
  ∃ sv mx T, Tre w B nb sv mx T (endsAt (keysR rs)) ∧ (∀ p, (T p).isSome = true ↔ hasP (keysR rs) p) ∧ SidesAt w B sv rs
theorem NetAt.hi' {w w' : World} {B nb : Nat} {rs : List Rl} (h : NetAt w B nb rs) (hs : ∀ g, B ≤ g → g < w.heap.size → w'.heap[g]? = w.heap[g]?) : NetAt w' B nb rs := by
  obtain ⟨sv, mx, T, h1, h2, h3⟩ := h
  exact ⟨sv, mx, T, h1.hi' hs, h2, h3.hi' hs⟩
theorem NetAt.on {w w' : World} {B nb : Nat} {rs : List Rl} (h : NetAt w B nb rs) (hb : Below w.heap.size w w') : NetAt w' B nb rs := h.hi' fun g _ hg => hb.block g hg
theorem endsAt_nil : endsAt [] = fun _ => [] := by funext p; rfl
theorem endsAt_snoc (Ls : List (List Cl)) (L : List Cl) : endsAt (Ls ++ [L]) = updE (endsAt Ls) L (endsAt Ls L ++ [Ls.length]) := by
  funext p
  unfold updE endsAt
  rw [List.length_append, List.length_singleton, List.range_succ, List.filter_append]
  have e1 : (List.range Ls.length).filter (fun j => decide ((Ls ++ [L])[j]? = some p)) = (List.range Ls.length).filter (fun j => decide (Ls[j]? = some p)) := by
    apply List.filter_congr
    intro j hj
    rw [List.getElem?_append_left (by simpa using hj)]
  rw [e1]
  by_cases h : p = L
  · subst h; rw [if_pos rfl]; simp
  · rw [if_neg h, List.filter_cons_of_neg]
    · simp
    · simp
      exact fun e => h e.symm
theorem hasP_snoc (Ls : List (List Cl)) (L p : List Cl) : hasP (Ls ++ [L]) p ↔ hasP Ls p ∨ p <+: L := by
  unfold hasP
  constructor
  · rintro (h | ⟨x, hx, h⟩)
    · exact .inl (.inl h)
    · rcases List.mem_append.1 hx with hx | hx
      · exact .inl (.inr ⟨x, hx, h⟩)
      · simp at hx; subst hx; exact .inr h
  · rintro ((h | ⟨x, hx, h⟩) | h)
    · exact .inl h
    · exact .inr ⟨x, by simp [hx], h⟩
    · exact .inr ⟨L, by simp, h⟩
theorem ends_len (Ls : List (List Cl)) (p : List Cl) : (endsAt Ls p).length ≤ Ls.length := by
  unfold endsAt
  exact Nat.le_trans (List.length_filter_le _ _) (by simp)

end Go.Proofs.Ytpflbdkbbkobbaa
