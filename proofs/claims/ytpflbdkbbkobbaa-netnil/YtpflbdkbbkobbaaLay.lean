/-
  What the net's lay does: the branches of a left side's keys are there, and its place is at the last.
-/
import Derived.Test.YtpflbdkbbkobbaaGrow3
import Derived.Test.YtpflbdkbbkobbaaFresh
namespace Go.Proofs.Ytpflbdkbbkobbaa
open Go.RowKit Go.Maps
set_option linter.unusedVariables false
set_option maxRecDepth 100000
set_option linter.unusedSimpArgs false

theorem pre_snoc (p : List Cl) (k : Cl) (r : List Cl) : r <+: p ++ [k] ↔ r <+: p ∨ r = p ++ [k] := by
  constructor
  · rintro ⟨t, ht⟩
    rcases List.eq_nil_or_concat t with rfl | ⟨t', x, rfl⟩
    · right; simpa using ht
    · left
      rw [List.concat_eq_append, ← List.append_assoc] at ht
      exact ⟨t', List.append_inj_left' ht rfl⟩
  · rintro (⟨t, rfl⟩ | rfl)
    · exact ⟨t ++ [k], by simp⟩
    · exact List.prefix_refl _
theorem keysL_take {L : List Cl} {k : Nat} {c : Cl} (h : L[k]? = some c) : keysL (L.take (k + 1)) = keysL (L.take k) ++ [keyC c] := by
  unfold keysL
  rw [List.take_add_one, h, List.map_append]; rfl
theorem ofs_snoc (p : List Cl) (k : Cl) : ofs (p ++ [k]) = 0 := by unfold ofs; rw [if_neg (by simp)]
theorem fine_key {c : Cl} (h1 : c.nm.size ≤ maxLen) (h2 : -9223372036854775808 ≤ c.ar ∧ c.ar ≤ 9223372036854775807) : FineC (keyC c) := by
  unfold keyC
  split
  · exact ⟨by decide, by decide, by decide⟩
  · exact ⟨h1, h2.1, h2.2⟩

set_option maxHeartbeats 4000000 in
theorem lay_any (w : World) (B nb : Nat) (sv : Value) (mx : Nat) (T : List Cl → Option Nd) (E : List Cl → List Nat) (lv : Value) (L : List Cl) (B' i : Nat) (h : Tre w B nb sv mx T E) (hL : Owns w B' lv L) (hF : Fine L) (hB : B ≤ w.heap.size) (hmx : mx + L.length < 1000000) (hE : (E (keysL L)).length ≤ 1000) :
    Calls Try.prog 25 #[.pointer (some ⟨nb, 1, none⟩), lv, .int .i64 (i : Nat)] w fun e w' => e = .returned (.tuple #[]) ∧ Kq B w w' ∧ ∃ T', Tre w' B nb sv (mx + L.length) T' (updE E (keysL L) (E (keysL L) ++ [i])) ∧ (∀ r, (T' r).isSome = true ↔ (T r).isSome = true ∨ r <+: keysL L) := by
  obtain ⟨va, vc, hv, hc1, hc2, _⟩ := own_cells hL
  subst hv
  have HL : Hid (Owns w B' (.slice va L.length vc) L) := hL
  have HE : Hid ((E (keysL L)).length ≤ 1000) := hE
  have HT0 : Hid (Tre w B nb sv mx T E) := h
  obtain ⟨d0, hd0, hd1⟩ := h.root
  have HD : Hid (T [] = some d0 ∧ d0.a = nb) := ⟨hd0, hd1⟩
  have HF : Hid (Fine L) := hF
  clear hL h hE hd0 hd1 hF
  go_enter Try.func25, Try.ntmps25
  go_wp2_with fail
  go_loopw [0, 10] (fun b i' wr => ∃ (k : Nat) (T1 : List Cl → Option Nd) (d : Nd), k ≤ L.length ∧ i' = .int .i64 (k : Nat) ∧ b = .pointer (some ⟨d.a, ofs (keysL (L.take k)), none⟩) ∧ Hid (Tre wr B nb sv (mx + k) T1 E) ∧ Hid (T1 (keysL (L.take k)) = some d) ∧ Hid (∀ r, (T1 r).isSome = true ↔ (T r).isSome = true ∨ r <+: keysL (L.take k)) ∧ Kq B w wr) (fun _ i' _ => L.length - (intOf i').toNat)
  case atStart =>
    obtain ⟨h1, h2⟩ := HD.out
    refine ⟨0, T, d0, Nat.zero_le _, rfl, by rw [h2]; rfl, HT0, h1, fun r => ?_, Kq.refl _ _⟩
    constructor
    · exact .inl
    · rintro (h | h)
      · exact h
      · rw [List.prefix_nil.1 h, h1]; rfl
  case round =>
    obtain ⟨k, T1, d, hk, rfl, rfl, HT, HP, HR, hKq⟩ := hrel
    have hBr : B ≤ wr.heap.size := Nat.le_trans hB hKq.below.size
    by_cases hlt : k < L.length
    · obtain ⟨c, hc⟩ : ∃ c, L[k]? = some c := ⟨L[k], List.getElem?_eq_getElem hlt⟩
      have hcf := HF.out c (List.mem_of_getElem? hc)
      have hLr : Owns wr B' (.slice va L.length vc) L := Kq.row HL.out hKq (.inl rfl)
      obtain ⟨va', vc', hve, _, _, hcl⟩ := own_cells hLr
      cases hve
      obtain ⟨g, rfl, _, hgl, e1⟩ := hcl (k * 2) (.string c.nm) (by rw [flatC_even, hc]; rfl)
      obtain ⟨g', hgg, _, _, e2⟩ := hcl (k * 2 + 1) (.int .i64 c.ar) (by rw [flatC_odd, hc]; rfl)
      cases hgg
      have hki : (k : Int) < (L.length : Int) := by omega
      have hkey := fun W => key_any W c (by unfold maxLen; omega)
      have hbA : Below wr.heap.size wr (wr.alloc (.cells #[.string c.nm, .int .i64 c.ar] 51)) := (Below.refl _ _).alloc (Nat.le_refl _) _
      have hgr : ∀ W, Below wr.heap.size wr W → Calls Try.prog 46 #[.pointer (some ⟨d.a, ofs (keysL (L.take k)), none⟩), .agg #[.string (keyC c).nm, .int .i64 (keyC c).ar]] W fun e w' => Grew W B nb sv (mx + k) T1 E (keysL (L.take k) ++ [keyC c]) e w' := fun W hW =>
        grow_any W B nb sv (mx + k) T1 E _ d (keyC c) (HT.out.hi' fun g _ hg => hW.block g hg) HP.out (fine_key (by unfold maxLen; omega) hcf.2) (Nat.le_trans hBr hW.size) (by omega)
      have hcA := (Blk.made wr #[.string c.nm, .int .i64 c.ar] 51)
      have a0 := hcA.cell (i := 0) (v := .string c.nm) rfl
      have a1 := hcA.cell (i := 1) (v := .int .i64 c.ar) rfl
      have HC : Hid (L[k]? = some c) := hc
      clear hcl hLr hc hcf hcA
      generalize ofs (keysL (L.take k)) = o at hgr ⊢
      go_wp2_with (first | (go_at_call 47; refine (hkey _).mono ?_; rintro e w1 ⟨rfl, hb1⟩; have hbW := hbA.trans (hb1.mono hbA.size)) | (go_at_call 46; refine (hgr _ hbW).mono ?_; rintro e w2 ⟨T2, d2, rfl, hT2, hP2, hR2, hK2⟩))
      refine ⟨⟨k + 1, T2, d2, by omega, by go_num, ?_, ?_, ?_, ?_, hKq.trans ((Kq.of_below hbW hBr).trans hK2)⟩, ?_⟩
      · rw [keysL_take HC.out, ofs_snoc]
      · exact hT2
      · show _ = _
        rw [keysL_take HC.out]; exact hP2
      · intro r
        rw [keysL_take HC.out, hR2 r, HR.out r, pre_snoc]
        constructor
        · rintro ((h | h) | h)
          · exact .inl h
          · exact .inr (.inl h)
          · exact .inr (.inr h)
        · rintro (h | h | h)
          · exact .inl (.inl h)
          · exact .inl (.inr h)
          · exact .inr h
      · simp [intOf]; omega
    · obtain rfl : k = L.length := by omega
      have hki : ¬ (L.length : Int) < (L.length : Int) := by omega
      rw [List.take_length] at HP HR ⊢
      have hat := HT.out.at' _ d HP.out
      have hcs := hat.cells
      have hdl := hat.blk.lt
      have hA : Below wr.heap.size wr (wr.alloc (.cells #[.int .i64 (i : Nat)] 3)) := (Below.refl _ _).alloc (Nat.le_refl _) _
      have hatA := (HT.out.alloc (.cells #[.int .i64 (i : Nat)] 3)).at' _ d HP.out
      have hiA := (Blk.made wr #[.int .i64 (i : Nat)] 3).cell (i := 0) (v := .int .i64 (i : Nat)) rfl
      have hro := hatA.ends
      have c1 := hcs.2.1
      have hBa : B ≤ (wr.alloc (.cells #[.int .i64 (i : Nat)] 3)).heap.size := Nat.le_trans hBr hA.size
      have HAT : Hid (At wr B sv (mx + L.length) (keysL L) d (E (keysL L)) (kidsT T1 (keysL L))) := hat
      have HTA : Hid (Tre (wr.alloc (.cells #[.int .i64 (i : Nat)] 3)) B nb sv (mx + L.length) T1 E) := HT.out.alloc _
      have HKA : Hid (Kq B w (wr.alloc (.cells #[.int .i64 (i : Nat)] 3))) := hKq.trans (Kq.of_below hA hBr)
      clear hat hatA hcs hKq
      obtain ⟨o, ho⟩ : ∃ o, o = ofs (keysL L) := ⟨_, rfl⟩
      have HO : Hid (o = ofs (keysL L)) := ho
      rw [← ho] at c1 ⊢
      clear ho
      go_wp2_with (at_builtin; refine wpList_more _ rfl _ _ rfl B d.e (E (keysL L)) i rfl hro HE.out hBa ⟨wr.heap.size, 0, none⟩ rfl hiA rfl ?_)
      intro v' w5 hrow hg hf
      obtain ⟨na, nc, hve, _, _, _⟩ := own_cells hrow
      have hrow' : w5.ownsRow B 3 1 v' (E (keysL L) ++ [i]).length (intsV (E (keysL L) ++ [i])) := by rw [List.length_append]; exact hrow
      have hatA := HTA.out.at' _ d HP.out
      have hne : ∀ g, d.e.ownBlock = some g → g ≠ d.a := fun g hg' => (hatA.ne_blk (q := keysL L) hatA.blk).2 g hg'
      have hblk : Blk w5 d.a (csP sv (keysL L) d) (tyP (keysL L)) := (hg.block d.a hatA.blk.lt (fun e => hne d.a e.symm rfl)).trans hatA.blk
      have c5 : w5.cell? ⟨d.a, o + 1, none⟩ = some d.e := by rw [HO.out]; exact hblk.cell (csP_at sv _ d).2
      have f5 : w5.frozen? ⟨d.a, o + 1, none⟩ = false := hblk.free _
      have HZ : Hid (Tre (w5.setCell ⟨d.a, o + 1, none⟩ v') B nb sv (mx + L.length) (updT T1 (keysL L) { d with e := v' }) (updE E (keysL L) (E (keysL L) ++ [i]))) := by
        rw [HO.out]
        exact HTA.out.ended HP.out _ hrow' hg (by
          rcases hf with h | ⟨g, h1, h2⟩
          · exact .inr (.inl h)
          · exact .inr (.inr ⟨g, h1, by simp; exact h2⟩))
      have HK5 : Hid (Kq B w (w5.setCell ⟨d.a, o + 1, none⟩ v')) := by
        refine HKA.out.trans (Kq.trans (b := w5) ?_ (Kq.grown (set_grown _ _ _ _) (Nat.le_trans hBa hg.size) hatA.hi ?_))
        · cases hob : d.e.ownBlock with
          | none =>
            rw [hob] at hg
            exact Kq.of_below ⟨hg.os, hg.tape, hg.output, hg.size, fun k hk => hg.block k hk (by simp)⟩ hBa
          | some x =>
            rw [hob] at hg
            obtain ⟨hx1, cur, hx2⟩ := row_at hatA.ends hob
            refine Kq.grown hg hBa hx1 ?_
            intro cur' t ht h7
            rw [hx2] at h7
            simp only [Option.some.injEq, Obj.cells.injEq] at h7
            rcases ht with rfl | rfl <;> cases h7.2.1
        · intro cur t ht h7
          unfold Blk at hblk
          rw [hblk] at h7
          simp only [Option.some.injEq, Obj.cells.injEq] at h7
          have h9 := h7.2.1
          unfold tyP at h9
          split at h9 <;> rcases ht with rfl | rfl <;> cases h9
      obtain ⟨ea, en, ec, hde⟩ : ∃ ea en ec, d.e = .slice ea en ec := by
        obtain ⟨ea, ec, h1, _⟩ := own_cells hatA.ends
        exact ⟨_, _, _, h1⟩
      rw [hde] at c5
      clear hatA hrow hrow' hg hf hblk hro c1 hiA hne
      subst hve
      go_wp2_with fail
      go_end0
      refine ⟨rfl, HK5.out, _, HZ.out, fun r => ?_⟩
      rw [← HR.out r]
      by_cases e : r = keysL L
      · subst e; rw [updT_self, HP.out]; simp
      · rw [updT_ne _ e]

end Go.Proofs.Ytpflbdkbbkobbaa
