/-
  What is given up with is caught at the face.
-/
import Derived.Test.YtjcbaiohpdihoaaGreatDoorIt
import Derived.Test.YtjcbaiohpdihoaaGreatDoorTf
import Derived.Test.YtjcbaiohpdihoaaGreatDoorTh
import Derived.Defers
import Derived.Recover
import Derived.Laws.Pointers
namespace Go.Proofs.YtjcbaiohpdihoaaGreatDoor
open Go.RowKit Go.Maps Lf
set_option linter.unusedVariables false
set_option linter.unusedSimpArgs false
set_option maxRecDepth 100000

section
variable {w W V : World} {S S' C C' C2 R R' R2 : Nat → Prop} {k q s g m : Nat} {uv : Value} {F : Int → Option Value} {d : Ds} {f f' : Int → ByteArray} {N M : Nat} {root : Int} {G G' : Int → Option Pge} {U U' : List Int}
/-- a draft, its map's values told -/
def Drf (w : World) (C R : Nat → Prop) (k q s g m : Nat) (uv : Value) (F : Int → Option Value) (d : Ds) (f : Int → ByteArray) (N : Nat) (root : Int) (G : Int → Option Pge) (U : List Int) : Prop :=
  ∃ (S : Nat → Prop) (n : Nat), Sv w S k q s d f N ∧ Core w S C R s g m n uv F root G U ∧ n ≤ N ∧ Env w ∧ ¬ C 0
theorem Dr.toF (h : Dr w C R k q s g d f N root G U) : ∃ m uv F, Drf w C R k q s g m uv F d f N root G U := by
  obtain ⟨m, uv, S, n, F, h⟩ := h
  exact ⟨m, uv, F, S, n, h⟩
theorem Drf.toM (h : Drf w C R k q s g m uv F d f N root G U) : Drm w C R k q s g m uv d f N root G U := by
  obtain ⟨S, n, h⟩ := h
  exact ⟨S, n, F, h⟩
theorem Drf.on (h : Drf w C R k q s g m uv F d f N root G U) (hb : Below w.heap.size w W) : Drf W C R k q s g m uv F d f N root G U := by
  obtain ⟨S, n, h1, h2, h3, h4, h5⟩ := h
  exact ⟨S, n, h1.on hb, h2.keep (T := fun _ => False) (Keep.of_below hb) (fun _ _ h => h) (fun _ _ h => h.elim) (fun _ h => h) (fun _ h => .inl h), h3, h4.on h4.pos hb, h5⟩
theorem Drf.look (h : Drf w C R k q s g m uv F d f N root G U) {a : Int} (ha : I64 a) : (Instr.lookup 143 (.map (some m)) (.int .i64 a) false).run Tryz.prog w = .ok ((F a).getD zeroTP) w := by
  obtain ⟨S, n, _, h, _⟩ := h
  exact h.map.getT ha
theorem Drf.val (h : Drf w C R k q s g m uv F d f N root G U) {a : Int} (ha : I64 a) : GV w R (F a) (G a) := by
  obtain ⟨S, n, _, h, _⟩ := h
  exact h.vals a ha
theorem Drf.space {E : Ending → World → Prop} {n : Nat} {args : Array Value} {N' : Nat} (h : Drf w C R k q s g m uv F d f N root G U) (hN : N ≤ N') (hc : ∀ S, Sv w S k q s d f N → Env w → ¬ S 0 → Calls Tryz.prog n args w fun e V => E e V ∧ Sn w S k q s d f' N' V) :
    Calls Tryz.prog n args w fun e V => E e V ∧ ∃ C' R', Drf V C' R' k q s g m uv F d f' N' root G U ∧ Stp w C R V C' R' := by
  obtain ⟨S, n', h1, h2, h3, h4, h5⟩ := h
  have hS0 : ¬ S 0 := fun h => h5 ((h2.sets 0).2 (.inl h))
  refine (hc S h1 h4 hS0).mono fun e V hh => ⟨hh.1, ?_⟩
  obtain ⟨S', g1, g2⟩ := hh.2.sv
  have hk := hh.2.keep
  have hlt : ∀ j, C j → j < w.heap.size := fun j hj => h2.lt j (h2.le j hj)
  have hx : ∀ j, j < w.heap.size → ¬ S j → ¬ S' j := fun j hj hn hs => by
    rcases g2 j hs with h | h
    · exact hn h
    · omega
  have kC : Keep C w V := hk.mono (fun j _ hj => (h2.sets j).2 (.inl hj))
  refine ⟨fun j => S' j ∨ j = g ∨ j = m ∨ uv.ownBlock = some j, fun j => R j ∨ S' j, ⟨S', n', g1, ⟨hk.blk h2.blk h2.sg, hk.imap h2.map h2.sm, hk.row h2.row h2.su, fun j => Iff.rfl, hx _ h2.blk.lt h2.sg, hx _ h2.map.lt h2.sm, fun j hj => hx j (hlt j ((h2.sets j).2 (.inr (.inr (.inr hj))))) (h2.su j hj), fun a ha => ?_, fun j hj => ?_, fun j hj => ?_⟩, Nat.le_trans h3 hN, hk.env h4 hS0, fun h0 => ?_⟩, kC, fun j hj => ?_, fun j hj => .inl hj, fun j hj => ?_⟩
  · exact (h2.vals a ha).keep hk (fun j hj => h2.le j ((h2.sets j).2 (.inl hj))) (fun j hj hr => by
      rcases hr with h | h
      · exact h
      · rcases g2 j h with h | h
        · exact h2.le j ((h2.sets j).2 (.inl h))
        · omega)
  · rcases hj with h | h | h | h
    · exact .inr h
    · exact .inl (h2.le j ((h2.sets j).2 (.inr (.inl h))))
    · exact .inl (h2.le j ((h2.sets j).2 (.inr (.inr (.inl h)))))
    · exact .inl (h2.le j ((h2.sets j).2 (.inr (.inr (.inr h)))))
  · rcases hj with h | h
    · exact Nat.lt_of_lt_of_le (h2.lt j h) hk.size
    · exact g1.lt j h
  · rcases h0 with h | h
    · rcases g2 0 h with h | h
      · exact hS0 h
      · have := h4.pos; omega
    · exact h5 ((h2.sets 0).2 (.inr h))
  · rcases hj with h | h
    · rcases g2 j h with h | h
      · exact .inl ((h2.sets j).2 (.inl h))
      · exact .inr h
    · exact .inl ((h2.sets j).2 (.inr h))
  · rcases hj with h | h
    · exact .inl h
    · rcases g2 j h with h | h
      · exact .inl (h2.le j ((h2.sets j).2 (.inl h)))
      · exact .inr h
/-- a space in which the changed pages of a list are written -/
def wrF (G : Int → Option Pge) (f : Int → ByteArray) (L : List Int) : Int → ByteArray := fun b => if b ∈ L then (match G b with | some p => packS (p.1 : Nat) p.2 | none => f b) else f b
/-- all changed pages are the user's, and can be written -/
def GOk (d : Ds) (f : Int → ByteArray) (G : Int → Option Pge) : Prop := ∀ a p, I64 a → G a = some p → gtE d f a = 0 ∧ packE (p.1 : Nat) p.2 = 0
theorem wrF_map (hg : d.Ok) {L : List Int} (hL : ∀ a ∈ L, isUs d.bs.length a) : wrF G f L (mpg d) = f (mpg d) := by
  unfold wrF
  rw [if_neg (fun h => by have := (hL _ h).1; unfold mpg at this; omega)]
theorem gt_wr (hg : d.Ok) {L : List Int} (hL : ∀ a ∈ L, isUs d.bs.length a) (a : Int) : gtE d (wrF G f L) a = gtE d f a := by
  unfold gtE tkn
  rw [wrF_map hg hL]
theorem wrF_snoc {L : List Int} {a : Int} {p : Pge} (ha : G a = some p) (hn : a ∉ L) : (fun b => if b = a then packS (p.1 : Nat) p.2 else wrF G f L b) = wrF G f (L ++ [a]) := by
  funext b
  unfold wrF
  by_cases hb : b = a
  · subst hb
    rw [if_pos rfl, if_pos (by simp), ha]
  · rw [if_neg hb]
    by_cases hl : b ∈ L
    · rw [if_pos hl, if_pos (by simp [hl])]
    · rw [if_neg hl, if_neg (by simp [hl, hb])]
/-- rising numbers below a bound are few -/
theorem few_rise : ∀ {L : List Int} {lo n : Nat}, L.Pairwise (fun a b => a < b) → (∀ a ∈ L, (lo : Int) ≤ a ∧ a < (n : Int)) → L.length ≤ n - lo
  | [], lo, n, _, _ => Nat.zero_le _
  | a :: r, lo, n, h, hb => by
    obtain ⟨h1, h2⟩ := List.pairwise_cons.1 h
    have ha := hb a List.mem_cons_self
    have := few_rise (L := r) (lo := a.toNat + 1) (n := n) h2 (fun b hbm => by
      have := h1 b hbm
      have := hb b (List.mem_cons_of_mem _ hbm)
      omega)
    rw [List.length_cons]
    omega
theorem keys_few {L : List Int} (h : KeysOf F L) (hr : ∀ a ∈ L, 0 ≤ a ∧ a < 2048) : L.length ≤ 2048 := by
  have hs : L.Pairwise (fun a b => a < b) := by
    have := List.Pairwise.and h.up h.nd
    exact this.imp (fun hh => by omega)
  have := few_rise (lo := 0) (n := 2048) hs (fun a ha => by have := hr a ha; omega)
  omega
set_option maxHeartbeats 2000000 in
theorem dwrite_any (hG : GOk d f G) (hU : U = []) (hN : N < 500000) (h : Dr w C R k q s g d f N root G U) :
    Calls Tryz.prog 95 #[.pointer (some ⟨g, 0, none⟩)] w fun e w' => ∃ L, e = .returned (.tuple #[]) ∧ (∀ a, I64 a → (a ∈ L ↔ (G a).isSome = true)) ∧ Dn w C R k q s g d (wrF G f L) (N + 5000) root G U w' := by
  subst hU
  obtain ⟨m, uv, F, hf⟩ := h.toF
  obtain ⟨c0, c1, c2, c3, _, hg⟩ := hf.toM.cells
  have huv : uv = .slice none 0 0 ∨ ∃ a c, uv = .slice a 0 c := by
    obtain ⟨S, n, _, h2, _⟩ := hf
    obtain ⟨a, c, e⟩ := own_form h2.row
    exact .inr ⟨a, c, e⟩
  obtain ⟨ua, uc, rfl⟩ : ∃ a c, uv = .slice a 0 c := by
    rcases huv with rfl | h
    · exact ⟨none, 0, rfl⟩
    · exact h
  have hgd := h.good.1
  have HKY := hid (fun w1 : World => keysOf_any w1 (some m))
  have HST : Hid (Calls Tryz.prog 46 #[.func (.func 214) #[] #[.pointer (some ⟨w.heap.size, 0, none⟩)]] (w.alloc (.cells #[.map (some m)] 143)) fun e w' => ∃ a c L, e = .returned (.slice a L.length c) ∧ KeysOf F L ∧ RowI w' w.heap.size (.slice a L.length c) L ∧ Below w.heap.size w w') := by
    obtain ⟨S, n, _, h2, h3, _⟩ := hf
    exact sortedKeys_any w m n F h2.map (by omega)
  have HF := hid hf
  have HG := hid hG
  have HD := hid hgd
  have HRL := hid h.lt
  have HIS : Hid (∀ a, I64 a → ((F a).isSome = true ↔ (G a).isSome = true)) := fun a ha => by
    have := hf.val ha
    cases hga : G a with
    | none => rw [hga] at this; have e : F a = none := this; rw [e]; simp
    | some p => rw [hga] at this; obtain ⟨v, hv, _⟩ := this; rw [hv]; simp
  clear hG hgd hf h huv
  go_enter Tryz.func95, Tryz.ntmps95
  go_wp2_with (first
    | (go_at_call 151; refine (HKY.out _).mono ?_; rintro e w1 ⟨rfl, rfl⟩)
    | (go_at_call 46; refine HST.out.mono ?_; clear HST; rintro e w2 ⟨ka, kc, L, rfl, hk, hr, hb⟩; obtain ⟨n, hn⟩ : ∃ n, L.length = n := ⟨_, rfl⟩; rw [hn] at hr ⊢; have HK := hid hk; have HRW := hid hr; have HB2 := hid hb; have HLN := hid hn; clear hk hr hb hn c2))
  have hF2 := HF.out.on HB2.out
  have hUS : Hid (∀ a ∈ L, ∃ p v, G a = some p ∧ F a = some v ∧ isUs d.bs.length a ∧ gtE d f a = 0 ∧ packE (p.1 : Nat) p.2 = 0) := fun a ha => by
    have hai := HK.out.i64 a ha
    have hs := (HK.out.mem a hai).1 ha
    have hg2 := (HIS.out a hai).1 hs
    obtain ⟨p, hp⟩ := Option.isSome_iff_exists.1 hg2
    obtain ⟨v, hv⟩ := Option.isSome_iff_exists.1 hs
    obtain ⟨h1, h2⟩ := HG.out a p hai hp
    exact ⟨p, v, hp, hv, (gt_us h1).1, h1, h2⟩
  have hfew : L.length ≤ 2048 := keys_few HK.out (fun a ha => by
    obtain ⟨p, v, _, _, hu, _⟩ := hUS.out a ha
    exact us_small HD.out.lo HD.out.hi hu)
  rw [HLN.out] at hfew
  have hrowC : Hid (∀ x, (Value.slice ka n kc).ownBlock = some x → ¬ C x) := fun x hx hc => by
    have := HRL.out x ((HF.out.toM.dr).le x hc)
    have := (own_lo HRW.out hx).1
    omega
  have H0 : Hid (∃ C' R', Drf w2 C' R' k q s g m (.slice ua 0 uc) F d (wrF G f (L.take 0)) (N + 2 * 0) root G [] ∧ Stp w2 C R w2 C' R') := by
    refine ⟨C, R, ?_, Stp.refl⟩
    have e : wrF G f (L.take 0) = f := by funext b; simp [wrF]
    rw [e]
    exact hF2
  clear hF2
  go_loopw [13] (fun i wr => ∃ j : Nat, j ≤ n ∧ i = .int .i64 (j : Nat) ∧ Hid (∃ C' R', Drf wr C' R' k q s g m (.slice ua 0 uc) F d (wrF G f (L.take j)) (N + 2 * j) root G [] ∧ Stp w2 C R wr C' R')) (fun i _ => n - (intOf i).toNat)
  case atStart => exact ⟨0, Nat.zero_le _, rfl, H0⟩
  case round =>
    obtain ⟨j, hj, rfl, HR⟩ := hrel
    clear H0
    by_cases hjn : j < n
    · have hji : (j : Int) < (n : Int) := by omega
      obtain ⟨a, ha⟩ : ∃ a, L[j]? = some a := ⟨_, List.getElem?_eq_getElem (by rw [HLN.out]; exact hjn)⟩
      have HA := hid ha
      have ham := List.mem_of_getElem? ha
      obtain ⟨p, v, hGa, hFa, hus, hgt, hpk⟩ := hUS.out a ham
      obtain ⟨C', R', hf, hs⟩ := HR.out
      have hrow := hs.keep.row HRW.out hrowC.out
      obtain ⟨kb, rfl, _, _, z0, _⟩ := RowI.at (show RowI wr w.heap.size (.slice ka n kc) L from hrow) ha
      have hai := HK.out.i64 a ham
      have hLU : ∀ b ∈ L.take j, isUs d.bs.length b := fun b hb => by obtain ⟨_, _, _, _, h, _⟩ := hUS.out b (List.mem_of_mem_take hb); exact h
      have hgt' : gtE d (wrF G f (L.take j)) a = 0 := by rw [gt_wr HD.out hLU]; exact hgt
      have hnm : a ∉ L.take j := fun hm => by
        have hnd := HK.out.nd
        rw [← List.take_append_drop j L, drop_cons ha] at hnd
        exact (List.nodup_append.1 hnd).2.2 a hm a List.mem_cons_self rfl
      have hsn := wrF_snoc (f := f) hGa hnm
      rw [← take_snoc ha] at hsn
      have hdr : Below wr.heap.size wr wr.drew := (Below.refl _ _).drew
      have hfd := hf.on hdr
      have hval := hfd.val hai
      rw [hGa, hFa] at hval
      obtain ⟨v', e, pv⟩ := hval
      cases e
      obtain ⟨pa, pc, rfl, pl, pb⟩ := pv
      have HWR := hid (hfd.space (E := fun e V => e = .returned (.tuple #[])) (N' := N + 2 * (j + 1)) (by omega) (fun S g1 g2 g3 => by
        have := twrite_any (w := wr.drew) a p pa pc hgt' hpk pl g2 g3 (by omega) g1
        rw [hsn] at this
        exact this))
      have g0 := hfd.toM.cells.1
      have g2 := hfd.toM.cells.2.2.1
      have hlk := hfd.look hai
      rw [hFa] at hlk
      have HSTEP : Hid (∀ w5 C5 R5, Drf w5 C5 R5 k q s g m (.slice ua 0 uc) F d (wrF G f (L.take (j + 1))) (N + 2 * (j + 1)) root G [] → Stp wr.drew C' R' w5 C5 R5 → (w5.cell? ⟨g, 0, none⟩ = some (.pointer (some ⟨s, 0, none⟩)) ∧ w5.cell? ⟨g, 2, none⟩ = some (.map (some m)) ∧ (Instr.lookup 143 (.map (some m)) (.int .i64 a) false).run Tryz.prog w5 = .ok (.agg #[.int .i64 (p.1 : Nat), .slice pa p.2.length pc]) w5) ∧ ∃ C' R', Drf w5 C' R' k q s g m (.slice ua 0 uc) F d (wrF G f (L.take (j + 1))) (N + 2 * (j + 1)) root G [] ∧ Stp w2 C R w5 C' R') := fun w5 C5 R5 h5 s5 => by
        have h := h5.look hai
        rw [hFa] at h
        exact ⟨⟨h5.toM.cells.1, h5.toM.cells.2.2.1, h⟩, C5, R5, h5, (hs.on hdr).trans s5⟩
      have hwj : IntKind.i64.wrap ((j : Int) + 1) = (j : Int) + 1 := by rw [IntKind.wrap_i64]; omega
      have hS : wr.drew.cell? ⟨g, 0, none⟩ = some (.pointer (some ⟨s, 0, none⟩)) ∧ wr.drew.cell? ⟨g, 2, none⟩ = some (.map (some m)) ∧ (Instr.lookup 143 (.map (some m)) (.int .i64 a) false).run Tryz.prog wr.drew = .ok (.agg #[.int .i64 (p.1 : Nat), .slice pa p.2.length pc]) wr.drew := ⟨g0, g2, hlk⟩
      clear ha hf hs hrow hLU hgt' hgt hnm hsn hfd pl pb hpk hus hGa hFa ham hlk g0 g2 HR
      obtain ⟨p1, PL⟩ := p
      simp only at *
      generalize PL.length = pn at *
      obtain ⟨fn, hfn⟩ : ∃ fn, wrF G f (L.take (j + 1)) = fn := ⟨_, rfl⟩
      have HFN := hid hfn
      rw [hfn] at HSTEP HWR
      clear hfn
      go_wp2_with fail
      refine wp_region_d (fun w' => w'.cell? ⟨g, 0, none⟩ = some (.pointer (some ⟨s, 0, none⟩)) ∧ w'.cell? ⟨g, 2, none⟩ = some (.map (some m)) ∧ (Instr.lookup 143 (.map (some m)) (.int .i64 a) false).run Tryz.prog w' = .ok (.agg #[.int .i64 (p1 : Nat), .slice pa pn pc]) w') (fun _ => true) (by kernel_rfl) ?_
      generalize wr.drew = wd at *
      refine wpAnyM_pick (i := 0) (some 17) (v := ?vz1) rfl rfl (by kernel_rfl) (by kernel_rfl) (by kernel_rfl) (by kernel_rfl) (fun _ _ _ h => h) (Or.inl ⟨by rfl, ?hz1⟩) hS ?rz1
      case hz1 => intro w hSw; (try have hs1 := hSw.1); (try have hs2 := hSw.2); (try (obtain ⟨ha1, ha2, ha3, ha4⟩ := hSw)); go_simp; try with_reducible rfl
      try simp only [Act.put, List.setIfInBounds_toArray, List.set_cons_zero, List.set_cons_succ]
      refine wpAnyM_pick (i := 1) (some 18) (v := ?vz2) rfl rfl (by kernel_rfl) (by kernel_rfl) (by kernel_rfl) (by kernel_rfl) (fun _ _ _ h => h) (Or.inl ⟨by rfl, ?hz2⟩) hS ?rz2
      case hz2 => intro w hSw; (try have hs1 := hSw.1); (try have hs2 := hSw.2); (try (obtain ⟨ha1, ha2, ha3, ha4⟩ := hSw)); go_simp; try with_reducible rfl
      try simp only [Act.put, List.setIfInBounds_toArray, List.set_cons_zero, List.set_cons_succ]
      refine wpAnyM_pick (i := 2) (some 19) (v := ?vz3) rfl rfl (by kernel_rfl) (by kernel_rfl) (by kernel_rfl) (by kernel_rfl) (fun _ _ _ h => h) (Or.inl ⟨by rfl, ?hz3⟩) hS ?rz3
      case hz3 => intro w hSw; (try have hs1 := hSw.1); (try have hs2 := hSw.2); (try (obtain ⟨ha1, ha2, ha3, ha4⟩ := hSw)); go_simp; try with_reducible rfl
      try simp only [Act.put, List.setIfInBounds_toArray, List.set_cons_zero, List.set_cons_succ]
      refine wpAnyM_pick (i := 3) (some 20) (v := ?vz4) rfl rfl (by kernel_rfl) (by kernel_rfl) (by kernel_rfl) (by kernel_rfl) (fun _ _ _ h => h) (Or.inl ⟨by rfl, ?hz4⟩) hS ?rz4
      case hz4 => intro w hSw; (try have hs1 := hSw.1); (try have hs2 := hSw.2); (try (obtain ⟨ha1, ha2, ha3, ha4⟩ := hSw)); go_simp; try with_reducible rfl
      try simp only [Act.put, List.setIfInBounds_toArray, List.set_cons_zero, List.set_cons_succ]
      refine wpAnyM_pick (i := 4) (some 21) (v := ?vz5) rfl rfl (by kernel_rfl) (by kernel_rfl) (by kernel_rfl) (by kernel_rfl) (fun _ _ _ h => h) (Or.inl ⟨by rfl, ?hz5⟩) hS ?rz5
      case hz5 => intro w hSw; (try have hs1 := hSw.1); (try have hs2 := hSw.2); (try (obtain ⟨ha1, ha2, ha3, ha4⟩ := hSw)); go_simp; try with_reducible rfl
      try simp only [Act.put, List.setIfInBounds_toArray, List.set_cons_zero, List.set_cons_succ]
      refine wpAnyM_pick (i := 5) (some 22) (v := ?vz6) rfl rfl (by kernel_rfl) (by kernel_rfl) (by kernel_rfl) (by kernel_rfl) (fun _ _ _ h => h) (Or.inl ⟨by rfl, ?hz6⟩) hS ?rz6
      case hz6 => intro w hSw; (try have hs1 := hSw.1); (try have hs2 := hSw.2); (try (obtain ⟨ha1, ha2, ha3, ha4⟩ := hSw)); go_simp; try with_reducible rfl
      try simp only [Act.put, List.setIfInBounds_toArray, List.set_cons_zero, List.set_cons_succ]
      refine wpAnyM_pick (i := 6) (some 23) (v := ?vz7) rfl rfl (by kernel_rfl) (by kernel_rfl) (by kernel_rfl) (by kernel_rfl) (fun _ _ _ h => h) (Or.inl ⟨by rfl, ?hz7⟩) hS ?rz7
      case hz7 => intro w hSw; (try have hs1 := hSw.1); (try have hs2 := hSw.2); (try (obtain ⟨ha1, ha2, ha3, ha4⟩ := hSw)); go_simp; try with_reducible rfl
      try simp only [Act.put, List.setIfInBounds_toArray, List.set_cons_zero, List.set_cons_succ]
      refine wpAnyM_pick (i := 7) (some 24) (v := ?vz8) rfl rfl (by kernel_rfl) (by kernel_rfl) (by kernel_rfl) (by kernel_rfl) (fun _ _ _ h => h) (Or.inl ⟨by rfl, ?hz8⟩) hS ?rz8
      case hz8 => intro w hSw; (try have hs1 := hSw.1); (try have hs2 := hSw.2); (try (obtain ⟨ha1, ha2, ha3, ha4⟩ := hSw)); go_simp; try with_reducible rfl
      try simp only [Act.put, List.setIfInBounds_toArray, List.set_cons_zero, List.set_cons_succ]
      refine wpAnyM_pick (i := 8) (some 25) (v := ?vz9) rfl rfl (by kernel_rfl) (by kernel_rfl) (by kernel_rfl) (by kernel_rfl) (fun _ _ _ h => h) (Or.inl ⟨by rfl, ?hz9⟩) hS ?rz9
      case hz9 => intro w hSw; (try have hs1 := hSw.1); (try have hs2 := hSw.2); (try (obtain ⟨ha1, ha2, ha3, ha4⟩ := hSw)); go_simp; try with_reducible rfl
      try simp only [Act.put, List.setIfInBounds_toArray, List.set_cons_zero, List.set_cons_succ]
      refine wpAnyM_pick (i := 9) (some 26) (v := ?vz10) rfl rfl (by kernel_rfl) (by kernel_rfl) (by kernel_rfl) (by kernel_rfl) (fun _ _ _ h => h) (Or.inl ⟨by rfl, ?hz10⟩) hS ?rz10
      case hz10 => intro w hSw; (try have hs1 := hSw.1); (try have hs2 := hSw.2); (try (obtain ⟨ha1, ha2, ha3, ha4⟩ := hSw)); go_simp; try with_reducible rfl
      try simp only [Act.put, List.setIfInBounds_toArray, List.set_cons_zero, List.set_cons_succ]
      refine wpAnyM_pick (i := 10) (some 27) (v := ?vz11) rfl rfl (by kernel_rfl) (by kernel_rfl) (by kernel_rfl) (by kernel_rfl) (fun _ _ _ h => h) (Or.inl ⟨by rfl, ?hz11⟩) hS ?rz11
      case hz11 => intro w hSw; (try have hs1 := hSw.1); (try have hs2 := hSw.2); (try (obtain ⟨ha1, ha2, ha3, ha4⟩ := hSw)); go_simp; try with_reducible rfl
      try simp only [Act.put, List.setIfInBounds_toArray, List.set_cons_zero, List.set_cons_succ]
      refine wpAnyM_one (i := 11) (by kernel_rfl) rfl (fun K1 hK1 => ?_)
      go_simp
      go_at_call 39
      refine HWR.out.mono ?_
      rintro e w5 ⟨rfl, C5, R5, h5, s5⟩
      obtain ⟨hS5, hrel⟩ := HSTEP.out w5 C5 R5 h5 s5
      have HREL := hid hrel
      refine hK1 _ _ (fun _ => hS5) ?_
      clear hK1 K1 hS HSTEP HWR h5 s5 hrel hS5 z0 hdr
      refine wpAnyM_done (by kernel_rfl) ?_ _
      go_wp2_with fail
      go_roundw
      case rel => exact ⟨j + 1, by omega, by go_num, by rw [HFN.out]; exact HREL⟩
      case measure => simp [intOf]; omega
    · obtain rfl : j = n := by omega
      have hji : ¬ (j : Int) < (j : Int) := by omega
      obtain ⟨C', R', hf, hs⟩ := HR.out
      have HF9 := hid hf
      have HS9 := hid hs
      have g3 := hf.toM.cells.2.2.2.1
      have HTK : Hid (L.take j = L) := by show _ = _; rw [← HLN.out]; exact List.take_length
      clear hf hs HR
      go_wp2_with fail
      go_loopw [35] (fun i w9 => i = .int .i64 0 ∧ wr = w9) (fun _ _ => 0)
      case atStart => exact ⟨rfl, rfl⟩
      case round =>
        obtain ⟨rfl, rfl⟩ := hrel
        go_wp2_with fail
        refine bodyPost_end (results_none rfl _ _ _) rfl ⟨L, rfl, fun a ha => ?_, ?_⟩
        · rw [HK.out.mem a ha]
          exact HIS.out a ha
        · have h9 := HF9.out
          rw [HTK.out] at h9
          exact Dn.mono ⟨C', R', h9.toM.dr, (⟨Keep.of_below HB2.out, Grows.refl _ _, fun _ h => h, Grows.refl _ _⟩ : Stp w C R w2 C R).trans HS9.out⟩ (by omega)
end
end Go.Proofs.YtjcbaiohpdihoaaGreatDoor

namespace Go.Proofs.YtjcbaiohpdihoaaGreatDoor
open Go.RowKit Go.Maps Lf
set_option linter.unusedVariables false
set_option linter.unusedSimpArgs false
set_option maxRecDepth 100000

section
variable {w W V : World} {S S' C C' C2 R R' R2 : Nat → Prop} {k q s g m : Nat} {uv : Value} {F : Int → Option Value} {d : Ds} {f f' : Int → ByteArray} {N M : Nat} {root : Int} {G G' : Int → Option Pge} {U U' : List Int}
set_option maxHeartbeats 2000000 in
theorem dput_any (xk xv u0 u1 : ByteArray) (hG : GOk d f' G') (hU : U = []) (hM : M < 400000) (h : Dr w C R k q s g d f N root G U)
    (hl : ∀ (w1 : World) (C1 R1 : Nat → Prop), Dr w1 C1 R1 k q s g d f N root G U → Calls Tryz.prog 93 #[.pointer (some ⟨g, 0, none⟩), .int .i64 root, .agg #[.string xk, .string xv]] w1 fun e w' => e = .returned (.tuple #[.agg #[.string u0, .string u1], .bool false]) ∧ Dn w1 C1 R1 k q s g d f' M root G' U w') :
    Calls Tryz.prog 55 #[.pointer (some ⟨g, 0, none⟩), .agg #[.string xk, .string xv]] w fun e w' => ∃ L, e = .returned (.tuple #[]) ∧ (∀ a, I64 a → (a ∈ L ↔ (G' a).isSome = true)) ∧ Dn w C R k q s g d (wrF G' f' L) (M + 5000) root G' U w' := by
  obtain ⟨h1, s1, x1⟩ := h.box #[.string xk, .string xv] 59
  obtain ⟨w1, hw1⟩ : ∃ w1, w.alloc (.cells #[.string xk, .string xv] 59) = w1 := ⟨_, rfl⟩
  have hdr : Below w1.heap.size w1 w1.drew := (Below.refl _ _).drew
  rw [hw1] at h1 s1 x1
  have HL := hid hl
  have D2 := hid (h1.on hdr)
  have S2 := hid (s1.on hdr)
  have X2 := hid (x1.on hdr)
  have HWT : Hid (∀ (w5 : World) (C5 R5 : Nat → Prop), Dr w5 C5 R5 k q s g d f' M root G' U → Calls Tryz.prog 95 #[.pointer (some ⟨g, 0, none⟩)] w5 fun e w' => ∃ L, e = .returned (.tuple #[]) ∧ (∀ a, I64 a → (a ∈ L ↔ (G' a).isSome = true)) ∧ Dn w5 C5 R5 k q s g d (wrF G' f' L) (M + 5000) root G' U w') := fun w5 C5 R5 h5 => dwrite_any hG hU (by omega) h5
  obtain ⟨m, uv, hm⟩ := h1.on hdr
  have g1 := hm.cells.2.1
  have hS : w1.drew.cell? ⟨g, 1, none⟩ = some (.int .i64 root) ∧ w1.drew.cell? ⟨w.heap.size, 0, none⟩ = some (.string xk) ∧ w1.drew.cell? ⟨w.heap.size, 1, none⟩ = some (.string xv) := ⟨g1, (x1.on hdr).two.1, (x1.on hdr).two.2.1⟩
  have HFS : Hid (∀ (w5 : World) (C5 R5 : Nat → Prop) (f5 : Int → ByteArray) (N5 : Nat) (G5 : Int → Option Pge), Dr w5 C5 R5 k q s g d f5 N5 root G5 U → Bx w5 C5 R5 w.heap.size #[.string xk, .string xv] 59 → w5.cell? ⟨g, 1, none⟩ = some (.int .i64 root) ∧ w5.cell? ⟨w.heap.size, 0, none⟩ = some (.string xk) ∧ w5.cell? ⟨w.heap.size, 1, none⟩ = some (.string xv)) := fun w5 C5 R5 f5 N5 G5 h5 x5 => by
    obtain ⟨m, uv, hm⟩ := h5
    exact ⟨hm.cells.2.1, x5.two.1, x5.two.2.1⟩
  clear h1 s1 x1 h hm g1 hl hG hU hdr
  go_enter Tryz.func55, Tryz.ntmps55
  go_wp2_with fail
  try rw [hw1]
  try clear hw1
  refine wp_region_d (fun w' => w'.cell? ⟨g, 1, none⟩ = some (.int .i64 root) ∧ w'.cell? ⟨w.heap.size, 0, none⟩ = some (.string xk) ∧ w'.cell? ⟨w.heap.size, 1, none⟩ = some (.string xv)) (fun _ => true) (by kernel_rfl) ?_
  generalize w1.drew = w2 at *
  refine wpAnyM_pick (i := 0) (some 8) (v := ?vz1) rfl rfl (by kernel_rfl) (by kernel_rfl) (by kernel_rfl) (by kernel_rfl) (fun _ _ _ h => h) (Or.inl ⟨by rfl, ?hz1⟩) hS ?rz1
  case hz1 => intro w hSw; (try have hs1 := hSw.1); (try have hs2 := hSw.2); (try (obtain ⟨ha1, ha2, ha3, ha4⟩ := hSw)); go_simp; try with_reducible rfl
  try simp only [Act.put, List.setIfInBounds_toArray, List.set_cons_zero, List.set_cons_succ]
  refine wpAnyM_pick (i := 1) (some 9) (v := ?vz2) rfl rfl (by kernel_rfl) (by kernel_rfl) (by kernel_rfl) (by kernel_rfl) (fun _ _ _ h => h) (Or.inl ⟨by rfl, ?hz2⟩) hS ?rz2
  case hz2 => intro w hSw; (try have hs1 := hSw.1); (try have hs2 := hSw.2); (try (obtain ⟨ha1, ha2, ha3, ha4⟩ := hSw)); go_simp; try with_reducible rfl
  try simp only [Act.put, List.setIfInBounds_toArray, List.set_cons_zero, List.set_cons_succ]
  refine wpAnyM_pick (i := 2) (some 10) (v := ?vz3) rfl rfl (by kernel_rfl) (by kernel_rfl) (by kernel_rfl) (by kernel_rfl) (fun _ _ _ h => h) (Or.inl ⟨by rfl, ?hz3⟩) hS ?rz3
  case hz3 => intro w hSw; (try have hs1 := hSw.1); (try have hs2 := hSw.2); (try (obtain ⟨ha1, ha2, ha3, ha4⟩ := hSw)); go_simp; try with_reducible rfl
  try simp only [Act.put, List.setIfInBounds_toArray, List.set_cons_zero, List.set_cons_succ]
  refine wpAnyM_pick (i := 3) (some 11) (v := ?vz4) rfl rfl (by kernel_rfl) (by kernel_rfl) (by kernel_rfl) (by kernel_rfl) (fun _ _ _ h => h) (Or.inl ⟨by rfl, ?hz4⟩) hS ?rz4
  case hz4 => intro w hSw; (try have hs1 := hSw.1); (try have hs2 := hSw.2); (try (obtain ⟨ha1, ha2, ha3, ha4⟩ := hSw)); go_simp; try with_reducible rfl
  try simp only [Act.put, List.setIfInBounds_toArray, List.set_cons_zero, List.set_cons_succ]
  refine wpAnyM_pick (i := 4) (some 12) (v := ?vz5) rfl rfl (by kernel_rfl) (by kernel_rfl) (by kernel_rfl) (by kernel_rfl) (fun _ _ _ h => h) (Or.inl ⟨by rfl, ?hz5⟩) hS ?rz5
  case hz5 => intro w hSw; (try have hs1 := hSw.1); (try have hs2 := hSw.2); (try (obtain ⟨ha1, ha2, ha3, ha4⟩ := hSw)); go_simp; try with_reducible rfl
  try simp only [Act.put, List.setIfInBounds_toArray, List.set_cons_zero, List.set_cons_succ]
  refine wpAnyM_pick (i := 5) (some 13) (v := ?vz6) rfl rfl (by kernel_rfl) (by kernel_rfl) (by kernel_rfl) (by kernel_rfl) (fun _ _ _ h => h) (Or.inl ⟨by rfl, ?hz6⟩) hS ?rz6
  case hz6 => intro w hSw; (try have hs1 := hSw.1); (try have hs2 := hSw.2); (try (obtain ⟨ha1, ha2, ha3, ha4⟩ := hSw)); go_simp; try with_reducible rfl
  try simp only [Act.put, List.setIfInBounds_toArray, List.set_cons_zero, List.set_cons_succ]
  refine wpAnyM_two (i := 6) (j := 10) (by kernel_rfl) rfl rfl (fun K1 hK1 => ?_) (fun K1 hK1 => ?_)
  · go_simp
    go_at_call 93
    refine (HL.out _ _ _ D2.out).mono ?_
    rintro e w5 ⟨rfl, C5, R5, d5, s5⟩
    have x5 := X2.out.step s5
    have hS5 := HFS.out _ _ _ _ _ _ d5 x5
    refine hK1 _ _ (fun _ => hS5) ?_
    clear hK1 K1 hS
    refine wpAnyM_pick (i := 7) (some 7) (v := ?vz7) rfl rfl (by kernel_rfl) (by kernel_rfl) (by kernel_rfl) (by kernel_rfl) (fun _ _ _ h => h) (Or.inl ⟨by rfl, ?hz7⟩) hS5 ?rz7
    case hz7 => intro w hSw; (try have hs1 := hSw.1); (try have hs2 := hSw.2); (try (obtain ⟨ha1, ha2, ha3, ha4⟩ := hSw)); go_simp; try with_reducible rfl
    try simp only [Act.put, List.setIfInBounds_toArray, List.set_cons_zero, List.set_cons_succ]
    refine wpAnyM_pick (i := 8) (some 15) (v := ?vz8) rfl rfl (by kernel_rfl) (by kernel_rfl) (by kernel_rfl) (by kernel_rfl) (fun _ _ _ h => h) (Or.inl ⟨by rfl, ?hz8⟩) hS5 ?rz8
    case hz8 => intro w hSw; (try have hs1 := hSw.1); (try have hs2 := hSw.2); (try (obtain ⟨ha1, ha2, ha3, ha4⟩ := hSw)); go_simp; try with_reducible rfl
    try simp only [Act.put, List.setIfInBounds_toArray, List.set_cons_zero, List.set_cons_succ]
    refine wpAnyM_pick (i := 9) (some 16) (v := ?vz9) rfl rfl (by kernel_rfl) (by kernel_rfl) (by kernel_rfl) (by kernel_rfl) (fun _ _ _ h => h) (Or.inl ⟨by rfl, ?hz9⟩) hS5 ?rz9
    case hz9 => intro w hSw; (try have hs1 := hSw.1); (try have hs2 := hSw.2); (try (obtain ⟨ha1, ha2, ha3, ha4⟩ := hSw)); go_simp; try with_reducible rfl
    try simp only [Act.put, List.setIfInBounds_toArray, List.set_cons_zero, List.set_cons_succ]
    refine wpAnyM_one (i := 10) (by kernel_rfl) rfl (fun K1 hK1 => ?_)
    go_simp
    obtain ⟨d6, s6, x6⟩ := d5.box #[.string ⟨#[]⟩, .string ⟨#[]⟩] 59
    have hS6 := HFS.out _ _ _ _ _ _ d6 (x5.step s6)
    refine hK1 _ _ (fun _ => hS6) ?_
    clear hK1 K1 d6 s6 x6 hS6
    refine wpAnyM_one (i := 11) (by kernel_rfl) rfl (fun K1 hK1 => ?_)
    go_simp
    obtain ⟨d6, s6, x6⟩ := d5.box #[.string u0, .string u1] 59
    have hS6 := HFS.out _ _ _ _ _ _ d6 (x5.step s6)
    refine hK1 _ _ (fun _ => hS6) ?_
    have D6 := hid d6
    have S6 := hid ((S2.out.trans s5).trans s6)
    clear hK1 K1 d5 s5 d6 s6 x6 x5 hS5
    refine wpAnyM_pick (i := 12) (some 5) (v := ?vz10) rfl rfl (by kernel_rfl) (by kernel_rfl) (by kernel_rfl) (by kernel_rfl) (fun _ _ _ h => h) (Or.inl ⟨by rfl, ?hz10⟩) hS6 ?rz10
    case hz10 => intro w hSw; (try have hs1 := hSw.1); (try have hs2 := hSw.2); (try (obtain ⟨ha1, ha2, ha3, ha4⟩ := hSw)); go_simp; try with_reducible rfl
    try simp only [Act.put, List.setIfInBounds_toArray, List.set_cons_zero, List.set_cons_succ]
    clear hS6
    refine wpAnyM_done (by kernel_rfl) ?_ _
    go_wp2_with (go_at_call 95; refine (HWT.out _ _ _ D6.out).mono ?_; rintro e w9 ⟨L, rfl, hm9, dn9⟩; have HM9 := hid hm9; have HN9 := hid (dn9.pre S6.out); clear hm9 dn9)
    exact bodyPost_end (results_none rfl _ _ _) rfl ⟨L, rfl, HM9.out, HN9.out⟩
  · go_simp
    obtain ⟨d3, s3, x3⟩ := D2.out.box #[.string ⟨#[]⟩, .string ⟨#[]⟩] 59
    have x13 := X2.out.step s3
    have hS3 := HFS.out _ _ _ _ _ _ d3 x13
    refine hK1 _ _ (fun _ => hS3) ?_
    clear hK1 K1 hS
    have D3 := hid d3
    have hlt2 : w.heap.size < w2.heap.size := X2.out.1.lt
    refine wpAnyM_one (i := 6) (by kernel_rfl) rfl (fun K1 hK1 => ?_)
    go_simp
    go_at_call 93
    refine (HL.out _ _ _ D3.out).mono ?_
    rintro e w5 ⟨rfl, C5, R5, d5, s5⟩
    have x5 := x13.step s5
    have x35 := x3.step s5
    have hS5 := HFS.out _ _ _ _ _ _ d5 x5
    obtain ⟨b0, b1, b2, b3⟩ := x35.two
    refine hK1 _ _ (fun _ => hS5) ?_
    clear hK1 K1 hS3
    refine wpAnyM_pick (i := 7) (some 7) (v := ?vz11) rfl rfl (by kernel_rfl) (by kernel_rfl) (by kernel_rfl) (by kernel_rfl) (fun _ _ _ h => h) (Or.inl ⟨by rfl, ?hz11⟩) hS5 ?rz11
    case hz11 => intro w hSw; (try have hs1 := hSw.1); (try have hs2 := hSw.2); (try (obtain ⟨ha1, ha2, ha3, ha4⟩ := hSw)); go_simp; try with_reducible rfl
    try simp only [Act.put, List.setIfInBounds_toArray, List.set_cons_zero, List.set_cons_succ]
    refine wpAnyM_pick (i := 8) (some 15) (v := ?vz12) rfl rfl (by kernel_rfl) (by kernel_rfl) (by kernel_rfl) (by kernel_rfl) (fun _ _ _ h => h) (Or.inl ⟨by rfl, ?hz12⟩) hS5 ?rz12
    case hz12 => intro w hSw; (try have hs1 := hSw.1); (try have hs2 := hSw.2); (try (obtain ⟨ha1, ha2, ha3, ha4⟩ := hSw)); go_simp; try with_reducible rfl
    try simp only [Act.put, List.setIfInBounds_toArray, List.set_cons_zero, List.set_cons_succ]
    refine wpAnyM_pick (i := 9) (some 16) (v := ?vz13) rfl rfl (by kernel_rfl) (by kernel_rfl) (by kernel_rfl) (by kernel_rfl) (fun _ _ _ h => h) (Or.inl ⟨by rfl, ?hz13⟩) hS5 ?rz13
    case hz13 => intro w hSw; (try have hs1 := hSw.1); (try have hs2 := hSw.2); (try (obtain ⟨ha1, ha2, ha3, ha4⟩ := hSw)); go_simp; try with_reducible rfl
    try simp only [Act.put, List.setIfInBounds_toArray, List.set_cons_zero, List.set_cons_succ]
    refine wpAnyM_one (i := 11) (by kernel_rfl) rfl (fun K1 hK1 => ?_)
    go_simp
    have d6 := (d5.wr x35 0 (.string u0)).wr (x35.wr 0 (.string u0)) 1 (.string u1)
    have x6 := (x5.ne (b2 := w2.heap.size) (by omega) 0 (.string u0)).ne (b2 := w2.heap.size) (by omega) 1 (.string u1)
    have s6 := (((S2.out.trans s3).trans s5).wr (b := w2.heap.size) (by omega) 0 (.string u0)).wr (b := w2.heap.size) (by omega) 1 (.string u1)
    have hS6 := HFS.out _ _ _ _ _ _ d6 x6
    refine hK1 _ _ (fun _ => hS6) ?_
    have D6 := hid d6
    have S6 := hid s6
    clear hK1 K1 d5 s5 d6 s6 x6 x5 hS5 b0 b1 b2 b3 x35 x13 x3 s3 d3
    refine wpAnyM_pick (i := 12) (some 5) (v := ?vz14) rfl rfl (by kernel_rfl) (by kernel_rfl) (by kernel_rfl) (by kernel_rfl) (fun _ _ _ h => h) (Or.inl ⟨by rfl, ?hz14⟩) hS6 ?rz14
    case hz14 => intro w hSw; (try have hs1 := hSw.1); (try have hs2 := hSw.2); (try (obtain ⟨ha1, ha2, ha3, ha4⟩ := hSw)); go_simp; try with_reducible rfl
    try simp only [Act.put, List.setIfInBounds_toArray, List.set_cons_zero, List.set_cons_succ]
    clear hS6
    refine wpAnyM_done (by kernel_rfl) ?_ _
    go_wp2_with (go_at_call 95; refine (HWT.out _ _ _ D6.out).mono ?_; rintro e w9 ⟨L, rfl, hm9, dn9⟩; have HM9 := hid hm9; have HN9 := hid (dn9.pre S6.out); clear hm9 dn9)
    exact bodyPost_end (results_none rfl _ _ _) rfl ⟨L, rfl, HM9.out, HN9.out⟩
end
end Go.Proofs.YtjcbaiohpdihoaaGreatDoor

namespace Go.Proofs.YtjcbaiohpdihoaaGreatDoor
open Go.RowKit Go.Maps Lf
set_option linter.unusedVariables false
set_option linter.unusedSimpArgs false
set_option maxRecDepth 100000

section
variable {w W V : World} {S S' C C' C2 R R' R2 : Nat → Prop} {k q s g m : Nat} {uv : Value} {F : Int → Option Value} {d : Ds} {f f' : Int → ByteArray} {N M : Nat} {root : Int} {G G' : Int → Option Pge} {U U' : List Int}
theorem Dp.dn {v : Value} {p : Pge} (h : Dp w C R k q s g d f N root G U v p W) : Dn w C R k q s g d f N root G U W := by
  obtain ⟨C', R', _, h⟩ := h
  exact ⟨C', R', h⟩
set_option maxHeartbeats 1000000 in
theorem takeLeaf_any (a : Int) (L : List Ent) (key : ByteArray) (ha : gtE d f a = 0) (hu : vw2 G f a = some (1, L)) (hc : ckE none L = 0) (hfit : 2 + sumE L ≤ 256) (hN : N < 80000) (h : Dr w C R k q s g d f N root G U) :
    Calls Tryz.prog 96 #[.pointer (some ⟨g, 0, none⟩), .int .i64 a, .string key] w fun e w' => e = .returned (.bool (hasL L key)) ∧ (hasL L key = true → Dn w C R k q s g d f (N + 3) root (upd G a (some (1, others L key))) U w') ∧ (hasL L key = false → Dn w C R k q s g d f (N + 3) root G U w') := by
  have hai := h.i64 ha
  have HRD := hid (dread_any a (1, L) ha hu (by intro e; cases e) (by omega) h)
  have hlen : L.length ≤ 1000 := by
    have := sum_two (L := L)
    omega
  have hsml : SmlL L := by
    intro y hy
    have := (ck_iff.1 hc).1 y hy
    exact ⟨by unfold Sml; omega, by unfold Sml; omega⟩
  obtain ⟨n, hn⟩ : ∃ n, L.length = n := ⟨_, rfl⟩
  obtain ⟨p, hp⟩ : ∃ p, (others L key).length = p := ⟨_, rfl⟩
  have HTK : Hid (∀ (w1 : World) (ad : Option Addr) (c : Nat), LiesE w1 (.slice ad n c) L → Calls Tryz.prog 154 #[.slice ad n c, .string key] w1 fun e w' => ∃ a c, e = .returned (.tuple #[.slice a p c, .bool (hasL L key)]) ∧ RowE w' w1.heap.size (.slice a p c) (others L key) ∧ Below w1.heap.size w1 w') := fun w1 ad c hl => take_right w1 _ L key hc hl (by omega) p hp
  have HPM : Hid (∀ (w1 : World) (B : Nat) (R1 : Nat → Prop) (x : Option Addr) (c : Nat), RowE w1 B (.slice x p c) (others L key) → (∀ j, R1 j → j < B) → PgV w1 R1 (.agg #[.int .i64 1, .slice x p c]) (1, others L key)) := fun w1 B R1 x c hr hR => by
    rw [← hp] at hr ⊢
    exact PgV.made (kd := 1) hr (hsml.filter _) hR
  clear hu ha hc hfit hlen hsml hp h
  rw [hn] at HRD
  generalize others L key = OL at *
  cases hh : hasL L key with
  | false =>
    rw [hh] at HTK
    clear hh
    go_enter Tryz.func96, Tryz.ntmps96
    go_wp2_with (first
      | (go_at_call 97; refine HRD.out.mono ?_; clear HRD; rintro e w5 ⟨ad, c, rfl, C5, R5, pv5, d5, s5⟩; obtain ⟨d6, s6, x8⟩ := d5.box #[.int .i64 1, .slice ad n c] 78; have S6 := hid (s5.trans s6); have PV6 := hid (pv5.step d5.le s6); have D6 := hid d6; clear pv5 d5 s5 d6 s6 x8)
      | (go_at_call 154; refine (HTK.out _ _ _ PV6.out.lies.2).mono ?_; rintro e w8 ⟨a8, c8, rfl, hr8, hb8⟩; have D8 := hid (D6.out.on hb8); have S8 := hid (S6.out.on hb8); clear hr8 hb8))
    go_ret
    exact ⟨rfl, (fun h => by cases h), fun _ => Dn.mono ⟨_, _, D8.out, S8.out⟩ (by omega)⟩
  | true =>
    rw [hh] at HTK
    clear hh
    go_enter Tryz.func96, Tryz.ntmps96
    go_wp2_with (first
      | (go_at_call 97; refine HRD.out.mono ?_; clear HRD; rintro e w5 ⟨ad, c, rfl, C5, R5, pv5, d5, s5⟩; obtain ⟨d6, s6, x8⟩ := d5.box #[.int .i64 1, .slice ad n c] 78; have S6 := hid (s5.trans s6); have PV6 := hid (pv5.step d5.le s6); have D6 := hid d6; clear pv5 d5 s5 d6 s6 x8)
      | (go_at_call 154; refine (HTK.out _ _ _ PV6.out.lies.2).mono ?_; rintro e w8 ⟨a8, c8, rfl, hr8, hb8⟩; have d8 := D6.out.on hb8; have PV8 := HPM.out _ _ _ a8 c8 hr8 D6.out.lt; have S8 := S6.out.on hb8; obtain ⟨m, uv, hm⟩ := d8; have c2 := hm.cells.2.2.1; obtain ⟨w9, e9, d9, s9⟩ := hm.put hai PV8 (by omega); have D9 := hid d9.dr; have S9 := hid (S8.trans s9); clear hr8 hb8 hm PV8 S8 d9 s9))
    go_ret
    exact ⟨rfl, (fun _ => ⟨_, _, D9.out, S9.out⟩), (fun h => by cases h)⟩
set_option maxHeartbeats 1000000 in
/-- the tree is one leaf: there is such a key -/
theorem dtake_yes (L : List Ent) (key : ByteArray) (ha : gtE d f root = 0) (hu : vw2 G f root = some (1, L)) (hc : ckE none L = 0) (hfit : 2 + sumE L ≤ 256) (hk : hasL L key = true) (hG : GOk d f (upd G root (some (1, others L key)))) (hU : U = []) (hN : N < 80000) (h : Dr w C R k q s g d f N root G U) :
    Calls Tryz.prog 57 #[.pointer (some ⟨g, 0, none⟩), .string key] w fun e w' => ∃ M, e = .returned (.bool true) ∧ (∀ a, I64 a → (a ∈ M ↔ (upd G root (some (1, others L key)) a).isSome = true)) ∧ Dn w C R k q s g d (wrF (upd G root (some (1, others L key))) f M) (N + 6000) root (upd G root (some (1, others L key))) U w' := by
  have HTB := hid (takeLeaf_any root L key ha hu hc hfit hN h)
  have HRD : Hid (∀ (w1 : World) (C1 R1 : Nat → Prop), Dr w1 C1 R1 k q s g d f (N + 3) root (upd G root (some (1, others L key))) U → Calls Tryz.prog 97 #[.pointer (some ⟨g, 0, none⟩), .int .i64 root] w1 fun e w' => ∃ ad c, e = .returned (.agg #[.int .i64 1, .slice ad (others L key).length c]) ∧ Dp w1 C1 R1 k q s g d f (N + 5) root (upd G root (some (1, others L key))) U (.agg #[.int .i64 1, .slice ad (others L key).length c]) (1, others L key) w') := fun w1 C1 R1 h1 =>
    dread_any root (1, others L key) ha (by unfold vw2 upd; rw [if_pos rfl]) (by intro e; cases e) (by omega) h1
  have HWT : Hid (∀ (w5 : World) (C5 R5 : Nat → Prop), Dr w5 C5 R5 k q s g d f (N + 5) root (upd G root (some (1, others L key))) U → Calls Tryz.prog 95 #[.pointer (some ⟨g, 0, none⟩)] w5 fun e w' => ∃ M, e = .returned (.tuple #[]) ∧ (∀ a, I64 a → (a ∈ M ↔ (upd G root (some (1, others L key)) a).isSome = true)) ∧ Dn w5 C5 R5 k q s g d (wrF (upd G root (some (1, others L key))) f M) (N + 5 + 5000) root (upd G root (some (1, others L key))) U w') := fun w5 C5 R5 h5 => dwrite_any hG hU (by omega) h5
  have HG1 : Hid (∀ (w1 : World) (C1 R1 : Nat → Prop) (N1 : Nat) (G1 : Int → Option Pge), Dr w1 C1 R1 k q s g d f N1 root G1 U → w1.cell? ⟨g, 1, none⟩ = some (.int .i64 root)) := fun w1 C1 R1 N1 G1 h1 => by
    obtain ⟨m, uv, hm⟩ := h1
    exact hm.cells.2.1
  have c1 := HG1.out _ _ _ _ _ h
  rw [hk] at HTB
  generalize upd G root (some (1, others L key)) = G1 at *
  generalize others L key = OL at *
  obtain ⟨n, hn⟩ : ∃ n, OL.length = n := ⟨_, rfl⟩
  rw [hn] at HRD
  clear hn hG hU hk hc hfit hu ha h
  go_enter Tryz.func57, Tryz.ntmps57
  go_wp2_with (first
    | (go_at_call 96; refine HTB.out.mono ?_; clear HTB c1; rintro e w3 ⟨rfl, hy, _⟩; obtain ⟨C3, R3, d3, s3⟩ := hy rfl; have c13 := HG1.out _ _ _ _ _ d3; have D3 := hid d3; have S3 := hid s3; clear hy d3 s3)
    | (go_at_call 97; refine (HRD.out _ _ _ D3.out).mono ?_; clear c13; rintro e w5 ⟨ad, c, rfl, C5, R5, pv5, d5, s5⟩; obtain ⟨d6, s6, x8⟩ := d5.box #[.int .i64 1, .slice ad n c] 78; have S6 := hid ((S3.out.trans s5).trans s6); have D6 := hid d6; obtain ⟨b0, b1, _, _⟩ := x8.two; have HX8 := hid x8; clear pv5 d5 s5 d6 s6 x8))
  generalize w5.alloc (.cells #[.int .i64 1, .slice ad n c] 78) = w6 at *
  go_loopw [5] (fun v wr => v = .pointer (some ⟨w5.heap.size, 0, none⟩) ∧ w6 = wr) (fun _ _ => 0)
  case atStart => exact ⟨rfl, rfl⟩
  case round =>
    obtain ⟨rfl, rfl⟩ := hrel
    go_wp2_with (go_at_call 95; refine (HWT.out _ _ _ D6.out).mono ?_; rintro e w9 ⟨M, rfl, hm9, dn9⟩; have HM9 := hid hm9; have HN9 := hid (dn9.pre S6.out); clear hm9 dn9)
    go_ret
    exact ⟨M, rfl, HM9.out, HN9.out.mono (by omega)⟩
end
end Go.Proofs.YtjcbaiohpdihoaaGreatDoor

namespace Go.Proofs.YtjcbaiohpdihoaaGreatDoor
open Go.RowKit Go.Maps Lf
set_option linter.unusedVariables false
set_option linter.unusedSimpArgs false
set_option maxRecDepth 100000

theorem as_none (W : World) : (Instr.typeAssert .nilIface 20 26 true).run Tryz.prog W = .ok (.tuple #[.int .i64 0, .bool false]) W := by kernel_rfl
theorem as_errno (W : World) (v : Value) : (Instr.typeAssert (.iface 26 v) 20 26 true).run Tryz.prog W = .ok (.tuple #[v, .bool true]) W := by kernel_rfl
theorem catch_idle (b : Nat) (w : World) :
    CallsD Tryz.prog 74 #[.pointer (some ⟨b, 0, none⟩)] .returning w fun e u' w' => e = .returned (.tuple #[]) ∧ u' = .returning ∧ w = w' := by
  refine callsD_of_wpS Tryz.func74 rfl fun c₀ cs hu => ?_
  apply wpS_seq
  apply wpS_region
  simp [wpOpsS, go_sem, recoverD, hu, Tryz.ntmps74, Exit.thenS, as_none, Array.replicate]
  refine wpS_of_wp ?_
  go_wp2
  cases c₀
  simp_all [bodyPostS, results, Tryz.results74]
theorem catch_errno (b : Nat) (w : World) (n : Int) (v0 : Value) (h0 : w.cell? ⟨b, 0, none⟩ = some v0) (z0 : w.frozen? ⟨b, 0, none⟩ = false) :
    CallsD Tryz.prog 74 #[.pointer (some ⟨b, 0, none⟩)] (.panicking [{ v := gvup n, recovered := false }]) w fun x u' w' => x = .returned (.tuple #[]) ∧ u' = .panicking [{ v := gvup n, recovered := true }] ∧ w.setCell ⟨b, 0, none⟩ (.int .i64 n) = w' := by
  unfold gvup
  refine callsD_of_wpS Tryz.func74 rfl fun c₀ cs hu => ?_
  apply wpS_seq
  apply wpS_region
  simp [wpOpsS, go_sem, recoverD, hu, Tryz.ntmps74, Exit.thenS, as_errno, Array.replicate]
  refine wpS_of_wp ?_
  have ha : ∀ W : World, (Instr.typeAssert (.iface 26 (.int .i64 n)) 20 26 true).run Tryz.prog W = .ok (.tuple #[.int .i64 n, .bool true]) W := fun W => as_errno W _
  go_wp2
  show bodyPostS _ _ _ _ _ _ _ _ _
  simp [bodyPostS, results, Tryz.results74, go_sem]
/-- what is done answers: OK -/
theorem caught_ok (F : FuncId) (caps : Array Value) (w : World) (A B : World → Prop) (he : ∀ args w, (callFunc F args).run Tryz.prog w = .ok (.enter F args) w)
    (hF : Calls Tryz.prog F caps (w.alloc (.cells #[.int .i64 0] 26)) fun e V => e = .returned (.tuple #[]) ∧ A V ∧ Blk V w.heap.size #[.int .i64 0] 26)
    (hA : ∀ V, A V → Blk V w.heap.size #[.int .i64 0] 26 → B (V.setCell ⟨w.heap.size, 0, none⟩ (.int .i64 0))) :
    Calls Tryz.prog 37 #[.func (.func F) #[] caps] w fun e V => e = .returned (.int .i64 0) ∧ B V := by
  have HF := hid hF
  have HA := hid hA
  have hmf : ∀ (fn : Fn) (first cap : Array Value) (w : World), (Instr.makeFunc fn first cap).run Tryz.prog w = .ok (.func fn first cap) w := fun _ _ _ _ => rfl
  clear hF hA
  go_enter_defers Tryz.func37, Tryz.ntmps37
  go_wp2_with (go_at_fn F; refine HF.out.mono ?_; clear HF; rintro e w5 ⟨rfl, ha5, hb5⟩; have c0 := hb5.cell (i := 0) rfl; have f0 := hb5.free 0; have HA5 := hid ha5; have HB5 := hid hb5; clear ha5 hb5)
  have K6 := HB5.out.set 0 (.int .i64 0)
  have q0 := K6.cell (i := 0) (v := .int .i64 0) (by rfl)
  refine leaves_cons (f := 74) (args := #[.pointer (some ⟨w.heap.size, 0, none⟩)]) (by simp) (by simp [go_sem]) ?_
  refine (catch_idle _ _).mono ?_
  rintro x u' w'' ⟨rfl, rfl, rfl⟩
  simp [Leaves, settle, results, Tryz.results37, go_sem, q0]
  exact HA.out _ HA5.out HB5.out
/-- what is done gives up: its error -/
theorem caught_bad (F : FuncId) (caps : Array Value) (w : World) (n : Int) (A B : World → Prop) (he : ∀ args w, (callFunc F args).run Tryz.prog w = .ok (.enter F args) w)
    (hF : Calls Tryz.prog F caps (w.alloc (.cells #[.int .i64 0] 26)) fun e V => e = .panicked [{ v := gvup n, recovered := false }] ∧ A V ∧ Blk V w.heap.size #[.int .i64 0] 26)
    (hA : ∀ V, A V → Blk V w.heap.size #[.int .i64 0] 26 → B (V.setCell ⟨w.heap.size, 0, none⟩ (.int .i64 n))) :
    Calls Tryz.prog 37 #[.func (.func F) #[] caps] w fun e V => e = .returned (.int .i64 n) ∧ B V := by
  have HF := hid hF
  have HA := hid hA
  have hmf : ∀ (fn : Fn) (first cap : Array Value) (w : World), (Instr.makeFunc fn first cap).run Tryz.prog w = .ok (.func fn first cap) w := fun _ _ _ _ => rfl
  clear hF hA
  go_enter_defers Tryz.func37, Tryz.ntmps37
  go_wp2_with (go_at_fn F; refine HF.out.mono ?_; clear HF; rintro e w5 ⟨rfl, ha5, hb5⟩; have HA5 := hid ha5; have HB5 := hid hb5; clear ha5 hb5)
  have c0 := HB5.out.cell (i := 0) (v := .int .i64 0) rfl
  have f0 := HB5.out.free 0
  have K6 := HB5.out.set 0 (.int .i64 n)
  have q0 := K6.cell (i := 0) (v := .int .i64 n) (by rfl)
  refine leaves_cons (f := 74) (args := #[.pointer (some ⟨w.heap.size, 0, none⟩)]) (by simp) (by simp [go_sem]) ?_
  refine (catch_errno _ _ n _ c0 f0).mono ?_
  rintro x u' w'' ⟨rfl, rfl, rfl⟩
  simp [Leaves, settle, results, Tryz.results37, go_sem, q0]
  exact HA.out _ HA5.out HB5.out
end Go.Proofs.YtjcbaiohpdihoaaGreatDoor
