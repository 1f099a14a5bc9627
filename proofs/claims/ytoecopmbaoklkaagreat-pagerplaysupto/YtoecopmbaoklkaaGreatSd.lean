/-
  What the shelf's use, drop and hold do.
-/
import Derived.Test.YtoecopmbaoklkaaGreatSc
import Derived.Test.YtoecopmbaoklkaaGreatReg
namespace Go.Proofs.YtoecopmbaoklkaaGreat
open Go.RowKit
set_option linter.unusedVariables false
set_option linter.unusedSimpArgs false
set_option maxRecDepth 100000

theorem fndH_move {A B : List Hp} {x : Hp} (n : NdH (A ++ x :: B)) (c : Int) : fndH (A ++ B ++ [x]) c = fndH (A ++ x :: B) c := by
  obtain ⟨h1, h2, _⟩ := n.split
  unfold fndH
  simp only [List.find?_append, List.find?_cons, List.find?_nil]
  by_cases e : x.pl = c
  · subst e
    rw [List.find?_eq_none.2 (by simpa using h1), List.find?_eq_none.2 (by simpa using h2)]
    simp
  · simp [e]
theorem fndH_del {A B : List Hp} {x : Hp} (n : NdH (A ++ x :: B)) (c : Int) : fndH (A ++ B) c = if c = x.pl then none else fndH (A ++ x :: B) c := by
  obtain ⟨h1, h2, _⟩ := n.split
  unfold fndH
  simp only [List.find?_append, List.find?_cons, List.find?_nil]
  by_cases e : c = x.pl
  · subst e
    rw [List.find?_eq_none.2 (by simpa using h1), List.find?_eq_none.2 (by simpa using h2)]
    simp
  · simp [e, Ne.symm e, show ¬ x.pl = c from fun h => e h.symm]
theorem hmap_snoc {hs : List Hp} {a : Int} (s : ByteArray) (e : fndH hs a = none) (c : Int) : hmap (hs ++ [⟨a, 0, s⟩]) c = if c = a then some (.agg #[.string s, .int .i64 0]) else hmap hs c := by
  unfold hmap fndH at *
  rw [List.find?_append]
  by_cases h : c = a
  · subst h
    rw [e]
    simp [hv]
  · rw [if_neg h]
    simp [show ¬ a = c from fun h2 => h h2.symm]

section
variable {w : World} {T : Nat → Prop} {k q room rd : Nat} {hs : List Hp} {ch : List Pg} {U : List Int}

theorem Su.read (h : Su w T k q room rd U hs ch) : ∃ a c, w.cell? ⟨q, 4, none⟩ = some (.slice a U.length c) ∧ RowI w 0 (.slice a U.length c) U ∧ w.frozen? ⟨q, 4, none⟩ = false ∧ q < w.heap.size := by
  obtain ⟨_, _, cv, uv, m, hb3, _, hu, _⟩ := h
  obtain ⟨a, c, e1⟩ := hu.form
  subst e1
  exact ⟨a, c, hb3.cell (i := 4) rfl, hu, hb3.free 4, hb3.lt⟩
theorem Su.map (h : Su w T k q room rd U hs ch) : ∃ m, w.cell? ⟨q, 3, none⟩ = some (.map (some m)) ∧ IMap w m hs.length (hmap hs) := by
  obtain ⟨_, _, cv, uv, m, hb3, _, hu, hm, _⟩ := h
  exact ⟨m, hb3.cell (i := 3) rfl, hm⟩
/-- other held pages, alike by number -/
theorem Su.alike (h : Su w T k q room rd U hs ch) {hs' : List Hp} (hl : hs'.length = hs.length) (he : ∀ c, fndH hs' c = fndH hs c) : Su w T k q room rd U hs' ch := by
  obtain ⟨h1, h2, cv, uv, m, h3, h4, h5, h6, h7⟩ := h
  refine ⟨h1, h2, cv, uv, m, h3, h4, h5, ?_, h7⟩
  rw [hl]
  exact h6.ext (fun c => by unfold hmap; rw [he])
theorem Su.put {w' : World} (h : Su w T k q room rd U hs ch) {hs' : List Hp} (m : Nat) (hq : w.cell? ⟨q, 3, none⟩ = some (.map (some m))) (hm : IMap w' m hs'.length (hmap hs')) (hg : w.grownBy w' (some m)) : Su w' T k q room rd U hs' ch ∧ Keep T w w' := by
  obtain ⟨h1, h2, cv, uv, m', h3, h4, h5, h6, h7, h8, h9⟩ := h
  have e : some (Value.map (some m')) = some (.map (some m)) := (h3.cell (i := 3) rfl).symm.trans hq
  cases e
  have hk : Keep (fun j => j = m) w w' := Keep.grown hg (fun j e => (Option.some.inj e).symm)
  exact ⟨⟨fun j hj => Nat.lt_of_lt_of_le (h1 j hj) hg.size, h2, cv, uv, m, hk.blk h3 (h6.ne_blk h3), hk.row h4 (fun g e => h6.ne_row h4 e), hk.row h5 (fun g e => h6.ne_row h5 e), hm, h7, h8, h9⟩, Keep.grown hg (fun j e => by cases e; exact h9)⟩
theorem Su.lt (h : Su w T k q room rd U hs ch) : ∀ j, T j → j < w.heap.size := h.1

/-- append(s.uses, z), ahead of its store -/
theorem wpList_uses {ops : Array Oper} {rest : List Oper} {o : Oper} {a : Act} {Q : Exit → Act → World → Prop} (h : Su w T k q room rd U hs ch) (hgd : o.guard = none) (s x : Operand)
    (ho : o.op = .call { callee := .builtin .append, args := #[s, x], argTypes := #[42, 42] }) (z : Int) (m : Nat) (hm : U.length = m) (hlen : m ≤ 100000) (va : Option Addr) (vc : Nat) (hu : w.cell? ⟨q, 4, none⟩ = some (.slice va m vc))
    (hs' : a.eval s = .slice va m vc) (hx : a.eval x = .slice (some ⟨w.heap.size, 0, none⟩) 1 1)
    (hK : ∀ ua uc w', w'.cell? ⟨q, 4, none⟩ = some (.slice va m vc) → w'.frozen? ⟨q, 4, none⟩ = false → Hid (∃ T', Su (w'.setCell ⟨q, 4, none⟩ (.slice ua (m + 1) uc)) T' k q room rd (U ++ [z]) hs ch ∧ Grows T T' w ∧ Keep T w (w'.setCell ⟨q, 4, none⟩ (.slice ua (m + 1) uc))) → wpList Tryz.prog ops Q rest (a.put o.dst (.slice ua (m + 1) uc)) w') :
    wpList Tryz.prog ops Q (o :: rest) a (w.alloc (.cells #[.int .i64 z] 3)) := by
  have hb : Below w.heap.size w (w.alloc (.cells #[.int .i64 z] 3)) := (Below.refl _ _).alloc (Nat.le_refl _) _
  have h2 := h.on hb
  have hr : RowI (w.alloc (.cells #[.int .i64 z] 3)) 0 (.slice va m vc) U := by
    obtain ⟨_, _, cv, uv, m', hb3, _, hu', _⟩ := h
    have e : some uv = some (.slice va m vc) := (hb3.cell (i := 4) rfl).symm.trans hu
    cases e
    exact hu'.on hb
  have hlt : q < w.heap.size := by obtain ⟨_, _, _, _, _, hb3, _⟩ := h; exact hb3.lt
  have hu2 := (hb.cell (p := ⟨q, 4, none⟩) hlt).trans hu
  refine wpList_int _ hgd s x ho _ U m hm hs' hr w.heap.size z hx ((Blk.made w #[.int .i64 z] 3).cell (i := 0) rfl) hlen (fun ua uc w' r1 r2 r3 => ?_)
  obtain ⟨T', t1, t2, t3⟩ := h2.uses hu2 r2 r1 r3
  have b3 : ∃ cs, Blk w' q cs 65 ∧ cs[4]? = some (.slice va m vc) := by
    obtain ⟨_, _, cv, uv, m', hb3, _, hu', _⟩ := h2
    have e : some uv = some (.slice va m vc) := (hb3.cell (i := 4) rfl).symm.trans hu2
    cases e
    exact ⟨_, hb3.kept r2 (fun e => (hb3.ne hu' (by decide) e.symm) rfl), rfl⟩
  obtain ⟨cs, b3, b4⟩ := b3
  refine hK ua uc w' (b3.cell b4) (b3.free 4) ⟨T', t1, fun j hj => ?_, (Keep.of_below (S := T) hb).trans t3 (fun _ _ h => h)⟩
  rcases t2 j hj with t | t
  · exact .inl t
  · exact .inr (Nat.le_trans hb.size t)

theorem use_any {A B : List Hp} {x : Hp} (hx : I64 x.pl) (hn : NdH (A ++ x :: B)) (hl : (A ++ x :: B).length ≤ 1024) (h : Sh w T k q room rd (A ++ x :: B) ch) :
    Calls Tryz.prog 45 #[.pointer (some ⟨q, 2, none⟩), .int .i64 x.pl] w fun e w' => e = .returned (.tuple #[]) ∧ Sm w T k q room rd (A ++ B ++ [x]) ch w' := by
  have hcut := scut_any hx hn hl h
  have HN := hid hn
  have hl2 : ((A ++ B).map Hp.pl).length ≤ 1024 := by simp at hl ⊢; omega
  have HF : Hid (∀ (w1 w2 : World) (T1 T2 : Nat → Prop), Grows T T1 w → Keep T w w1 → Su w2 T2 k q room rd ((A ++ B).map Hp.pl ++ [x.pl]) (A ++ x :: B) ch → Grows T1 T2 w1 → Keep T1 w1 w2 → Sm w T k q room rd (A ++ B ++ [x]) ch w2) := fun w1 w2 T1 T2 g1 k1 s2 g2 k2 => by
    refine Sm.trans (room := room) (rd := rd) (hs := A ++ x :: B) (ch := ch) g1 k1 ⟨⟨T2, ?_, g2⟩, k2⟩
    have := s2.alike (hs' := A ++ B ++ [x]) (by simp) (fndH_move HN.out)
    unfold Sh
    simpa using this
  clear h hn hl
  generalize (A ++ B).map Hp.pl = V at *
  generalize A ++ x :: B = L at *
  obtain ⟨n, hnn⟩ : ∃ n, V.length = n := ⟨_, rfl⟩
  have HV := hid hnn
  rw [hnn] at hl2
  clear hnn
  go_enter Tryz.func45, Tryz.ntmps45
  go_wp2_with (first
    | (go_at_call 70; refine hcut.mono ?_; clear hcut; rintro e w1 ⟨rfl, T1, hs1, hg1, hk1⟩; have HS1 := hid hs1; have HG1 := hid hg1; have HK1 := hid hk1; obtain ⟨va, vc, c4, _, f4, hlt⟩ := hs1.read; rw [HV.out] at c4; clear hs1 hg1 hk1)
    | (at_builtin; refine wpList_uses HS1.out rfl (.tmp 11) (.tmp 13) rfl x.pl n HV.out (by omega) va vc c4 rfl rfl ?_; clear c4 f4; intro ua uc w2 c4 f4 hs2; have HS2 := hs2; clear hs2))
  go_end0
  obtain ⟨T2, s2, g2, k2⟩ := HS2.out
  exact ⟨rfl, HF.out _ _ _ _ HG1.out HK1.out s2 g2 k2⟩

/-- a page goes -/
theorem drop_any {A B : List Hp} {x : Hp} (hx : I64 x.pl) (hn : NdH (A ++ x :: B)) (hl : (A ++ x :: B).length ≤ 1024) (h : Sh w T k q room rd (A ++ x :: B) ch) :
    Calls Tryz.prog 42 #[.pointer (some ⟨q, 2, none⟩), .int .i64 x.pl] w fun e w' => e = .returned (.tuple #[]) ∧ Sm w T k q room rd (A ++ B) ch w' := by
  have hfx : fndH (A ++ x :: B) x.pl = some x := fndH_mem hn (by simp)
  have hhas := has_any x.pl hx h
  rw [hfx] at hhas
  have HC : Hid (∀ w1, Below w.heap.size w w1 → Calls Tryz.prog 70 #[.pointer (some ⟨q, 2, none⟩), .int .i64 x.pl] w1 fun e w' => e = .returned (.tuple #[]) ∧ ∃ T', Su w' T' k q room rd ((A ++ B).map Hp.pl) (A ++ x :: B) ch ∧ Grows T T' w1 ∧ Keep T w1 w') := fun w1 hb => scut_any hx hn hl (h.on hb)
  have HF : Hid (∀ (w1 w2 w3 : World) (T2 : Nat → Prop) (m : Nat), Below w.heap.size w w1 → Su w2 T2 k q room rd ((A ++ B).map Hp.pl) (A ++ x :: B) ch → Grows T T2 w1 → Keep T w1 w2 → w2.cell? ⟨q, 3, none⟩ = some (.map (some m)) → IMap w3 m ((A ++ x :: B).length - 1) (fun s => if s = x.pl then none else hmap (A ++ x :: B) s) → w2.grownBy w3 (some m) → Sm w T k q room rd (A ++ B) ch w3) := fun w1 w2 w3 T2 m b1 s2 g2 k2 c2 m3 g3 => by
    have e1 : (A ++ x :: B).length - 1 = (A ++ B).length := by simp
    rw [e1] at m3
    obtain ⟨s3, k3⟩ := s2.put (hs' := A ++ B) m c2 (m3.ext (fun c => by
      unfold hmap
      rw [fndH_del hn]
      split <;> rfl)) g3
    have g1 : Grows T T2 w := fun j hj => by
      rcases g2 j hj with t | t
      · exact .inl t
      · exact .inr (Nat.le_trans b1.size t)
    exact Sm.trans (room := room) (rd := rd) (hs := A ++ x :: B) (ch := ch) g1 ((Keep.of_below (S := T) b1).trans k2 (fun _ _ h => h)) ⟨⟨T2, s3, Grows.refl _ _⟩, k3⟩
  have hsm : (hmap (A ++ x :: B) x.pl).isSome = true := by unfold hmap; rw [hfx]; rfl
  clear h hn hl hfx
  generalize (A ++ B).map Hp.pl = V at *
  generalize A ++ x :: B = L at *
  go_enter Tryz.func42, Tryz.ntmps42
  go_wp2_with (first
    | (go_at_call 61; refine hhas.mono ?_; clear hhas; rintro e w1 ⟨rfl, hb1⟩; have HB1 := hid hb1; clear hb1)
    | (go_at_call 70; refine (HC.out _ HB1.out).mono ?_; clear HC; rintro e w2 ⟨rfl, T2, hs2, hg2, hk2⟩; have HS2 := hid hs2; have HG2 := hid hg2; have HK2 := hid hk2; obtain ⟨m, c3, hm⟩ := hs2.map; have HM := hid hm; have HC3 := hid c3; clear hs2 hg2 hk2 hm)
    | (at_delete; refine wpList_del _ rfl _ _ rfl m _ _ rfl HM.out x.pl rfl hx hsm ?_; clear c3; intro w3 hm3 hg3; have HM3 := hid hm3; have HG3 := hid hg3; clear hm3 hg3))
  go_end0
  exact ⟨rfl, HF.out _ _ _ _ _ HB1.out HS2.out HG2.out HK2.out HC3.out HM3.out HG3.out⟩
theorem drop_none (a : Int) (ha : I64 a) (hf : fndH hs a = none) (h : Sh w T k q room rd hs ch) :
    Calls Tryz.prog 42 #[.pointer (some ⟨q, 2, none⟩), .int .i64 a] w fun e w' => e = .returned (.tuple #[]) ∧ Sm w T k q room rd hs ch w' := by
  have hhas := has_any a ha h
  rw [hf] at hhas
  have H := hid h
  clear h
  go_enter Tryz.func42, Tryz.ntmps42
  go_wp2_with (first
    | (go_at_call 61; refine hhas.mono ?_; clear hhas; rintro e w1 ⟨rfl, hb1⟩; have HB1 := hid hb1; clear hb1))
  go_end0
  exact ⟨rfl, (Sm.refl H.out).on HB1.out⟩
end

end Go.Proofs.YtoecopmbaoklkaaGreat
