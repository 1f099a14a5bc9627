/-
  A pager of the program in memory; what its shelf answers: has, hasPins, pin, next, full.
-/
import Derived.Test.YtoecopmbaoklkaaGreatMp
import Derived.Test.YtoecopmbaoklkaaGreatP11
import Derived.Test.YtoecopmbaoklkaaGreatWl
namespace Go.Proofs.YtoecopmbaoklkaaGreat
open Go.RowKit
set_option linter.unusedVariables false
set_option linter.unusedSimpArgs false
set_option maxRecDepth 100000

theorem fndH_mem {hs : List Hp} (n : NdH hs) {h : Hp} (hm : h ∈ hs) : fndH hs h.pl = some h := by
  cases e : fndH hs h.pl with
  | none => exact absurd rfl (fndH_none e h hm)
  | some x =>
    obtain ⟨h1, h2⟩ := fndH_some e
    obtain ⟨A, B, rfl⟩ := List.append_of_mem hm
    obtain ⟨n1, n2, _⟩ := n.split
    rcases List.mem_append.1 h1 with h1 | h1
    · exact absurd h2 (n1 x h1)
    · rcases List.mem_cons.1 h1 with h1 | h1
      · rw [h1]
      · exact absurd h2 (n2 x h1)
theorem fndH_pinH (hs : List Hp) (a c : Int) (m : Nat → Nat) : fndH (pinH hs a m) c = (fndH hs c).map fun h => if h.pl = a then { h with pins := m h.pins } else h := by
  unfold fndH pinH
  rw [List.find?_map]
  congr 1
  congr 1
  funext h
  simp only [Function.comp]
  split <;> rfl
/-- where the first page without pins stands -/
def nextI (hs : List Hp) : Int := match freeH hs with | none => -1 | some _ => ((hs.takeWhile fun h => decide (¬ h.pins = 0)).length : Nat)
theorem nextI_at {hs : List Hp} {k : Nat} {h : Hp} (h1 : ∀ i x, i < k → hs[i]? = some x → ¬ x.pins = 0) (h2 : hs[k]? = some h) (h3 : h.pins = 0) : nextI hs = (k : Nat) ∧ freeH hs = some h := by
  have hk := (List.getElem?_eq_some_iff.1 h2).1
  have e : hs = hs.take k ++ h :: hs.drop (k + 1) := by rw [← drop_cons h2, List.take_append_drop]
  have ha : ∀ x ∈ hs.take k, ¬ x.pins = 0 := fun x hx => by
    obtain ⟨i, hi⟩ := List.mem_iff_getElem?.1 hx
    rw [List.getElem?_take] at hi
    split at hi
    · exact h1 i x ‹_› hi
    · cases hi
  have ef : freeH hs = some h := by
    unfold freeH
    rw [e, List.find?_append, List.find?_eq_none.2 (by simpa using ha)]
    simp [h3]
  refine ⟨?_, ef⟩
  unfold nextI
  rw [ef]
  show (((hs.takeWhile _).length : Nat) : Int) = _
  rw [e, List.takeWhile_append_of_pos (by simpa using ha)]
  simp [h3]
  omega
theorem nextI_none {hs : List Hp} (h1 : ∀ x ∈ hs, ¬ x.pins = 0) : nextI hs = -1 ∧ freeH hs = none := by
  have : freeH hs = none := by simpa [freeH, List.find?_eq_none] using h1
  exact ⟨by unfold nextI; rw [this], this⟩

/-- a row of numbers -/
def RowI (w : World) (B : Nat) (v : Value) (L : List Int) : Prop := w.ownsRow B 3 1 v L.length (L.map (Value.int .i64))
theorem RowI.form {w : World} {B : Nat} {v : Value} {L : List Int} (h : RowI w B v L) : ∃ a c, v = .slice a L.length c := own_form h
theorem RowI.on {w w' : World} {B : Nat} {v : Value} {L : List Int} (h : RowI w B v L) (hb : Below w.heap.size w w') : RowI w' B v L := own_below h hb
theorem RowI.at {w : World} {B n c : Nat} {a : Option Addr} {L : List Int} (h : RowI w B (.slice a n c) L) {k : Nat} {x : Int} (hk : L[k]? = some x) : ∃ g, a = some ⟨g, 0, none⟩ ∧ B ≤ g ∧ g < w.heap.size ∧ w.cell? ⟨g, k, none⟩ = some (.int .i64 x) ∧ w.frozen? ⟨g, k, none⟩ = false := by
  obtain ⟨a', cap, e, _, _, hc⟩ := own_cells h
  cases e
  exact hc k _ (by rw [List.getElem?_map, hk]; rfl)

/-- a held page in the map -/
def hv (h : Hp) : Value := .agg #[.string h.data, .int .i64 (h.pins : Nat)]
def hmap (hs : List Hp) (a : Int) : Option Value := (fndH hs a).map hv
/-- a pager of the program at block q: all of it, but for its disk at block k, lies in T; the uses are U, the map holds hs -/
def Su (w : World) (T : Nat → Prop) (k q : Nat) (room rd : Nat) (U : List Int) (hs : List Hp) (ch : List Pg) : Prop :=
  (∀ j, T j → j < w.heap.size) ∧ T q ∧ ∃ cv uv m, Blk w q #[.pointer (some ⟨k, 0, none⟩), cv, .int .i64 (room : Nat), .map (some m), uv, .int .i64 (rd : Nat)] 65 ∧ RowP w 0 cv ch ∧ RowI w 0 uv U ∧ IMap w m hs.length (hmap hs) ∧ In T cv ∧ In T uv ∧ T m
def Sh (w : World) (T : Nat → Prop) (k q : Nat) (room rd : Nat) (hs : List Hp) (ch : List Pg) : Prop := Su w T k q room rd (hs.map Hp.pl) hs ch
theorem Keep.imap {S : Nat → Prop} {w w' : World} {b n : Nat} {f : Int → Option Value} (h : Keep S w w') (hm : IMap w b n f) (hn : ¬ S b) : IMap w' b n f := hm.same (h.block b hm.lt hn)
theorem Keep.su {S T : Nat → Prop} {w w' : World} {k q room rd : Nat} {U : List Int} {hs : List Hp} {ch : List Pg} (h : Keep S w w') (hd : Su w T k q room rd U hs ch) (hn : ∀ j, T j → ¬ S j) : Su w' T k q room rd U hs ch := by
  obtain ⟨h1, h2, cv, uv, m, h3, h4, h5, h6, h7, h8, h9⟩ := hd
  exact ⟨fun j hj => Nat.lt_of_lt_of_le (h1 j hj) h.size, h2, cv, uv, m, h.blk h3 (hn q h2), h.row h4 (fun g hg => hn g (h7 g hg)), h.row h5 (fun g hg => hn g (h8 g hg)), h.imap h6 (hn m h9), h7, h8, h9⟩
theorem Su.on {T : Nat → Prop} {w w' : World} {k q room rd : Nat} {U : List Int} {hs : List Hp} {ch : List Pg} (hd : Su w T k q room rd U hs ch) (h : Below w.heap.size w w') : Su w' T k q room rd U hs ch :=
  (Keep.of_below (S := fun _ => False) h).su hd (fun _ _ h => h)
theorem Keep.sh {S T : Nat → Prop} {w w' : World} {k q room rd : Nat} {hs : List Hp} {ch : List Pg} (h : Keep S w w') (hd : Sh w T k q room rd hs ch) (hn : ∀ j, T j → ¬ S j) : Sh w' T k q room rd hs ch := h.su hd hn
theorem Sh.on {T : Nat → Prop} {w w' : World} {k q room rd : Nat} {hs : List Hp} {ch : List Pg} (hd : Sh w T k q room rd hs ch) (h : Below w.heap.size w w') : Sh w' T k q room rd hs ch :=
  (Keep.of_below (S := fun _ => False) h).sh hd (fun _ _ h => h)
/-- what a call leaves of it -/
structure Sm (w : World) (T : Nat → Prop) (k q room rd : Nat) (hs : List Hp) (ch : List Pg) (W : World) : Prop where
  sh : ∃ T', Sh W T' k q room rd hs ch ∧ Grows T T' w
  keep : Keep T w W
theorem Sm.refl {w : World} {T : Nat → Prop} {k q room rd : Nat} {hs : List Hp} {ch : List Pg} (h : Sh w T k q room rd hs ch) : Sm w T k q room rd hs ch w := ⟨⟨T, h, Grows.refl _ _⟩, Keep.refl _ _⟩
theorem Sm.on {w W V : World} {T : Nat → Prop} {k q room rd : Nat} {hs : List Hp} {ch : List Pg} (h : Sm w T k q room rd hs ch W) (hb : Below W.heap.size W V) : Sm w T k q room rd hs ch V := by
  obtain ⟨T', h1, h2⟩ := h.sh
  exact ⟨⟨T', h1.on hb, h2⟩, h.keep.trans (Keep.of_below (S := fun _ => False) hb) (fun _ _ h => h.elim)⟩
theorem Sm.base {w W V : World} {T : Nat → Prop} {k q room rd : Nat} {hs : List Hp} {ch : List Pg} (h : Sm W T k q room rd hs ch V) (hb : Below w.heap.size w W) (hT : ∀ j, T j → j < w.heap.size) : Sm w T k q room rd hs ch V := by
  obtain ⟨T', h1, h2⟩ := h.sh
  refine ⟨⟨T', h1, fun j hj => ?_⟩, (Keep.of_below (S := T) hb).trans h.keep (fun _ _ h => h)⟩
  rcases h2 j hj with h' | h'
  · exact .inl h'
  · exact .inr (Nat.le_trans hb.size h')
theorem Sm.trans {w W V : World} {T T' : Nat → Prop} {k q room rd room2 rd2 : Nat} {hs hs2 : List Hp} {ch ch2 : List Pg} (hg : Grows T T' w) (hk : Keep T w W) (h : Sm W T' k q room2 rd2 hs2 ch2 V) : Sm w T k q room2 rd2 hs2 ch2 V := by
  obtain ⟨T2, h1, h2⟩ := h.sh
  refine ⟨⟨T2, h1, hg.trans h2 hk.size⟩, hk.trans h.keep (fun j hj h' => ?_)⟩
  rcases hg j h' with h' | h'
  · exact h'
  · omega

section
variable {w : World} {T : Nat → Prop} {k q room rd : Nat} {hs : List Hp} {ch : List Pg}

theorem fieldPg (a b : Value) (w : World) : (Instr.field 85 (.agg #[a, b]) 1).run Tryz.prog w = .ok b w := by kernel_rfl
theorem hasPins_any (a : Int) (ha : I64 a) (h : Sh w T k q room rd hs ch) : Calls Tryz.prog 41 #[.pointer (some ⟨q, 2, none⟩), .int .i64 a] w fun e w' => e = .returned (.bool (pinned hs a)) ∧ w = w' := by
  obtain ⟨_, _, cv, uv, m, hb, _, _, hm, _⟩ := h
  have c3 := hb.cell (i := 3) rfl
  have hg := hm.get ha
  have hfl : ∀ a b, _ := fun a b => fieldPg a b w
  unfold pinned
  unfold hmap at hg
  cases hf : fndH hs a with
  | none =>
    rw [hf] at hg
    simp only [Option.map_none, Option.getD_none, zeroPg] at hg
    clear hm hb
    go_enter Tryz.func41, Tryz.ntmps41
    go_wp2
    go_ret
    exact ⟨rfl, rfl⟩
  | some x =>
    rw [hf] at hg
    simp only [Option.map_some, Option.getD_some, hv] at hg
    clear hm hb hf
    by_cases hx : 0 < x.pins
    · have hd : decide (0 < x.pins) = true := decide_eq_true hx
      have hx2 : (0 : Int) < (x.pins : Int) := by omega
      simp only [hd]
      clear hd
      go_enter Tryz.func41, Tryz.ntmps41
      go_wp2
      go_ret
      exact ⟨rfl, rfl⟩
    · have hd : decide (0 < x.pins) = false := decide_eq_false hx
      have hx2 : ¬ (0 : Int) < (x.pins : Int) := by omega
      simp only [hd]
      clear hd
      go_enter Tryz.func41, Tryz.ntmps41
      go_wp2
      go_ret
      exact ⟨rfl, rfl⟩

theorem has_any (a : Int) (ha : I64 a) (h : Sh w T k q room rd hs ch) : Calls Tryz.prog 61 #[.pointer (some ⟨q, 2, none⟩), .int .i64 a] w fun e w' => e = .returned (.bool (fndH hs a).isSome) ∧ Below w.heap.size w w' := by
  obtain ⟨_, _, cv, uv, m, hb, _, _, hm, _⟩ := h
  have c3 := hb.cell (i := 3) rfl
  have hg := hm.look ha
  unfold hmap at hg
  cases hf : fndH hs a with
  | none =>
    rw [hf] at hg
    simp only [Option.map_none, Option.getD_none, Option.isSome_none, zeroPg] at hg ⊢
    clear hm hb hf
    go_enter Tryz.func61, Tryz.ntmps61
    go_wp2
    go_ret
    exact ⟨rfl, (Below.refl _ _).alloc (Nat.le_refl _) _⟩
  | some x =>
    rw [hf] at hg
    simp only [Option.map_some, Option.getD_some, Option.isSome_some, hv] at hg ⊢
    clear hm hb hf
    go_enter Tryz.func61, Tryz.ntmps61
    go_wp2
    go_ret
    exact ⟨rfl, (Below.refl _ _).alloc (Nat.le_refl _) _⟩

/-- the map's page turned, the rest of the pager not -/
theorem Sh.put {w' : World} (h : Sh w T k q room rd hs ch) {hs' : List Hp} (hp : hs'.map Hp.pl = hs.map Hp.pl) (m : Nat) (hq : w.cell? ⟨q, 3, none⟩ = some (.map (some m))) (hm : IMap w' m hs'.length (hmap hs')) (hg : w.grownBy w' (some m)) : Sm w T k q room rd hs' ch w' := by
  obtain ⟨h1, h2, cv, uv, m', h3, h4, h5, h6, h7, h8, h9⟩ := h
  have e : some (Value.map (some m')) = some (.map (some m)) := (h3.cell (i := 3) rfl).symm.trans hq
  cases e
  have hk : Keep (fun j => j = m) w w' := Keep.grown hg (fun j e => (Option.some.inj e).symm)
  refine ⟨⟨T, ⟨fun j hj => Nat.lt_of_lt_of_le (h1 j hj) hg.size, h2, cv, uv, m, hk.blk h3 (h6.ne_blk h3), hk.row h4 (fun g e => h6.ne_row h4 e), ?_, hm, h7, h8, h9⟩, Grows.refl _ _⟩, Keep.grown hg (fun j e => by cases e; exact h9)⟩
  have := hk.row h5 (fun g e => h6.ne_row h5 e)
  unfold RowI
  rw [hp]
  exact this

theorem pin_any (a d : Int) (ha : I64 a) (h : Sh w T k q room rd hs ch) (hn : hs.length < 4611686018427387904) {x : Hp} (hx : fndH hs a = some x) (f : Nat → Nat) (hf : ((f x.pins : Nat) : Int) = (x.pins : Int) + d) (hb : f x.pins < 4611686018427387904) :
    Calls Tryz.prog 63 #[.pointer (some ⟨q, 2, none⟩), .int .i64 a, .int .i64 d] w fun e w' => e = .returned (.tuple #[]) ∧ Sm w T k q room rd (pinH hs a f) ch w' := by
  have H := hid h
  obtain ⟨_, _, cv, uv, m, hb3, _, _, hm, _⟩ := h
  have c3 : w.cell? ⟨q, 3, none⟩ = some (.map (some m)) := hb3.cell (i := 3) rfl
  have hg := hm.get ha
  unfold hmap at hg
  rw [hx] at hg
  simp only [Option.map_some, Option.getD_some, hv] at hg
  have hlt : q < w.heap.size := hb3.lt
  have HC := hid c3
  have HM := hid hm
  have HF : Hid (∀ w', IMap w' m (if (hmap hs a).isSome then hs.length else hs.length + 1) (fun s => if s = a then some (.agg #[.string x.data, .int .i64 ((f x.pins : Nat) : Int)]) else hmap hs s) → IMap w' m (pinH hs a f).length (hmap (pinH hs a f))) := fun w' h => by
    have e1 : (hmap hs a).isSome = true := by unfold hmap; rw [hx]; rfl
    rw [e1, if_pos rfl] at h
    rw [show (pinH hs a f).length = hs.length by simp [pinH]]
    refine h.ext fun c => ?_
    unfold hmap
    rw [fndH_pinH]
    by_cases e : c = a
    · subst e
      rw [if_pos rfl, hx]
      simp only [Option.map_some, (fndH_some hx).2, if_true, hv]
    · rw [if_neg e]
      cases hc : fndH hs c with
      | none => rfl
      | some y =>
        simp only [Option.map_some]
        rw [if_neg (by rw [(fndH_some hc).2]; exact e)]
  have hn2 : hs.length < maxLen := by unfold maxLen; omega
  have hw : IntKind.i64.wrap ((x.pins : Int) + d) = ((f x.pins : Nat) : Int) := by rw [hf]; exact IntWalk.i64_in _ ⟨by omega, by omega⟩
  clear hb3 hm hf
  generalize ((f x.pins : Nat) : Int) = z at *
  obtain ⟨W, hW⟩ : ∃ W, w.alloc (.cells #[.string x.data, .int .i64 z] 85) = W := ⟨_, rfl⟩
  have hbW : Below w.heap.size w W := by rw [← hW]; exact (Below.refl _ _).alloc (Nat.le_refl _) _
  have HMW : IMap W.drew m hs.length (hmap hs) := HM.out.same ((hbW.block m HM.out.lt))
  obtain ⟨W5, hu, hM5, hg5⟩ := HMW.put hn2 ha (.agg #[.string x.data, .int .i64 z])
  have HG5 := hid hg5
  have HM5 := hid (HF.out W5 hM5)
  have c3W : W.cell? ⟨q, 3, none⟩ = some (.map (some m)) := (hbW.cell (p := ⟨q, 3, none⟩) hlt).trans c3
  have b6 : Blk W w.heap.size #[.string x.data, .int .i64 z] 85 := by rw [← hW]; exact Blk.made _ _ _
  have c60 := b6.cell (i := 0) rfl
  have c61 := b6.cell (i := 1) rfl
  clear hg5 hM5 HMW b6
  go_enter Tryz.func63, Tryz.ntmps63
  go_wp2
  try rw [hW]
  clear hW c3 hg
  have HBW := hid hbW
  clear hbW
  go_region
  go_end0
  refine ⟨rfl, ?_⟩
  have h1 : Sh W.drew T k q room rd hs ch := (H.out.on HBW.out).on (below_drewN W 1)
  exact (h1.put (pinH_pl hs a f) m (show W.cell? _ = _ from c3W) HM5.out HG5.out).base HBW.out.drew H.out.1
end

end Go.Proofs.YtoecopmbaoklkaaGreat
