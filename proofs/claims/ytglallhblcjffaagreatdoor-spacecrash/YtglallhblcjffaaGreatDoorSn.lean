/-
  What the shelf's next, full and cut do; slices.Index and slices.IndexFunc on rows of numbers.
-/
import Derived.Test.YtglallhblcjffaaGreatDoorMp
import Derived.Test.YtglallhblcjffaaGreatDoorP11
import Derived.Test.YtglallhblcjffaaGreatDoorWl
import Derived.Deep.RegionHeld3
namespace Go.Proofs.YtglallhblcjffaaGreatDoor
open Go.RowKit
set_option linter.unusedVariables false
set_option linter.unusedSimpArgs false
set_option maxRecDepth 100000

theorem fndH_mem {hs : List Hp} (n : NdH hs) {h : Hp} (hm : h ∈ hs) : fndH hs h.pl = some h := by
  cases e : fndH hs h.pl with
  | none => exact absurd rfl (fndH_none e h hm)
  | some x =>
    obtain ⟨h1, h2⟩ := fndH_some e
    obtain ⟨A, B, rfl⟩ := List.append_of_mem hm
    obtain ⟨n1, n2, _⟩ := n.split
    rcases List.mem_append.1 h1 with h1 | h1
    · exact absurd h2 (n1 x h1)
    · rcases List.mem_cons.1 h1 with h1 | h1
      · rw [h1]
      · exact absurd h2 (n2 x h1)
theorem fndH_pinH (hs : List Hp) (a c : Int) (m : Nat → Nat) : fndH (pinH hs a m) c = (fndH hs c).map fun h => if h.pl = a then { h with pins := m h.pins } else h := by
  unfold fndH pinH
  rw [List.find?_map]
  congr 1
  congr 1
  funext h
  simp only [Function.comp]
  split <;> rfl
/-- where the first page without pins stands -/
def nextI (hs : List Hp) : Int := match freeH hs with | none => -1 | some _ => ((hs.takeWhile fun h => decide (¬ h.pins = 0)).length : Nat)
theorem nextI_at {hs : List Hp} {k : Nat} {h : Hp} (h1 : ∀ i x, i < k → hs[i]? = some x → ¬ x.pins = 0) (h2 : hs[k]? = some h) (h3 : h.pins = 0) : nextI hs = (k : Nat) ∧ freeH hs = some h := by
  have hk := (List.getElem?_eq_some_iff.1 h2).1
  have e : hs = hs.take k ++ h :: hs.drop (k + 1) := by rw [← drop_cons h2, List.take_append_drop]
  have ha : ∀ x ∈ hs.take k, ¬ x.pins = 0 := fun x hx => by
    obtain ⟨i, hi⟩ := List.mem_iff_getElem?.1 hx
    rw [List.getElem?_take] at hi
    split at hi
    · exact h1 i x ‹_› hi
    · cases hi
  have ef : freeH hs = some h := by
    unfold freeH
    rw [e, List.find?_append, List.find?_eq_none.2 (by simpa using ha)]
    simp [h3]
  refine ⟨?_, ef⟩
  unfold nextI
  rw [ef]
  show (((hs.takeWhile _).length : Nat) : Int) = _
  rw [e, List.takeWhile_append_of_pos (by simpa using ha)]
  simp [h3]
  omega
theorem nextI_none {hs : List Hp} (h1 : ∀ x ∈ hs, ¬ x.pins = 0) : nextI hs = -1 ∧ freeH hs = none := by
  have : freeH hs = none := by simpa [freeH, List.find?_eq_none] using h1
  exact ⟨by unfold nextI; rw [this], this⟩

/-- a row of numbers -/
def RowI (w : World) (B : Nat) (v : Value) (L : List Int) : Prop := w.ownsRow B 3 1 v L.length (L.map (Value.int .i64))
theorem RowI.form {w : World} {B : Nat} {v : Value} {L : List Int} (h : RowI w B v L) : ∃ a c, v = .slice a L.length c := own_form h
theorem RowI.on {w w' : World} {B : Nat} {v : Value} {L : List Int} (h : RowI w B v L) (hb : Below w.heap.size w w') : RowI w' B v L := own_below h hb
theorem RowI.at {w : World} {B n c : Nat} {a : Option Addr} {L : List Int} (h : RowI w B (.slice a n c) L) {k : Nat} {x : Int} (hk : L[k]? = some x) : ∃ g, a = some ⟨g, 0, none⟩ ∧ B ≤ g ∧ g < w.heap.size ∧ w.cell? ⟨g, k, none⟩ = some (.int .i64 x) ∧ w.frozen? ⟨g, k, none⟩ = false := by
  obtain ⟨a', cap, e, _, _, hc⟩ := own_cells h
  cases e
  exact hc k _ (by rw [List.getElem?_map, hk]; rfl)

/-- a held page in the map -/
def hv (h : Hp) : Value := .agg #[.string h.data, .int .i64 (h.pins : Nat)]
def hmap (hs : List Hp) (a : Int) : Option Value := (fndH hs a).map hv
/-- a pager of the program at block q: all of it, but for its disk at block k, lies in T; the uses are U, the map holds hs -/
def Su (w : World) (T : Nat → Prop) (k q : Nat) (room rd : Nat) (U : List Int) (hs : List Hp) (ch : List Pg) : Prop :=
  (∀ j, T j → j < w.heap.size) ∧ T q ∧ ∃ cv uv m, Blk w q #[.pointer (some ⟨k, 0, none⟩), cv, .int .i64 (room : Nat), .map (some m), uv, .int .i64 (rd : Nat)] 109 ∧ RowP w 0 cv ch ∧ RowI w 0 uv U ∧ IMap w m hs.length (hmap hs) ∧ In T cv ∧ In T uv ∧ T m
def Sh (w : World) (T : Nat → Prop) (k q : Nat) (room rd : Nat) (hs : List Hp) (ch : List Pg) : Prop := Su w T k q room rd (hs.map Hp.pl) hs ch
theorem Keep.imap {S : Nat → Prop} {w w' : World} {b n : Nat} {f : Int → Option Value} (h : Keep S w w') (hm : IMap w b n f) (hn : ¬ S b) : IMap w' b n f := hm.same (h.block b hm.lt hn)
theorem Keep.su {S T : Nat → Prop} {w w' : World} {k q room rd : Nat} {U : List Int} {hs : List Hp} {ch : List Pg} (h : Keep S w w') (hd : Su w T k q room rd U hs ch) (hn : ∀ j, T j → ¬ S j) : Su w' T k q room rd U hs ch := by
  obtain ⟨h1, h2, cv, uv, m, h3, h4, h5, h6, h7, h8, h9⟩ := hd
  exact ⟨fun j hj => Nat.lt_of_lt_of_le (h1 j hj) h.size, h2, cv, uv, m, h.blk h3 (hn q h2), h.row h4 (fun g hg => hn g (h7 g hg)), h.row h5 (fun g hg => hn g (h8 g hg)), h.imap h6 (hn m h9), h7, h8, h9⟩
theorem Su.on {T : Nat → Prop} {w w' : World} {k q room rd : Nat} {U : List Int} {hs : List Hp} {ch : List Pg} (hd : Su w T k q room rd U hs ch) (h : Below w.heap.size w w') : Su w' T k q room rd U hs ch :=
  (Keep.of_below (S := fun _ => False) h).su hd (fun _ _ h => h)
theorem Keep.sh {S T : Nat → Prop} {w w' : World} {k q room rd : Nat} {hs : List Hp} {ch : List Pg} (h : Keep S w w') (hd : Sh w T k q room rd hs ch) (hn : ∀ j, T j → ¬ S j) : Sh w' T k q room rd hs ch := h.su hd hn
theorem Sh.on {T : Nat → Prop} {w w' : World} {k q room rd : Nat} {hs : List Hp} {ch : List Pg} (hd : Sh w T k q room rd hs ch) (h : Below w.heap.size w w') : Sh w' T k q room rd hs ch :=
  (Keep.of_below (S := fun _ => False) h).sh hd (fun _ _ h => h)
/-- what a call leaves of it -/
structure Sm (w : World) (T : Nat → Prop) (k q room rd : Nat) (hs : List Hp) (ch : List Pg) (W : World) : Prop where
  sh : ∃ T', Sh W T' k q room rd hs ch ∧ Grows T T' w
  keep : Keep T w W
theorem Sm.refl {w : World} {T : Nat → Prop} {k q room rd : Nat} {hs : List Hp} {ch : List Pg} (h : Sh w T k q room rd hs ch) : Sm w T k q room rd hs ch w := ⟨⟨T, h, Grows.refl _ _⟩, Keep.refl _ _⟩
theorem Sm.on {w W V : World} {T : Nat → Prop} {k q room rd : Nat} {hs : List Hp} {ch : List Pg} (h : Sm w T k q room rd hs ch W) (hb : Below W.heap.size W V) : Sm w T k q room rd hs ch V := by
  obtain ⟨T', h1, h2⟩ := h.sh
  exact ⟨⟨T', h1.on hb, h2⟩, h.keep.trans (Keep.of_below (S := fun _ => False) hb) (fun _ _ h => h.elim)⟩
theorem Sm.base {w W V : World} {T : Nat → Prop} {k q room rd : Nat} {hs : List Hp} {ch : List Pg} (h : Sm W T k q room rd hs ch V) (hb : Below w.heap.size w W) (hT : ∀ j, T j → j < w.heap.size) : Sm w T k q room rd hs ch V := by
  obtain ⟨T', h1, h2⟩ := h.sh
  refine ⟨⟨T', h1, fun j hj => ?_⟩, (Keep.of_below (S := T) hb).trans h.keep (fun _ _ h => h)⟩
  rcases h2 j hj with h' | h'
  · exact .inl h'
  · exact .inr (Nat.le_trans hb.size h')
theorem Sm.trans {w W V : World} {T T' : Nat → Prop} {k q room rd room2 rd2 : Nat} {hs hs2 : List Hp} {ch ch2 : List Pg} (hg : Grows T T' w) (hk : Keep T w W) (h : Sm W T' k q room2 rd2 hs2 ch2 V) : Sm w T k q room2 rd2 hs2 ch2 V := by
  obtain ⟨T2, h1, h2⟩ := h.sh
  refine ⟨⟨T2, h1, hg.trans h2 hk.size⟩, hk.trans h.keep (fun j hj h' => ?_)⟩
  rcases hg j h' with h' | h'
  · exact h'
  · omega

section
variable {w : World} {T : Nat → Prop} {k q room rd : Nat} {hs : List Hp} {ch : List Pg}

theorem fieldPg (a b : Value) (w : World) : (Instr.field 174 (.agg #[a, b]) 1).run Tryz.prog w = .ok b w := by kernel_rfl
theorem hasPins_any (a : Int) (ha : I64 a) (h : Sh w T k q room rd hs ch) : Calls Tryz.prog 89 #[.pointer (some ⟨q, 2, none⟩), .int .i64 a] w fun e w' => e = .returned (.bool (pinned hs a)) ∧ w = w' := by
  obtain ⟨_, _, cv, uv, m, hb, _, _, hm, _⟩ := h
  have c3 := hb.cell (i := 3) rfl
  have hg := hm.get ha
  have hfl : ∀ a b, _ := fun a b => fieldPg a b w
  unfold pinned
  unfold hmap at hg
  cases hf : fndH hs a with
  | none =>
    rw [hf] at hg
    simp only [Option.map_none, Option.getD_none, zeroPg] at hg
    clear hm hb
    go_enter Tryz.func89, Tryz.ntmps89
    go_wp2
    go_ret
    exact ⟨rfl, rfl⟩
  | some x =>
    rw [hf] at hg
    simp only [Option.map_some, Option.getD_some, hv] at hg
    clear hm hb hf
    by_cases hx : 0 < x.pins
    · have hd : decide (0 < x.pins) = true := decide_eq_true hx
      have hx2 : (0 : Int) < (x.pins : Int) := by omega
      simp only [hd]
      clear hd
      go_enter Tryz.func89, Tryz.ntmps89
      go_wp2
      go_ret
      exact ⟨rfl, rfl⟩
    · have hd : decide (0 < x.pins) = false := decide_eq_false hx
      have hx2 : ¬ (0 : Int) < (x.pins : Int) := by omega
      simp only [hd]
      clear hd
      go_enter Tryz.func89, Tryz.ntmps89
      go_wp2
      go_ret
      exact ⟨rfl, rfl⟩

theorem has_any (a : Int) (ha : I64 a) (h : Sh w T k q room rd hs ch) : Calls Tryz.prog 128 #[.pointer (some ⟨q, 2, none⟩), .int .i64 a] w fun e w' => e = .returned (.bool (fndH hs a).isSome) ∧ Below w.heap.size w w' := by
  obtain ⟨_, _, cv, uv, m, hb, _, _, hm, _⟩ := h
  have c3 := hb.cell (i := 3) rfl
  have hg := hm.look ha
  unfold hmap at hg
  cases hf : fndH hs a with
  | none =>
    rw [hf] at hg
    simp only [Option.map_none, Option.getD_none, Option.isSome_none, zeroPg] at hg ⊢
    clear hm hb hf
    go_enter Tryz.func128, Tryz.ntmps128
    go_wp2
    go_ret
    exact ⟨rfl, (Below.refl _ _).alloc (Nat.le_refl _) _⟩
  | some x =>
    rw [hf] at hg
    simp only [Option.map_some, Option.getD_some, Option.isSome_some, hv] at hg ⊢
    clear hm hb hf
    go_enter Tryz.func128, Tryz.ntmps128
    go_wp2
    go_ret
    exact ⟨rfl, (Below.refl _ _).alloc (Nat.le_refl _) _⟩

/-- the map's page turned, the rest of the pager not -/
theorem Sh.put {w' : World} (h : Sh w T k q room rd hs ch) {hs' : List Hp} (hp : hs'.map Hp.pl = hs.map Hp.pl) (m : Nat) (hq : w.cell? ⟨q, 3, none⟩ = some (.map (some m))) (hm : IMap w' m hs'.length (hmap hs')) (hg : w.grownBy w' (some m)) : Sm w T k q room rd hs' ch w' := by
  obtain ⟨h1, h2, cv, uv, m', h3, h4, h5, h6, h7, h8, h9⟩ := h
  have e : some (Value.map (some m')) = some (.map (some m)) := (h3.cell (i := 3) rfl).symm.trans hq
  cases e
  have hk : Keep (fun j => j = m) w w' := Keep.grown hg (fun j e => (Option.some.inj e).symm)
  refine ⟨⟨T, ⟨fun j hj => Nat.lt_of_lt_of_le (h1 j hj) hg.size, h2, cv, uv, m, hk.blk h3 (h6.ne_blk h3), hk.row h4 (fun g e => h6.ne_row h4 e), ?_, hm, h7, h8, h9⟩, Grows.refl _ _⟩, Keep.grown hg (fun j e => by cases e; exact h9)⟩
  have := hk.row h5 (fun g e => h6.ne_row h5 e)
  unfold RowI
  rw [hp]
  exact this

end

/-- where a number stands -/
theorem index_any (w : World) (B : Nat) (v : Value) (A L : List Int) (a : Int) (h : RowI w B v (A ++ a :: L)) (hl : (A ++ a :: L).length ≤ 1024) (hn : ∀ x ∈ A, ¬ x = a) :
    Calls Tryz.prog 152 #[v, .int .i64 a] w fun e w' => e = .returned (.int .i64 (A.length : Nat)) ∧ w = w' := by
  obtain ⟨p, c, e1⟩ := h.form
  subst e1
  have H := hid h
  have HN := hid hn
  obtain ⟨n, hnn⟩ : ∃ n, (A ++ a :: L).length = n := ⟨_, rfl⟩
  rw [hnn] at hl ⊢
  have hlt : A.length < n := by rw [← hnn]; simp
  have HA : Hid (∀ k, k < A.length → ∃ x, (A ++ a :: L)[k]? = some x ∧ ¬ x = a) := fun k hk => ⟨A[k], by rw [List.getElem?_append_left hk, List.getElem?_eq_getElem hk], HN.out _ (List.getElem_mem _)⟩
  have HZ : Hid ((A ++ a :: L)[A.length]? = some a) := by show _ = _; simp
  obtain ⟨m, hm⟩ : ∃ m, A.length = m := ⟨_, rfl⟩
  rw [hm] at hlt HA HZ ⊢
  clear h hn hnn hm
  generalize A ++ a :: L = U at *
  go_enter Tryz.func152, Tryz.ntmps152
  go_wp2_with fail
  go_loop [8] (fun i => ∃ k : Nat, k ≤ m ∧ i = .int .i64 (k : Nat)) (fun i => n - (intOf i).toNat)
  case atStart => exact ⟨0, Nat.zero_le _, rfl⟩
  case round =>
    obtain ⟨k, hk, rfl⟩ := hrel
    have hki : (k : Int) < (n : Int) := by omega
    by_cases hkm : k < m
    · obtain ⟨x, hx, hne⟩ := HA.out k hkm
      obtain ⟨g, rfl, _, _, c1, _⟩ := H.out.at hx
      have hne2 : (a == x) = false := by simp; omega
      clear hx
      go_wp2
      go_round
      case rel => exact ⟨k + 1, by omega, by go_num⟩
      case measure => simp [intOf]; omega
    · obtain rfl : k = m := by omega
      obtain ⟨g, rfl, _, _, c1, _⟩ := H.out.at HZ.out
      go_wp2
      go_ret
      exact ⟨rfl, rfl⟩

section
variable {w : World} {T : Nat → Prop} {k q room rd : Nat} {hs : List Hp} {ch : List Pg}

/-- the shelf's question of a page's pins -/
theorem asks_any (a : Int) (ha : I64 a) (h : Sh w T k q room rd hs ch) (b : Nat) (hb : Blk w b #[.pointer (some ⟨q, 2, none⟩)] 172) :
    Calls Tryz.prog 161 #[.int .i64 a, .pointer (some ⟨b, 0, none⟩)] w fun e w' => e = .returned (.bool (!pinned hs a)) ∧ w = w' := by
  have hp := hasPins_any a ha h
  have c0 := hb.cell (i := 0) rfl
  generalize pinned hs a = z at *
  clear h hb
  go_enter Tryz.func161, Tryz.ntmps161
  go_wp2_with (go_at_call 89; refine hp.mono ?_; rintro e w1 ⟨rfl, rfl⟩)
  go_ret
  exact ⟨rfl, rfl⟩

theorem indexf_any (hn : NdH hs) (hl : hs.length ≤ 1024) (hi : ∀ x ∈ hs, I64 x.pl) (h : Sh w T k q room rd hs ch) (b : Nat) (hb : Blk w b #[.pointer (some ⟨q, 2, none⟩)] 172) (v : Value) (hv : RowI w 0 v (hs.map Hp.pl)) :
    Calls Tryz.prog 160 #[v, .func (.func 161) #[] #[.pointer (some ⟨b, 0, none⟩)]] w fun e w' => e = .returned (.int .i64 (nextI hs)) ∧ w = w' := by
  obtain ⟨p, c, e1⟩ := hv.form
  subst e1
  rw [List.length_map] at hv ⊢
  have HV := hid hv
  have HC : Hid (∀ x, x ∈ hs → Calls Tryz.prog 161 #[.int .i64 x.pl, .pointer (some ⟨b, 0, none⟩)] w fun e w' => e = .returned (.bool (decide (x.pins = 0))) ∧ w = w') := fun x hx => by
    have := asks_any x.pl (hi x hx) h b hb
    unfold pinned at this
    rw [fndH_mem hn hx] at this
    have e : (!decide (0 < x.pins)) = decide (x.pins = 0) := by
      by_cases h0 : x.pins = 0
      · simp [h0]
      · simp [h0]; omega
    simp only [e] at this
    exact this
  have HL : Hid (hs.length = hs.length) := rfl
  obtain ⟨n, hnn⟩ : ∃ n, hs.length = n := ⟨_, rfl⟩
  have HN := hid hnn
  rw [hnn] at hl ⊢
  clear hv hi h hb hnn HL hn
  go_enter Tryz.func160, Tryz.ntmps160
  go_wp2_with fail
  go_loop [8] (fun i => ∃ k : Nat, k ≤ n ∧ i = .int .i64 (k : Nat) ∧ Hid (∀ i x, i < k → hs[i]? = some x → ¬ x.pins = 0)) (fun i => n - (intOf i).toNat)
  case atStart => exact ⟨0, Nat.zero_le _, rfl, fun i x hi => by omega⟩
  case round =>
    obtain ⟨j, hj, rfl, HO⟩ := hrel
    by_cases hjn : j < n
    · have hji : (j : Int) < (n : Int) := by omega
      obtain ⟨x, hx⟩ : ∃ x, hs[j]? = some x := ⟨_, List.getElem?_eq_getElem (by rw [HN.out]; exact hjn)⟩
      have hca := HC.out x (List.mem_of_getElem? hx)
      obtain ⟨g, rfl, _, _, c1, _⟩ := HV.out.at (k := j) (x := x.pl) (by rw [List.getElem?_map, hx]; rfl)
      by_cases hz : x.pins = 0
      · rw [decide_eq_true hz] at hca
        have HE := hid (nextI_at HO.out hx hz).1
        clear hx hz
        go_wp2_with (go_at_call 161; refine hca.mono ?_; rintro e w1 ⟨rfl, rfl⟩)
        go_ret
        exact ⟨by rw [HE.out]; rfl, rfl⟩
      · rw [decide_eq_false hz] at hca
        have HO2 : Hid (∀ i y, i < j + 1 → hs[i]? = some y → ¬ y.pins = 0) := fun i y hi hy => by
          by_cases e : i = j
          · subst e
            rw [hx] at hy
            cases hy
            exact hz
          · exact HO.out i y (by omega) hy
        clear hx hz
        go_wp2_with (go_at_call 161; refine hca.mono ?_; rintro e w1 ⟨rfl, rfl⟩)
        go_round
        case rel => exact ⟨j + 1, by omega, by go_num, HO2⟩
        case measure => simp [intOf]; omega
    · obtain rfl : j = n := by omega
      have HE : Hid (nextI hs = -1) := (nextI_none (fun x hx => by
        obtain ⟨i, hi⟩ := List.mem_iff_getElem?.1 hx
        exact HO.out i x (by have := (List.getElem?_eq_some_iff.1 hi).1; rw [HN.out] at this; exact this) hi)).1
      go_wp2
      go_ret
      exact ⟨by rw [HE.out]; rfl, rfl⟩

theorem next_any (hn : NdH hs) (hl : hs.length ≤ 1024) (hi : ∀ x ∈ hs, I64 x.pl) (h : Sh w T k q room rd hs ch) :
    Calls Tryz.prog 148 #[.pointer (some ⟨q, 2, none⟩)] w fun e w' => e = .returned (.int .i64 (nextI hs)) ∧ Below w.heap.size w w' := by
  have H := hid h
  obtain ⟨_, _, cv, uv, m, hb3, _, hu, _⟩ := h
  have hlt : q < w.heap.size := hb3.lt
  obtain ⟨W, hW⟩ : ∃ W, w.alloc (.cells #[.pointer (some ⟨q, 2, none⟩)] 172) = W := ⟨_, rfl⟩
  have hbW : Below w.heap.size w W := by rw [← hW]; exact (Below.refl _ _).alloc (Nat.le_refl _) _
  have hx := indexf_any hn hl hi (H.out.on hbW) w.heap.size (by rw [← hW]; exact Blk.made _ _ _) uv (hu.on hbW)
  have c4 : W.cell? ⟨q, 4, none⟩ = some uv := (hbW.cell (p := ⟨q, 4, none⟩) hlt).trans (hb3.cell (i := 4) rfl)
  have b6 : Blk W w.heap.size #[.pointer (some ⟨q, 2, none⟩)] 172 := by rw [← hW]; exact Blk.made _ _ _
  have c60 := b6.cell (i := 0) rfl
  obtain ⟨p, c, e1⟩ := hu.form
  subst e1
  rw [List.length_map] at hx c4
  have HBW := hid hbW
  clear hb3 hu b6 hn hl hi hbW
  generalize nextI hs = z at *
  go_enter Tryz.func148, Tryz.ntmps148
  go_wp2_with fail
  clear hW c60 c4
  refine hx.mono ?_
  clear hx
  rintro e w1 ⟨rfl, rfl⟩
  go_wp2
  go_ret
  exact ⟨rfl, HBW.out⟩

theorem nextI_neg (hs : List Hp) : decide (nextI hs < 0) = (freeH hs).isNone := by
  unfold nextI
  cases freeH hs with
  | none => rfl
  | some f => simp only [Option.isNone_some]; rw [decide_eq_false]; omega

theorem full_any (hn : NdH hs) (hl : hs.length ≤ 1024) (hi : ∀ x ∈ hs, I64 x.pl) (h : Sh w T k q room rd hs ch) :
    Calls Tryz.prog 147 #[.pointer (some ⟨q, 2, none⟩)] w fun e w' => e = .returned (.bool (fullH room hs)) ∧ Below w.heap.size w w' := by
  have hnx : ∀ w1, Below w.heap.size w w1 → _ := fun w1 hb => next_any hn hl hi (h.on hb)
  obtain ⟨_, _, cv, uv, m, hb3, _, hu, _⟩ := h
  have hlt : q < w.heap.size := hb3.lt
  obtain ⟨p, c, e1⟩ := hu.form
  subst e1
  have c2 : w.cell? ⟨q, 2, none⟩ = some (.int .i64 (room : Nat)) := hb3.cell (i := 2) rfl
  have c4 : w.cell? ⟨q, 4, none⟩ = some (.slice p (hs.map Hp.pl).length c) := hb3.cell (i := 4) rfl
  rw [List.length_map] at c4
  have hz := nextI_neg hs
  clear hb3 hu hi hn
  unfold fullH
  generalize (freeH hs).isNone = y at *
  generalize nextI hs = z at *
  obtain ⟨n, hnn⟩ : ∃ n, hs.length = n := ⟨_, rfl⟩
  rw [hnn] at hl c4 ⊢
  clear hnn
  have HK : Hid (∀ w5, Below w.heap.size w w5 → w5.cell? ⟨q, 2, none⟩ = some (.int .i64 (room : Nat)) ∧ w5.cell? ⟨q, 4, none⟩ = some (.slice p n c)) := fun w5 hb => ⟨(hb.cell (p := ⟨q, 2, none⟩) hlt).trans c2, (hb.cell (p := ⟨q, 4, none⟩) hlt).trans c4⟩
  have HBd := hid ((Below.refl w.heap.size w).drew)
  have HS0 := HK.out _ HBd.out
  have HNX := hid hnx
  clear hnx
  by_cases hr : room ≤ n
  · rw [decide_eq_true hr, Bool.true_and]
    have hri : (room : Int) ≤ (n : Int) := by omega
    clear c2 c4
    go_enter Tryz.func147, Tryz.ntmps147
    go_wp2_with fail
    go_region_held3 (fun w' => w'.cell? ⟨q, 2, none⟩ = some (.int .i64 (room : Nat)) ∧ w'.cell? ⟨q, 4, none⟩ = some (.slice p n c)) (first | exact HS0 | exact HS1)
      (first | (go_at_call 148; refine (HNX.out _ HBd.out).mono ?_; clear HNX; rintro e w5 ⟨rfl, hb5⟩; have HB5 := hid (HBd.out.trans (hb5.mono HBd.out.size)); have HS1 := HK.out w5 HB5.out; clear hb5))
    go_wp2_with fail
    go_ret
    exact ⟨by rw [← hz]; rfl, HB5.out⟩
  · rw [decide_eq_false hr, Bool.false_and]
    have hri : ¬ (room : Int) ≤ (n : Int) := by omega
    have hri2 : decide (room ≤ n) = false := decide_eq_false hr
    go_enter Tryz.func147, Tryz.ntmps147
    go_wp2_with fail
    go_region
    go_wp2_with fail
    go_ret
    exact ⟨rfl, HBd.out⟩
end

end Go.Proofs.YtglallhblcjffaaGreatDoor
