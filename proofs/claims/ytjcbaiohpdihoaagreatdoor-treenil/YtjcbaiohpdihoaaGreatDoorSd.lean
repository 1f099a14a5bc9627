/-
  What the shelf's use, drop and hold do.
-/
import Derived.Test.YtjcbaiohpdihoaaGreatDoorTm
import Derived.Test.YtjcbaiohpdihoaaGreatDoorP11
import Derived.Test.YtjcbaiohpdihoaaGreatDoorRv
import Derived.Deep.RegionHeld3
import Derived.Test.YtjcbaiohpdihoaaGreatDoorApp
import Derived.Test.YtjcbaiohpdihoaaGreatDoorEq
import Derived.Test.YtjcbaiohpdihoaaGreatDoorRi
namespace Go.Proofs.YtjcbaiohpdihoaaGreatDoor
open Go.RowKit
set_option linter.unusedVariables false
set_option linter.unusedSimpArgs false
set_option maxRecDepth 100000

theorem fndH_mem {hs : List Hp} (n : NdH hs) {h : Hp} (hm : h ∈ hs) : fndH hs h.pl = some h := by
  cases e : fndH hs h.pl with
  | none => exact absurd rfl (fndH_none e h hm)
  | some x =>
    obtain ⟨h1, h2⟩ := fndH_some e
    obtain ⟨A, B, rfl⟩ := List.append_of_mem hm
    obtain ⟨n1, n2, _⟩ := n.split
    rcases List.mem_append.1 h1 with h1 | h1
    · exact absurd h2 (n1 x h1)
    · rcases List.mem_cons.1 h1 with h1 | h1
      · rw [h1]
      · exact absurd h2 (n2 x h1)
theorem fndH_pinH (hs : List Hp) (a c : Int) (m : Nat → Nat) : fndH (pinH hs a m) c = (fndH hs c).map fun h => if h.pl = a then { h with pins := m h.pins } else h := by
  unfold fndH pinH
  rw [List.find?_map]
  congr 1
  congr 1
  funext h
  simp only [Function.comp]
  split <;> rfl
/-- where the first page without pins stands -/
def nextI (hs : List Hp) : Int := match freeH hs with | none => -1 | some _ => ((hs.takeWhile fun h => decide (¬ h.pins = 0)).length : Nat)
theorem nextI_at {hs : List Hp} {k : Nat} {h : Hp} (h1 : ∀ i x, i < k → hs[i]? = some x → ¬ x.pins = 0) (h2 : hs[k]? = some h) (h3 : h.pins = 0) : nextI hs = (k : Nat) ∧ freeH hs = some h := by
  have hk := (List.getElem?_eq_some_iff.1 h2).1
  have e : hs = hs.take k ++ h :: hs.drop (k + 1) := by rw [← drop_cons h2, List.take_append_drop]
  have ha : ∀ x ∈ hs.take k, ¬ x.pins = 0 := fun x hx => by
    obtain ⟨i, hi⟩ := List.mem_iff_getElem?.1 hx
    rw [List.getElem?_take] at hi
    split at hi
    · exact h1 i x ‹_› hi
    · cases hi
  have ef : freeH hs = some h := by
    unfold freeH
    rw [e, List.find?_append, List.find?_eq_none.2 (by simpa using ha)]
    simp [h3]
  refine ⟨?_, ef⟩
  unfold nextI
  rw [ef]
  show (((hs.takeWhile _).length : Nat) : Int) = _
  rw [e, List.takeWhile_append_of_pos (by simpa using ha)]
  simp [h3]
  omega
theorem nextI_none {hs : List Hp} (h1 : ∀ x ∈ hs, ¬ x.pins = 0) : nextI hs = -1 ∧ freeH hs = none := by
  have : freeH hs = none := by simpa [freeH, List.find?_eq_none] using h1
  exact ⟨by unfold nextI; rw [this], this⟩

/-- a row of numbers -/
def RowI (w : World) (B : Nat) (v : Value) (L : List Int) : Prop := w.ownsRow B 3 1 v L.length (L.map (Value.int .i64))
theorem RowI.form {w : World} {B : Nat} {v : Value} {L : List Int} (h : RowI w B v L) : ∃ a c, v = .slice a L.length c := own_form h
theorem RowI.on {w w' : World} {B : Nat} {v : Value} {L : List Int} (h : RowI w B v L) (hb : Below w.heap.size w w') : RowI w' B v L := own_below h hb
theorem RowI.at {w : World} {B n c : Nat} {a : Option Addr} {L : List Int} (h : RowI w B (.slice a n c) L) {k : Nat} {x : Int} (hk : L[k]? = some x) : ∃ g, a = some ⟨g, 0, none⟩ ∧ B ≤ g ∧ g < w.heap.size ∧ w.cell? ⟨g, k, none⟩ = some (.int .i64 x) ∧ w.frozen? ⟨g, k, none⟩ = false := by
  obtain ⟨a', cap, e, _, _, hc⟩ := own_cells h
  cases e
  exact hc k _ (by rw [List.getElem?_map, hk]; rfl)

/-- a held page in the map -/
def hv (h : Hp) : Value := .agg #[.string h.data, .int .i64 (h.pins : Nat)]
def hmap (hs : List Hp) (a : Int) : Option Value := (fndH hs a).map hv
/-- a pager of the program at block q: all of it, but for its disk at block k, lies in T; the uses are U, the map holds hs -/
def Su (w : World) (T : Nat → Prop) (k q : Nat) (room rd : Nat) (U : List Int) (hs : List Hp) (ch : List Pg) : Prop :=
  (∀ j, T j → j < w.heap.size) ∧ T q ∧ ∃ cv uv m, Blk w q #[.pointer (some ⟨k, 0, none⟩), cv, .int .i64 (room : Nat), .map (some m), uv, .int .i64 (rd : Nat)] 157 ∧ RowP w 0 cv ch ∧ RowI w 0 uv U ∧ IMap w m hs.length (hmap hs) ∧ In T cv ∧ In T uv ∧ T m
def Sh (w : World) (T : Nat → Prop) (k q : Nat) (room rd : Nat) (hs : List Hp) (ch : List Pg) : Prop := Su w T k q room rd (hs.map Hp.pl) hs ch
theorem Keep.imap {S : Nat → Prop} {w w' : World} {b n : Nat} {f : Int → Option Value} (h : Keep S w w') (hm : IMap w b n f) (hn : ¬ S b) : IMap w' b n f := hm.same (h.block b hm.lt hn)
theorem Keep.su {S T : Nat → Prop} {w w' : World} {k q room rd : Nat} {U : List Int} {hs : List Hp} {ch : List Pg} (h : Keep S w w') (hd : Su w T k q room rd U hs ch) (hn : ∀ j, T j → ¬ S j) : Su w' T k q room rd U hs ch := by
  obtain ⟨h1, h2, cv, uv, m, h3, h4, h5, h6, h7, h8, h9⟩ := hd
  exact ⟨fun j hj => Nat.lt_of_lt_of_le (h1 j hj) h.size, h2, cv, uv, m, h.blk h3 (hn q h2), h.row h4 (fun g hg => hn g (h7 g hg)), h.row h5 (fun g hg => hn g (h8 g hg)), h.imap h6 (hn m h9), h7, h8, h9⟩
theorem Su.on {T : Nat → Prop} {w w' : World} {k q room rd : Nat} {U : List Int} {hs : List Hp} {ch : List Pg} (hd : Su w T k q room rd U hs ch) (h : Below w.heap.size w w') : Su w' T k q room rd U hs ch :=
  (Keep.of_below (S := fun _ => False) h).su hd (fun _ _ h => h)
theorem Keep.sh {S T : Nat → Prop} {w w' : World} {k q room rd : Nat} {hs : List Hp} {ch : List Pg} (h : Keep S w w') (hd : Sh w T k q room rd hs ch) (hn : ∀ j, T j → ¬ S j) : Sh w' T k q room rd hs ch := h.su hd hn
theorem Sh.on {T : Nat → Prop} {w w' : World} {k q room rd : Nat} {hs : List Hp} {ch : List Pg} (hd : Sh w T k q room rd hs ch) (h : Below w.heap.size w w') : Sh w' T k q room rd hs ch :=
  (Keep.of_below (S := fun _ => False) h).sh hd (fun _ _ h => h)
/-- what a call leaves of it -/
structure Sm (w : World) (T : Nat → Prop) (k q room rd : Nat) (hs : List Hp) (ch : List Pg) (W : World) : Prop where
  sh : ∃ T', Sh W T' k q room rd hs ch ∧ Grows T T' w
  keep : Keep T w W
theorem Sm.refl {w : World} {T : Nat → Prop} {k q room rd : Nat} {hs : List Hp} {ch : List Pg} (h : Sh w T k q room rd hs ch) : Sm w T k q room rd hs ch w := ⟨⟨T, h, Grows.refl _ _⟩, Keep.refl _ _⟩
theorem Sm.on {w W V : World} {T : Nat → Prop} {k q room rd : Nat} {hs : List Hp} {ch : List Pg} (h : Sm w T k q room rd hs ch W) (hb : Below W.heap.size W V) : Sm w T k q room rd hs ch V := by
  obtain ⟨T', h1, h2⟩ := h.sh
  exact ⟨⟨T', h1.on hb, h2⟩, h.keep.trans (Keep.of_below (S := fun _ => False) hb) (fun _ _ h => h.elim)⟩
theorem Sm.base {w W V : World} {T : Nat → Prop} {k q room rd : Nat} {hs : List Hp} {ch : List Pg} (h : Sm W T k q room rd hs ch V) (hb : Below w.heap.size w W) (hT : ∀ j, T j → j < w.heap.size) : Sm w T k q room rd hs ch V := by
  obtain ⟨T', h1, h2⟩ := h.sh
  refine ⟨⟨T', h1, fun j hj => ?_⟩, (Keep.of_below (S := T) hb).trans h.keep (fun _ _ h => h)⟩
  rcases h2 j hj with h' | h'
  · exact .inl h'
  · exact .inr (Nat.le_trans hb.size h')
theorem Sm.trans {w W V : World} {T T' : Nat → Prop} {k q room rd room2 rd2 : Nat} {hs hs2 : List Hp} {ch ch2 : List Pg} (hg : Grows T T' w) (hk : Keep T w W) (h : Sm W T' k q room2 rd2 hs2 ch2 V) : Sm w T k q room2 rd2 hs2 ch2 V := by
  obtain ⟨T2, h1, h2⟩ := h.sh
  refine ⟨⟨T2, h1, hg.trans h2 hk.size⟩, hk.trans h.keep (fun j hj h' => ?_)⟩
  rcases hg j h' with h' | h'
  · exact h'
  · omega

section
variable {w : World} {T : Nat → Prop} {k q room rd : Nat} {hs : List Hp} {ch : List Pg}

theorem fieldPg (a b : Value) (w : World) : (Instr.field 212 (.agg #[a, b]) 1).run Tryz.prog w = .ok b w := by kernel_rfl
theorem hasPins_any (a : Int) (ha : I64 a) (h : Sh w T k q room rd hs ch) : Calls Tryz.prog 101 #[.pointer (some ⟨q, 2, none⟩), .int .i64 a] w fun e w' => e = .returned (.bool (pinned hs a)) ∧ w = w' := by
  obtain ⟨_, _, cv, uv, m, hb, _, _, hm, _⟩ := h
  have c3 := hb.cell (i := 3) rfl
  have hg := hm.get ha
  have hfl : ∀ a b, _ := fun a b => fieldPg a b w
  unfold pinned
  unfold hmap at hg
  cases hf : fndH hs a with
  | none =>
    rw [hf] at hg
    simp only [Option.map_none, Option.getD_none, zeroPg] at hg
    clear hm hb
    go_enter Tryz.func101, Tryz.ntmps101
    go_wp2
    go_ret
    exact ⟨rfl, rfl⟩
  | some x =>
    rw [hf] at hg
    simp only [Option.map_some, Option.getD_some, hv] at hg
    clear hm hb hf
    by_cases hx : 0 < x.pins
    · have hd : decide (0 < x.pins) = true := decide_eq_true hx
      have hx2 : (0 : Int) < (x.pins : Int) := by omega
      simp only [hd]
      clear hd
      go_enter Tryz.func101, Tryz.ntmps101
      go_wp2
      go_ret
      exact ⟨rfl, rfl⟩
    · have hd : decide (0 < x.pins) = false := decide_eq_false hx
      have hx2 : ¬ (0 : Int) < (x.pins : Int) := by omega
      simp only [hd]
      clear hd
      go_enter Tryz.func101, Tryz.ntmps101
      go_wp2
      go_ret
      exact ⟨rfl, rfl⟩

theorem has_any (a : Int) (ha : I64 a) (h : Sh w T k q room rd hs ch) : Calls Tryz.prog 157 #[.pointer (some ⟨q, 2, none⟩), .int .i64 a] w fun e w' => e = .returned (.bool (fndH hs a).isSome) ∧ Below w.heap.size w w' := by
  obtain ⟨_, _, cv, uv, m, hb, _, _, hm, _⟩ := h
  have c3 := hb.cell (i := 3) rfl
  have hg := hm.look ha
  unfold hmap at hg
  cases hf : fndH hs a with
  | none =>
    rw [hf] at hg
    simp only [Option.map_none, Option.getD_none, Option.isSome_none, zeroPg] at hg ⊢
    clear hm hb hf
    go_enter Tryz.func157, Tryz.ntmps157
    go_wp2
    go_ret
    exact ⟨rfl, (Below.refl _ _).alloc (Nat.le_refl _) _⟩
  | some x =>
    rw [hf] at hg
    simp only [Option.map_some, Option.getD_some, Option.isSome_some, hv] at hg ⊢
    clear hm hb hf
    go_enter Tryz.func157, Tryz.ntmps157
    go_wp2
    go_ret
    exact ⟨rfl, (Below.refl _ _).alloc (Nat.le_refl _) _⟩

/-- the map's page turned, the rest of the pager not -/
theorem Sh.put {w' : World} (h : Sh w T k q room rd hs ch) {hs' : List Hp} (hp : hs'.map Hp.pl = hs.map Hp.pl) (m : Nat) (hq : w.cell? ⟨q, 3, none⟩ = some (.map (some m))) (hm : IMap w' m hs'.length (hmap hs')) (hg : w.grownBy w' (some m)) : Sm w T k q room rd hs' ch w' := by
  obtain ⟨h1, h2, cv, uv, m', h3, h4, h5, h6, h7, h8, h9⟩ := h
  have e : some (Value.map (some m')) = some (.map (some m)) := (h3.cell (i := 3) rfl).symm.trans hq
  cases e
  have hk : Keep (fun j => j = m) w w' := Keep.grown hg (fun j e => (Option.some.inj e).symm)
  refine ⟨⟨T, ⟨fun j hj => Nat.lt_of_lt_of_le (h1 j hj) hg.size, h2, cv, uv, m, hk.blk h3 (h6.ne_blk h3), hk.row h4 (fun g e => h6.ne_row h4 e), ?_, hm, h7, h8, h9⟩, Grows.refl _ _⟩, Keep.grown hg (fun j e => by cases e; exact h9)⟩
  have := hk.row h5 (fun g e => h6.ne_row h5 e)
  unfold RowI
  rw [hp]
  exact this

end

/-- where a number stands -/
theorem index_any (w : World) (B : Nat) (v : Value) (A L : List Int) (a : Int) (h : RowI w B v (A ++ a :: L)) (hl : (A ++ a :: L).length ≤ 1024) (hn : ∀ x ∈ A, ¬ x = a) :
    Calls Tryz.prog 221 #[v, .int .i64 a] w fun e w' => e = .returned (.int .i64 (A.length : Nat)) ∧ w = w' := by
  obtain ⟨p, c, e1⟩ := h.form
  subst e1
  have H := hid h
  have HN := hid hn
  obtain ⟨n, hnn⟩ : ∃ n, (A ++ a :: L).length = n := ⟨_, rfl⟩
  rw [hnn] at hl ⊢
  have hlt : A.length < n := by rw [← hnn]; simp
  have HA : Hid (∀ k, k < A.length → ∃ x, (A ++ a :: L)[k]? = some x ∧ ¬ x = a) := fun k hk => ⟨A[k], by rw [List.getElem?_append_left hk, List.getElem?_eq_getElem hk], HN.out _ (List.getElem_mem _)⟩
  have HZ : Hid ((A ++ a :: L)[A.length]? = some a) := by show _ = _; simp
  obtain ⟨m, hm⟩ : ∃ m, A.length = m := ⟨_, rfl⟩
  rw [hm] at hlt HA HZ ⊢
  clear h hn hnn hm
  generalize A ++ a :: L = U at *
  go_enter Tryz.func221, Tryz.ntmps221
  go_wp2_with fail
  go_loop [8] (fun i => ∃ k : Nat, k ≤ m ∧ i = .int .i64 (k : Nat)) (fun i => n - (intOf i).toNat)
  case atStart => exact ⟨0, Nat.zero_le _, rfl⟩
  case round =>
    obtain ⟨k, hk, rfl⟩ := hrel
    have hki : (k : Int) < (n : Int) := by omega
    by_cases hkm : k < m
    · obtain ⟨x, hx, hne⟩ := HA.out k hkm
      obtain ⟨g, rfl, _, _, c1, _⟩ := H.out.at hx
      have hne2 : (a == x) = false := by simp; omega
      clear hx
      go_wp2
      go_round
      case rel => exact ⟨k + 1, by omega, by go_num⟩
      case measure => simp [intOf]; omega
    · obtain rfl : k = m := by omega
      obtain ⟨g, rfl, _, _, c1, _⟩ := H.out.at HZ.out
      go_wp2
      go_ret
      exact ⟨rfl, rfl⟩

section
variable {w : World} {T : Nat → Prop} {k q room rd : Nat} {hs : List Hp} {ch : List Pg}

/-- the shelf's question of a page's pins -/
theorem asks_any (a : Int) (ha : I64 a) (h : Sh w T k q room rd hs ch) (b : Nat) (hb : Blk w b #[.pointer (some ⟨q, 2, none⟩)] 225) :
    Calls Tryz.prog 243 #[.int .i64 a, .pointer (some ⟨b, 0, none⟩)] w fun e w' => e = .returned (.bool (!pinned hs a)) ∧ w = w' := by
  have hp := hasPins_any a ha h
  have c0 := hb.cell (i := 0) rfl
  generalize pinned hs a = z at *
  clear h hb
  go_enter Tryz.func243, Tryz.ntmps243
  go_wp2_with (go_at_call 101; refine hp.mono ?_; rintro e w1 ⟨rfl, rfl⟩)
  go_ret
  exact ⟨rfl, rfl⟩

theorem indexf_any (hn : NdH hs) (hl : hs.length ≤ 1024) (hi : ∀ x ∈ hs, I64 x.pl) (h : Sh w T k q room rd hs ch) (b : Nat) (hb : Blk w b #[.pointer (some ⟨q, 2, none⟩)] 225) (v : Value) (hv : RowI w 0 v (hs.map Hp.pl)) :
    Calls Tryz.prog 242 #[v, .func (.func 243) #[] #[.pointer (some ⟨b, 0, none⟩)]] w fun e w' => e = .returned (.int .i64 (nextI hs)) ∧ w = w' := by
  obtain ⟨p, c, e1⟩ := hv.form
  subst e1
  rw [List.length_map] at hv ⊢
  have HV := hid hv
  have HC : Hid (∀ x, x ∈ hs → Calls Tryz.prog 243 #[.int .i64 x.pl, .pointer (some ⟨b, 0, none⟩)] w fun e w' => e = .returned (.bool (decide (x.pins = 0))) ∧ w = w') := fun x hx => by
    have := asks_any x.pl (hi x hx) h b hb
    unfold pinned at this
    rw [fndH_mem hn hx] at this
    have e : (!decide (0 < x.pins)) = decide (x.pins = 0) := by
      by_cases h0 : x.pins = 0
      · simp [h0]
      · simp [h0]; omega
    simp only [e] at this
    exact this
  have HL : Hid (hs.length = hs.length) := rfl
  obtain ⟨n, hnn⟩ : ∃ n, hs.length = n := ⟨_, rfl⟩
  have HN := hid hnn
  rw [hnn] at hl ⊢
  clear hv hi h hb hnn HL hn
  go_enter Tryz.func242, Tryz.ntmps242
  go_wp2_with fail
  go_loop [8] (fun i => ∃ k : Nat, k ≤ n ∧ i = .int .i64 (k : Nat) ∧ Hid (∀ i x, i < k → hs[i]? = some x → ¬ x.pins = 0)) (fun i => n - (intOf i).toNat)
  case atStart => exact ⟨0, Nat.zero_le _, rfl, fun i x hi => by omega⟩
  case round =>
    obtain ⟨j, hj, rfl, HO⟩ := hrel
    by_cases hjn : j < n
    · have hji : (j : Int) < (n : Int) := by omega
      obtain ⟨x, hx⟩ : ∃ x, hs[j]? = some x := ⟨_, List.getElem?_eq_getElem (by rw [HN.out]; exact hjn)⟩
      have hca := HC.out x (List.mem_of_getElem? hx)
      obtain ⟨g, rfl, _, _, c1, _⟩ := HV.out.at (k := j) (x := x.pl) (by rw [List.getElem?_map, hx]; rfl)
      by_cases hz : x.pins = 0
      · rw [decide_eq_true hz] at hca
        have HE := hid (nextI_at HO.out hx hz).1
        clear hx hz
        go_wp2_with (go_at_call 243; refine hca.mono ?_; rintro e w1 ⟨rfl, rfl⟩)
        go_ret
        exact ⟨by rw [HE.out]; rfl, rfl⟩
      · rw [decide_eq_false hz] at hca
        have HO2 : Hid (∀ i y, i < j + 1 → hs[i]? = some y → ¬ y.pins = 0) := fun i y hi hy => by
          by_cases e : i = j
          · subst e
            rw [hx] at hy
            cases hy
            exact hz
          · exact HO.out i y (by omega) hy
        clear hx hz
        go_wp2_with (go_at_call 243; refine hca.mono ?_; rintro e w1 ⟨rfl, rfl⟩)
        go_round
        case rel => exact ⟨j + 1, by omega, by go_num, HO2⟩
        case measure => simp [intOf]; omega
    · obtain rfl : j = n := by omega
      have HE : Hid (nextI hs = -1) := (nextI_none (fun x hx => by
        obtain ⟨i, hi⟩ := List.mem_iff_getElem?.1 hx
        exact HO.out i x (by have := (List.getElem?_eq_some_iff.1 hi).1; rw [HN.out] at this; exact this) hi)).1
      go_wp2
      go_ret
      exact ⟨by rw [HE.out]; rfl, rfl⟩

theorem next_any (hn : NdH hs) (hl : hs.length ≤ 1024) (hi : ∀ x ∈ hs, I64 x.pl) (h : Sh w T k q room rd hs ch) :
    Calls Tryz.prog 210 #[.pointer (some ⟨q, 2, none⟩)] w fun e w' => e = .returned (.int .i64 (nextI hs)) ∧ Below w.heap.size w w' := by
  have H := hid h
  obtain ⟨_, _, cv, uv, m, hb3, _, hu, _⟩ := h
  have hlt : q < w.heap.size := hb3.lt
  obtain ⟨W, hW⟩ : ∃ W, w.alloc (.cells #[.pointer (some ⟨q, 2, none⟩)] 225) = W := ⟨_, rfl⟩
  have hbW : Below w.heap.size w W := by rw [← hW]; exact (Below.refl _ _).alloc (Nat.le_refl _) _
  have hx := indexf_any hn hl hi (H.out.on hbW) w.heap.size (by rw [← hW]; exact Blk.made _ _ _) uv (hu.on hbW)
  have c4 : W.cell? ⟨q, 4, none⟩ = some uv := (hbW.cell (p := ⟨q, 4, none⟩) hlt).trans (hb3.cell (i := 4) rfl)
  have b6 : Blk W w.heap.size #[.pointer (some ⟨q, 2, none⟩)] 225 := by rw [← hW]; exact Blk.made _ _ _
  have c60 := b6.cell (i := 0) rfl
  obtain ⟨p, c, e1⟩ := hu.form
  subst e1
  rw [List.length_map] at hx c4
  have HBW := hid hbW
  clear hb3 hu b6 hn hl hi hbW
  generalize nextI hs = z at *
  go_enter Tryz.func210, Tryz.ntmps210
  go_wp2_with fail
  clear hW c60 c4
  refine hx.mono ?_
  clear hx
  rintro e w1 ⟨rfl, rfl⟩
  go_wp2
  go_ret
  exact ⟨rfl, HBW.out⟩

theorem nextI_neg (hs : List Hp) : decide (nextI hs < 0) = (freeH hs).isNone := by
  unfold nextI
  cases freeH hs with
  | none => rfl
  | some f => simp only [Option.isNone_some]; rw [decide_eq_false]; omega

theorem full_any (hn : NdH hs) (hl : hs.length ≤ 1024) (hi : ∀ x ∈ hs, I64 x.pl) (h : Sh w T k q room rd hs ch) :
    Calls Tryz.prog 209 #[.pointer (some ⟨q, 2, none⟩)] w fun e w' => e = .returned (.bool (fullH room hs)) ∧ Below w.heap.size w w' := by
  have hnx : ∀ w1, Below w.heap.size w w1 → _ := fun w1 hb => next_any hn hl hi (h.on hb)
  obtain ⟨_, _, cv, uv, m, hb3, _, hu, _⟩ := h
  have hlt : q < w.heap.size := hb3.lt
  obtain ⟨p, c, e1⟩ := hu.form
  subst e1
  have c2 : w.cell? ⟨q, 2, none⟩ = some (.int .i64 (room : Nat)) := hb3.cell (i := 2) rfl
  have c4 : w.cell? ⟨q, 4, none⟩ = some (.slice p (hs.map Hp.pl).length c) := hb3.cell (i := 4) rfl
  rw [List.length_map] at c4
  have hz := nextI_neg hs
  clear hb3 hu hi hn
  unfold fullH
  generalize (freeH hs).isNone = y at *
  generalize nextI hs = z at *
  obtain ⟨n, hnn⟩ : ∃ n, hs.length = n := ⟨_, rfl⟩
  rw [hnn] at hl c4 ⊢
  clear hnn
  have HK : Hid (∀ w5, Below w.heap.size w w5 → w5.cell? ⟨q, 2, none⟩ = some (.int .i64 (room : Nat)) ∧ w5.cell? ⟨q, 4, none⟩ = some (.slice p n c)) := fun w5 hb => ⟨(hb.cell (p := ⟨q, 2, none⟩) hlt).trans c2, (hb.cell (p := ⟨q, 4, none⟩) hlt).trans c4⟩
  have HBd := hid ((Below.refl w.heap.size w).drew)
  have HS0 := HK.out _ HBd.out
  have HNX := hid hnx
  clear hnx
  by_cases hr : room ≤ n
  · rw [decide_eq_true hr, Bool.true_and]
    have hri : (room : Int) ≤ (n : Int) := by omega
    clear c2 c4
    go_enter Tryz.func209, Tryz.ntmps209
    go_wp2_with fail
    go_region_held3 (fun w' => w'.cell? ⟨q, 2, none⟩ = some (.int .i64 (room : Nat)) ∧ w'.cell? ⟨q, 4, none⟩ = some (.slice p n c)) (first | exact HS0 | exact HS1)
      (first | (go_at_call 210; refine (HNX.out _ HBd.out).mono ?_; clear HNX; rintro e w5 ⟨rfl, hb5⟩; have HB5 := hid (HBd.out.trans (hb5.mono HBd.out.size)); have HS1 := HK.out w5 HB5.out; clear hb5))
    go_wp2_with fail
    go_ret
    exact ⟨by rw [← hz]; rfl, HB5.out⟩
  · rw [decide_eq_false hr, Bool.false_and]
    have hri : ¬ (room : Int) ≤ (n : Int) := by omega
    have hri2 : decide (room ≤ n) = false := decide_eq_false hr
    go_enter Tryz.func209, Tryz.ntmps209
    go_wp2_with fail
    go_region
    go_wp2_with fail
    go_ret
    exact ⟨rfl, HBd.out⟩
end

end Go.Proofs.YtjcbaiohpdihoaaGreatDoor

namespace Go.Proofs.YtjcbaiohpdihoaaGreatDoor
open Go.RowKit
set_option linter.unusedVariables false
set_option linter.unusedSimpArgs false
set_option maxRecDepth 100000

theorem info3s : (Tryz.prog.info? 3).map (·.size) = some 1 := by kernel_rfl
theorem info3 : (Tryz.prog.info? 3).map (fun i => (i.zero, i.size, i.bytes)) = some (some (.int .i64 0), 1, 8) := by kernel_rfl
theorem ints_one (L : List Int) : ∀ u ∈ L.map (Value.int .i64), u.oneCell' = true := by
  intro u hu
  obtain ⟨x, _, rfl⟩ := List.mem_map.1 hu
  rfl

/-- copy(l[i:], l[i+1:]) -/
theorem run_shift {w : World} {B g n cap i : Nat} {xs : List Value} (h : w.ownsRow B 3 1 (.slice (some ⟨g, 0, none⟩) n cap) n xs) (h1 : ∀ u ∈ xs, u.oneCell' = true) (hi : i < n) :
    ∃ w2, (Builtin.copy_ #[40, 40] 3 #[.slice (some ⟨g, i, none⟩) (n - i) (cap - i), .slice (if cap = i + 1 then some ⟨g, 0, none⟩ else some ⟨g, i + 1, none⟩) (n - (i + 1)) (cap - (i + 1))]).run Tryz.prog w = .ok (goInt (n - (i + 1) : Nat)) w2 ∧ w2.ownsRow B 3 1 (.slice (some ⟨g, 0, none⟩) (n - 1) cap) (n - 1) (xs.eraseIdx i) ∧ w.grownBy w2 (some g) := by
  obtain ⟨hl, hn | ⟨g', cap', cur, hv, hB, hg, hc1, hc2, hc3, hc4⟩⟩ := h
  · cases hn.1
  cases hv
  rw [Nat.mul_one] at hl hc4
  rw [Nat.mul_one] at hc3
  have hel : (xs.eraseIdx i).length = n - 1 := by rw [List.length_eraseIdx_of_lt (by omega)]; omega
  by_cases he : i + 1 = n
  · refine ⟨w, ?_, ⟨by rw [hel]; omega, .inr ⟨g, cap, cur, rfl, hB, hg, by omega, hc2, by omega, ?_⟩⟩, ⟨rfl, rfl, rfl, Nat.le_refl _, fun _ _ _ => rfl⟩⟩
    · have e0 : n - (i + 1) = 0 := by omega
      rw [e0]
      exact run_copy_none w 40 40 3 3 _ _ _ _ _ _ Tryz.underlying40 info3s (by simp)
    · rw [Nat.mul_one, List.eraseIdx_eq_take_drop_succ, List.drop_eq_nil_of_le (by omega), List.append_nil, show n - 1 = i by omega, ← hc4, List.take_take]
      congr 1
      omega
  · rw [if_neg (by omega)]
    have hcs : (xs.drop (i + 1)).length = n - (i + 1) := by rw [List.length_drop, hl]
    have hr := run_copy_row (P := Tryz.prog) w 40 40 3 3 g i (n - i) (cap - i) ⟨g, i + 1, none⟩ (n - (i + 1)) (cap - (i + 1)) cur 3 (xs.drop (i + 1)) Tryz.underlying40 info3s hg (by rw [hcs]; exact (Nat.min_eq_left (by omega)).symm) (fun j v hj => by
      rw [add_plain, Lib.cell_of_heap hg]
      rw [List.getElem?_drop, ← hc4, List.getElem?_take] at hj
      split at hj
      · simpa using hj
      · cases hj) (by rw [hcs]; omega) (fun v hv => h1 v (List.mem_of_mem_drop hv))
    rw [hcs] at hr
    refine ⟨_, hr, ⟨by rw [hel]; omega, .inr ⟨g, cap, _, rfl, hB, setRow_heap w g _ _ 3 _ hg, by omega, hc2, ?_, ?_⟩⟩, ⟨rfl, rfl, rfl, by simp [World.setRow], fun k _ hk => setRow_other w g k _ (fun e => hk (by rw [e]))⟩⟩
    · simp only [List.size_toArray, List.length_append, List.length_take, List.length_drop, Array.length_toList]
      omega
    · rw [Nat.mul_one, List.toList_toArray, List.eraseIdx_eq_take_drop_succ]
      have e1 : cur.toList.take i = xs.take i := by rw [← hc4, List.take_take]; congr 1; omega
      rw [e1, List.take_append_of_le_length (by simp only [List.length_append, List.length_take, List.length_drop]; omega), List.take_of_length_le (by simp only [List.length_append, List.length_take, List.length_drop]; omega)]

/-- append of one number onto a row -/
theorem wpList_int {ops : Array Oper} {rest : List Oper} {o : Oper} {a : Act} {Q : Exit → Act → World → Prop} (W : World) (hgd : o.guard = none) (s x : Operand)
    (ho : o.op = .call { callee := .builtin .append, args := #[s, x], argTypes := #[40, 40] }) (v : Value) (M : List Int) (m : Nat) (hm : M.length = m) (hs : a.eval s = v) (hown : RowI W 0 v M)
    (ad : Nat) (z : Int) (hx : a.eval x = .slice (some ⟨ad, 0, none⟩) 1 1) (hc : W.cell? ⟨ad, 0, none⟩ = some (.int .i64 z)) (hlen : m ≤ 100000)
    (h : ∀ va vc w', RowI w' 0 (.slice va (m + 1) vc) (M ++ [z]) → W.grownBy w' v.ownBlock → Moved W v (.slice va (m + 1) vc) → wpList Tryz.prog ops Q rest (a.put o.dst (.slice va (m + 1) vc)) w') : wpList Tryz.prog ops Q (o :: rest) a W := by
  obtain ⟨i0, hi, hz0, hz1, hz2⟩ := info_parts info3
  subst hm
  refine wpList_append_blk W hgd s x 40 ho 0 3 i0 (.int .i64 0) 1 8 Tryz.underlying40 hi hz0 hz1 hz2 rfl (by decide) v M.length (M.map (Value.int .i64)) hs hown ⟨ad, 0, none⟩ 1 1 [.int .i64 z] hx rfl (fun j u hj => ?_) (fun u hu => by simp at hu; subst hu; rfl) (by decide) (by unfold maxLen; omega) (by omega) (Nat.zero_le _) ?_
  · match j, hj with
    | 0, hj => simp at hj; subst hj; simpa [Addr.add] using hc
  · intro v' w' hown' hgrow hmv
    obtain ⟨va, vc, hv'⟩ := own_form hown'
    subst hv'
    refine h va vc w' ?_ hgrow hmv
    unfold RowI
    rw [List.length_append, List.map_append]
    exact hown'

section
variable {w : World} {T : Nat → Prop} {k q room rd : Nat} {hs : List Hp} {ch : List Pg}

/-- the uses turned: a row and the pager's cell for it -/
theorem Su.uses {U U' : List Int} {w w' : World} (h : Su w T k q room rd U hs ch) {uv u' : Value} (hu : w.cell? ⟨q, 4, none⟩ = some uv) (hg : w.grownBy w' uv.ownBlock) (hr : RowI w' 0 u' U') (hm : Moved w uv u') :
    ∃ T', Su (w'.setCell ⟨q, 4, none⟩ u') T' k q room rd U' hs ch ∧ Grows T T' w ∧ Keep T w (w'.setCell ⟨q, 4, none⟩ u') := by
  obtain ⟨h1, h2, cv, uv', m, h3, h4, h5, h6, h7, h8, h9⟩ := h
  have e : some uv' = some uv := (h3.cell (i := 4) rfl).symm.trans hu
  cases e
  have hk : Keep (fun j => uv.ownBlock = some j) w w' := Keep.grown hg (fun j e => e)
  have b3 := hk.blk h3 (fun e => (h3.ne h5 (by decide) e) rfl)
  have k2 : Keep (fun j => j = q) w' (w'.setCell ⟨q, 4, none⟩ u') := Keep.set (S := fun j => j = q) w' rfl 4 u'
  have r4 := hk.row h4 (fun g e e2 => rows_ne h4 h5 (by decide) e e2)
  have m6 := hk.imap h6 (fun e => h6.ne_row h5 e rfl)
  have hsz : (w'.setCell ⟨q, 4, none⟩ u').heap.size = w'.heap.size := by simp [World.setCell]
  refine ⟨fun j => T j ∨ (u'.ownBlock = some j ∧ w.heap.size ≤ j), ⟨fun j hj => ?_, .inl h2, cv, u', m, b3.set 4 u', k2.row r4 (fun g e => b3.ne r4 (by decide) e), k2.row hr (fun g e => b3.ne hr (by decide) e), k2.imap m6 (fun e => (m6.ne_blk b3) e.symm), fun g e => .inl (h7 g e), fun g e => ?_, .inl h9⟩, fun j hj => ?_, ?_⟩
  · rw [hsz]
    rcases hj with hj | ⟨hj, _⟩
    · exact Nat.lt_of_lt_of_le (h1 j hj) hg.size
    · exact (World.ownsRow.lt hr j hj).2
  · rcases hm g e with e1 | e1
    · exact .inl (h8 g e1)
    · exact .inr ⟨e, e1⟩
  · rcases hj with hj | hj
    · exact .inl hj
    · exact .inr hj.2
  · exact (hk.mono (fun j _ e => h8 j e)).trans (k2.mono (fun j _ e => by subst e; exact h2)) (fun _ _ h => h)

theorem scut_any {A B : List Hp} {x : Hp} (hx : I64 x.pl) (hn : NdH (A ++ x :: B)) (hl : (A ++ x :: B).length ≤ 1024) (h : Sh w T k q room rd (A ++ x :: B) ch) :
    Calls Tryz.prog 158 #[.pointer (some ⟨q, 2, none⟩), .int .i64 x.pl] w fun e w' => e = .returned (.tuple #[]) ∧ ∃ T', Su w' T' k q room rd ((A ++ B).map Hp.pl) (A ++ x :: B) ch ∧ Grows T T' w ∧ Keep T w w' := by
  have H := hid h
  obtain ⟨_, _, cv, uv, m, hb3, _, hu, _⟩ := h
  have hix := index_any w 0 uv (A.map Hp.pl) (B.map Hp.pl) x.pl (by simpa using hu) (by simpa using hl) (fun y hy => by
    obtain ⟨z, hz, rfl⟩ := List.mem_map.1 hy
    exact hn.split.1 z hz)
  rw [List.length_map] at hix
  obtain ⟨g, cap, e1, hc1, hc2, _, hgl⟩ := own_some hu (by simp; omega)
  subst e1
  have hlen : ((A ++ x :: B).map Hp.pl).length = A.length + 1 + B.length := by simp; omega
  unfold RowI at hu
  rw [hlen] at hu hix hc1
  have hl2 : A.length + 1 + B.length ≤ 1024 := by rw [← hlen, List.length_map]; exact hl
  have hub : ¬ g = q := hb3.ne hu (by decide) rfl
  have c4 : w.cell? ⟨q, 4, none⟩ = some (.slice (some ⟨g, 0, none⟩) (A.length + 1 + B.length) cap) := by rw [← hlen]; exact hb3.cell (i := 4) rfl
  have f4 := hb3.free 4
  have hqs := hb3.lt
  have hu2 : w.drew.ownsRow 0 3 1 (.slice (some ⟨g, 0, none⟩) (A.length + 1 + B.length) cap) (A.length + 1 + B.length) (((A ++ x :: B).map Hp.pl).map (Value.int .i64)) := own_below hu ((Below.refl _ _).drew)
  obtain ⟨w2, hcp, hr2, hg2⟩ := run_shift (i := A.length) hu2 (ints_one _) (by omega)
  have b2 := (show Blk w.drew q _ _ from hb3).kept hg2 (fun e => hub (Option.some.inj e).symm)
  have c42 : w2.drew.cell? ⟨q, 4, none⟩ = some (.slice (some ⟨g, 0, none⟩) (A.length + 1 + B.length) cap) := by
    rw [← hlen]
    exact (show Blk w2.drew q _ _ from b2).cell (i := 4) rfl
  have f42 : w2.drew.frozen? ⟨q, 4, none⟩ = false := (show Blk w2.drew q _ _ from b2).free 4
  have HF : Hid (∃ T', Su (w2.drew.setCell ⟨q, 4, none⟩ (.slice (some ⟨g, 0, none⟩) (A.length + 1 + B.length - 1) cap)) T' k q room rd ((A ++ B).map Hp.pl) (A ++ x :: B) ch ∧ Grows T T' w ∧ Keep T w (w2.drew.setCell ⟨q, 4, none⟩ (.slice (some ⟨g, 0, none⟩) (A.length + 1 + B.length - 1) cap))) := by
    have hs1 : Su w.drew T k q room rd ((A ++ x :: B).map Hp.pl) (A ++ x :: B) ch := Su.on H.out ((Below.refl _ _).drew)
    have hgd : w.drew.grownBy w2.drew (some g) := ⟨hg2.os, hg2.tape, hg2.output, hg2.size, hg2.block⟩
    have e2 : ((A ++ B).map Hp.pl).length = A.length + 1 + B.length - 1 := by rw [List.length_map, List.length_append]; omega
    have e3 : (((A ++ x :: B).map Hp.pl).map (Value.int .i64)).eraseIdx A.length = ((A ++ B).map Hp.pl).map (Value.int .i64) := by
      simp [List.eraseIdx_append_of_length_le]
    have hrow : RowI w2.drew 0 (.slice (some ⟨g, 0, none⟩) (A.length + 1 + B.length - 1) cap) ((A ++ B).map Hp.pl) := by
      unfold RowI
      rw [e2, ← e3]
      exact own_below hr2 ((Below.refl _ _).drew)
    obtain ⟨T', t1, t2, t3⟩ := hs1.uses (U' := (A ++ B).map Hp.pl) (u' := .slice (some ⟨g, 0, none⟩) (A.length + 1 + B.length - 1) cap) (w' := w2.drew) (uv := .slice (some ⟨g, 0, none⟩) (A.length + 1 + B.length) cap) (show w.cell? _ = _ from c4) hgd hrow (fun j e => .inl e)
    exact ⟨T', t1, t2, (Keep.drew T w).trans t3 (fun _ _ h => h)⟩
  clear hu hu2 hr2 hg2 b2 hb3 hl hn hlen
  obtain ⟨n, hnn⟩ : ∃ n, A.length + 1 + B.length = n := ⟨_, rfl⟩
  obtain ⟨i, hii⟩ : ∃ i, A.length = i := ⟨_, rfl⟩
  have hin : i < n := by omega
  rw [hnn] at hix c4 c42 hcp HF hc1 hl2
  rw [hii] at hcp hix
  clear hnn hii
  unfold maxLen at hc2
  by_cases hcap : cap = i + 1
  · rw [if_pos hcap] at hcp
    subst hcap
    obtain rfl : n = i + 1 := by omega
    rw [show i + 1 - i = 1 by omega, show i + 1 - (i + 1) = 0 by omega] at hcp
    go_enter Tryz.func158, Tryz.ntmps158
    go_wp2_with (first | (go_at_call 221; refine hix.mono ?_; clear hix; rintro e w1 ⟨rfl, rfl⟩))
    go_region
    clear c4 f4 hcp
    go_wp2_with fail
    go_region
    go_end0
    exact ⟨rfl, HF.out⟩
  · rw [if_neg hcap] at hcp
    go_enter Tryz.func158, Tryz.ntmps158
    go_wp2_with (first | (go_at_call 221; refine hix.mono ?_; clear hix; rintro e w1 ⟨rfl, rfl⟩))
    go_region
    clear c4 f4 hcp
    go_wp2_with fail
    go_region
    go_end0
    exact ⟨rfl, HF.out⟩
end

theorem fndH_move {A B : List Hp} {x : Hp} (n : NdH (A ++ x :: B)) (c : Int) : fndH (A ++ B ++ [x]) c = fndH (A ++ x :: B) c := by
  obtain ⟨h1, h2, _⟩ := n.split
  unfold fndH
  simp only [List.find?_append, List.find?_cons, List.find?_nil]
  by_cases e : x.pl = c
  · subst e
    rw [List.find?_eq_none.2 (by simpa using h1), List.find?_eq_none.2 (by simpa using h2)]
    simp
  · simp [e]
theorem fndH_del {A B : List Hp} {x : Hp} (n : NdH (A ++ x :: B)) (c : Int) : fndH (A ++ B) c = if c = x.pl then none else fndH (A ++ x :: B) c := by
  obtain ⟨h1, h2, _⟩ := n.split
  unfold fndH
  simp only [List.find?_append, List.find?_cons, List.find?_nil]
  by_cases e : c = x.pl
  · subst e
    rw [List.find?_eq_none.2 (by simpa using h1), List.find?_eq_none.2 (by simpa using h2)]
    simp
  · simp [e, Ne.symm e, show ¬ x.pl = c from fun h => e h.symm]
theorem hmap_snoc {hs : List Hp} {a : Int} (s : ByteArray) (e : fndH hs a = none) (c : Int) : hmap (hs ++ [⟨a, 0, s⟩]) c = if c = a then some (.agg #[.string s, .int .i64 0]) else hmap hs c := by
  unfold hmap fndH at *
  rw [List.find?_append]
  by_cases h : c = a
  · subst h
    rw [e]
    simp [hv]
  · rw [if_neg h]
    simp [show ¬ a = c from fun h2 => h h2.symm]

section
variable {w : World} {T : Nat → Prop} {k q room rd : Nat} {hs : List Hp} {ch : List Pg} {U : List Int}

theorem Su.read (h : Su w T k q room rd U hs ch) : ∃ a c, w.cell? ⟨q, 4, none⟩ = some (.slice a U.length c) ∧ RowI w 0 (.slice a U.length c) U ∧ w.frozen? ⟨q, 4, none⟩ = false ∧ q < w.heap.size := by
  obtain ⟨_, _, cv, uv, m, hb3, _, hu, _⟩ := h
  obtain ⟨a, c, e1⟩ := hu.form
  subst e1
  exact ⟨a, c, hb3.cell (i := 4) rfl, hu, hb3.free 4, hb3.lt⟩
theorem Su.map (h : Su w T k q room rd U hs ch) : ∃ m, w.cell? ⟨q, 3, none⟩ = some (.map (some m)) ∧ IMap w m hs.length (hmap hs) := by
  obtain ⟨_, _, cv, uv, m, hb3, _, hu, hm, _⟩ := h
  exact ⟨m, hb3.cell (i := 3) rfl, hm⟩
/-- other held pages, alike by number -/
theorem Su.alike (h : Su w T k q room rd U hs ch) {hs' : List Hp} (hl : hs'.length = hs.length) (he : ∀ c, fndH hs' c = fndH hs c) : Su w T k q room rd U hs' ch := by
  obtain ⟨h1, h2, cv, uv, m, h3, h4, h5, h6, h7⟩ := h
  refine ⟨h1, h2, cv, uv, m, h3, h4, h5, ?_, h7⟩
  rw [hl]
  exact h6.ext (fun c => by unfold hmap; rw [he])
theorem Su.put {w' : World} (h : Su w T k q room rd U hs ch) {hs' : List Hp} (m : Nat) (hq : w.cell? ⟨q, 3, none⟩ = some (.map (some m))) (hm : IMap w' m hs'.length (hmap hs')) (hg : w.grownBy w' (some m)) : Su w' T k q room rd U hs' ch ∧ Keep T w w' := by
  obtain ⟨h1, h2, cv, uv, m', h3, h4, h5, h6, h7, h8, h9⟩ := h
  have e : some (Value.map (some m')) = some (.map (some m)) := (h3.cell (i := 3) rfl).symm.trans hq
  cases e
  have hk : Keep (fun j => j = m) w w' := Keep.grown hg (fun j e => (Option.some.inj e).symm)
  exact ⟨⟨fun j hj => Nat.lt_of_lt_of_le (h1 j hj) hg.size, h2, cv, uv, m, hk.blk h3 (h6.ne_blk h3), hk.row h4 (fun g e => h6.ne_row h4 e), hk.row h5 (fun g e => h6.ne_row h5 e), hm, h7, h8, h9⟩, Keep.grown hg (fun j e => by cases e; exact h9)⟩
theorem Su.lt (h : Su w T k q room rd U hs ch) : ∀ j, T j → j < w.heap.size := h.1

/-- append(s.uses, z), ahead of its store -/
theorem wpList_uses {ops : Array Oper} {rest : List Oper} {o : Oper} {a : Act} {Q : Exit → Act → World → Prop} (h : Su w T k q room rd U hs ch) (hgd : o.guard = none) (s x : Operand)
    (ho : o.op = .call { callee := .builtin .append, args := #[s, x], argTypes := #[40, 40] }) (z : Int) (m : Nat) (hm : U.length = m) (hlen : m ≤ 100000) (va : Option Addr) (vc : Nat) (hu : w.cell? ⟨q, 4, none⟩ = some (.slice va m vc))
    (hs' : a.eval s = .slice va m vc) (hx : a.eval x = .slice (some ⟨w.heap.size, 0, none⟩) 1 1)
    (hK : ∀ ua uc w', w'.cell? ⟨q, 4, none⟩ = some (.slice va m vc) → w'.frozen? ⟨q, 4, none⟩ = false → Hid (∃ T', Su (w'.setCell ⟨q, 4, none⟩ (.slice ua (m + 1) uc)) T' k q room rd (U ++ [z]) hs ch ∧ Grows T T' w ∧ Keep T w (w'.setCell ⟨q, 4, none⟩ (.slice ua (m + 1) uc))) → wpList Tryz.prog ops Q rest (a.put o.dst (.slice ua (m + 1) uc)) w') :
    wpList Tryz.prog ops Q (o :: rest) a (w.alloc (.cells #[.int .i64 z] 3)) := by
  have hb : Below w.heap.size w (w.alloc (.cells #[.int .i64 z] 3)) := (Below.refl _ _).alloc (Nat.le_refl _) _
  have h2 := h.on hb
  have hr : RowI (w.alloc (.cells #[.int .i64 z] 3)) 0 (.slice va m vc) U := by
    obtain ⟨_, _, cv, uv, m', hb3, _, hu', _⟩ := h
    have e : some uv = some (.slice va m vc) := (hb3.cell (i := 4) rfl).symm.trans hu
    cases e
    exact hu'.on hb
  have hlt : q < w.heap.size := by obtain ⟨_, _, _, _, _, hb3, _⟩ := h; exact hb3.lt
  have hu2 := (hb.cell (p := ⟨q, 4, none⟩) hlt).trans hu
  refine wpList_int _ hgd s x ho _ U m hm hs' hr w.heap.size z hx ((Blk.made w #[.int .i64 z] 3).cell (i := 0) rfl) hlen (fun ua uc w' r1 r2 r3 => ?_)
  obtain ⟨T', t1, t2, t3⟩ := h2.uses hu2 r2 r1 r3
  have b3 : ∃ cs, Blk w' q cs 157 ∧ cs[4]? = some (.slice va m vc) := by
    obtain ⟨_, _, cv, uv, m', hb3, _, hu', _⟩ := h2
    have e : some uv = some (.slice va m vc) := (hb3.cell (i := 4) rfl).symm.trans hu2
    cases e
    exact ⟨_, hb3.kept r2 (fun e => (hb3.ne hu' (by decide) e.symm) rfl), rfl⟩
  obtain ⟨cs, b3, b4⟩ := b3
  refine hK ua uc w' (b3.cell b4) (b3.free 4) ⟨T', t1, fun j hj => ?_, (Keep.of_below (S := T) hb).trans t3 (fun _ _ h => h)⟩
  rcases t2 j hj with t | t
  · exact .inl t
  · exact .inr (Nat.le_trans hb.size t)

theorem use_any {A B : List Hp} {x : Hp} (hx : I64 x.pl) (hn : NdH (A ++ x :: B)) (hl : (A ++ x :: B).length ≤ 1024) (h : Sh w T k q room rd (A ++ x :: B) ch) :
    Calls Tryz.prog 143 #[.pointer (some ⟨q, 2, none⟩), .int .i64 x.pl] w fun e w' => e = .returned (.tuple #[]) ∧ Sm w T k q room rd (A ++ B ++ [x]) ch w' := by
  have hcut := scut_any hx hn hl h
  have HN := hid hn
  have hl2 : ((A ++ B).map Hp.pl).length ≤ 1024 := by simp at hl ⊢; omega
  have HF : Hid (∀ (w1 w2 : World) (T1 T2 : Nat → Prop), Grows T T1 w → Keep T w w1 → Su w2 T2 k q room rd ((A ++ B).map Hp.pl ++ [x.pl]) (A ++ x :: B) ch → Grows T1 T2 w1 → Keep T1 w1 w2 → Sm w T k q room rd (A ++ B ++ [x]) ch w2) := fun w1 w2 T1 T2 g1 k1 s2 g2 k2 => by
    refine Sm.trans (room := room) (rd := rd) (hs := A ++ x :: B) (ch := ch) g1 k1 ⟨⟨T2, ?_, g2⟩, k2⟩
    have := s2.alike (hs' := A ++ B ++ [x]) (by simp) (fndH_move HN.out)
    unfold Sh
    simpa using this
  clear h hn hl
  generalize (A ++ B).map Hp.pl = V at *
  generalize A ++ x :: B = L at *
  obtain ⟨n, hnn⟩ : ∃ n, V.length = n := ⟨_, rfl⟩
  have HV := hid hnn
  rw [hnn] at hl2
  clear hnn
  go_enter Tryz.func143, Tryz.ntmps143
  go_wp2_with (first
    | (go_at_call 158; refine hcut.mono ?_; clear hcut; rintro e w1 ⟨rfl, T1, hs1, hg1, hk1⟩; have HS1 := hid hs1; have HG1 := hid hg1; have HK1 := hid hk1; obtain ⟨va, vc, c4, _, f4, hlt⟩ := hs1.read; rw [HV.out] at c4; clear hs1 hg1 hk1)
    | (at_builtin; refine wpList_uses HS1.out rfl (.tmp 11) (.tmp 13) rfl x.pl n HV.out (by omega) va vc c4 rfl rfl ?_; clear c4 f4; intro ua uc w2 c4 f4 hs2; have HS2 := hs2; clear hs2))
  go_end0
  obtain ⟨T2, s2, g2, k2⟩ := HS2.out
  exact ⟨rfl, HF.out _ _ _ _ HG1.out HK1.out s2 g2 k2⟩

/-- a page goes -/
theorem drop_any {A B : List Hp} {x : Hp} (hx : I64 x.pl) (hn : NdH (A ++ x :: B)) (hl : (A ++ x :: B).length ≤ 1024) (h : Sh w T k q room rd (A ++ x :: B) ch) :
    Calls Tryz.prog 102 #[.pointer (some ⟨q, 2, none⟩), .int .i64 x.pl] w fun e w' => e = .returned (.tuple #[]) ∧ Sm w T k q room rd (A ++ B) ch w' := by
  have hfx : fndH (A ++ x :: B) x.pl = some x := fndH_mem hn (by simp)
  have hhas := has_any x.pl hx h
  rw [hfx] at hhas
  have HC : Hid (∀ w1, Below w.heap.size w w1 → Calls Tryz.prog 158 #[.pointer (some ⟨q, 2, none⟩), .int .i64 x.pl] w1 fun e w' => e = .returned (.tuple #[]) ∧ ∃ T', Su w' T' k q room rd ((A ++ B).map Hp.pl) (A ++ x :: B) ch ∧ Grows T T' w1 ∧ Keep T w1 w') := fun w1 hb => scut_any hx hn hl (h.on hb)
  have HF : Hid (∀ (w1 w2 w3 : World) (T2 : Nat → Prop) (m : Nat), Below w.heap.size w w1 → Su w2 T2 k q room rd ((A ++ B).map Hp.pl) (A ++ x :: B) ch → Grows T T2 w1 → Keep T w1 w2 → w2.cell? ⟨q, 3, none⟩ = some (.map (some m)) → IMap w3 m ((A ++ x :: B).length - 1) (fun s => if s = x.pl then none else hmap (A ++ x :: B) s) → w2.grownBy w3 (some m) → Sm w T k q room rd (A ++ B) ch w3) := fun w1 w2 w3 T2 m b1 s2 g2 k2 c2 m3 g3 => by
    have e1 : (A ++ x :: B).length - 1 = (A ++ B).length := by simp
    rw [e1] at m3
    obtain ⟨s3, k3⟩ := s2.put (hs' := A ++ B) m c2 (m3.ext (fun c => by
      unfold hmap
      rw [fndH_del hn]
      split <;> rfl)) g3
    have g1 : Grows T T2 w := fun j hj => by
      rcases g2 j hj with t | t
      · exact .inl t
      · exact .inr (Nat.le_trans b1.size t)
    exact Sm.trans (room := room) (rd := rd) (hs := A ++ x :: B) (ch := ch) g1 ((Keep.of_below (S := T) b1).trans k2 (fun _ _ h => h)) ⟨⟨T2, s3, Grows.refl _ _⟩, k3⟩
  have hsm : (hmap (A ++ x :: B) x.pl).isSome = true := by unfold hmap; rw [hfx]; rfl
  clear h hn hl hfx
  generalize (A ++ B).map Hp.pl = V at *
  generalize A ++ x :: B = L at *
  go_enter Tryz.func102, Tryz.ntmps102
  go_wp2_with (first
    | (go_at_call 157; refine hhas.mono ?_; clear hhas; rintro e w1 ⟨rfl, hb1⟩; have HB1 := hid hb1; clear hb1)
    | (go_at_call 158; refine (HC.out _ HB1.out).mono ?_; clear HC; rintro e w2 ⟨rfl, T2, hs2, hg2, hk2⟩; have HS2 := hid hs2; have HG2 := hid hg2; have HK2 := hid hk2; obtain ⟨m, c3, hm⟩ := hs2.map; have HM := hid hm; have HC3 := hid c3; clear hs2 hg2 hk2 hm)
    | (at_delete; refine wpList_del _ rfl _ _ rfl m _ _ rfl HM.out x.pl rfl hx hsm ?_; clear c3; intro w3 hm3 hg3; have HM3 := hid hm3; have HG3 := hid hg3; clear hm3 hg3))
  go_end0
  exact ⟨rfl, HF.out _ _ _ _ _ HB1.out HS2.out HG2.out HK2.out HC3.out HM3.out HG3.out⟩
theorem drop_none (a : Int) (ha : I64 a) (hf : fndH hs a = none) (h : Sh w T k q room rd hs ch) :
    Calls Tryz.prog 102 #[.pointer (some ⟨q, 2, none⟩), .int .i64 a] w fun e w' => e = .returned (.tuple #[]) ∧ Sm w T k q room rd hs ch w' := by
  have hhas := has_any a ha h
  rw [hf] at hhas
  have H := hid h
  clear h
  go_enter Tryz.func102, Tryz.ntmps102
  go_wp2_with (first
    | (go_at_call 157; refine hhas.mono ?_; clear hhas; rintro e w1 ⟨rfl, hb1⟩; have HB1 := hid hb1; clear hb1))
  go_end0
  exact ⟨rfl, (Sm.refl H.out).on HB1.out⟩
end

end Go.Proofs.YtjcbaiohpdihoaaGreatDoor
