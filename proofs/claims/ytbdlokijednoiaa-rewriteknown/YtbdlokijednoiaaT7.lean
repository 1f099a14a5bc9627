/-
  What slices.Reverse does to a row of ops of the call's own; what the program's toDo answers.
-/
import Derived.Test.YtbdlokijednoiaaI7
import Derived.Test.YtbdlokijednoiaaRFit
import Derived.Test.YtbdlokijednoiaaReg7
namespace Go.Proofs.Ytbdlokijednoiaa
open Go.RowKit
set_option linter.unusedVariables false
set_option linter.unusedSimpArgs false
set_option maxRecDepth 100000

/-- binds, as they lie in memory, each value wherever V says -/
def LiesBV (V : Value → List Cl → Prop) (w : World) (v : Value) (l : List Bd) : Prop :=
  ∃ a cap, v = .slice a l.length cap ∧ l.length ≤ cap ∧ cap ≤ maxLen ∧ ∀ (i : Nat) b, l[i]? = some b → ∃ g off x, a = some ⟨g, off, none⟩ ∧ g < w.heap.size ∧ w.cell? ⟨g, off + i * 2, none⟩ = some (.string b.nm) ∧ w.cell? ⟨g, off + i * 2 + 1, none⟩ = some x ∧ (∃ xa n xc, x = .slice xa n xc) ∧ V x b.val
theorem LiesBV.of {V : Value → List Cl → Prop} {w : World} {B : Nat} {v : Value} {l : List Bd} (h : OwnsB w B v l) (hV : ∀ x m, Owns w B x m → (∃ b ∈ l, m = b.val) → V x m) : LiesBV V w v l := by
  obtain ⟨ps, h0, h1, h2⟩ := h
  obtain ⟨a, cap, hv, c1, c2, c3⟩ := own_cells h1
  refine ⟨a, cap, hv, c1, c2, fun j b hj => ?_⟩
  obtain ⟨x, hx, ho⟩ := h2 j b hj
  obtain ⟨g, ha, _, hlt, hc⟩ := c3 (j * 2) (.string b.nm) (by rw [flatP_even, hx]; rfl)
  obtain ⟨g', ha', _, _, hc'⟩ := c3 (j * 2 + 1) x (by rw [flatP_odd, hx]; rfl)
  have e : g' = g := by rw [ha] at ha'; cases ha'; rfl
  subst e
  obtain ⟨xa, xc, hxv, _⟩ := own_cells ho
  exact ⟨g', 0, x, ha, hlt, by rw [Nat.zero_add]; exact hc, by rw [Nat.zero_add]; exact hc', ⟨xa, _, xc, hxv⟩, hV x _ ho ⟨b, List.mem_of_getElem? hj, rfl⟩⟩
theorem look_take_none {l : List Bd} {k : Nat} {b : Bd} {nm : ByteArray} (h : look (l.take k) nm = none) (hk : l[k]? = some b) : (b.nm = nm → look l nm = some b.val) ∧ (b.nm ≠ nm → look (l.take (k + 1)) nm = none) := by
  have ht : l.take (k + 1) = l.take k ++ [b] := by rw [List.take_add_one, hk]; rfl
  constructor
  · intro e
    have hl : l = l.take (k + 1) ++ l.drop (k + 1) := (List.take_append_drop _ _).symm
    rw [hl, look_append, ht, look_append, h]
    simp [look, e]
  · intro e
    rw [ht, look_append, h]
    simp [look, e]

set_option maxHeartbeats 2000000 in
theorem opOf_any (V : Value → List Cl → Prop) (w : World) (c : Cl) (bv : Value) (bs : List Bd) (hb : LiesBV V w bv bs) (h0 : V (.slice none 0 0) []) :
    Calls Try.prog 64 #[.agg #[.string c.nm, .int .i64 c.ar], bv] w fun e w' => (∃ x, e = .returned (.agg #[.int .i64 (opC bs c).k, .string (opC bs c).c.nm, .int .i64 (opC bs c).c.ar, x]) ∧ (∃ xa n xc, x = .slice xa n xc) ∧ V x (opC bs c).v) ∧ Below w.heap.size w w' := by
  obtain ⟨cnm, car⟩ := c
  have HB : Hid (LiesBV V w bv bs) := hb
  have H0 : Hid (V (.slice none 0 0) []) := h0
  obtain ⟨ba, bc, rfl, hl1, hl2, _⟩ := hb
  have hlm : bs.length ≤ 9223372036854775807 := by unfold maxLen at hl2; omega
  obtain ⟨R, hR⟩ : ∃ R, opC bs ⟨cnm, car⟩ = R := ⟨_, rfl⟩
  have HR : Hid (opC bs ⟨cnm, car⟩ = R) := hR
  rw [hR]
  clear hR h0
  have HX : Hid (Blk ((w.alloc (.cells #[.string cnm, .int .i64 car] 49)).alloc (.cells #[.int .i64 0, .string ⟨#[]⟩, .int .i64 0, .slice none 0 0] 51)) w.heap.size #[.string cnm, .int .i64 car] 49) := (Blk.made w _ _).alloc _
  have HY : Hid (Blk ((w.alloc (.cells #[.string cnm, .int .i64 car] 49)).alloc (.cells #[.int .i64 0, .string ⟨#[]⟩, .int .i64 0, .slice none 0 0] 51)) (w.heap.size + 1) #[.int .i64 0, .string ⟨#[]⟩, .int .i64 0, .slice none 0 0] 51) := Blk.madeAt _ _ _ (by simp)
  have HL : Hid (Below w.heap.size w ((w.alloc (.cells #[.string cnm, .int .i64 car] 49)).alloc (.cells #[.int .i64 0, .string ⟨#[]⟩, .int .i64 0, .slice none 0 0] 51))) := ((Below.refl _ w).alloc (Nat.le_refl _) _).alloc (by simp) _
  go_enter Try.func64, Try.ntmps64
  go_wp2_with fail
  generalize (w.alloc (.cells #[.string cnm, .int .i64 car] 49)).alloc (.cells #[.int .i64 0, .string ⟨#[]⟩, .int .i64 0, .slice none 0 0] 51) = w1 at HX HY HL ⊢
  go_loopw [9] (fun i wr => ∃ k : Nat, k ≤ bs.length ∧ i = .int .i64 (k : Nat) ∧ Hid (look (bs.take k) cnm = none) ∧ Blk wr w.heap.size #[.string cnm, .int .i64 car] 49 ∧ Blk wr (w.heap.size + 1) #[.int .i64 0, .string ⟨#[]⟩, .int .i64 0, .slice none 0 0] 51 ∧ Below w.heap.size w wr) (fun i _ => bs.length - (intOf i).toNat)
  case atStart => exact ⟨0, Nat.zero_le _, rfl, rfl, HX.out, HY.out, HL.out⟩
  case round =>
    obtain ⟨k, hk, rfl, HK, hX, hY, hL⟩ := hrel
    clear HX HY HL
    have x0 := hX.cell (i := 0) rfl
    have x1 := hX.cell (i := 1) rfl
    have hXl := hX.lt
    have hYl := hY.lt
    by_cases hlt : k < bs.length
    · obtain ⟨b, hbk⟩ : ∃ b, bs[k]? = some b := ⟨bs[k], List.getElem?_eq_getElem hlt⟩
      obtain ⟨g, off, x, hba, hgl, c1, c2, ⟨xa, xn, xc, hxv⟩, hVx⟩ : ∃ g off x, ba = some ⟨g, off, none⟩ ∧ g < w.heap.size ∧ w.cell? ⟨g, off + k * 2, none⟩ = some (.string b.nm) ∧ w.cell? ⟨g, off + k * 2 + 1, none⟩ = some x ∧ (∃ xa n xc, x = .slice xa n xc) ∧ V x b.val := by
        obtain ⟨a', c', hv', _, _, HC'⟩ := HB.out
        cases hv'
        exact HC' k b hbk
      subst hba
      subst hxv
      have d1 := (hL.cell (p := ⟨g, off + k * 2, none⟩) hgl).trans c1
      have d2 := (hL.cell (p := ⟨g, off + k * 2 + 1, none⟩) hgl).trans c2
      have hki : (k : Int) < (bs.length : Int) := by omega
      obtain ⟨q1, q2⟩ := look_take_none HK.out hbk
      have HVX : Hid (V (.slice xa xn xc) b.val) := hVx
      obtain ⟨bnm, bval⟩ := b
      simp only at d1 d2 q1 q2
      have HXA : Hid (∀ o, Blk (wr.alloc o) w.heap.size #[.string cnm, .int .i64 car] 49) := fun o => hX.alloc o
      have HYA : Hid (∀ o, Blk (wr.alloc o) (w.heap.size + 1) #[.int .i64 0, .string ⟨#[]⟩, .int .i64 0, .slice none 0 0] 51) := fun o => hY.alloc o
      have HLA : Hid (∀ o, Below w.heap.size w (wr.alloc o)) := fun o => hL.alloc hL.size o
      have y1 := hY.cell (i := 0) rfl
      have y2 := hY.cell (i := 1) rfl
      have y3 := hY.cell (i := 2) rfl
      have y4 := hY.cell (i := 3) rfl
      have f0 := hY.free 0
      have f1 := hY.free 1
      have f2 := hY.free 2
      have f3 := hY.free 3
      have HL2 : Hid (Below w.heap.size w wr) := hL
      clear c1 c2 hbk HK hX hL
      by_cases he : bnm = cnm
      · have HRE : Hid (R = ⟨2, noCl, bval⟩) := by show _ = _; rw [← HR.out, opC_some (q1 he)]
        subst he
        have hst : (bnm.toList == bnm.toList) = true := by simp
        clear q1 q2
        go_wp2_with fail
        obtain ⟨hD, hg⟩ := set4 hY (.int .i64 2) (.string ⟨#[]⟩) (.int .i64 0) (.slice xa xn xc)
        have hbw := ((HL2.out.grown hg HL2.out.size (fun k hk => by cases hk; omega)).alloc (by have := HL2.out.size; have := hg.size; omega) (.cells #[.string bnm, .slice xa xn xc] 117))
        have hD2 := hD.alloc (.cells #[.string bnm, .slice xa xn xc] 117)
        have e0 := hD2.cell (i := 0) rfl
        have e1 := hD2.cell (i := 1) rfl
        have e2 := hD2.cell (i := 2) rfl
        have e3 := hD2.cell (i := 3) rfl
        try simp only [Exit.inBlock, Exit.then]
        refine bodyPost_ret (v := .agg #[.int .i64 2, .string ⟨#[]⟩, .int .i64 0, .slice xa xn xc]) (by simp [results, Try.results64, go_sem, e0, e1, e2, e3]) rfl ⟨⟨.slice xa xn xc, ?_, ⟨_, _, _, rfl⟩, ?_⟩, hbw⟩
        · rw [HRE.out] <;> rfl
        · rw [HRE.out]; exact HVX.out
      · have HK2 : Hid (look (bs.take (k + 1)) cnm = none) := q2 he
        have hst := bytes_ne he
        have hst2 : ¬ bnm.toList = cnm.toList := by simpa using hst
        clear q1 q2 he
        go_wp2_with fail
        go_roundw
        case rel => exact ⟨k + 1, by omega, by go_num, HK2, HXA.out _, HYA.out _, HLA.out _⟩
        case measure => simp [intOf]; omega
    · have hki : ¬ (k : Int) < (bs.length : Int) := by omega
      have HRE : Hid (R = ⟨1, ⟨cnm, car⟩, []⟩) := by
        show _ = _
        rw [← HR.out, opC_none]
        have := HK.out
        rwa [List.take_of_length_le (by omega)] at this
      have f0 := hY.free 0
      have f1 := hY.free 1
      have f2 := hY.free 2
      have f3 := hY.free 3
      have y1 := hY.cell (i := 0) rfl
      have y2 := hY.cell (i := 1) rfl
      have y3 := hY.cell (i := 2) rfl
      have y4 := hY.cell (i := 3) rfl
      clear HK
      go_wp2_with fail
      obtain ⟨hD, hg⟩ := set4 hY (.int .i64 1) (.string cnm) (.int .i64 car) (.slice none 0 0)
      have e0 := hD.cell (i := 0) rfl
      have e1 := hD.cell (i := 1) rfl
      have e2 := hD.cell (i := 2) rfl
      have e3 := hD.cell (i := 3) rfl
      have hbw := hL.grown hg hL.size (fun k hk => by cases hk; omega)
      try simp only [Exit.inBlock, Exit.then]
      refine bodyPost_ret (v := .agg #[.int .i64 1, .string cnm, .int .i64 car, .slice none 0 0]) (by simp [results, Try.results64, go_sem, e0, e1, e2, e3]) rfl ⟨⟨.slice none 0 0, ?_, ⟨_, _, _, rfl⟩, ?_⟩, hbw⟩
      · rw [HRE.out] <;> rfl
      · rw [HRE.out]; exact H0.out

/-- old memory below B, and all blocks that hold no ops, are as they were -/
structure KO (B : Nat) (w w' : World) : Prop where
  low : Below B w w'
  keep : ∀ (k : Nat) (cur : Array Value) (t : TypeId), w.heap[k]? = some (.cells cur t (0, 0)) → t ≠ 51 → w'.heap[k]? = some (.cells cur t (0, 0))
theorem KO.refl (B : Nat) (w : World) : KO B w w := ⟨Below.refl _ _, fun _ _ _ h _ => h⟩
theorem KO.trans {B : Nat} {a b c : World} (h : KO B a b) (k : KO B b c) : KO B a c := ⟨h.low.trans k.low, fun i cur t h1 h2 => k.keep i cur t (h.keep i cur t h1 h2) h2⟩
theorem KO.of {B : Nat} {w w' : World} (h : Below w.heap.size w w') (hB : B ≤ w.heap.size) : KO B w w' :=
  ⟨h.mono hB, fun k cur t h1 _ => (h.block k (Array.getElem?_eq_some_iff.1 h1).1).trans h1⟩
theorem KO.k7 {B : Nat} {w w' : World} (h : KO B w w') : K7 B w w' := ⟨h.low, fun k cur t h1 h2 => h.keep k cur t h1 (by rcases h2 with rfl | rfl <;> decide)⟩
theorem KO.row {B : Nat} {w w' : World} {size : Nat} {v : Value} {n : Nat} {xs : List Value} (h : w.ownsRow B 51 size v n xs) (hB : B ≤ w.heap.size) (hg : w.grownBy w' v.ownBlock) : KO B w w' := by
  refine ⟨(Below.refl B w).grown hg hB (fun k hk => (h.lt k hk).1), fun k cur t h1 h2 => ?_⟩
  have hlt := (Array.getElem?_eq_some_iff.1 h1).1
  rw [hg.block k hlt (fun e => ?_), h1]
  rcases h.2 with ⟨rfl, _⟩ | ⟨g, cap, cur', rfl, _, q, _⟩
  · simp [Value.ownBlock] at e
  · simp only [Value.ownBlock, Option.some.injEq] at e
    subst e
    rw [h1] at q
    cases q
    exact h2 rfl
theorem row_ko {w w' : World} {B B' : Nat} {e : TypeId} {size : Nat} {v : Value} {n : Nat} {xs : List Value} (h : w.ownsRow B e size v n xs) (hk : KO B' w w') (he : e ≠ 51) : w'.ownsRow B e size v n xs := by
  refine ⟨h.1, ?_⟩
  rcases h.2 with hn | ⟨g, cap, cur, hv, hB, hg, rest⟩
  · exact .inl hn
  · exact .inr ⟨g, cap, cur, hv, hB, hk.keep g cur e hg he, rest⟩
theorem OwnsB.ko {w w' : World} {B B' : Nat} {v : Value} {l : List Bd} (h : OwnsB w B v l) (hk : KO B' w w') : OwnsB w' B v l := by
  obtain ⟨ps, h0, h1, h2⟩ := h
  refine ⟨ps, h0, row_ko h1 hk (by decide), fun i b hi => ?_⟩
  obtain ⟨x, hx, ho⟩ := h2 i b hi
  exact ⟨x, hx, row_ko ho hk (by decide)⟩
theorem OwnsB.k7 {w w' : World} {B B' : Nat} {v : Value} {l : List Bd} (h : OwnsB w B v l) (hk : K7 B' w w') : OwnsB w' B v l := by
  obtain ⟨ps, h0, h1, h2⟩ := h
  refine ⟨ps, h0, row_k7 h1 hk (.inr rfl), fun i b hi => ?_⟩
  obtain ⟨x, hx, ho⟩ := h2 i b hi
  exact ⟨x, hx, row_k7 ho hk (.inl rfl)⟩

def InAt (n : Nat) : Prop := ∀ (Z B : Nat) (hAB : Z ≤ B) (w : World) (ov : Value) (acc : List Opr) (tv : Value) (L : List Cl) (at_ : Nat) (nm : ByteArray) (kd : Fo) (R : List Cl) (bv : Value) (bs : List Bd) (B' : Nat),
  kd.size < n → VL Z w tv L → L.drop at_ = (Fo.cons nm kd .nil).flat ++ R → L.length ≤ 64 → kd.len ≤ 4 → (∀ c ∈ L, 0 ≤ c.ar ∧ c.ar ≤ 4) → OwnsB w B' bv bs → Good bs → OpsV (VL Z w) w B ov acc → B ≤ w.heap.size → acc.length + kd.size + 1 ≤ 1000 →
    Calls Try.prog 37 #[ov, tv, .int .i64 (at_ : Nat), bv] w fun e w' => ∃ ov', e = .returned (.tuple #[ov', .int .i64 ((at_ + kd.size + 1 : Nat) : Int)]) ∧ OpsV (VL Z w') w' B ov' (acc ++ ((Fo.cons nm kd .nil).todos bs).flatten) ∧ KO B w w'

theorem todos_size (b : List Bd) : ∀ f : Fo, (f.todos b).flatten.length = f.size
  | .nil => rfl
  | .cons nm k r => by
    simp only [Fo.todos, List.flatten_cons, List.length_append, List.length_cons, List.length_nil, todos_size b k, todos_size b r, Fo.size]
    omega

set_option maxHeartbeats 4000000 in
theorem inOrder_step (n : Nat) (ih : InAt n) : InAt (n + 1) := by
  intro Z B hAB w ov acc tv L at_ nm kd R bv bs B' hn hL hd h64 hk4 hars hbs hgood hacc hBw hlim
  obtain ⟨i0, hi, hz0, hz1, hz2⟩ := info_parts info71
  have hlen := congrArg List.length hd
  simp only [List.length_drop, List.length_append, Fo.flat_length, Fo.size] at hlen
  have hat : at_ < L.length := by omega
  have hd1 : L.drop (at_ + 1) = kd.flat ++ R := by
    have := congrArg (List.drop 1) hd
    rw [List.drop_drop] at this
    simpa [Fo.flat] using this
  have hcell : L[at_]? = some ⟨nm, (kd.len : Nat)⟩ := by
    have : (L.drop at_)[0]? = some ⟨nm, (kd.len : Nat)⟩ := by rw [hd]; simp [Fo.flat]
    rw [List.getElem?_drop, Nat.add_zero] at this
    exact this
  have HN : Hid (kd.size < n + 1) := hn
  have HVL : Hid (VL Z w tv L) := hL
  have HBS : Hid (OwnsB w B' bv bs) := hbs
  have HGD : Hid (Good bs) := hgood
  have HAC : Hid (OpsV (VL Z w) w B ov acc) := hacc
  have HARS : Hid (∀ c ∈ L, 0 ≤ c.ar ∧ c.ar ≤ 4) := hars
  have IH : Hid (InAt n) := ih
  have HD1 : Hid (L.drop (at_ + 1) = kd.flat ++ R) := hd1
  have hsz : at_ + 1 + kd.size + R.length = L.length := by omega
  obtain ⟨ta, tc, htv, tl1, tl2, _, HC⟩ := hL.1
  subst htv
  obtain ⟨g, off, hta, hgl, c0, c1⟩ := HC at_ _ hcell
  subst hta
  simp only at c0 c1
  have hgw : g < Z ∨ ∃ cur, w.heap[g]? = some (.cells cur 49 (0, 0)) := HVL.out.2 _ _ _ (fun e => by rw [e] at hat; simp at hat) rfl
  have HCELL : Hid (∀ w', KO B w w' → w'.cell? ⟨g, off + at_ * 2, none⟩ = some (.string nm) ∧ w'.cell? ⟨g, off + at_ * 2 + 1, none⟩ = some (.int .i64 (kd.len : Nat))) := fun w' hk => by
    have hb : w'.heap[g]? = w.heap[g]? := by
      rcases hgw with h | ⟨cur, h⟩
      · exact hk.low.block g (by omega)
      · exact (hk.keep g cur 49 h (by decide)).trans h.symm
    exact ⟨(World.cell?_of_block (a := ⟨g, off + at_ * 2, none⟩) hb).trans c0, (World.cell?_of_block (a := ⟨g, off + at_ * 2 + 1, none⟩) hb).trans c1⟩
  obtain ⟨oa, oc, hov⟩ := hacc.form
  obtain ⟨ba, bc, hbv, _⟩ := hbs.form
  subst hbv
  subst hov
  have hati : (at_ : Int) < (L.length : Int) := by omega
  have hatm : (at_ : Int) ≤ 64 := by omega
  clear hd hd1 hcell hacc hbs hgood hL HC ih hars hn hgw
  go_enter Try.func37, Try.ntmps37
  go_wp2_with fail
  go_loopw [0, 10, 18] (fun o e i wr => ∃ (j en : Nat) (q : Fo) (D : List (List Opr)), i = .int .i64 (j : Nat) ∧ e = .int .i64 (en : Nat) ∧ j + q.len = kd.len ∧ Hid (kd.todos bs = D ++ q.todos bs) ∧ Hid (L.drop en = q.flat ++ R) ∧ en + q.size + R.length = L.length ∧ Hid (OpsV (VL Z wr) wr B o (acc ++ D.flatten)) ∧ Hid (KO B w wr) ∧ Hid (D.flatten.length + q.size = kd.size) ∧ q.size ≤ kd.size) (fun _ _ i _ => kd.len - (intOf i).toNat)
  case atStart => exact ⟨0, at_ + 1, kd, [], rfl, by go_num, by omega, rfl, HD1.out, hsz, by show OpsV _ _ _ _ _; simpa using HAC.out, KO.refl _ _, by show _ = _; simp, Nat.le_refl _⟩
  case round =>
    obtain ⟨j, en, q, D, rfl, rfl, hjq, HT, HDE, hen, HOV, HK, HSZ, hqs⟩ := hrel
    have hov2 := HOV.out.form
    obtain ⟨oa2, oc2, hov2⟩ := hov2
    subst hov2
    cases q with
    | nil =>
      have hjl : ¬ (j : Int) < (kd.len : Int) := by simp only [Fo.len] at hjq; omega
      have HOV2 : Hid (OpsV (VL Z wr) wr B (.slice oa2 (acc ++ D.flatten).length oc2) (acc ++ (kd.todos bs).flatten)) := by
        have e := HT.out
        simp only [Fo.todos, List.append_nil] at e
        show OpsV _ _ _ _ _
        rw [e]; exact HOV.out
      have hEN : en = at_ + 1 + kd.size := by simp only [Fo.size] at hen; omega
      obtain ⟨d0, d1⟩ := HCELL.out wr HK.out
      have hDl : (acc ++ D.flatten).length = acc.length + kd.size := by have := HSZ.out; simp only [Fo.size] at this; rw [List.length_append]; omega
      rw [hDl] at HOV2
      rw [hDl]
      have hop := opOf_any (VL Z wr) wr ⟨nm, (kd.len : Nat)⟩ (.slice ba bs.length bc) bs (LiesBV.of (HBS.out.ko HK.out) (fun x m hx hm => by
        obtain ⟨b, hb, rfl⟩ := hm
        exact VL.own hx (fine_check (HGD.out b hb).1))) ⟨⟨none, 0, rfl, Nat.le_refl _, Nat.zero_le _, (fun c hc => by cases hc), (fun k c hc => by simp at hc)⟩, fun a n c h => absurd rfl h⟩
      obtain ⟨O, hO⟩ : ∃ O, opC bs ⟨nm, (kd.len : Nat)⟩ = O := ⟨_, rfl⟩
      rw [hO] at hop
      have HOO : Hid (opC bs ⟨nm, (kd.len : Nat)⟩ = O) := hO
      obtain ⟨ok, ⟨onm, oar⟩, ovl⟩ := O
      simp only at hop
      subst hEN
      obtain ⟨os, hol, hrow, hel⟩ := HOV2.out
      have HOL : Hid (os.length = (acc ++ (kd.todos bs).flatten).length) := hol
      have HEL : Hid (∀ (i : Nat) o, (acc ++ (kd.todos bs).flatten)[i]? = some o → ∃ x, os[i]? = some ⟨o.k, o.c, x⟩ ∧ x.oneCell' = true ∧ VL Z wr x o.v) := hel
      have hAl : (acc ++ (kd.todos bs).flatten).length = acc.length + kd.size := by rw [List.length_append, todos_size]
      rw [hAl] at hrow
      have hBr := Nat.le_trans hBw HK.out.low.size
      clear HOV HOV2 hO hol hel HT HDE hjq HSZ hDl hAl hqs
      go_wp2_with (first | (go_at_call 64; refine hop.mono ?_; rintro e w3 ⟨⟨x, rfl, ⟨xa, xn, xc, hxv⟩, hVx⟩, hb3⟩; subst hxv; have hrow3 := own_below hrow hb3) | (at_builtin; refine wpList_append_own _ rfl _ _ 37 rfl B 51 i0 (.agg #[.int .i64 0, .string ⟨#[]⟩, .int .i64 0, .slice none 0 0]) 4 56 Try.underlying37 hi hz0 hz1 hz2 rfl (by decide) _ (acc.length + kd.size) (flatO os) rfl (hrow3.alloc _) ⟨w3.heap.size, 0, none⟩ 1 1 [.int .i64 ok, .string onm, .int .i64 oar, .slice xa xn xc] rfl rfl (four_cells w3 _ _ _ _ _) ?k1 ?k2 ?k3 ?k4 ?_))
      case k1 => intro u hu; simp at hu; rcases hu with rfl | rfl | rfl | rfl <;> rfl
      case k2 => unfold maxLen; omega
      case k3 => omega
      case k4 => have := hb3.size; simp; omega
      intro v' w6 hown' hgrow _
      have hk3 : KO B wr w3 := KO.of hb3 hBr
      have hk4 : KO B w3 (w3.alloc (.cells #[.int .i64 ok, .string onm, .int .i64 oar, .slice xa xn xc] 51)) := KO.of ((Below.refl _ _).alloc (Nat.le_refl _) _) (Nat.le_trans hBr hb3.size)
      have hk5 := KO.row (hrow3.alloc (.cells #[.int .i64 ok, .string onm, .int .i64 oar, .slice xa xn xc] 51)) (by have := hb3.size; simp; omega) hgrow
      have hkk := hk3.trans (hk4.trans hk5)
      have hfin : OpsV (VL Z w6) w6 B v' ((acc ++ (kd.todos bs).flatten) ++ [⟨ok, ⟨onm, oar⟩, ovl⟩]) := by
        refine OpsV.more (ns := [⟨ok, ⟨onm, oar⟩, .slice xa xn xc⟩]) (nops := [⟨ok, ⟨onm, oar⟩, ovl⟩]) HOL.out HEL.out rfl (fun i o hi => ?_) ?_ (fun x l hx => hx.on (hkk.k7.base hAB))
        · obtain ⟨rfl, rfl⟩ := one_get hi
          exact ⟨_, rfl, rfl, hVx.on (hkk.k7.base hAB)⟩
        · have e : (acc ++ (kd.todos bs).flatten).length = acc.length + kd.size := by rw [List.length_append, todos_size]
          rw [e]; exact hown'
      have HFIN : Hid (OpsV (VL Z w6) w6 B v' (acc ++ ((Fo.cons nm kd .nil).todos bs).flatten)) := by
        show OpsV _ _ _ _ _
        simp only [Fo.todos, List.flatten_cons, List.flatten_nil, List.append_nil, HOO.out]
        rw [← List.append_assoc]
        exact hfin
      have HKK : Hid (KO B w w6) := HK.out.trans hkk
      obtain ⟨fa, fc, hfv⟩ := hfin.form
      subst hfv
      clear hfin hkk hk5 hk4 hk3 hgrow hown' hrow3 hb3 hVx
      go_wp2_with fail
      go_ret2
      refine ⟨_, ?_, HFIN.out, HKK.out⟩
      rw [show at_ + kd.size + 1 = at_ + 1 + kd.size by omega]
      rfl
    | cons nm' k' r' =>
      have hjl : (j : Int) < (kd.len : Int) := by simp only [Fo.len] at hjq; omega
      simp only [Fo.size] at hen hqs
      have hde2 : L.drop en = (Fo.cons nm' k' .nil).flat ++ (r'.flat ++ R) := by rw [HDE.out, Fo.flat_cons, List.append_assoc]
      have hc' : L[en]? = some ⟨nm', (k'.len : Nat)⟩ := by
        have : (L.drop en)[0]? = some ⟨nm', (k'.len : Nat)⟩ := by rw [hde2]; simp [Fo.flat]
        rw [List.getElem?_drop, Nat.add_zero] at this
        exact this
      have hk4' : k'.len ≤ 4 := by
        have := (HARS.out _ (List.mem_of_getElem? hc')).2
        simp only at this
        omega
      have hz := HSZ.out
      simp only [Fo.size] at hz
      have hAl : (acc ++ D.flatten).length + k'.size + 1 ≤ 1000 := by rw [List.length_append]; omega
      obtain ⟨A, hA⟩ : ∃ A, acc ++ D.flatten = A := ⟨_, rfl⟩
      have HA : Hid (acc ++ D.flatten = A) := hA
      rw [hA] at HOV hAl
      rw [hA]
      clear hA
      have hcall := IH.out Z B hAB wr (.slice oa2 A.length oc2) A (.slice (some ⟨g, off, none⟩) L.length tc) L en nm' k' (r'.flat ++ R) (.slice ba bs.length bc) bs B' (by have := HN.out; omega) (HVL.out.on (HK.out.k7.base hAB)) hde2 h64 hk4' HARS.out (HBS.out.ko HK.out) HGD.out HOV.out (Nat.le_trans hBw HK.out.low.size) hAl
      have HDE2 : Hid (L.drop (en + k'.size + 1) = r'.flat ++ R) := by
        show _ = _
        rw [show en + k'.size + 1 = en + (k'.size + 1) by omega, ← List.drop_drop, hde2]
        exact List.drop_left' (by rw [Fo.flat_length]; simp [Fo.size])
      have HT2 : Hid (kd.todos bs = (D ++ [((k'.todos bs).flatten ++ [opC bs ⟨nm', (k'.len : Nat)⟩])]) ++ r'.todos bs) := by
        show _ = _
        rw [HT.out]
        simp [Fo.todos]
      have HSZ2 : Hid ((D ++ [((k'.todos bs).flatten ++ [opC bs ⟨nm', (k'.len : Nat)⟩])]).flatten.length + r'.size = kd.size) := by
        show _ = _
        rw [List.flatten_append, List.length_append]
        simp only [List.flatten_cons, List.flatten_nil, List.append_nil, List.length_append, List.length_cons, List.length_nil, todos_size]
        omega
      have HEQ : Hid (A ++ ((Fo.cons nm' k' .nil).todos bs).flatten = acc ++ (D ++ [((k'.todos bs).flatten ++ [opC bs ⟨nm', (k'.len : Nat)⟩])]).flatten) := by
        show _ = _
        rw [← HA.out]
        simp [Fo.todos, List.append_assoc]
      have hen64 : (en : Int) ≤ 64 := by omega
      have hq2 : j + 1 + r'.len = kd.len := by simp only [Fo.len] at hjq; omega
      have hen2 : en + k'.size + 1 + r'.size + R.length = L.length := by omega
      clear HT HDE HOV HSZ hde2 hc' hz
      rw [HEQ.out] at hcall
      obtain ⟨A2, hA2⟩ : ∃ A2, acc ++ (D ++ [((k'.todos bs).flatten ++ [opC bs ⟨nm', (k'.len : Nat)⟩])]).flatten = A2 := ⟨_, rfl⟩
      have HA2 : Hid (acc ++ (D ++ [((k'.todos bs).flatten ++ [opC bs ⟨nm', (k'.len : Nat)⟩])]).flatten = A2) := hA2
      rw [hA2] at hcall
      clear hA2 HEQ
      go_wp2_with (go_at_call 37; refine hcall.mono ?_; rintro e w3 ⟨ov3, rfl, ho3, hk3⟩; obtain ⟨oa3, oc3, hov3⟩ := ho3.form; subst hov3)
      go_roundw
      case rel => exact ⟨j + 1, en + k'.size + 1, r', _, by go_num, rfl, hq2, HT2, HDE2, hen2, by show OpsV _ _ _ _ _; rw [HA2.out]; exact ho3, HK.out.trans hk3, HSZ2, by omega⟩
      case measure => simp [intOf]; omega

theorem inOrder_any : ∀ n, InAt n := by
  intro n
  induction n with
  | zero => intro Z B hAB w ov acc tv L at_ nm kd R bv bs B' h; omega
  | succ n ih => exact inOrder_step n ih

theorem flatO_set (o : Ow) : ∀ (l : List Ow) (k : Nat), flatO (l.set k o) = ((((flatO l).set (k * 4) (.int .i64 o.k)).set (k * 4 + 1) (.string o.c.nm)).set (k * 4 + 2) (.int .i64 o.c.ar)).set (k * 4 + 3) o.x
  | [], k => by simp [flatO]
  | d :: r, 0 => rfl
  | d :: r, k + 1 => by
    rw [show (k + 1) * 4 = k * 4 + 1 + 1 + 1 + 1 by omega, List.set_cons_succ]
    simp only [flatO, List.set_cons_succ, flatO_set o r k]
/-- an op of a row of the call's own is written anew -/
theorem own_store4 {w : World} {B g n cap : Nat} {l : List Ow} (h : w.ownsRow B 51 4 (.slice (some ⟨g, 0, none⟩) n cap) n (flatO l)) {k : Nat} {o0 : Ow} (hk : l[k]? = some o0) (o : Ow) :
    (w.cell? ⟨g, k * 4, none⟩ = some (.int .i64 o0.k) ∧ w.frozen? ⟨g, k * 4, none⟩ = false) ∧
    ((w.setCell ⟨g, k * 4, none⟩ (.int .i64 o.k)).cell? ⟨g, k * 4 + 1, none⟩ = some (.string o0.c.nm) ∧ (w.setCell ⟨g, k * 4, none⟩ (.int .i64 o.k)).frozen? ⟨g, k * 4 + 1, none⟩ = false) ∧
    (((w.setCell ⟨g, k * 4, none⟩ (.int .i64 o.k)).setCell ⟨g, k * 4 + 1, none⟩ (.string o.c.nm)).cell? ⟨g, k * 4 + 2, none⟩ = some (.int .i64 o0.c.ar) ∧ ((w.setCell ⟨g, k * 4, none⟩ (.int .i64 o.k)).setCell ⟨g, k * 4 + 1, none⟩ (.string o.c.nm)).frozen? ⟨g, k * 4 + 2, none⟩ = false) ∧
    ((((w.setCell ⟨g, k * 4, none⟩ (.int .i64 o.k)).setCell ⟨g, k * 4 + 1, none⟩ (.string o.c.nm)).setCell ⟨g, k * 4 + 2, none⟩ (.int .i64 o.c.ar)).cell? ⟨g, k * 4 + 3, none⟩ = some o0.x ∧ (((w.setCell ⟨g, k * 4, none⟩ (.int .i64 o.k)).setCell ⟨g, k * 4 + 1, none⟩ (.string o.c.nm)).setCell ⟨g, k * 4 + 2, none⟩ (.int .i64 o.c.ar)).frozen? ⟨g, k * 4 + 3, none⟩ = false) ∧
    ((((w.setCell ⟨g, k * 4, none⟩ (.int .i64 o.k)).setCell ⟨g, k * 4 + 1, none⟩ (.string o.c.nm)).setCell ⟨g, k * 4 + 2, none⟩ (.int .i64 o.c.ar)).setCell ⟨g, k * 4 + 3, none⟩ o.x).ownsRow B 51 4 (.slice (some ⟨g, 0, none⟩) n cap) n (flatO (l.set k o)) ∧
    w.grownBy ((((w.setCell ⟨g, k * 4, none⟩ (.int .i64 o.k)).setCell ⟨g, k * 4 + 1, none⟩ (.string o.c.nm)).setCell ⟨g, k * 4 + 2, none⟩ (.int .i64 o.c.ar)).setCell ⟨g, k * 4 + 3, none⟩ o.x) (some g) := by
  have fz : ∀ {w : World} {xs : List Value} (h : w.ownsRow B 51 4 (.slice (some ⟨g, 0, none⟩) n cap) n xs) (i : Nat), w.frozen? ⟨g, i, none⟩ = false := by
    intro w xs h i
    rcases h.2 with ⟨e, _⟩ | ⟨g', cap', cur, e, _, hg, _⟩
    · cases e
    · cases e; exact Lib.frozen_of_heap hg _
  have at0 : ∀ {w : World} {xs : List Value} (h : w.ownsRow B 51 4 (.slice (some ⟨g, 0, none⟩) n cap) n xs) (i : Nat) (x : Value), xs[i]? = some x → w.cell? ⟨g, i, none⟩ = some x := by
    intro w xs h i x hx
    obtain ⟨a, cap', hv, _, _, hc⟩ := own_cells h
    cases hv
    obtain ⟨g', e, _, _, hh⟩ := hc i x hx
    cases e; exact hh
  obtain ⟨q0, q1, q2, q3⟩ := flatO_at l k o0 hk
  have h1 := own_set h (k * 4) (.int .i64 o.k)
  have h2 := own_set h1 (k * 4 + 1) (.string o.c.nm)
  have h3 := own_set h2 (k * 4 + 2) (.int .i64 o.c.ar)
  have h4 := own_set h3 (k * 4 + 3) o.x
  refine ⟨⟨at0 h _ _ q0, fz h _⟩, ⟨at0 h1 _ _ (by rw [List.getElem?_set_ne (by omega)]; exact q1), fz h1 _⟩, ⟨at0 h2 _ _ (by rw [List.getElem?_set_ne (by omega), List.getElem?_set_ne (by omega)]; exact q2), fz h2 _⟩, ⟨at0 h3 _ _ (by rw [List.getElem?_set_ne (by omega), List.getElem?_set_ne (by omega), List.getElem?_set_ne (by omega)]; exact q3), fz h3 _⟩, by rw [flatO_set]; exact h4, (((set_grown _ _ _ _).trans (set_grown _ _ _ _)).trans (set_grown _ _ _ _)).trans (set_grown _ _ _ _)⟩

/-- a list of which the first k and the last k are turned round -/
def Half (l l' : List Ow) (k : Nat) : Prop := l'.length = l.length ∧ ∀ m, l'[m]? = if m < k ∨ l.length - k ≤ m then l.reverse[m]? else l[m]?
theorem half_zero (l : List Ow) (m : Nat) : l[m]? = if m < 0 ∨ l.length - 0 ≤ m then l.reverse[m]? else l[m]? := by
  split
  · rename_i c
    rw [List.getElem?_eq_none (by omega), List.getElem?_eq_none (by rw [List.length_reverse]; omega)]
  · rfl
theorem Half.end_ {l l' : List Ow} {k : Nat} (h : Half l l' k) (hk : ¬ k + 1 < l.length - k) : l' = l.reverse := by
  apply List.ext_getElem?
  intro m
  rw [h.2 m]
  split
  · rfl
  · rename_i hm
    have e : m = k ∧ l.length - 1 - m = m := by omega
    rw [List.getElem?_reverse (by omega), e.2]
theorem Half.swap {l l' : List Ow} {k : Nat} (h : Half l l' k) (hk : k + 1 < l.length - k) {a b : Ow} (ha : l'[k]? = some a) (hb : l'[l.length - 1 - k]? = some b) : Half l ((l'.set k b).set (l.length - 1 - k) a) (k + 1) := by
  refine ⟨by simp [h.1], fun m => ?_⟩
  have ha2 : l[k]? = some a := by rw [h.2 k, if_neg (by omega)] at ha; exact ha
  have hb2 : l[l.length - 1 - k]? = some b := by rw [h.2, if_neg (by omega)] at hb; exact hb
  by_cases e1 : m = l.length - 1 - k
  · subst e1
    rw [List.getElem?_set_self (by simp [h.1]; omega), if_pos (by omega), List.getElem?_reverse (by omega), show l.length - 1 - (l.length - 1 - k) = k by omega]
    exact ha2.symm
  · rw [List.getElem?_set_ne (fun e => e1 e.symm)]
    by_cases e2 : m = k
    · subst e2
      rw [List.getElem?_set_self (by rw [h.1]; omega), if_pos (by omega), List.getElem?_reverse (by omega)]
      exact hb2.symm
    · rw [List.getElem?_set_ne (fun e => e2 e.symm), h.2 m]
      by_cases c : m < k ∨ l.length - k ≤ m
      · rw [if_pos c, if_pos (by omega)]
      · rw [if_neg c, if_neg (by omega)]

set_option maxHeartbeats 4000000 in
theorem reverse_any (B : Nat) (w : World) (v : Value) (l : List Ow) (hl : l.length ≤ 1000) (h : w.ownsRow B 51 4 v l.length (flatO l)) (hx : ∀ o ∈ l, ∃ xa n xc, o.x = .slice xa n xc) :
    Calls Try.prog 38 #[v] w fun e w' => e = .returned (.tuple #[]) ∧ w'.ownsRow B 51 4 v l.length (flatO l.reverse) ∧ KO B w w' := by
  rcases h.2 with ⟨hv, hn⟩ | ⟨g, cap, cur, hv, hB, hg, q1, q2, q3, q4⟩
  · subst hv
    have hl0 : l = [] := List.eq_nil_of_length_eq_zero hn
    subst hl0
    go_enter Try.func38, Try.ntmps38
    go_wp2_with fail
    go_loopw [2, 3] (fun i j wr => i = .int .i64 0 ∧ j = .int .i64 (-1) ∧ wr = w) (fun _ _ _ => 0)
    case atStart => exact ⟨rfl, rfl, rfl⟩
    case round =>
      obtain ⟨rfl, rfl, rfl⟩ := hrel
      go_wp2_with fail
      go_end0
      exact ⟨rfl, World.ownsRow_nil _ _ _ _, KO.refl _ _⟩
  · subst hv
    have hgl : g < w.heap.size := (Array.getElem?_eq_some_iff.1 hg).1
    have HB : Hid (B ≤ w.heap.size) := by show _ ≤ _; omega
    have H0 : Hid (w.ownsRow B 51 4 (.slice (some ⟨g, 0, none⟩) l.length cap) l.length (flatO l)) := h
    have HX : Hid (∀ o ∈ l, ∃ xa n xc, o.x = .slice xa n xc) := hx
    have hcap : l.length ≤ cap := q1
    clear hg q3 q4 h hx
    go_enter Try.func38, Try.ntmps38
    go_wp2_with fail
    go_loopw [2, 3] (fun i j wr => ∃ (k : Nat) (l' : List Ow), k ≤ l.length ∧ i = .int .i64 (k : Nat) ∧ j = .int .i64 ((l.length : Int) - 1 - k) ∧ Hid (Half l l' k) ∧ wr.ownsRow B 51 4 (.slice (some ⟨g, 0, none⟩) l.length cap) l.length (flatO l') ∧ Hid (KO B w wr)) (fun i _ _ => l.length - (intOf i).toNat)
    case atStart => exact ⟨0, l, Nat.zero_le _, rfl, by go_num, ⟨rfl, fun m => half_zero l m⟩, H0.out, KO.refl _ _⟩
    case round =>
      obtain ⟨k, l', hk, rfl, rfl, HH, hrow, HK⟩ := hrel
      by_cases hlt : k + 1 < l.length - k
      · have hjn : ((l.length : Int) - 1 - (k : Int)) = ((l.length - 1 - k : Nat) : Int) := by omega
        have hc : (k : Int) < ((l.length - 1 - k : Nat) : Int) := by omega
        have hl' := HH.out.1
        obtain ⟨a, ha⟩ : ∃ a, l'[k]? = some a := ⟨l'[k]'(by omega), List.getElem?_eq_getElem (by omega)⟩
        obtain ⟨b, hb⟩ : ∃ b, l'[l.length - 1 - k]? = some b := ⟨l'[l.length - 1 - k]'(by omega), List.getElem?_eq_getElem (by omega)⟩
        have HH2 : Hid (Half l ((l'.set k b).set (l.length - 1 - k) a) (k + 1)) := HH.out.swap hlt ha hb
        obtain ⟨j, hj⟩ : ∃ j, l.length - 1 - k = j := ⟨_, rfl⟩
        rw [hj] at hb HH2 hc hjn
        have hjl : j < l.length := by omega
        have hkl : (k : Int) < (l.length : Int) := by omega
        have hjl2 : (j : Int) < (l.length : Int) := by omega
        have hkj : k ≠ j := by omega
        have hrd : wr.drew.ownsRow B 51 4 (.slice (some ⟨g, 0, none⟩) l.length cap) l.length (flatO l') := hrow
        have HKD : Hid (KO B w wr.drew) := HK.out.trans ⟨(Below.refl B wr).drew, fun _ _ _ h _ => h⟩
        have key : ∀ m (o : Ow), l'[m]? = some o → ∃ xa n xc, o.x = .slice xa n xc := fun m o ho => by
          rw [HH.out.2 m] at ho
          split at ho
          · exact HX.out o (List.mem_reverse.1 (List.mem_of_getElem? ho))
          · exact HX.out o (List.mem_of_getElem? ho)
        obtain ⟨axa, axn, axc, hax⟩ := key k a ha
        obtain ⟨bxa, bxn, bxc, hbx⟩ := key j b hb
        obtain ⟨ak, ⟨anm, aar⟩, ax⟩ := a
        obtain ⟨bk, ⟨bnm, bar⟩, bx⟩ := b
        simp only at hax hbx
        subst hax
        subst hbx
        go_wp2_with fail
        refine wp_region_d (fun w' => w'.cell? ⟨g, k * 4, none⟩ = some (.int .i64 ak) ∧ w'.cell? ⟨g, k * 4 + 1, none⟩ = some (.string anm) ∧ w'.cell? ⟨g, k * 4 + 2, none⟩ = some (.int .i64 aar) ∧ w'.cell? ⟨g, k * 4 + 3, none⟩ = some (.slice axa axn axc) ∧ w'.cell? ⟨g, j * 4, none⟩ = some (.int .i64 bk) ∧ w'.cell? ⟨g, j * 4 + 1, none⟩ = some (.string bnm) ∧ w'.cell? ⟨g, j * 4 + 2, none⟩ = some (.int .i64 bar) ∧ w'.cell? ⟨g, j * 4 + 3, none⟩ = some (.slice bxa bxn bxc)) (fun i => i == 7 || i == 11) (by kernel_rfl) ?_
        generalize wr.drew = wd at hrd HKD ⊢
        obtain ⟨⟨a0, f0⟩, ⟨a1, f1⟩, ⟨a2, f2⟩, ⟨a3, f3⟩, hrow1, hg1⟩ := own_store4 hrd ha ⟨bk, ⟨bnm, bar⟩, .slice bxa bxn bxc⟩
        have hb1 : (l'.set k ⟨bk, ⟨bnm, bar⟩, .slice bxa bxn bxc⟩)[j]? = some ⟨bk, ⟨bnm, bar⟩, .slice bxa bxn bxc⟩ := by rw [List.getElem?_set_ne hkj]; exact hb
        obtain ⟨⟨b0, e0⟩, ⟨b1, e1⟩, ⟨b2, e2⟩, ⟨b3, e3⟩, hrow2, hg2⟩ := own_store4 hrow1 hb1 ⟨ak, ⟨anm, aar⟩, .slice axa axn axc⟩
        have hC : wd.cell? ⟨g, k * 4, none⟩ = some (.int .i64 ak) ∧ wd.cell? ⟨g, k * 4 + 1, none⟩ = some (.string anm) ∧ wd.cell? ⟨g, k * 4 + 2, none⟩ = some (.int .i64 aar) ∧ wd.cell? ⟨g, k * 4 + 3, none⟩ = some (.slice axa axn axc) ∧ wd.cell? ⟨g, j * 4, none⟩ = some (.int .i64 bk) ∧ wd.cell? ⟨g, j * 4 + 1, none⟩ = some (.string bnm) ∧ wd.cell? ⟨g, j * 4 + 2, none⟩ = some (.int .i64 bar) ∧ wd.cell? ⟨g, j * 4 + 3, none⟩ = some (.slice bxa bxn bxc) := by
          have at0 : ∀ (i : Nat) (x : Value), (flatO l')[i]? = some x → wd.cell? ⟨g, i, none⟩ = some x := by
            intro i x hx
            obtain ⟨a', cap', hv, _, _, hc⟩ := own_cells hrd
            cases hv
            obtain ⟨g', e, _, _, hh⟩ := hc i x hx
            cases e; exact hh
          obtain ⟨p0, p1, p2, p3⟩ := flatO_at l' k _ ha
          obtain ⟨s0, s1, s2, s3⟩ := flatO_at l' j _ hb
          exact ⟨at0 _ _ p0, at0 _ _ p1, at0 _ _ p2, at0 _ _ p3, at0 _ _ s0, at0 _ _ s1, at0 _ _ s2, at0 _ _ s3⟩
        simp only at a0 a1 a2 a3 f0 f1 f2 f3 b0 b1 b2 b3 e0 e1 e2 e3 hrow1 hg1 hrow2 hg2
        have HR1 : Hid (((((wd.setCell ⟨g, k * 4, none⟩ (.int .i64 bk)).setCell ⟨g, k * 4 + 1, none⟩ (.string bnm)).setCell ⟨g, k * 4 + 2, none⟩ (.int .i64 bar)).setCell ⟨g, k * 4 + 3, none⟩ (.slice bxa bxn bxc)).ownsRow B 51 4 (.slice (some ⟨g, 0, none⟩) l.length cap) l.length (flatO (l'.set k ⟨bk, ⟨bnm, bar⟩, .slice bxa bxn bxc⟩))) := hrow1
        have HG : Hid (wd.grownBy _ (some g)) := hg1.trans hg2
        have HR2 : Hid _ := hrow2
        have HK2 : Hid (KO B wd _) := KO.row (v := .slice (some ⟨g, 0, none⟩) l.length cap) hrd (by have := HKD.out.low.size; have := HB.out; omega) (hg1.trans hg2)
        clear hb1 HH hl' hj hrow HK hlt hrow1 hrow2 hg1 hg2 key HG
        refine wpAnyM_late (i := 0) (some 14) (v := ?vz1) rfl rfl (by kernel_rfl) (by kernel_rfl) (by kernel_rfl) (by kernel_rfl) (fun _ _ _ h => h) (Or.inl ⟨by rfl, ?hz1⟩) ?rz1
        case hz1 => intro w hSw; go_simp; try with_reducible rfl
        try simp only [Act.put, List.setIfInBounds_toArray, List.set_cons_zero, List.set_cons_succ]
        refine wpAnyM_late (i := 1) (some 15) (v := ?vz2) rfl rfl (by kernel_rfl) (by kernel_rfl) (by kernel_rfl) (by kernel_rfl) (fun _ _ _ h => h) (Or.inl ⟨by rfl, ?hz2⟩) ?rz2
        case hz2 => intro w hSw; go_simp; try with_reducible rfl
        try simp only [Act.put, List.setIfInBounds_toArray, List.set_cons_zero, List.set_cons_succ]
        refine wpAnyM_late (i := 2) (some 16) (v := ?vz3) rfl rfl (by kernel_rfl) (by kernel_rfl) (by kernel_rfl) (by kernel_rfl) (fun _ _ _ h => h) (Or.inl ⟨by rfl, ?hz3⟩) ?rz3
        case hz3 => intro w hSw; go_simp; try with_reducible rfl
        try simp only [Act.put, List.setIfInBounds_toArray, List.set_cons_zero, List.set_cons_succ]
        refine wpAnyM_late (i := 3) (some 17) (v := ?vz4) rfl rfl (by kernel_rfl) (by kernel_rfl) (by kernel_rfl) (by kernel_rfl) (fun _ _ _ h => h) (Or.inl ⟨by rfl, ?hz4⟩) ?rz4
        case hz4 => intro w hSw; go_simp; try with_reducible rfl
        try simp only [Act.put, List.setIfInBounds_toArray, List.set_cons_zero, List.set_cons_succ]
        refine wpAnyM_late (i := 4) (some 18) (v := ?vz5) rfl rfl (by kernel_rfl) (by kernel_rfl) (by kernel_rfl) (by kernel_rfl) (fun _ _ _ h => h) (Or.inl ⟨by rfl, ?hz5⟩) ?rz5
        case hz5 => intro w hSw; go_simp; try with_reducible rfl
        try simp only [Act.put, List.setIfInBounds_toArray, List.set_cons_zero, List.set_cons_succ]
        refine wpAnyM_late (i := 5) (some 19) (v := ?vz6) rfl rfl (by kernel_rfl) (by kernel_rfl) (by kernel_rfl) (by kernel_rfl) (fun _ _ _ h => h) (Or.inl ⟨by rfl, ?hz6⟩) ?rz6
        case hz6 => intro w hSw; go_simp; try with_reducible rfl
        try simp only [Act.put, List.setIfInBounds_toArray, List.set_cons_zero, List.set_cons_succ]
        refine wpAnyM_late (i := 6) (some 20) (v := ?vz7) rfl rfl (by kernel_rfl) (by kernel_rfl) (by kernel_rfl) (by kernel_rfl) (fun _ _ _ h => h) (Or.inl ⟨by rfl, ?hz7⟩) ?rz7
        case hz7 => intro w hSw; go_simp; try with_reducible rfl
        try simp only [Act.put, List.setIfInBounds_toArray, List.set_cons_zero, List.set_cons_succ]
        refine wpAnyM_late (i := 8) (some 22) (v := ?vz9) rfl rfl (by kernel_rfl) (by kernel_rfl) (by kernel_rfl) (by kernel_rfl) (fun _ _ _ h => h) (Or.inl ⟨by rfl, ?hz9⟩) ?rz9
        case hz9 => intro w hSw; go_simp; try with_reducible rfl
        try simp only [Act.put, List.setIfInBounds_toArray, List.set_cons_zero, List.set_cons_succ]
        refine wpAnyM_late (i := 9) (some 23) (v := ?vz10) rfl rfl (by kernel_rfl) (by kernel_rfl) (by kernel_rfl) (by kernel_rfl) (fun _ _ _ h => h) (Or.inl ⟨by rfl, ?hz10⟩) ?rz10
        case hz10 => intro w hSw; go_simp; try with_reducible rfl
        try simp only [Act.put, List.setIfInBounds_toArray, List.set_cons_zero, List.set_cons_succ]
        refine wpAnyM_late (i := 10) (some 24) (v := ?vz11) rfl rfl (by kernel_rfl) (by kernel_rfl) (by kernel_rfl) (by kernel_rfl) (fun _ _ _ h => h) (Or.inl ⟨by rfl, ?hz11⟩) ?rz11
        case hz11 => intro w hSw; go_simp; try with_reducible rfl
        try simp only [Act.put, List.setIfInBounds_toArray, List.set_cons_zero, List.set_cons_succ]
        refine wpAnyM_pick (i := 7) (some 21) (v := ?vz8) rfl rfl (by kernel_rfl) (by kernel_rfl) (by kernel_rfl) (by kernel_rfl) (fun _ _ _ h => h) (Or.inl ⟨by rfl, ?hz8⟩) hC ?rz8
        case hz8 => intro w hSw; go_simp; try with_reducible rfl
        try simp only [Act.put, List.setIfInBounds_toArray, List.set_cons_zero, List.set_cons_succ]
        refine wpAnyM_pick (i := 11) (some 25) (v := ?vz12) rfl rfl (by kernel_rfl) (by kernel_rfl) (by kernel_rfl) (by kernel_rfl) (fun _ _ _ h => h) (Or.inl ⟨by rfl, ?hz12⟩) hC ?rz12
        case hz12 => intro w hSw; go_simp; try with_reducible rfl
        try simp only [Act.put, List.setIfInBounds_toArray, List.set_cons_zero, List.set_cons_succ]
        refine wpAnyM_late (i := 12) (some 26) (v := ?vz13) rfl rfl (by kernel_rfl) (by kernel_rfl) (by kernel_rfl) (by kernel_rfl) (fun _ _ _ h => h) (Or.inl ⟨by rfl, ?hz13⟩) ?rz13
        case hz13 => intro w hSw; go_simp; try with_reducible rfl
        try simp only [Act.put, List.setIfInBounds_toArray, List.set_cons_zero, List.set_cons_succ]
        refine wpAnyM_one (i := 13) (by kernel_rfl) rfl (fun K hK => ?_)
        go_simp
        refine hK.out _ _ (fun h => absurd h (by decide)) ?_
        clear hK K a0 a1 a2 a3 f0 f1 f2 f3 hC hrd
        try simp only [Act.put, List.setIfInBounds_toArray, List.set_cons_zero, List.set_cons_succ]
        generalize ((((wd.setCell ⟨g, k * 4, none⟩ (.int .i64 bk)).setCell ⟨g, k * 4 + 1, none⟩ (.string bnm)).setCell ⟨g, k * 4 + 2, none⟩ (.int .i64 bar)).setCell ⟨g, k * 4 + 3, none⟩ (.slice bxa bxn bxc)) = W1 at *
        refine wpAnyM_late (i := 14) (some 27) (v := ?vz14) rfl rfl (by kernel_rfl) (by kernel_rfl) (by kernel_rfl) (by kernel_rfl) (fun _ _ _ h => h) (Or.inl ⟨by rfl, ?hz14⟩) ?rz14
        case hz14 => intro w hSw; go_simp; try with_reducible rfl
        try simp only [Act.put, List.setIfInBounds_toArray, List.set_cons_zero, List.set_cons_succ]
        refine wpAnyM_one (i := 15) (by kernel_rfl) rfl (fun K hK => ?_)
        go_simp
        refine hK.out _ _ (fun h => absurd h (by decide)) ?_
        clear hK K b0 b1 b2 b3 e0 e1 e2 e3
        refine wpAnyM_done (by kernel_rfl) ?_ _
        try simp only [Act.put, List.setIfInBounds_toArray, List.set_cons_zero, List.set_cons_succ]
        go_wp2_with fail
        go_roundw
        case rel => exact ⟨k + 1, _, by omega, by go_num, by congr 1; omega, HH2, HR2.out, HKD.out.trans HK2.out⟩
        case measure => simp [intOf]; omega
      · have hc : ¬ (k : Int) < ((l.length : Int) - 1 - (k : Int)) := by omega
        have HE : Hid (l' = l.reverse) := HH.out.end_ hlt
        clear hlt
        go_wp2_with fail
        go_end0
        exact ⟨rfl, by rw [← HE.out]; exact hrow, HK.out⟩

end Go.Proofs.Ytbdlokijednoiaa
