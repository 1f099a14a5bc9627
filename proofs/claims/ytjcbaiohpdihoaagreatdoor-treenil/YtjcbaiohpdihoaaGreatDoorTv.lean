/-
  list: entries gathered over the iterator.
-/
import Derived.Test.YtjcbaiohpdihoaaGreatDoorTs
namespace Go.Proofs.YtjcbaiohpdihoaaGreatDoor
open Go.RowKit Go.Maps Lf
attribute [local go_sem] Oper.semAt_some
set_option linter.unusedVariables false
set_option linter.unusedSimpArgs false
set_option maxRecDepth 100000

section
variable {w W wr V3 : World} {X V V' : Nat → Prop} {b7 t e size B n : Nat} {va : Option Addr} {vc : Nat} {xs : List Value}
/-- a list in a box, of the call's own -/
structure LsB (b7 t e size B : Nat) (X V : Nat → Prop) (va : Option Addr) (vc n : Nat) (xs : List Value) (W : World) : Prop where
  blk : Blk W b7 #[.slice va n vc] t
  row : W.ownsRow B e size (.slice va n vc) n xs
  lo : b7 < B
  xlo : ∀ j, X j → j < B ∧ j ≠ b7
  v : ∀ j, V j ↔ X j ∨ j = b7 ∨ (Value.slice va n vc).ownBlock = some j
  bs : B ≤ W.heap.size
theorem LsB.keep {T : Nat → Prop} (h : LsB b7 t e size B X V va vc n xs W) (hk : Keep T W wr) (hn : ∀ j, V j → ¬ T j) : LsB b7 t e size B X V va vc n xs wr :=
  ⟨hk.blk h.blk (hn _ ((h.v _).2 (.inr (.inl rfl)))), hk.row h.row (fun g hg => hn g ((h.v g).2 (.inr (.inr hg)))), h.lo, h.xlo, h.v, Nat.le_trans h.bs hk.size⟩
theorem LsB.lt (h : LsB b7 t e size B X V va vc n xs W) : ∀ j, V j → j < W.heap.size := fun j hj => by
  rcases (h.v j).1 hj with h1 | rfl | h1
  · have := (h.xlo j h1).1; have := h.bs; omega
  · exact h.blk.lt
  · exact (own_lo h.row h1).2
/-- it grows: the new row stands behind a new block -/
theorem LsB.more (h : LsB b7 t e size B X V va vc n xs W) {o : Obj} {w3 : World} {va' : Option Addr} {vc' m : Nat} {ys : List Value} (hr : w3.ownsRow B e size (.slice va' m vc') m ys) (hg : (W.alloc o).grownBy w3 (Value.slice va n vc).ownBlock) (hm : Moved (W.alloc o) (.slice va n vc) (.slice va' m vc')) :
    w3.cell? ⟨b7, 0, none⟩ = some (.slice va n vc) ∧ w3.frozen? ⟨b7, 0, none⟩ = false ∧ (∀ c, V c → c ≠ b7 → (Value.slice va n vc).ownBlock ≠ some c → (w3.setCell ⟨b7, 0, none⟩ (.slice va' m vc')).heap[c]? = W.heap[c]?) ∧
    ∃ V', Keep V W (w3.setCell ⟨b7, 0, none⟩ (.slice va' m vc')) ∧ Grows V V' W ∧ LsB b7 t e size B X V' va' vc' m ys (w3.setCell ⟨b7, 0, none⟩ (.slice va' m vc')) := by
  have hb := (Below.refl W.heap.size W).alloc (Nat.le_refl _) o
  have hno : ∀ g, (Value.slice va n vc).ownBlock = some g → g ≠ b7 := fun g hg e => by have := (own_lo h.row hg).1; have := h.lo; omega
  have hno' : ∀ g, (Value.slice va' m vc').ownBlock = some g → g ≠ b7 := fun g hg e => by have := (own_lo hr hg).1; have := h.lo; omega
  have k2 : Keep (fun j => (Value.slice va n vc).ownBlock = some j) (W.alloc o) w3 := Keep.grown hg (fun k hk => hk)
  have k12 : Keep V W w3 := ((Keep.of_below (S := V) hb).trans k2 (fun j _ hj => (h.v j).2 (.inr (.inr hj))))
  have b3 : Blk w3 b7 #[.slice va n vc] t := k2.blk (h.blk.on hb h.blk.lt) (fun hh => hno _ hh rfl)
  have k3 : Keep (fun j => j = b7) w3 (w3.setCell ⟨b7, 0, none⟩ (.slice va' m vc')) := Keep.set (S := fun j => j = b7) w3 rfl 0 _
  refine ⟨b3.cell rfl, b3.free 0, fun c hc hcb hco => ?_, fun j => X j ∨ j = b7 ∨ (Value.slice va' m vc').ownBlock = some j, k12.trans k3 (fun j _ e => (h.v j).2 (.inr (.inl e))), fun j hj => ?_, b3.set 0 _, k3.row hr (fun g hg e => hno' g hg e), h.lo, h.xlo, fun _ => Iff.rfl, ?_⟩
  · have hcl := h.lt c hc
    exact (k3.block c (Nat.lt_of_lt_of_le hcl (Nat.le_trans hb.size k2.size)) hcb).trans ((k2.block c (Nat.lt_of_lt_of_le hcl hb.size) hco).trans (hb.block c hcl))
  · rcases hj with hj | hj | hj
    · exact .inl ((h.v j).2 (.inl hj))
    · exact .inl ((h.v j).2 (.inr (.inl hj)))
    · rcases hm j hj with h1 | h1
      · exact .inl ((h.v j).2 (.inr (.inr h1)))
      · exact .inr (Nat.le_trans hb.size h1)
  · exact Nat.le_trans h.bs (Nat.le_trans k12.size k3.size)

/-- behind the range -/
theorem LsB.fin {S T V0 V2 : Nat → Prop} {w5 W2 : World} {k q s D : Nat} {d : Ds} {f : Int → ByteArray} {M : Nat} (h : LsB b7 t e size w5.heap.size X V2 va vc n xs W2) (hb : Below w.heap.size w w5) (hD : w5.heap.size ≤ D) (hDT : ¬ T D) (hDV : ¬ V2 D) (ho : Sv W2 T k q s d f M) (hdis : ∀ j, V2 j → ¬ T j) (hgs : Grows S T w5) (hV0 : ∀ j, V0 j → w.heap.size ≤ j) (hkp : Keep (fun j => S j ∨ V0 j) w5 W2) (o : Obj) :
    (W2.putObj D o).ownsRow w.heap.size e size (.slice va n vc) n xs ∧ Snx w S k q s d f M (.slice va n vc) (W2.putObj D o) := by
  have hk : Keep (fun j => j = D) W2 (W2.putObj D o) := Keep.obj o
  refine ⟨own_base (hk.row h.row (fun g hg e => hDV ((h.v D).2 (.inr (.inr (e ▸ hg)))))) hb.size, T, hk.sv ho (fun j hj e => hDT (e ▸ hj)), fun j hj => ?_, ?_, fun g hg => hdis g ((h.v g).2 (.inr (.inr hg)))⟩
  · rcases hgs j hj with h1 | h1
    · exact .inl h1
    · exact .inr (Nat.le_trans hb.size h1)
  · refine ((Keep.of_below (S := S) hb).trans hkp (fun j hj hh => ?_)).trans hk (fun j hj hh => ?_)
    · rcases hh with hh | hh
      · exact hh
      · have := hV0 j hh; omega
    · have := hb.size; omega

/-- append, of one entry -/
theorem wpListIn_ent {F : Fence} {fn : Nat} (W : World) {ops : Array Oper} {rest : List Oper} {o : Oper} {a : Act} {Q : Exit → Act → World → Prop} (hg : o.guard = none) (s x : Operand)
    (hop : o.op = Op.call { callee := Callee.builtin Builtin.append, args := #[s, x], argTypes := #[31, 31] }) (B : Nat) (v : Value) (L : List Ent) (m : Nat) (hm : L.length = m) (y : Ent) (hs : a.eval s = v) (hown : RowE W B v L) (hn : m ≤ 100000) (hB : B ≤ W.heap.size)
    (ad : Nat) (hx : a.eval x = .slice (some ⟨ad, 0, none⟩) 1 1) (c0 : W.cell? ⟨ad, 0, none⟩ = some (.string y.k)) (c1 : W.cell? ⟨ad, 1, none⟩ = some (.string y.v))
    (h : ∀ va vc w', RowE w' B (.slice va (m + 1) vc) (L ++ [y]) → W.grownBy w' v.ownBlock → Moved W v (.slice va (m + 1) vc) → wpListIn F fn Tryz.prog ops Q rest (a.put o.dst (.slice va (m + 1) vc)) w') : wpListIn F fn Tryz.prog ops Q (o :: rest) a W := by
  obtain ⟨i0, hi, hz0, hz1, hz2⟩ := info_parts infoE
  subst hm
  have hl : (flatE [y]).length = 1 * 2 := flatE_length [y]
  have hnews : ∀ j u, (flatE [y])[j]? = some u → W.cell? ((⟨ad, 0, none⟩ : Addr).add j) = some u := by
    intro j u hj
    rw [add_plain, Nat.zero_add]
    match j, hj with
    | 0, hj => simp [flatE] at hj; subst hj; exact c0
    | 1, hj => simp [flatE] at hj; subst hj; exact c1
    | j + 2, hj => simp [flatE] at hj
  refine wpListIn_plain hg fun K hK' => ?_
  obtain ⟨v', w', hrun, r1, r2, r3⟩ := run_append_own (P := Tryz.prog) W B 31 o.type 59 i0 (.agg #[.string ⟨#[]⟩, .string ⟨#[]⟩]) 2 32 Tryz.underlying31 hi hz0 hz1 hz2 rfl (by decide) v L.length (flatE L) hown ⟨ad, 0, none⟩ 1 1 (flatE [y]) hl hnews (flatE_one [y]) (by unfold maxLen; omega) (by omega) hB
  have hb := app_block Tryz.underlying31 hi hz0 hz1 hz2 hown hl hnews (flatE_one [y]) (by decide) (by unfold maxLen; omega) (by omega) hrun
  obtain ⟨va, vc, hv'⟩ := own_form r1
  subst hv'
  unfold Oper.wpIn
  refine ⟨?_, ?_⟩
  · simp [Oper.about, hop, resolve, Target.leads, Sem.run_pure]
  · rw [Oper.semAt_plain F _ _ (by rw [hop]; intro c hc'; cases hc')]
    simp [execOp, hop, resolve, invoke, builtin, hs, hx, hrun, Result.andThen]
    refine hK' _ _ (h va vc w' ?_ r2 hb)
    unfold RowE
    rw [List.length_append, flatE_append]
    exact r1
/-- append, of one number -/
theorem wpListIn_num {F : Fence} {fn : Nat} (W : World) {ops : Array Oper} {rest : List Oper} {o : Oper} {a : Act} {Q : Exit → Act → World → Prop} (hg : o.guard = none) (s x : Operand)
    (hop : o.op = Op.call { callee := Callee.builtin Builtin.append, args := #[s, x], argTypes := #[40, 40] }) (B : Nat) (v : Value) (L : List Int) (m : Nat) (hm : L.length = m) (y : Int) (hs : a.eval s = v) (hown : RowI W B v L) (hn : m ≤ 100000) (hB : B ≤ W.heap.size)
    (ad : Nat) (hx : a.eval x = .slice (some ⟨ad, 0, none⟩) 1 1) (c0 : W.cell? ⟨ad, 0, none⟩ = some (.int .i64 y))
    (h : ∀ va vc w', RowI w' B (.slice va (m + 1) vc) (L ++ [y]) → W.grownBy w' v.ownBlock → Moved W v (.slice va (m + 1) vc) → wpListIn F fn Tryz.prog ops Q rest (a.put o.dst (.slice va (m + 1) vc)) w') : wpListIn F fn Tryz.prog ops Q (o :: rest) a W := by
  obtain ⟨i0, hi, hz0, hz1, hz2⟩ := info_parts info3
  subst hm
  have hnews : ∀ j u, [Value.int .i64 y][j]? = some u → W.cell? ((⟨ad, 0, none⟩ : Addr).add j) = some u := by
    intro j u hj
    rw [add_plain, Nat.zero_add]
    match j, hj with
    | 0, hj => simp at hj; subst hj; exact c0
  refine wpListIn_plain hg fun K hK' => ?_
  obtain ⟨v', w', hrun, r1, r2, r3⟩ := run_append_own (P := Tryz.prog) W B 40 o.type 3 i0 (.int .i64 0) 1 8 Tryz.underlying40 hi hz0 hz1 hz2 rfl (by decide) v L.length (L.map (Value.int .i64)) hown ⟨ad, 0, none⟩ 1 1 [.int .i64 y] rfl hnews (fun u hu => by simp at hu; subst hu; rfl) (by unfold maxLen; omega) (by omega) hB
  have hb := app_block Tryz.underlying40 hi hz0 hz1 hz2 hown (by rfl : [Value.int .i64 y].length = 1 * 1) hnews (fun u hu => by simp at hu; subst hu; rfl) (by decide) (by unfold maxLen; omega) (by omega) hrun
  obtain ⟨va, vc, hv'⟩ := own_form r1
  subst hv'
  unfold Oper.wpIn
  refine ⟨?_, ?_⟩
  · simp [Oper.about, hop, resolve, Target.leads, Sem.run_pure]
  · rw [Oper.semAt_plain F _ _ (by rw [hop]; intro c hc'; cases hc')]
    simp [execOp, hop, resolve, invoke, builtin, hs, hx, hrun, Result.andThen]
    refine hK' _ _ (h va vc w' ?_ r2 hb)
    unfold RowI
    rw [List.length_append, List.map_append]
    exact r1
end
end Go.Proofs.YtjcbaiohpdihoaaGreatDoor

namespace Go.Proofs.YtjcbaiohpdihoaaGreatDoor
open Go.RowKit Go.Maps Lf
attribute [local go_sem] Oper.semAt_some
set_option linter.unusedVariables false
set_option linter.unusedSimpArgs false
set_option maxRecDepth 100000

section
variable {w W wr V3 : World} {S T X V V' : Nat → Prop} {k q s tb : Nat} {d : Ds} {f : Int → ByteArray} {N M : Nat} {root : Int}
theorem entries_any (w : World) (tb : Nat) (key : ByteArray) : Calls Tryz.prog 78 #[.pointer (some ⟨tb, 0, none⟩), .string key] w fun e w' => e = .returned (.func (.func 131) #[] #[.pointer (some ⟨w.heap.size, 0, none⟩), .pointer (some ⟨w.heap.size + 1, 0, none⟩)]) ∧ w' = (w.alloc (.cells #[.pointer (some ⟨tb, 0, none⟩)] 29)).alloc (.cells #[.string key] 9) := by
  have hmf : ∀ (fn : Fn) (first cap : Array Value) (w : World), (Instr.makeFunc fn first cap).run Tryz.prog w = .ok (.func fn first cap) w := fun _ _ _ _ => rfl
  go_enter Tryz.func78, Tryz.ntmps78
  go_wp2_with fail
  go_ret
  exact ⟨rfl, rfl⟩
/-- between two rounds -/
def LsI (b5 b7 n B : Nat) (V : Nat → Prop) (pre : List Ent) (W : World) : Prop := ∃ va vc, LsB b7 31 59 2 B (fun j => j = b5) V va vc pre.length (flatE pre) W ∧ Blk W b5 #[.int .i64 (n : Nat)] 3 ∧ pre.length < n
def LsX (b5 b7 n B : Nat) (c : Code) (V : Nat → Prop) (pre : List Ent) (W : World) : Prop := ∃ va vc, LsB b7 31 59 2 B (fun j => j = b5) V va vc pre.length (flatE pre) W ∧ pre.length = n ∧ c = .exit 0
/-- within a round -/
def Ls1 (b5 b7 n B : Nat) (tm : Ent → Nat → Array Value) (x : Ent) (a' : Act) (V : Nat → Prop) (pre : List Ent) (W : World) : Prop := ∃ va vc bx, LsB b7 31 59 2 B (fun j => j = b5) (fun j => V j ∧ j ≠ bx) va vc pre.length (flatE pre) W ∧ Blk W b5 #[.int .i64 (n : Nat)] 3 ∧ pre.length < n ∧ V bx ∧ B ≤ bx ∧ Blk W bx #[.string x.k, .string x.v] 59 ∧ a' = { tmps := tm x bx, defers := [] }

theorem LsI.loc {b5 b7 n B : Nat} : Loc (LsI b5 b7 n B) := by
  rintro V s A B' T ⟨va, vc, h, h5, h6⟩ hk hn
  exact ⟨va, vc, h.keep hk hn, hk.blk h5 (hn _ ((h.v _).2 (.inl rfl))), h6⟩
theorem LsX.loc {b5 b7 n B : Nat} {c : Code} : Loc (LsX b5 b7 n B c) := by
  rintro V s A B' T ⟨va, vc, h, h6⟩ hk hn
  exact ⟨va, vc, h.keep hk hn, h6⟩
theorem Ls1.loc {b5 b7 n B : Nat} {tm : Ent → Nat → Array Value} {x : Ent} {a' : Act} : Loc (Ls1 b5 b7 n B tm x a') := by
  rintro V s A B' T ⟨va, vc, bx, h, h5, h6, h7, h8, h9, h10⟩ hk hn
  exact ⟨va, vc, bx, h.keep hk (fun j hj => hn j hj.1), hk.blk h5 (hn _ ((h.v _).2 (.inl rfl)).1), h6, h7, h8, hk.blk h9 (hn _ h7), h10⟩
theorem LsI.lt {b5 b7 n B : Nat} : Lt (LsI b5 b7 n B) := by
  rintro V s A ⟨va, vc, h, h5, h6⟩
  exact h.lt
theorem LsX.lt {b5 b7 n B : Nat} {c : Code} : Lt (LsX b5 b7 n B c) := by
  rintro V s A ⟨va, vc, h, h6⟩
  exact h.lt
theorem Ls1.lt {b5 b7 n B : Nat} {tm : Ent → Nat → Array Value} {x : Ent} {a' : Act} : Lt (Ls1 b5 b7 n B tm x a') := by
  rintro V s A ⟨va, vc, bx, h, h5, h6, h7, h8, h9, h10⟩ j hj
  by_cases e : j = bx
  · subst e; exact h9.lt
  · exact h.lt j ⟨hj, e⟩

set_option maxHeartbeats 8000000 in
theorem list_any (Le Ms : List Ent) (key : ByteArray) (n : Nat) (hn : 1 ≤ n) (hn2 : n ≤ 100000) (hml : Ms.length ≤ 100000)
    (hsv : Sv w S k q s d f N) (hE : Env w) (h0 : ¬ S 0) (htb : tb < w.heap.size)
    (hit : ∀ (w1 : World) (V : Nat → Prop), Below w.heap.size w w1 → (∀ j, V j → w.heap.size ≤ j ∧ j < w1.heap.size) → ∀ b1 b2, Blk w1 b1 #[.pointer (some ⟨tb, 0, none⟩)] 29 → Blk w1 b2 #[.string key] 9 → w.heap.size ≤ b1 → w.heap.size ≤ b2 → ¬ V b1 → ¬ V b2 → SeqW 131 #[.pointer (some ⟨b1, 0, none⟩), .pointer (some ⟨b2, 0, none⟩)] encE Ms (OutS k q s d f M) S V w1) :
    Calls Tryz.prog 43 #[.pointer (some ⟨tb, 0, none⟩), .string key, .int .i64 (n : Nat)] w fun e w' => ∃ va vc, e = .returned (.slice va (Ms.take n).length vc) ∧ RowE w' w.heap.size (.slice va (Ms.take n).length vc) (Ms.take n) ∧ Snx w S k q s d f M (.slice va (Ms.take n).length vc) w' := by
  have hn1 : ¬ ((n : Int) < 1) := by omega
  have hro : Fence.wide.round = none := rfl
  have h1 : 1 ≤ 3 := by omega
  refine (callsIn_wide (n := 3)).1 ?_
  refine callsIn_of_wp_marks Tryz.func43 rfl trivial ?_ hro
  simp only [Tryz.ntmps43, List.size_toArray, List.length_cons, List.length_nil, Nat.reduceAdd, Nat.reduceSub, Array.replicate_succ, Array.replicate_zero, List.push_toArray, List.append_toArray, List.nil_append, List.cons_append]
  gi_wp2_with (refine ⟨trivial, ?_⟩; gi_at_call 78; refine ((callsIn_wide (n := _)).2 (entries_any _ _ _)).mono ?_; rintro e w5 ⟨rfl, hw5⟩)
  obtain ⟨b5, hb5⟩ : ∃ b5, b5 = w.heap.size := ⟨_, rfl⟩
  have hB0 : Below w.heap.size w w5 := by
    rw [hw5]
    refine Below.alloc (Below.alloc (Below.alloc (Below.alloc (Below.refl _ w) (Nat.le_refl _) _) ?_ _) ?_ _) ?_ _ <;> simp <;> omega
  have hsz : w5.heap.size = b5 + 4 := by rw [hw5, hb5]; simp
  have K5 : Blk w5 b5 #[.int .i64 (n : Nat)] 3 := by
    rw [hw5, hb5]
    have := Blk.made w #[.int .i64 (n : Nat)] 3
    exact ((this.on ((Below.refl _ _).alloc (Nat.le_refl _) _) this.lt).on ((Below.refl _ _).alloc (Nat.le_refl _) _) (by simp; omega)).on ((Below.refl _ _).alloc (Nat.le_refl _) _) (by simp; omega)
  have K7 : Blk w5 (b5 + 1) #[.slice none 0 0] 31 := by
    have := Blk.made (w.alloc (.cells #[.int .i64 (n : Nat)] 3)) #[.slice none 0 0] 31
    simp only [World.size_alloc] at this
    rw [hw5, hb5]
    exact (this.on ((Below.refl _ _).alloc (Nat.le_refl _) _) (by simp)).on ((Below.refl _ _).alloc (Nat.le_refl _) _) (by simp)
  have Kb1 : Blk w5 (b5 + 2) #[.pointer (some ⟨tb, 0, none⟩)] 29 := by
    have := Blk.made ((w.alloc (.cells #[.int .i64 (n : Nat)] 3)).alloc (.cells #[.slice none 0 0] 31)) #[.pointer (some ⟨tb, 0, none⟩)] 29
    simp only [World.size_alloc] at this
    rw [hw5, hb5]
    exact this.on ((Below.refl _ _).alloc (Nat.le_refl _) _) (by simp)
  have Kb2 : Blk w5 (b5 + 3) #[.string key] 9 := by
    have := Blk.made (((w.alloc (.cells #[.int .i64 (n : Nat)] 3)).alloc (.cells #[.slice none 0 0] 31)).alloc (.cells #[.pointer (some ⟨tb, 0, none⟩)] 29)) #[.string key] 9
    simp only [World.size_alloc] at this
    rw [hw5, hb5]
    exact this
  have hV : ∀ j, (j = b5 ∨ j = b5 + 1) → j < w5.heap.size := fun j hj => by omega
  have hse := hit w5 (fun j => j = b5 ∨ j = b5 + 1) hB0 (fun j hj => ⟨by omega, hV j hj⟩) (b5 + 2) (b5 + 3) Kb1 Kb2 (by omega) (by omega) (by omega) (by omega)
  have HSV := hid hsv
  have HB0 := hid hB0
  have HSZ := hid hsz
  rw [← hw5]
  clear hw5 hit hsv hE h0 Kb1 Kb2 hB0
  rw [← hb5]
  have HB5 := hid hb5
  refine range_w (w := w5) (V := fun j => j = b5 ∨ j = b5 + 1) (Out := OutS k q s d f M) (S := S) (L := Ms) (encs := encE) (ps := #[14]) h1 (gf := 131) (lb := #[.pointer (some ⟨b5 + 1 + 1, 0, none⟩), .pointer (some ⟨b5 + 1 + 1 + 1, 0, none⟩)]) ?geval (enters_of Tryz.func131 (by kernel_rfl) rfl) ?gps
    OutS.keep hV hse (LsI b5 (b5 + 1) n w5.heap.size)
    (Ls1 b5 (b5 + 1) n w5.heap.size (fun x bx => #[.pointer (some ⟨tb, 0, none⟩), .string key, .int .i64 (n : Nat), undef, undef, .pointer (some ⟨b5, 0, none⟩), .slice none 0 0, .pointer (some ⟨b5 + 1, 0, none⟩), .pointer (some ⟨bx, 0, none⟩), .int .i64 (n : Nat), .bool false, .pointer (some ⟨tb, 0, none⟩), .string key, .func (.func 131) #[] #[.pointer (some ⟨b5 + 1 + 1, 0, none⟩), .pointer (some ⟨b5 + 1 + 1 + 1, 0, none⟩)], .agg #[.string x.k, .string x.v], undef, undef, undef, undef, undef, undef, undef, undef, undef]))
    (LsX b5 (b5 + 1) n w5.heap.size) LsI.loc (fun _ _ => Ls1.loc) (fun _ => LsX.loc) LsI.lt (fun _ _ => Ls1.lt) (fun _ => LsX.lt)
    ⟨none, 0, ⟨K7, World.ownsRow_nil _ _ _ _, by omega, fun j hj => by omega, fun j => by simp [Value.ownBlock], Nat.le_refl _⟩, K5, (by show 0 < n; omega)⟩ ?assign ?body ?done ?stop
  case geval => rfl
  case gps => exact fun _ => rfl
  case assign =>
    subst hb5
    rintro m l V0 pre x W Kq ⟨va, vc, h, h5, h6⟩ hpre hK
    have hbl := (Below.refl W.heap.size W).alloc (Nat.le_refl _) (.cells #[.string x.k, .string x.v] 59)
    have hkb : Keep (fun _ => False) W (W.alloc (.cells #[.string x.k, .string x.v] 59)) := Keep.of_below hbl
    have hVe : (fun j => (V0 j ∨ j = W.heap.size) ∧ j ≠ W.heap.size) = V0 := by
      funext j
      refine propext ⟨fun hh => ?_, fun hh => ⟨.inl hh, fun e => ?_⟩⟩
      · rcases hh.1 with h1 | h1
        · exact h1
        · exact absurd h1 hh.2
      · have := h.lt j hh
        omega
    have hbx := Blk.made W #[.string x.k, .string x.v] 59
    have HF := hid hK
    unfold encE
    gi_wp2
    refine HF.out _ _ (fun j => V0 j ∨ j = W.heap.size) (hkb.mono (fun _ _ h => h.elim)) (fun j hj => ?_) ⟨va, vc, W.heap.size, ?_, hkb.blk h5 id, h6, .inr rfl, h.bs, hbx, rfl⟩
    · rcases hj with hj | hj
      · exact .inl hj
      · exact .inr (by omega)
    · rw [hVe]
      exact h.keep hkb (fun _ _ => id)
  case body =>
    rintro mm l V0 pre x a' W ⟨va, vc, bx, h, h5, h6, h7, h8, h9, rfl⟩ hpre
    have c7 := h.blk.cell (i := 0) (v := .slice va pre.length vc) rfl
    have cx0 := h9.cell (i := 0) (v := .string x.k) rfl
    have cx1 := h9.cell (i := 1) (v := .string x.v) rfl
    have HRW : Hid (∀ o, RowE (W.alloc o) w5.heap.size (.slice va pre.length vc) pre) := fun o => own_below h.row ((Below.refl W.heap.size W).alloc (Nat.le_refl _) o)
    have A0 := (Blk.made W #[.string x.k, .string x.v] 59).cell (i := 0) (v := .string x.k) rfl
    have A1 := (Blk.made W #[.string x.k, .string x.v] 59).cell (i := 1) (v := .string x.v) rfl
    have HH := hid h
    have H5 := hid h5
    have hm1 : pre.length ≤ 100000 := by omega
    have HLE := hid h.bs
    have c5 := h5.cell (i := 0) (v := .int .i64 (n : Nat)) rfl
    have H55 : Hid (((fun j => V0 j ∧ j ≠ bx) b5) ∧ b5 ≠ b5 + 1 ∧ (Value.slice va pre.length vc).ownBlock ≠ some b5) := ⟨(h.v b5).2 (.inl rfl), by omega, fun e => by have := (own_lo h.row e).1; have := (h.xlo b5 rfl).1; omega⟩
    obtain ⟨m, hm⟩ : ∃ m, m = pre.length := ⟨_, rfl⟩
    have HM := hid hm
    rw [← hm] at c7 HRW HH h6 H55 hm1
    clear h h5 h7 h8 h9 hm hb5 hsz
    have HN := hid hn
    clear hn
    have hlen : (pre ++ [x]).length = m + 1 := by rw [List.length_append, HM.out]; rfl
    have HLEN := hid hlen
    clear hlen
    by_cases hmn : (m : Int) + 1 = (n : Int)
    all_goals gi_wp2_with (first
      | (gi_at_builtin; refine wpListIn_ent _ rfl _ _ rfl w5.heap.size (.slice va m vc) pre m HM.out.symm x rfl (HRW.out _) hm1 (by simp; exact Nat.le_succ_of_le HLE.out) W.heap.size rfl A0 A1 ?_; intro va' vc' w3 hr hg hmv; obtain ⟨c7', f7, hoth, hrest⟩ := HH.out.more (m := m + 1) (ys := flatE (pre ++ [x])) (by unfold RowE at hr; rw [List.length_append, List.length_singleton, ← HM.out] at hr; exact hr) hg hmv; have k5 := hoth b5 H55.out.1 H55.out.2.1 H55.out.2.2; have c5' := (World.cell?_of_block (a := ⟨b5, 0, none⟩) k5).trans c5; have K5' := hid (show Blk _ b5 _ 3 from k5.trans H5.out); have HR := hid hrest; clear hr hg hmv hoth hrest k5 c5 c7 cx0 cx1 A0 A1))
    · obtain ⟨V2, k2, g2, h2⟩ := HR.out
      refine ⟨V2, k2.mono (fun j _ hj => hj.1), fun j hj => ?_, va', vc', ?_, ?_, rfl⟩
      · rcases g2 j hj with h1 | h1
        · exact .inl h1.1
        · exact .inr h1
      · rw [HLEN.out]; exact h2
      · rw [HLEN.out]; omega
    · obtain ⟨V2, k2, g2, h2⟩ := HR.out
      refine ⟨V2, k2.mono (fun j _ hj => hj.1), fun j hj => ?_, va', vc', ?_, K5'.out, ?_⟩
      · rcases g2 j hj with h1 | h1
        · exact .inl h1.1
        · exact .inr h1
      · rw [HLEN.out]; exact h2
      · rw [HLEN.out]; omega
  case done =>
    rintro D V2 T W2 hD ⟨hDT, hDV⟩ ⟨va, vc, h, h5, h6⟩ ho hdis hgs hgv hkp hK
    have c7 := h.blk.cell (i := 0) (v := .slice va Ms.length vc) rfl
    clear hb5 hsz
    gi_wp2
    refine ⟨by simp, .inl ⟨_, _, rfl, run_takeDeferred hK, ?_⟩⟩
    have e1 : Ms.take n = Ms := List.take_of_length_le (by omega)
    rw [e1]
    exact ⟨.slice va Ms.length vc, by simp [results, Tryz.results43, go_sem], ⟨va, vc, rfl, h.fin HB0.out hD hDT hDV ho hdis hgs (fun j hj => by have := HB5.out; omega) hkp _⟩⟩
  case stop =>
    rintro D V2 T W2 c pre hD ⟨hDT, hDV⟩ hpre ⟨va, vc, h, h6, rfl⟩ ho hdis hgs hgv hkp hK
    subst h6
    have c7 := h.blk.cell (i := 0) (v := .slice va pre.length vc) rfl
    clear hb5 hsz
    gi_wp2
    refine ⟨by simp, .inl ⟨_, _, rfl, run_takeDeferred hK, ?_⟩⟩
    have e1 : Ms.take pre.length = pre := (List.prefix_iff_eq_take.1 hpre).symm
    rw [e1]
    exact ⟨.slice va pre.length vc, by simp [results, Tryz.results43, go_sem], ⟨va, vc, rfl, h.fin HB0.out hD hDT hDV ho hdis hgs (fun j hj => by have := HB5.out; omega) hkp _⟩⟩
end
end Go.Proofs.YtjcbaiohpdihoaaGreatDoor
