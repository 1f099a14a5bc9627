/-
  What each field takes.
-/
import Derived.Test.YthohopbolalpcaaSm
namespace Go.Proofs.Ythohopbolalpcaa
open Go.RowKit
set_option linter.unusedVariables false
set_option linter.unusedSimpArgs false
set_option maxRecDepth 100000

theorem infoK : (Try.prog.info? 33).map (fun i => (i.zero, i.size, i.bytes)) = some (some (.int .u64 0), 1, 8) := by kernel_rfl
theorem RowK.form {w : World} {B : Nat} {v : Value} {K : List Nat} (h : RowK w B v K) : ∃ a c, v = .slice a K.length c := own_form h
theorem RowK.on {w w' : World} {B : Nat} {v : Value} {K : List Nat} (h : RowK w B v K) (hb : Below w.heap.size w w') : RowK w' B v K := own_below h hb
theorem RowK.nil (w : World) (B : Nat) : RowK w B (.slice none 0 0) [] := World.ownsRow_nil _ _ _ _

/-- append, of one address -/
theorem wpList_kid {ops : Array Oper} {rest : List Oper} {o : Oper} {a : Act} {Q : Exit → Act → World → Prop} (W : World) (hgd : o.guard = none) (s x : Operand)
    (ho : o.op = .call { callee := .builtin .append, args := #[s, x], argTypes := #[22, 22] }) (B : Nat) (v : Value) (K : List Nat) (m : Nat) (hm : K.length = m) (hs : a.eval s = v) (hown : RowK W B v K) (hB : B ≤ W.heap.size)
    (ad n : Nat) (hx : a.eval x = .slice (some ⟨ad, 0, none⟩) 1 1) (c0 : W.cell? ⟨ad, 0, none⟩ = some (.int .u64 (n : Nat))) (hlen : m ≤ 1000)
    (h : ∀ va vc w', RowK w' B (.slice va (m + 1) vc) (K ++ [n]) → W.grownBy w' v.ownBlock → wpList Try.prog ops Q rest (a.put o.dst (.slice va (m + 1) vc)) w') : wpList Try.prog ops Q (o :: rest) a W := by
  obtain ⟨i0, hi, hz0, hz1, hz2⟩ := info_parts infoK
  subst hm
  refine wpList_append_blk W hgd s x 22 ho B 33 i0 (.int .u64 0) 1 8 Try.underlying22 hi hz0 hz1 hz2 rfl (by decide) v K.length (flatK K) hs hown ⟨ad, 0, none⟩ 1 1 [.int .u64 (n : Nat)] hx rfl (by
    intro j u hj
    match j, hj with
    | 0, hj => simp at hj; subst hj; simpa [Addr.add] using c0) (by intro u hu; simp at hu; subst hu; rfl) (by decide) (by unfold maxLen; omega) (by omega) hB ?_
  intro v' w' hown' hgrow _
  obtain ⟨va, vc, hv'⟩ := own_form hown'
  subst hv'
  refine h va vc w' ?_ hgrow
  unfold RowK
  rw [List.length_append, flatK_append]
  exact hown'

/-- a node, once a field has taken a number -/
def take (x : Nd) (i n : Nat) : Nd :=
  if i = 0 then x else if i = 1 then { x with queued := decide (n ≠ 0) } else if i = 2 then { x with at' := n } else if i = 3 then { x with name := trimOf ⟨(be n 8).toArray⟩ }
  else if i = 4 then x else if i = 5 then { x with count := n } else if i = 6 then { x with next := n } else { x with kids := if n = 0 then x.kids else x.kids ++ [n] }
/-- a node that is being read: in its block, its kids a row of the call's own -/
def Nw (w : World) (B pb : Nat) (x : Nd) (kv : Value) : Prop := Blk w pb (cellsN x kv) 57 ∧ RowK w B kv x.kids
/-- how a field's take ends -/
def Tk (w w' : World) (B pb : Nat) (kv : Value) (x : Nd) : Prop := ∃ kv', Nw w' B pb x kv' ∧ Keep (fun j => j = pb ∨ kv.ownBlock = some j) w w'

section
variable {w : World} {B pb : Nat} {x : Nd} {kv : Value}
theorem take0 (n : Nat) (h : Nw w B pb x kv) : Calls Try.prog 60 #[.pointer (some ⟨pb, 0, none⟩), .int .u64 (n : Nat)] w fun e w' => e = .returned (.tuple #[]) ∧ Tk w w' B pb kv x := by
  have HT : Hid (Tk w w B pb kv x) := ⟨kv, h, Keep.refl _ _⟩
  clear h
  go_enter Try.func60, Try.ntmps60
  go_wp2
  go_end0
  exact ⟨rfl, HT.out⟩
theorem Tk.set (h : Nw w B pb x kv) {x' : Nd} (i : Nat) (v : Value) (hc : (cellsN x kv).setIfInBounds i v = cellsN x' kv) (hk : x'.kids = x.kids) : Tk w (w.setCell ⟨pb, i, none⟩ v) B pb kv x' := by
  refine ⟨kv, ⟨?_, ?_⟩, Keep.set (S := fun j => j = pb ∨ kv.ownBlock = some j) w (.inl rfl) i v⟩
  · rw [← hc]; exact h.1.set i v
  · rw [hk]
    exact (Keep.set (S := fun j => j = pb) w rfl i v).row h.2 (fun g hg e => Blk.ne h.1 h.2 (by decide) hg e)
theorem take1 (n : Nat) (h : Nw w B pb x kv) : Calls Try.prog 62 #[.pointer (some ⟨pb, 0, none⟩), .int .u64 (n : Nat)] w fun e w' => e = .returned (.tuple #[]) ∧ Tk w w' B pb kv (take x 1 n) := by
  have hq : ((n : Int) != 0) = decide (n ≠ 0) := by
    by_cases h : n = 0
    · subst h; rfl
    · rw [decide_eq_true h, bne_iff_ne]; omega
  have HT : Hid (Tk w (w.setCell ⟨pb, 4, none⟩ (.bool ((n : Int) != 0))) B pb kv (take x 1 n)) := Tk.set h 4 _ (by rw [hq]; rfl) rfl
  have c4 := h.1.cell (i := 4) rfl
  have f4 := h.1.free 4
  clear h hq
  go_enter Try.func62, Try.ntmps62
  go_wp2
  go_end0
  exact ⟨rfl, HT.out⟩
theorem take2 (n : Nat) (h : Nw w B pb x kv) : Calls Try.prog 64 #[.pointer (some ⟨pb, 0, none⟩), .int .u64 (n : Nat)] w fun e w' => e = .returned (.tuple #[]) ∧ Tk w w' B pb kv (take x 2 n) := by
  have HT : Hid (Tk w (w.setCell ⟨pb, 0, none⟩ (.int .u64 (n : Nat))) B pb kv (take x 2 n)) := Tk.set h 0 _ rfl rfl
  have c4 := h.1.cell (i := 0) rfl
  have f4 := h.1.free 0
  clear h
  go_enter Try.func64, Try.ntmps64
  go_wp2
  go_end0
  exact ⟨rfl, HT.out⟩
theorem take6 (n : Nat) (h : Nw w B pb x kv) : Calls Try.prog 72 #[.pointer (some ⟨pb, 0, none⟩), .int .u64 (n : Nat)] w fun e w' => e = .returned (.tuple #[]) ∧ Tk w w' B pb kv (take x 6 n) := by
  have HT : Hid (Tk w (w.setCell ⟨pb, 5, none⟩ (.int .u64 (n : Nat))) B pb kv (take x 6 n)) := Tk.set h 5 _ rfl rfl
  have c4 := h.1.cell (i := 5) rfl
  have f4 := h.1.free 5
  clear h
  go_enter Try.func72, Try.ntmps72
  go_wp2
  go_end0
  exact ⟨rfl, HT.out⟩
theorem take5 (n : Nat) (hn : n < 4294967296) (h : Nw w B pb x kv) : Calls Try.prog 70 #[.pointer (some ⟨pb, 0, none⟩), .int .u64 (n : Nat)] w fun e w' => e = .returned (.tuple #[]) ∧ Tk w w' B pb kv (take x 5 n) := by
  have hw : IntKind.i64.wrap (n : Int) = (n : Int) := by rw [IntKind.wrap_i64]; omega
  have HT : Hid (Tk w (w.setCell ⟨pb, 3, none⟩ (.int .i64 (n : Nat))) B pb kv (take x 5 n)) := Tk.set h 3 _ rfl rfl
  have c4 := h.1.cell (i := 3) rfl
  have f4 := h.1.free 3
  clear h hn
  go_enter Try.func70, Try.ntmps70
  go_wp2
  go_end0
  exact ⟨rfl, HT.out⟩
theorem Nw.on {w' : World} (h : Nw w B pb x kv) (hb : Below w.heap.size w w') : Nw w' B pb x kv := ⟨h.1.on hb h.1.lt, h.2.on hb⟩
theorem Tk.after {w1 w' : World} {x' : Nd} (h : Tk w1 w' B pb kv x') (hb : Below w.heap.size w w1) : Tk w w' B pb kv x' := by
  obtain ⟨kv', h1, h2⟩ := h
  exact ⟨kv', h1, (Keep.of_below (S := fun j => j = pb ∨ kv.ownBlock = some j) hb).trans h2 (fun _ _ h => h)⟩
set_option maxHeartbeats 2000000 in
theorem take3 (n : Nat) (hn : n < 256 ^ 8) (h : Nw w B pb x kv) : Calls Try.prog 66 #[.pointer (some ⟨pb, 0, none⟩), .int .u64 (n : Nat)] w fun e w' => e = .returned (.tuple #[]) ∧ Tk w w' B pb kv (take x 3 n) := by
  have hp := fun w1 => sput n 8 w1 (by omega) (by omega) hn
  have hsz : (⟨(be n 8).toArray⟩ : ByteArray).size = 8 := by rw [Lib.size_eq]; exact be_length n 8
  have ht := fun w1 => trim_any (⟨(be n 8).toArray⟩ : ByteArray) w1 (by omega)
  have he : take x 3 n = { x with name := trimOf ⟨(be n 8).toArray⟩ } := by
    unfold take
    rw [if_neg (by decide), if_neg (by decide), if_neg (by decide), if_pos rfl]
  rw [he]
  clear hn hsz he
  generalize (⟨(be n 8).toArray⟩ : ByteArray) = s at *
  generalize trimOf s = t at *
  have HT : Hid (∀ w1, Below w.heap.size w w1 → Tk w (w1.setCell ⟨pb, 1, none⟩ (.string t)) B pb kv { x with name := t }) := fun w1 hb => (Tk.set (h.on hb) (x' := { x with name := t }) 1 (.string t) rfl rfl).after hb
  have HN : Hid (∀ w1, Below w.heap.size w w1 → Nw w1 B pb x kv) := fun w1 hb => h.on hb
  clear h
  go_enter Try.func66, Try.ntmps66
  go_wp2_with (first
    | (go_at_call 43; refine (hp _).mono ?_; clear hp; rintro e w1 ⟨rfl, hb1⟩)
    | (go_at_call 67; refine (ht _).mono ?_; clear ht; rintro e w2 ⟨rfl, hb2⟩; have HB := hid (hb1.trans (hb2.mono hb1.size)); have c1 := (HN.out _ HB.out).1.cell (i := 1) rfl; have f1 := (HN.out _ HB.out).1.free 1))
  go_end0
  exact ⟨rfl, HT.out _ HB.out⟩
set_option maxHeartbeats 2000000 in
theorem take7 (i n : Nat) (hi : 7 ≤ i) (hl : x.kids.length ≤ 1000) (hB : B ≤ w.heap.size) (h : Nw w B pb x kv) : Calls Try.prog 75 #[.pointer (some ⟨pb, 0, none⟩), .int .u64 (n : Nat)] w fun e w' => e = .returned (.tuple #[]) ∧ Tk w w' B pb kv (take x i n) := by
  have he : take x i n = { x with kids := if n = 0 then x.kids else x.kids ++ [n] } := by
    unfold take
    iterate 7 rw [if_neg (by omega)]
  rw [he]
  by_cases h0 : n = 0
  · subst h0
    have HT : Hid (Tk w w B pb kv { x with kids := if 0 = 0 then x.kids else x.kids ++ [0] }) := ⟨kv, h, Keep.refl _ _⟩
    clear h he
    go_enter Try.func75, Try.ntmps75
    go_wp2
    go_end0
    exact ⟨rfl, HT.out⟩
  · rw [if_neg h0]
    have hq : ((n : Int) != 0) = true := by rw [bne_iff_ne]; omega
    obtain ⟨ka, kc, rfl⟩ := h.2.form
    have c2 := h.1.cell (i := 2) rfl
    obtain ⟨m, hm⟩ : ∃ m, x.kids.length = m := ⟨_, rfl⟩
    have HN := hid h
    have ha := (Below.refl w.heap.size w).alloc (Nat.le_refl _) (.cells #[.int .u64 (n : Nat)] 33)
    have HR1 := hid (h.2.on ha)
    have HX1 := hid (h.1.on ha h.1.lt)
    have HAL := hid ha
    have hk := (Blk.made w #[.int .u64 (n : Nat)] 33).cell (i := 0) rfl
    have hBB := Nat.le_trans hB ha.size
    have HFIN : Hid (∀ va vc w5, RowK w5 B (.slice va (m + 1) vc) (x.kids ++ [n]) → (w.alloc (.cells #[.int .u64 (n : Nat)] 33)).grownBy w5 (Value.slice ka m kc).ownBlock → Blk w5 pb (cellsN x (.slice ka m kc)) 57 ∧ Tk w (w5.setCell ⟨pb, 2, none⟩ (.slice va (m + 1) vc)) B pb (.slice ka m kc) { x with kids := x.kids ++ [n] }) := by
      intro va vc w5 hr hg
      have hb5 : Blk w5 pb (cellsN x (.slice ka m kc)) 57 := by
        have := HX1.out.kept hg (fun e => Blk.ne HX1.out HR1.out (by decide) (by rw [hm]; exact e.symm) rfl)
        rw [hm] at this
        exact this
      refine ⟨hb5, .slice va (m + 1) vc, ⟨hb5.set 2 _, (Keep.set (S := fun j => j = pb) w5 rfl 2 _).row hr (fun g hg' e => Blk.ne hb5 hr (by decide) hg' e)⟩, ?_⟩
      exact ((Keep.of_below (S := fun j => j = pb ∨ (Value.slice ka m kc).ownBlock = some j) HAL.out).trans (Keep.grown (S := fun j => j = pb ∨ (Value.slice ka m kc).ownBlock = some j) hg (fun k hk => .inr hk)) (fun _ _ h => h)).trans (Keep.set (S := fun j => j = pb ∨ (Value.slice ka m kc).ownBlock = some j) w5 (.inl rfl) 2 _) (fun _ _ h => h)
    rw [hm] at hl c2 HR1 ⊢
    have HM := hid hm
    clear h he hm HX1 HAL HN
    go_enter Try.func75, Try.ntmps75
    go_wp2_with (at_builtin; refine wpList_kid _ rfl (.tmp 10) (.tmp 12) rfl B (.slice ka m kc) x.kids m HM.out rfl HR1.out hBB _ n rfl hk hl ?_; intro va vc w5 hr5 hg5; have hf5 := HFIN.out va vc w5 hr5 hg5; have HF5 := hid hf5.2; have e2 := hf5.1.cell (i := 2) rfl; have f2 := hf5.1.free 2; clear hr5 hg5 hf5)
    go_end0
    exact ⟨rfl, HF5.out⟩
end
end Go.Proofs.Ythohopbolalpcaa

