/-
  The fields of a slot: the list of them, and what each tells.
-/
import Derived.Test.YthohopbolalpcaaSg
namespace Go.Proofs.Ythohopbolalpcaa
open Go.RowKit
set_option linter.unusedVariables false
set_option linter.unusedSimpArgs false
set_option maxRecDepth 100000

theorem infoF : (Try.prog.info? 99).map (fun i => (i.zero, i.size, i.bytes)) = some (some (.agg #[.int .i64 0, .nilFunc, .nilFunc]), 3, 24) := by kernel_rfl
/-- a plain function, as a value -/
def fv (n : Nat) : Value := .func (.func n) #[] #[]
/-- the first seven fields -/
def flatH : List Value := [.int .i64 1, fv 59, fv 60, .int .i64 1, fv 61, fv 62, .int .i64 2, fv 63, fv 64, .int .i64 8, fv 65, fv 66, .int .i64 1, fv 68, fv 60, .int .i64 4, fv 69, fv 70, .int .i64 6, fv 71, fv 72]
/-- a kid's field; its number lies in the block c -/
def flatC1 (c : Nat) : List Value := [.int .i64 6, .func (.func 73) #[] #[.pointer (some ⟨c, 0, none⟩)], fv 75]
def flatC (l : List Nat) : List Value := l.flatMap flatC1
theorem flatC_snoc (l : List Nat) (c : Nat) : flatC (l ++ [c]) = flatC l ++ flatC1 c := by simp [flatC, List.flatMap_append]

/-- append, of one field -/
theorem wpList_fld {ops : Array Oper} {rest : List Oper} {o : Oper} {a : Act} {Q : Exit → Act → World → Prop} (W w0 : World) (hgd : o.guard = none) (s x : Operand)
    (ho : o.op = .call { callee := .builtin .append, args := #[s, x], argTypes := #[83, 83] }) (v : Value) (xs : List Value) (m : Nat) (hs : a.eval s = v) (hown : W.ownsRow w0.heap.size 99 3 v m xs) (hB : Below w0.heap.size w0 W)
    (ad c : Nat) (hx : a.eval x = .slice (some ⟨ad, 0, none⟩) 1 1) (hc : ∀ j u, (flatC1 c)[j]? = some u → W.cell? ((⟨ad, 0, none⟩ : Addr).add j) = some u) (hlen : m ≤ 1000)
    (h : ∀ va vc w', w'.ownsRow w0.heap.size 99 3 (.slice va (m + 1) vc) (m + 1) (xs ++ flatC1 c) → Below w0.heap.size w0 w' → W.grownBy w' v.ownBlock → wpList Try.prog ops Q rest (a.put o.dst (.slice va (m + 1) vc)) w') : wpList Try.prog ops Q (o :: rest) a W := by
  obtain ⟨i0, hi, hz0, hz1, hz2⟩ := info_parts infoF
  refine wpList_append_blk W hgd s x 83 ho w0.heap.size 99 i0 (.agg #[.int .i64 0, .nilFunc, .nilFunc]) 3 24 Try.underlying83 hi hz0 hz1 hz2 rfl (by decide) v m xs hs hown ⟨ad, 0, none⟩ 1 1 (flatC1 c) hx rfl hc (by intro u hu; simp only [flatC1, fv, List.mem_cons, List.not_mem_nil, or_false] at hu; rcases hu with rfl | rfl | rfl <;> rfl) (by decide) (by unfold maxLen; omega) (by omega) hB.size ?_
  intro v' w' hown' hgrow _
  obtain ⟨va, vc, hv'⟩ := own_form hown'
  subst hv'
  exact h va vc w' hown' (hB.grown hgrow hB.size (fun g hg => (hown.lt g hg).1)) hgrow

/-- the list of fields, as it lies -/
def Flds (w : World) (B : Nat) (v : Value) : Prop := ∃ cl : List Nat, cl.length = 4 ∧ w.ownsRow B 99 3 v 11 (flatH ++ flatC cl) ∧ ∀ (k c : Nat), cl[k]? = some c → Blk w c #[.int .i64 (k : Nat)] 3
theorem Flds.on {w w' : World} {B : Nat} {v : Value} (h : Flds w B v) (hb : Below w.heap.size w w') : Flds w' B v := by
  obtain ⟨cl, h1, h2, h3⟩ := h
  exact ⟨cl, h1, own_below h2 hb, fun k c hk => (h3 k c hk).on hb (h3 k c hk).lt⟩

set_option maxHeartbeats 4000000 in
theorem fields_any (w : World) : Calls Try.prog 49 #[] w fun e w' => ∃ v, e = .returned v ∧ Flds w' w.heap.size v ∧ Below w.heap.size w w' := by
  have HB0 := hid (Below.refl w.heap.size w)
  have H7 : Hid ((w.alloc (.cells flatH.toArray 99)).ownsRow w.heap.size 99 3 (.slice (some ⟨w.heap.size, 0, none⟩) 7 7) 7 (flatH ++ flatC [])) := by
    show World.ownsRow _ _ _ _ _ _ _
    refine ⟨rfl, .inr ⟨w.heap.size, 7, flatH.toArray, rfl, Nat.le_refl _, Blk.made w _ 99, Nat.le_refl _, by decide, rfl, ?_⟩⟩
    simp [flatC, flatH]
  have HB1 := hid (HB0.out.alloc (Nat.le_refl _) (.cells flatH.toArray 99))
  simp only [flatH, fv] at H7 HB1
  have HN : Hid (∀ k c : Nat, ([] : List Nat)[k]? = some c → Blk w c #[.int .i64 (k : Nat)] 3) := by intro k c h; simp at h
  go_enter Try.func49, Try.ntmps49
  go_wp2_with fail
  generalize w.alloc (Obj.cells #[Value.int IntKind.i64 1, Value.func (Fn.func 59) #[] #[], Value.func (Fn.func 60) #[] #[], Value.int IntKind.i64 1, Value.func (Fn.func 61) #[] #[], Value.func (Fn.func 62) #[] #[], Value.int IntKind.i64 2, Value.func (Fn.func 63) #[] #[], Value.func (Fn.func 64) #[] #[], Value.int IntKind.i64 8, Value.func (Fn.func 65) #[] #[], Value.func (Fn.func 66) #[] #[], Value.int IntKind.i64 1, Value.func (Fn.func 68) #[] #[], Value.func (Fn.func 60) #[] #[], Value.int IntKind.i64 4, Value.func (Fn.func 69) #[] #[], Value.func (Fn.func 70) #[] #[], Value.int IntKind.i64 6, Value.func (Fn.func 71) #[] #[], Value.func (Fn.func 72) #[] #[]] 99) = wz at *
  go_loopw [1, 11] (fun y i wr => ∃ (j : Nat) (va : Option Addr) (vc : Nat) (cl : List Nat), j ≤ 4 ∧ y = .slice va (7 + j) vc ∧ i = .int .i64 (j : Nat) ∧ Hid (cl.length = j) ∧ Hid (wr.ownsRow w.heap.size 99 3 (.slice va (7 + j) vc) (7 + j) (flatH ++ flatC cl)) ∧ Hid (∀ k c : Nat, cl[k]? = some c → Blk wr c #[.int .i64 (k : Nat)] 3) ∧ Hid (Below w.heap.size w wr)) (fun _ i _ => 4 - (intOf i).toNat)
  case atStart => exact ⟨0, some ⟨w.heap.size, 0, none⟩, 7, [], Nat.zero_le _, rfl, rfl, rfl, H7, fun k c h => by simp at h, HB1⟩
  case round =>
    obtain ⟨j, va, vc, cl, hj, rfl, rfl, HCL, HO, HC, HB⟩ := hrel
    clear HB1 H7 HN HB0
    by_cases hjn : j < 4
    · have hji : (j : Int) < 4 := by omega
      have HA1 := hid ((Below.refl wr.heap.size wr).alloc (Nat.le_refl _) (.cells #[.int .i64 (j : Nat)] 3))
      have HK1 := hid (Blk.made wr #[.int .i64 (j : Nat)] 3)
      have hsz : wr.heap.size ≤ (wr.alloc (.cells #[.int .i64 (j : Nat)] 3)).heap.size := HA1.out.size
      obtain ⟨q, hq⟩ : ∃ q, wr.heap.size = q := ⟨_, rfl⟩
      have hq2 : (wr.alloc (.cells #[.int .i64 (j : Nat)] 3)).heap.size = q + 1 := by rw [← hq]; show (wr.heap.push _).size = _; rw [Array.size_push]
      generalize hw2 : wr.alloc (.cells #[.int .i64 (j : Nat)] 3) = w2 at *
      have HA2 := hid ((Below.refl w2.heap.size w2).alloc (Nat.le_refl _) (.cells #[.int .i64 6, .func (.func 73) #[] #[.pointer (some ⟨q, 0, none⟩)], .func (.func 75) #[] #[]] 99))
      have HO2 := hid (own_below (own_below HO.out HA1.out) HA2.out)
      have HB2 := hid ((HB.out.trans (HA1.out.mono HB.out.size)).trans (HA2.out.mono (Nat.le_trans HB.out.size hsz)))
      have hbk := Blk.made w2 #[.int .i64 6, .func (.func 73) #[] #[.pointer (some ⟨q, 0, none⟩)], .func (.func 75) #[] #[]] 99
      have HFC : Hid (∀ i u, (flatC1 q)[i]? = some u → (w2.alloc (.cells #[.int .i64 6, .func (.func 73) #[] #[.pointer (some ⟨q, 0, none⟩)], .func (.func 75) #[] #[]] 99)).cell? ((⟨q + 1, 0, none⟩ : Addr).add i) = some u) := fun i u hu => by
        rw [add_zero_off, ← hq2]
        exact hbk.cell (by simpa [flatC1, fv] using hu)
      have HC2 : Hid (∀ k c : Nat, (cl ++ [q])[k]? = some c → Blk (w2.alloc (.cells #[.int .i64 6, .func (.func 73) #[] #[.pointer (some ⟨q, 0, none⟩)], .func (.func 75) #[] #[]] 99)) c #[.int .i64 (k : Nat)] 3) := fun k c hk => by
        rcases Nat.lt_or_ge k cl.length with h | h
        · rw [List.getElem?_append_left h] at hk
          exact ((HC.out k c hk).on HA1.out (HC.out k c hk).lt).alloc _
        · rw [List.getElem?_append_right h] at hk
          have : k = cl.length := by
            have := (List.getElem?_eq_some_iff.1 hk).1
            simp at this; omega
          subst this
          simp at hk
          subst hk
          rw [HCL.out, ← hq]
          exact HK1.out.alloc _
      clear HA1 HK1 HA2 hbk HO HB HC hsz hq2
      rw [← hw2] at HO2 HB2 HFC HC2
      clear hw2 w2
      go_wp2_with (at_builtin; refine wpList_fld _ w rfl (.tmp 14) (.tmp 17) rfl (.slice va (7 + j) vc) (flatH ++ flatC cl) (7 + j) rfl HO2.out HB2.out _ q rfl HFC.out (by omega) ?_; intro va2 vc2 w6 hr6 hb6 hg6; have HR6 := hid hr6; have HB6 := hid hb6; have HC6 := hid (fun (k c : Nat) (hk : (cl ++ [q])[k]? = some c) => (HC2.out k c hk).kept hg6 (fun e => (HC2.out k c hk).ne HO2.out (by decide) e.symm rfl)); clear hr6 hb6 hg6 HO2 HB2 HFC HC2)
      go_roundw
      case rel => exact ⟨j + 1, va2, vc2, cl ++ [q], by omega, rfl, by go_num, by show _ = _; rw [List.length_append, HCL.out]; rfl, by show World.ownsRow _ _ _ _ _ _ _; rw [flatC_snoc, ← List.append_assoc]; exact HR6.out, HC6, HB6⟩
      case measure => simp [intOf]; omega
    · have hji : ¬ (j : Int) < 4 := by omega
      obtain rfl : j = 4 := by omega
      go_wp2_with fail
      go_ret
      exact ⟨_, rfl, ⟨cl, HCL.out, HO.out, HC.out⟩, HB.out⟩
end Go.Proofs.Ythohopbolalpcaa

