/-
  The document's Same, of lists that are alike, and Right.
-/
import Derived.Test.YtjcbaiohpdihoaaGreatDoorFe
import Derived.Laws.StructEq
import Derived.Deep.QuietTactic
import Derived.Test.YtjcbaiohpdihoaaGreatDoorRd
namespace Go.Proofs.YtjcbaiohpdihoaaGreatDoor.Lf
open Go.Proofs.YtjcbaiohpdihoaaGreatDoor.Nu
open Go.RowKit
set_option linter.unusedVariables false
set_option linter.unusedSimpArgs false
set_option maxRecDepth 100000

theorem run_append_empty {P : Program} (w : World) (base : Nat) (t ty e : TypeId) (i : TypeInfo) (size : Nat) (ht : P.underlying t = some (.slice e)) (hi : P.info? e = some i)
    (v : Value) (n : Nat) (xs : List Value) (hown : w.ownsRow base e size v n xs) (ad : Option Addr) (c : Nat) :
    (Builtin.append_ #[t, t] ty #[v, .slice ad 0 c]).run P w = .ok v w := by
  rcases hown.2 with ⟨rfl, rfl⟩ | ⟨g, cap, cur, rfl, _, _, hnc, _⟩
  · cases ad <;> simp [Builtin.append_, run_underlying ht, sizeOf, typeInfo, hi, Builtin.lenOf, Builtin.firstCells, loadCells, loadCellsFrom]
  · cases ad <;> simp [Builtin.append_, run_underlying ht, sizeOf, typeInfo, hi, Builtin.lenOf, Builtin.firstCells, hnc, storeCells, loadCells, loadCellsFrom]
/-- append of a list that lies somewhere, to a row of the call's own -/
theorem wp_more {o : Oper} {a : Act} {K : Act → World → Prop} {Q : Exit → Act → World → Prop} (W w0 : World) (s x : Operand)
    (ho : o.op = .call { callee := .builtin .append, args := #[s, x], argTypes := #[31, 31] }) (v : Value) (M : List Ent) (m : Nat) (hm : M.length = m) (hs : a.eval s = v) (hown : RowE W w0.heap.size v M) (hB : Below w0.heap.size w0 W)
    (y : Value) (N : List Ent) (k : Nat) (hk : N.length = k) (hx : a.eval x = y) (hN : LiesE W y N) (hlen : m + k ≤ 4398046511000)
    (h : ∀ va vc w', RowE w' w0.heap.size (.slice va (m + k) vc) (M ++ N) → Below w0.heap.size w0 w' → W.grownBy w' v.ownBlock → K (a.put o.dst (.slice va (m + k) vc)) w') : o.wp Tryz.prog a W K Q := by
  obtain ⟨i0, hi, hz0, hz1, hz2⟩ := info_parts infoE
  obtain ⟨ad, c, e1⟩ := hN.form
  subst e1
  by_cases h0 : N = []
  · subst h0
    subst hk
    subst hm
    have hr := run_append_empty (P := Tryz.prog) W w0.heap.size 31 o.type 59 i0 2 Tryz.underlying31 hi v _ _ hown ad c
    obtain ⟨va, vc, e1⟩ := own_form hown
    subst e1
    have := h va vc W (by simpa using hown) hB ⟨rfl, rfl, rfl, Nat.le_refl _, fun _ _ _ => rfl⟩
    unfold Oper.wp execOp
    simp only [ho, resolve, invoke, builtin, Sem.run_bind, Sem.run_pure, Result.andThen_ok, List.map_toArray, List.map_cons, List.map_nil, hs, hx, List.length_nil, hr]
    exact this
  · obtain ⟨y, hy⟩ : ∃ y, N[0]? = some y := by cases N with | nil => exact absurd rfl h0 | cons y r => exact ⟨y, rfl⟩
    obtain ⟨b, off, rfl, _⟩ := hN.at hy
    have hpos : 0 < N.length := (List.getElem?_eq_some_iff.1 hy).1
    exact wp_ents W w0 s x ho v M m hm hs hown hB ⟨b, off, none⟩ N k c hk (by omega) (by rw [hx, hk]) hN.flat hlen h
theorem wpList_more {ops : Array Oper} {rest : List Oper} {o : Oper} {a : Act} {Q : Exit → Act → World → Prop} (W w0 : World) (hgd : o.guard = none) (s x : Operand)
    (ho : o.op = .call { callee := .builtin .append, args := #[s, x], argTypes := #[31, 31] }) (v : Value) (M : List Ent) (m : Nat) (hm : M.length = m) (hs : a.eval s = v) (hown : RowE W w0.heap.size v M) (hB : Below w0.heap.size w0 W)
    (y : Value) (N : List Ent) (k : Nat) (hk : N.length = k) (hx : a.eval x = y) (hN : LiesE W y N) (hlen : m + k ≤ 4398046511000)
    (h : ∀ va vc w', RowE w' w0.heap.size (.slice va (m + k) vc) (M ++ N) → Below w0.heap.size w0 w' → W.grownBy w' v.ownBlock → wpList Tryz.prog ops Q rest (a.put o.dst (.slice va (m + k) vc)) w') : wpList Tryz.prog ops Q (o :: rest) a W :=
  wpList_plain hgd fun K hK => wp_more W w0 s x ho v M m hm hs hown hB y N k hk hx hN hlen fun va vc w' h1 h2 h3 => hK _ _ (h va vc w' h1 h2 h3)
theorem LiesE.one (w : World) (x : Ent) (h1 : Sml x.k) (h2 : Sml x.v) : LiesE (w.alloc (.cells #[.string x.k, .string x.v] 59)) (.slice (some ⟨w.heap.size, 0, none⟩) 1 1) [x] := by
  refine ⟨_, 1, rfl, Nat.le_refl _, by unfold maxLen; decide, fun k y hk => ?_⟩
  have hk0 : k = 0 := by
    have := (List.getElem?_eq_some_iff.1 hk).1
    simp at this
    exact this
  subst hk0
  simp at hk
  subst hk
  have hb := Blk.made w #[.string x.k, .string x.v] 59
  exact ⟨_, 0, rfl, hb.lt, hb.cell (i := 0) rfl, hb.cell (i := 1) rfl, h1, h2⟩

theorem neqE (a b c d : ByteArray) (w : World) : (binOp .neq 59 (.agg #[.string a, .string b]) (.agg #[.string c, .string d])).run Tryz.prog w = .ok (.bool (!(decide (a = c ∧ b = d)))) w := by
  have u9 := Tryz.underlying9
  have a9 := Tryz.isAgg9
  have z9 := Tryz.sizeOf9
  have hS : Tryz.prog.underlying 59 = some (.struct (Tryz.prog.fieldsOf 59)) := by kernel_rfl
  have hp : Tryz.prog.stoodInHeld 59 = false := by kernel_rfl
  have e1 := eq_iff a c
  have e2 := eq_iff b d
  rw [run_neq_struct, show (10000 : Nat) = 9999 + 1 from rfl, run_equalIn_agg w 9999 59 _ _ hS hp]
  simp only [Program.fieldsOf, Tryz.underlying59]
  by_cases h1 : a = c
  · by_cases h2 : b = d
    · rw [decide_eq_true h1] at e1
      rw [decide_eq_true h2] at e2
      rw [decide_eq_true ⟨h1, h2⟩]
      clear h1 h2
      go_simp
    · rw [decide_eq_true h1] at e1
      rw [decide_eq_false h2] at e2
      rw [decide_eq_false (fun h => h2 h.2)]
      clear h1 h2
      go_simp
  · rw [decide_eq_false h1] at e1
    rw [decide_eq_false (fun h => h1 h.1)]
    clear h1
    go_simp
end Go.Proofs.YtjcbaiohpdihoaaGreatDoor.Lf

namespace Go.Proofs.YtjcbaiohpdihoaaGreatDoor.Lf
open Go.Proofs.YtjcbaiohpdihoaaGreatDoor.Nu
open Go.RowKit
set_option linter.unusedVariables false
set_option linter.unusedSimpArgs false
set_option maxRecDepth 100000

/-- a number, a text, an entry, entries; what is left; whether something was missing -/
def numb : List UInt8 → Bool → Nat × List UInt8 × Bool
  | [], _ => (0, [], true)
  | c :: l, sh => (c.toNat, l, sh)
def txt (l : List UInt8) (sh : Bool) : List UInt8 × List UInt8 × Bool :=
  match rdT l with
  | some (t, m) => (t, m, sh)
  | none => ([], [], true)
theorem txt_some {l t m : List UInt8} (h : rdT l = some (t, m)) (sh : Bool) : txt l sh = (t, m, sh) := by unfold txt; rw [h]
theorem txt_none {l : List UInt8} (h : rdT l = none) (sh : Bool) : txt l sh = ([], [], true) := by unfold txt; rw [h]
def ent1 (p : List UInt8 × Bool) : Ent × List UInt8 × Bool :=
  (⟨bt (txt p.1 p.2).1, bt (txt (txt p.1 p.2).2.1 (txt p.1 p.2).2.2).1⟩, (txt (txt p.1 p.2).2.1 (txt p.1 p.2).2.2).2)
def goR : Nat → List UInt8 × Bool → List Ent × List UInt8 × Bool
  | 0, p => ([], p)
  | n + 1, p => ((goR n p).1 ++ [(ent1 (goR n p).2).1], (ent1 (goR n p).2).2)
theorem goR_len : ∀ n p, (goR n p).1.length = n
  | 0, p => rfl
  | n + 1, p => by simp [goR, goR_len n p]
theorem txt_len (l : List UInt8) (sh : Bool) : (txt l sh).1.length ≤ 255 ∧ (txt l sh).2.1.length ≤ l.length := by
  cases h : rdT l with
  | none => rw [txt_none h]; exact ⟨Nat.zero_le _, Nat.zero_le _⟩
  | some p =>
    obtain ⟨t, m⟩ := p
    rw [txt_some h]
    have := rdT_len h
    exact ⟨this.1, by show m.length ≤ l.length; omega⟩
theorem goR_left : ∀ n (p : List UInt8 × Bool), (goR n p).2.1.length ≤ p.1.length
  | 0, p => Nat.le_refl _
  | n + 1, p => by
    have h0 := goR_left n p
    have h1 := (txt_len (goR n p).2.1 (goR n p).2.2).2
    have h2 := (txt_len (txt (goR n p).2.1 (goR n p).2.2).2.1 (txt (goR n p).2.1 (goR n p).2.2).2.2).2
    show (txt (txt (goR n p).2.1 (goR n p).2.2).2.1 (txt (goR n p).2.1 (goR n p).2.2).2.2).2.1.length ≤ _
    omega
theorem goR_sml : ∀ n p, SmlL (goR n p).1
  | 0, p => fun x hx => by cases hx
  | n + 1, p => fun x hx => by
    rcases List.mem_append.1 hx with h | h
    · exact goR_sml n p x h
    · rw [List.mem_singleton] at h
      subst h
      have h1 := (txt_len (goR n p).2.1 (goR n p).2.2).1
      have h2 := (txt_len (txt (goR n p).2.1 (goR n p).2.2).2.1 (txt (goR n p).2.1 (goR n p).2.2).2.2).1
      refine ⟨?_, ?_⟩
      · show (bt (txt (goR n p).2.1 (goR n p).2.2).1).size ≤ _
        rw [bt_len]
        omega
      · show (bt (txt (txt (goR n p).2.1 (goR n p).2.2).2.1 (txt (goR n p).2.1 (goR n p).2.2).2.2).1).size ≤ _
        rw [bt_len]
        omega
section
variable {w W : World} {r : Nat} {l : List UInt8} {sh : Bool}
theorem number_any (hl : l.length ≤ 140737488351232) (h : Rdr w r l sh) :
    Calls Tryz.prog 250 #[.pointer (some ⟨r, 0, none⟩)] w fun e w' => e = .returned (.int .i64 ((numb l sh).1 : Nat)) ∧ Rdr w' r (numb l sh).2.1 (numb l sh).2.2 ∧ Kr r w w' := by
  cases l with
  | nil => exact number_nil h
  | cons c l => exact number_cons c l (by rw [List.length_cons] at hl; omega) h
theorem text_any (hl : l.length ≤ 140737488351232) (h : Rdr w r l sh) :
    Calls Tryz.prog 251 #[.pointer (some ⟨r, 0, none⟩)] w fun e w' => e = .returned (.string (bt (txt l sh).1)) ∧ Rdr w' r (txt l sh).2.1 (txt l sh).2.2 ∧ Kr r w w' := by
  cases he : rdT l with
  | none => rw [txt_none he]; exact text_none hl he h
  | some p =>
    obtain ⟨t, m⟩ := p
    rw [txt_some he]
    exact text_some hl he h
end
theorem numb_len (l : List UInt8) (sh : Bool) : (numb l sh).1 ≤ 255 ∧ (numb l sh).2.1.length ≤ l.length := by
  cases l with
  | nil => exact ⟨Nat.zero_le _, Nat.le_refl _⟩
  | cons c l =>
    have := c.toNat_lt
    exact ⟨by show c.toNat ≤ 255; omega, by show l.length ≤ (c :: l).length; rw [List.length_cons]; omega⟩
/-- what stands in a page -/
def rdS (l : List UInt8) : Nat × List Ent × Bool :=
  ((numb l false).1, (goR (numb (numb l false).2.1 (numb l false).2.2).1 (numb (numb l false).2.1 (numb l false).2.2).2).1, !(goR (numb (numb l false).2.1 (numb l false).2.2).1 (numb (numb l false).2.1 (numb l false).2.2).2).2.2)

set_option maxHeartbeats 2000000 in
theorem read_any (w : World) (l : List UInt8) (hl : l.length ≤ 140737488351232) :
    Calls Tryz.prog 225 #[.string (bt l)] w fun e w' => ∃ a c, e = .returned (.tuple #[.int .i64 ((rdS l).1 : Nat), .slice a (rdS l).2.1.length c, .bool (rdS l).2.2]) ∧ RowE w' w.heap.size (.slice a (rdS l).2.1.length c) (rdS l).2.1 ∧ Below w.heap.size w w' := by
  have HR0 : Hid (Rdr (w.alloc (.cells #[.string (bt l), .bool false] 305)) w.heap.size l false) := Blk.made w _ 305
  have HB0 : Hid (Below w.heap.size w (w.alloc (.cells #[.string (bt l), .bool false] 305))) := (Below.refl _ w).alloc (Nat.le_refl _) _
  obtain ⟨n1, m1⟩ := numb_len l false
  obtain ⟨n2, m2⟩ := numb_len (numb l false).2.1 (numb l false).2.2
  have HN1 : Hid (∀ w1 : World, Rdr w1 w.heap.size l false → Calls Tryz.prog 250 #[.pointer (some ⟨w.heap.size, 0, none⟩)] w1 fun e w' => e = .returned (.int .i64 ((numb l false).1 : Nat)) ∧ Rdr w' w.heap.size (numb l false).2.1 (numb l false).2.2 ∧ Kr w.heap.size w1 w') := fun w1 h1 => number_any hl h1
  have HN2 : Hid (∀ w1 : World, Rdr w1 w.heap.size (numb l false).2.1 (numb l false).2.2 → Calls Tryz.prog 250 #[.pointer (some ⟨w.heap.size, 0, none⟩)] w1 fun e w' => e = .returned (.int .i64 ((numb (numb l false).2.1 (numb l false).2.2).1 : Nat)) ∧ Rdr w' w.heap.size (numb (numb l false).2.1 (numb l false).2.2).2.1 (numb (numb l false).2.1 (numb l false).2.2).2.2 ∧ Kr w.heap.size w1 w') := fun w1 h1 => number_any (by omega) h1
  unfold rdS
  generalize (numb l false).1 = kd at *
  generalize (numb l false).2.1 = l1 at *
  generalize (numb l false).2.2 = b1 at *
  obtain ⟨p, hp⟩ : ∃ p, (numb l1 b1).2 = p := ⟨_, rfl⟩
  rw [hp] at HN2 m2 ⊢
  clear hp
  generalize (numb l1 b1).1 = cnt at *
  have hpl : p.1.length ≤ 140737488351232 := by omega
  have HGL := hid (goR_len cnt p)
  obtain ⟨F, hF⟩ : ∃ F, (fun j => goR j p) = F := ⟨_, rfl⟩
  have HT : Hid (∀ (j : Nat) (w1 : World), Rdr w1 w.heap.size (F j).2.1 (F j).2.2 → Calls Tryz.prog 251 #[.pointer (some ⟨w.heap.size, 0, none⟩)] w1 fun e w' => e = .returned (.string (bt (txt (F j).2.1 (F j).2.2).1)) ∧ Rdr w' w.heap.size (txt (F j).2.1 (F j).2.2).2.1 (txt (F j).2.1 (F j).2.2).2.2 ∧ Kr w.heap.size w1 w') := fun j w1 h1 => text_any (by rw [← hF]; have := goR_left j p; show (goR j p).2.1.length ≤ _; omega) h1
  have HT2 : Hid (∀ (j : Nat) (w1 : World), Rdr w1 w.heap.size (txt (F j).2.1 (F j).2.2).2.1 (txt (F j).2.1 (F j).2.2).2.2 → Calls Tryz.prog 251 #[.pointer (some ⟨w.heap.size, 0, none⟩)] w1 fun e w' => e = .returned (.string (ent1 (F j).2).1.v) ∧ Rdr w' w.heap.size (F (j + 1)).2.1 (F (j + 1)).2.2 ∧ Kr w.heap.size w1 w') := fun j w1 h1 => by
    have h := text_any (by rw [← hF]; have := goR_left j p; have := (txt_len (goR j p).2.1 (goR j p).2.2).2; show (txt (goR j p).2.1 (goR j p).2.2).2.1.length ≤ _; omega) h1
    subst hF
    exact h
  have HTK : Hid (∀ j, bt (txt (F j).2.1 (F j).2.2).1 = (ent1 (F j).2).1.k) := fun j => rfl
  have HFS : Hid (∀ j, (F (j + 1)).1 = (F j).1 ++ [(ent1 (F j).2).1]) := fun j => by rw [← hF]; rfl
  have HFL : Hid (∀ j, (F j).1.length = j) := fun j => by rw [← hF]; exact goR_len j p
  have HSM : Hid (∀ j, Sml (ent1 (F j).2).1.k ∧ Sml (ent1 (F j).2).1.v) := fun j => by
    have h := goR_sml (j + 1) p (ent1 (goR j p).2).1 (by show _ ∈ (goR j p).1 ++ [_]; simp)
    rw [← hF]
    exact h
  have HF0 : Hid (F 0 = ([], p)) := by show _ = _; rw [← hF]; rfl
  have hFc : goR cnt p = F cnt := by rw [← hF]
  rw [hFc, HFL.out cnt]
  clear hF hFc HGL hl m1 n1 m2
  have HAP : Hid (∀ (w1 : World) (v : Value) (M : List Ent), Rdr w1 w.heap.size [] true → True) := fun _ _ _ _ => trivial
  clear HAP
  go_enter Tryz.func225, Tryz.ntmps225
  go_wp2_with (first
    | (go_at_call 250; refine (HN1.out _ HR0.out).mono ?_; clear HN1; rintro e w1 ⟨rfl, hr1, hk1⟩; have HR1 := hid hr1; have HB1 := hid (HB0.out.trans (Keep.below hk1 (fun j hj => by rw [hj]; exact Nat.le_refl _) HB0.out.size)); clear hr1 hk1 HR0 HB0)
    | (go_at_call 250; refine (HN2.out _ HR1.out).mono ?_; clear HN2; rintro e w2 ⟨rfl, hr2, hk2⟩; have HR2 := hid hr2; have HB2 := hid (HB1.out.trans (Keep.below hk2 (fun j hj => by rw [hj]; exact Nat.le_refl _) HB1.out.size)); clear hr2 hk2 HR1 HB1))
  go_loopw [8, 14] (fun x i wr => ∃ (j : Nat) (ba : Option Addr) (bc : Nat), j ≤ cnt ∧ i = .int .i64 (j : Nat) ∧ x = .slice ba j bc ∧ Hid (RowE wr w.heap.size (.slice ba j bc) (F j).1) ∧ Hid (Rdr wr w.heap.size (F j).2.1 (F j).2.2) ∧ Hid (Below w.heap.size w wr)) (fun _ i _ => cnt - (intOf i).toNat)
  case atStart => exact ⟨0, none, 0, Nat.zero_le _, rfl, rfl, (by show RowE _ _ _ _; rw [HF0.out]; exact RowE.nil _ _), (by show Rdr _ _ _ _; rw [HF0.out]; exact HR2.out), HB2⟩
  case round =>
    obtain ⟨j, ba, bc, hj, rfl, rfl, HO, HR, HB⟩ := hrel
    clear HR2 HB2 HF0
    by_cases hjm : j < cnt
    · have hji : (j : Int) < (cnt : Int) := by omega
      have HT1 := hid (HT.out j wr HR.out)
      have HT22 := hid (HT2.out j)
      rw [HTK.out j] at HT1
      have HFJ := hid (HFS.out j)
      have HLJ := hid (HFL.out j)
      obtain ⟨s1, s2⟩ := HSM.out j
      have hne : ∀ w1 : World, Rdr w1 w.heap.size (F j).2.1 (F j).2.2 → RowE w1 w.heap.size (.slice ba j bc) (F j).1 → ∀ g, (Value.slice ba j bc).ownBlock = some g → ¬ g = w.heap.size := fun w1 h1 h2 g hg => Blk.ne h1 h2 (by decide) hg
      have HNE := hid (hne wr HR.out HO.out)
      clear hne
      obtain ⟨x, hx⟩ : ∃ x, (ent1 (F j).2).1 = x := ⟨_, rfl⟩
      rw [hx] at HT1 HT22 HFJ s1 s2
      clear hx
      obtain ⟨l3, hl3⟩ : ∃ l3, (txt (F j).2.1 (F j).2.2).2.1 = l3 := ⟨_, rfl⟩
      obtain ⟨b3, hb3⟩ : ∃ b3, (txt (F j).2.1 (F j).2.2).2.2 = b3 := ⟨_, rfl⟩
      rw [hl3, hb3] at HT1 HT22
      clear hl3 hb3
      have HEO := hid (fun w1 : World => LiesE.one w1 x s1 s2)
      clear s1 s2
      go_wp2_with (first
        | (go_at_call 251; refine HT1.out.mono ?_; clear HT1; rintro e w3 ⟨rfl, hr3, hk3⟩; have HR3 := hid hr3; have HO3 : Hid (RowE w3 w.heap.size (.slice ba j bc) (F j).1) := Keep.row hk3 HO.out HNE.out; have HB3 := hid (HB.out.trans (Keep.below hk3 (fun j hj => by rw [hj]; exact Nat.le_refl _) HB.out.size)); clear hr3 hk3 HR HO HB)
        | (go_at_call 251; refine (HT22.out w3 HR3.out).mono ?_; clear HT22; rintro e w4 ⟨rfl, hr4, hk4⟩; have HR4 := hid hr4; have HO4 : Hid (RowE w4 w.heap.size (.slice ba j bc) (F j).1) := Keep.row hk4 HO3.out HNE.out; have HB4 := hid (HB3.out.trans (Keep.below hk4 (fun j hj => by rw [hj]; exact Nat.le_refl _) HB3.out.size)); clear hr4 hk4 HR3 HO3 HB3; have hba : Hid (Below w4.heap.size w4 (w4.alloc (.cells #[.string x.k, .string x.v] 59))) := (Below.refl _ w4).alloc (Nat.le_refl _) _; have HO5 := hid (HO4.out.on hba.out); have HB5 := hid (HB4.out.trans (hba.out.mono HB4.out.size)); have HR5 := hid (HR4.out.on hba.out); clear hba)
        | (at_builtin; refine wpList_more _ w rfl (.tmp 16) (.tmp 20) rfl (.slice ba j bc) (F j).1 j HLJ.out rfl HO5.out HB5.out (.slice (some ⟨w4.heap.size, 0, none⟩) 1 1) [x] 1 rfl rfl (HEO.out w4) (by omega) ?_; intro va vc w6 hr6 hb6 hg6; have HO6 : Hid (RowE w6 w.heap.size (.slice va (j + 1) vc) (F (j + 1)).1) := (by show RowE _ _ _ _; rw [HFJ.out]; exact hr6); have HB6 := hid hb6; have HR6 : Hid (Rdr w6 w.heap.size (F (j + 1)).2.1 (F (j + 1)).2.2) := Blk.kept HR5.out hg6 (fun e => HNE.out _ e.symm rfl); clear hr6 hb6 hg6))
      go_roundw
      case rel => exact ⟨j + 1, va, vc, by omega, by go_num, rfl, HO6, HR6, HB6⟩
      case measure => simp [intOf]; omega
    · obtain rfl : j = cnt := by omega
      have hji : ¬ (j : Int) < (j : Int) := by omega
      have hd : Below wr.heap.size wr wr.drew := (Below.refl _ wr).drew
      have HO2 := hid (HO.out.on hd)
      have HB2 := hid (HB.out.trans (hd.mono HB.out.size))
      have c1 : wr.cell? ⟨w.heap.size, 1, none⟩ = some (.bool (F j).2.2) := Blk.cell HR.out (i := 1) rfl
      clear HR HO HB hd
      obtain ⟨bb, hbb⟩ : ∃ bb, (F j).2.2 = bb := ⟨_, rfl⟩
      have HBB := hid hbb
      rw [hbb] at c1
      clear hbb
      go_wp2_with fail
      go_region
      go_wp2_with fail
      go_ret3
      refine ⟨ba, bc, ?_, HO2.out, HB2.out⟩
      rw [HBB.out]
      rfl
end Go.Proofs.YtjcbaiohpdihoaaGreatDoor.Lf

namespace Go.Proofs.YtjcbaiohpdihoaaGreatDoor.Lf
open Go.Proofs.YtjcbaiohpdihoaaGreatDoor.Nu
open Go.RowKit
set_option linter.unusedVariables false
set_option linter.unusedSimpArgs false
set_option maxRecDepth 100000

set_option maxHeartbeats 1000000 in
theorem same_self (w : World) (u v : Value) (L : List Ent) (hu : LiesE w u L) (hv : LiesE w v L) :
    Calls Tryz.prog 15 #[u, v] w fun e w' => e = .returned (.bool true) ∧ Below w.heap.size w w' := by
  obtain ⟨a, c, e1⟩ := hu.form
  obtain ⟨a', c', e2⟩ := hv.form
  subst e1
  subst e2
  have hlen := hu.len
  unfold maxLen at hlen
  have HU := hid hu
  have HV := hid hv
  obtain ⟨m, hm⟩ : ∃ m, L.length = m := ⟨_, rfl⟩
  have HM := hid hm
  rw [hm] at HU HV hlen ⊢
  clear hu hv hm
  have hmm : ((m : Int) != (m : Int)) = false := by simp
  go_enter Tryz.func15, Tryz.ntmps15
  go_wp2_with fail
  go_loopw [13] (fun i wr => ∃ j : Nat, j ≤ m ∧ i = .int .i64 (j : Nat) ∧ Hid (Below w.heap.size w wr)) (fun i _ => m - (intOf i).toNat)
  case atStart => exact ⟨0, Nat.zero_le _, rfl, Below.refl _ _⟩
  case round =>
    obtain ⟨j, hj, rfl, HB⟩ := hrel
    by_cases hjm : j < m
    · have hji : (j : Int) < (m : Int) := by omega
      obtain ⟨x, hx⟩ : ∃ x, L[j]? = some x := ⟨_, List.getElem?_eq_getElem (by rw [HM.out]; exact hjm)⟩
      obtain ⟨b, off, e1, hbl, c1, c2, _, _⟩ := (HU.out.on HB.out.drew).at hx
      obtain ⟨b', off', e2, hbl', d1, d2, _, _⟩ := (HV.out.on HB.out.drew).at hx
      subst e1
      subst e2
      have hne : ∀ w1 : World, _ := fun w1 => neqE x.k x.v x.k x.v w1
      have hdd : decide (x.k = x.k ∧ x.v = x.v) = true := decide_eq_true ⟨rfl, rfl⟩
      rw [hdd] at hne
      clear hx hdd
      generalize x.k = xk at *
      generalize x.v = xv at *
      go_wp2_with fail
      go_region
      have HB1 := hid HB.out.drew
      clear HB c1 c2 d1 d2
      go_wp2_with fail
      go_roundw
      case rel => exact ⟨j + 1, by omega, by go_num, HB1⟩
      case measure => simp [intOf]; omega
    · obtain rfl : j = m := by omega
      have hji : ¬ (j : Int) < (j : Int) := by omega
      go_wp2_with fail
      go_ret
      exact ⟨rfl, HB.out⟩

set_option maxHeartbeats 1000000 in
theorem right_any (w : World) (v : Value) (L : List Ent) (hl : LiesE w v L) : Calls Tryz.prog 145 #[v] w fun e w' => e = .returned (.int .i64 (ckE none L : Nat)) ∧ Below w.heap.size w w' := by
  obtain ⟨a, c, hv⟩ := hl.form
  subst hv
  have hlen := hl.len
  unfold maxLen at hlen
  have HL := hid hl
  have HE : Hid (ckE (prv L L.length) (L.drop L.length) = 0) := by show _ = _; rw [List.drop_length]; cases prv L L.length <;> rfl
  obtain ⟨m, hm⟩ : ∃ m, L.length = m := ⟨_, rfl⟩
  have HM := hid hm
  obtain ⟨r, hr⟩ : ∃ r, ckE none L = r := ⟨_, rfl⟩
  have HR : Hid (ckE (prv L 0) (L.drop 0) = r) := hr
  rw [hr]
  rw [hm] at HL HE hlen ⊢
  clear hm hl hr
  go_enter Tryz.func145, Tryz.ntmps145
  go_wp2_with fail
  go_loopw [6] (fun i wr => ∃ j : Nat, j ≤ m ∧ i = .int .i64 (j : Nat) ∧ Hid (ckE (prv L j) (L.drop j) = r) ∧ Hid (Below w.heap.size w wr)) (fun i _ => m - (intOf i).toNat)
  case atStart => exact ⟨0, Nat.zero_le _, rfl, HR, Below.refl _ _⟩
  case round =>
    obtain ⟨j, hj, rfl, HC, HB⟩ := hrel
    clear HR
    by_cases hjm : j < m
    · have hji : (j : Int) < (m : Int) := by omega
      obtain ⟨x, hx⟩ : ∃ x, L[j]? = some x := ⟨_, List.getElem?_eq_getElem (by rw [HM.out]; exact hjm)⟩
      obtain ⟨b, off, e1, hbl, c1, c2, s1, s2⟩ := (HL.out.on HB.out).at hx
      subst e1
      have HX := hid hx
      have HB3 := hid HB.out.drew
      unfold Sml at s1 s2
      clear hx
      by_cases h1 : 32 < x.k.size
      · obtain rfl : 2 = r := by rw [← HC.out, ckE_long HX.out (.inl h1)]
        have d1 : (32 : Int) < (x.k.size : Int) := by omega
        clear HC HX
        generalize x.k = xk at *
        generalize x.v = xv at *
        go_wp2_with fail
        go_ret
        exact ⟨rfl, HB.out⟩
      · have d1 : ¬ (32 : Int) < (x.k.size : Int) := by omega
        by_cases h2 : 64 < x.v.size
        · obtain rfl : 2 = r := by rw [← HC.out, ckE_long HX.out (.inr h2)]
          have d2 : (64 : Int) < (x.v.size : Int) := by omega
          clear HC HX
          generalize x.k = xk at *
          generalize x.v = xv at *
          go_wp2_with fail
          go_ret
          exact ⟨rfl, HB.out⟩
        · have d2 : ¬ (64 : Int) < (x.v.size : Int) := by omega
          have hno : ¬ (32 < x.k.size ∨ 64 < x.v.size) := by omega
          by_cases h0 : j = 0
          · have HC2 : Hid (ckE (prv L (j + 1)) (L.drop (j + 1)) = r) := by show _ = _; rw [← ckE_next HX.out hno (fun q hq => by subst h0; cases hq)]; exact HC.out
            have hgt : ¬ (0 : Int) < (j : Int) := by omega
            have hgn : ¬ 0 < j := by omega
            have hgd : decide (0 < j) = false := decide_eq_false hgn
            have hge : decide ((0 : Int) < (j : Int)) = false := decide_eq_false hgt
            clear HC HX hno h1 h2 h0
            generalize x.k = xk at *
            generalize x.v = xv at *
            go_wp2_with fail
            refine wp_region_d (fun _ => True) (fun _ => true) (by kernel_rfl) ?_
            refine wpAnyM_pick (i := 0) (some 25) (v := ?vz1) rfl rfl (by kernel_rfl) (by kernel_rfl) (by kernel_rfl) (by kernel_rfl) (fun _ _ _ h => h) (Or.inl ⟨by rfl, ?hz1⟩) trivial ?rz1
            case hz1 => intro w hSw; go_simp; try with_reducible rfl
            try simp only [Act.put, List.setIfInBounds_toArray, List.set_cons_zero, List.set_cons_succ]
            refine wpAnyM_pick (i := 1) (some 26) (v := ?vz2) rfl rfl (by kernel_rfl) (by kernel_rfl) (by kernel_rfl) (by kernel_rfl) (fun _ _ _ h => h) (Or.inl ⟨by rfl, ?hz2⟩) trivial ?rz2
            case hz2 => intro w hSw; go_simp; try with_reducible rfl
            try simp only [Act.put, List.setIfInBounds_toArray, List.set_cons_zero, List.set_cons_succ]
            refine wpAnyM_pick (i := 2) (some 27) (v := ?vz3) rfl rfl (by kernel_rfl) (by kernel_rfl) (by kernel_rfl) (by kernel_rfl) (fun _ _ _ h => h) (Or.inl ⟨by rfl, ?hz3⟩) trivial ?rz3
            case hz3 => intro w hSw; go_simp; try with_reducible rfl
            try simp only [Act.put, List.setIfInBounds_toArray, List.set_cons_zero, List.set_cons_succ]
            refine wpAnyM_pick (i := 3) (some 28) (v := undef) rfl rfl (by kernel_rfl) (by kernel_rfl) (by kernel_rfl) (by kernel_rfl) (fun _ _ _ h => h) (Or.inr ⟨by rfl, rfl⟩) trivial ?rz4
            try simp only [Act.put, List.setIfInBounds_toArray, List.set_cons_zero, List.set_cons_succ]
            refine wpAnyM_pick (i := 4) (some 29) (v := undef) rfl rfl (by kernel_rfl) (by kernel_rfl) (by kernel_rfl) (by kernel_rfl) (fun _ _ _ h => h) (Or.inr ⟨by rfl, rfl⟩) trivial ?rz5
            try simp only [Act.put, List.setIfInBounds_toArray, List.set_cons_zero, List.set_cons_succ]
            refine wpAnyM_pick (i := 5) (some 30) (v := undef) rfl rfl (by kernel_rfl) (by kernel_rfl) (by kernel_rfl) (by kernel_rfl) (fun _ _ _ h => h) (Or.inr ⟨by rfl, rfl⟩) trivial ?rz6
            try simp only [Act.put, List.setIfInBounds_toArray, List.set_cons_zero, List.set_cons_succ]
            refine wpAnyM_pick (i := 6) (some 31) (v := undef) rfl rfl (by kernel_rfl) (by kernel_rfl) (by kernel_rfl) (by kernel_rfl) (fun _ _ _ h => h) (Or.inr ⟨by rfl, rfl⟩) trivial ?rz7
            try simp only [Act.put, List.setIfInBounds_toArray, List.set_cons_zero, List.set_cons_succ]
            refine wpAnyM_pick (i := 7) (some 32) (v := undef) rfl rfl (by kernel_rfl) (by kernel_rfl) (by kernel_rfl) (by kernel_rfl) (fun _ _ _ h => h) (Or.inr ⟨by rfl, rfl⟩) trivial ?rz8
            try simp only [Act.put, List.setIfInBounds_toArray, List.set_cons_zero, List.set_cons_succ]
            refine wpAnyM_pick (i := 8) (some 33) (v := undef) rfl rfl (by kernel_rfl) (by kernel_rfl) (by kernel_rfl) (by kernel_rfl) (fun _ _ _ h => h) (Or.inr ⟨by rfl, rfl⟩) trivial ?rz9
            try simp only [Act.put, List.setIfInBounds_toArray, List.set_cons_zero, List.set_cons_succ]
            refine wpAnyM_pick (i := 9) (some 34) (v := undef) rfl rfl (by kernel_rfl) (by kernel_rfl) (by kernel_rfl) (by kernel_rfl) (fun _ _ _ h => h) (Or.inr ⟨by rfl, rfl⟩) trivial ?rz10
            try simp only [Act.put, List.setIfInBounds_toArray, List.set_cons_zero, List.set_cons_succ]
            refine wpAnyM_pick (i := 10) (some 35) (v := undef) rfl rfl (by kernel_rfl) (by kernel_rfl) (by kernel_rfl) (by kernel_rfl) (fun _ _ _ h => h) (Or.inr ⟨by rfl, rfl⟩) trivial ?rz11
            try simp only [Act.put, List.setIfInBounds_toArray, List.set_cons_zero, List.set_cons_succ]
            refine wpAnyM_pick (i := 11) (some 36) (v := undef) rfl rfl (by kernel_rfl) (by kernel_rfl) (by kernel_rfl) (by kernel_rfl) (fun _ _ _ h => h) (Or.inr ⟨by rfl, rfl⟩) trivial ?rz12
            try simp only [Act.put, List.setIfInBounds_toArray, List.set_cons_zero, List.set_cons_succ]
            refine wpAnyM_pick (i := 12) (some 37) (v := undef) rfl rfl (by kernel_rfl) (by kernel_rfl) (by kernel_rfl) (by kernel_rfl) (fun _ _ _ h => h) (Or.inr ⟨by rfl, rfl⟩) trivial ?rz13
            try simp only [Act.put, List.setIfInBounds_toArray, List.set_cons_zero, List.set_cons_succ]
            refine wpAnyM_pick (i := 13) (some 38) (v := undef) rfl rfl (by kernel_rfl) (by kernel_rfl) (by kernel_rfl) (by kernel_rfl) (fun _ _ _ h => h) (Or.inr ⟨by rfl, rfl⟩) trivial ?rz14
            try simp only [Act.put, List.setIfInBounds_toArray, List.set_cons_zero, List.set_cons_succ]
            refine wpAnyM_pick (i := 14) (some 39) (v := undef) rfl rfl (by kernel_rfl) (by kernel_rfl) (by kernel_rfl) (by kernel_rfl) (fun _ _ _ h => h) (Or.inr ⟨by rfl, rfl⟩) trivial ?rz15
            try simp only [Act.put, List.setIfInBounds_toArray, List.set_cons_zero, List.set_cons_succ]
            refine wpAnyM_pick (i := 15) (some 40) (v := ?vz16) rfl rfl (by kernel_rfl) (by kernel_rfl) (by kernel_rfl) (by kernel_rfl) (fun _ _ _ h => h) (Or.inl ⟨by rfl, ?hz16⟩) trivial ?rz16
            case hz16 => intro w hSw; go_simp; try with_reducible rfl
            try simp only [Act.put, List.setIfInBounds_toArray, List.set_cons_zero, List.set_cons_succ]
            refine wpAnyM_done (by kernel_rfl) ?_ _
            try simp only [Act.put, List.setIfInBounds_toArray, List.set_cons_zero, List.set_cons_succ]
            clear HB c1 c2
            go_wp2_with fail
            go_roundw
            case rel => exact ⟨j + 1, by omega, by go_num, HC2, HB3⟩
            case measure => simp [intOf]; omega
          · obtain ⟨i, rfl⟩ : ∃ i, j = i + 1 := ⟨j - 1, by omega⟩
            clear h0
            obtain ⟨y, hy⟩ : ∃ y, L[i]? = some y := ⟨_, List.getElem?_eq_getElem (by rw [HM.out]; omega)⟩
            obtain ⟨b', off', e1, _, d3, _, _, _⟩ := (HL.out.on HB.out).at hy
            cases e1
            have hw1 : IntKind.i64.wrap (((i + 1 : Nat) : Int) - 1) = (i : Int) := by rw [IntKind.wrap_i64]; omega
            have hgt : (0 : Int) < ((i + 1 : Nat) : Int) := by omega
            have him : (i : Int) < (m : Int) := by omega
            have hle := leq_lt x.k y.k
            by_cases hlt : lt y.k x.k = true
            · have HC2 : Hid (ckE (prv L (i + 1 + 1)) (L.drop (i + 1 + 1)) = r) := by show _ = _; rw [← ckE_next HX.out hno (fun q hq => by simp [prv, hy] at hq; subst hq; exact hlt)]; exact HC.out
              rw [hlt] at hle
              clear HC HX hno h1 h2 hy hlt
              generalize x.k = xk at *
              generalize x.v = xv at *
              generalize y.k = yk at *
              go_wp2_with fail
              go_region
              clear HB c1 c2 d3
              go_wp2_with fail
              go_roundw
              case rel => exact ⟨i + 1 + 1, by omega, by go_num, HC2, HB3⟩
              case measure => simp [intOf]; omega
            · have hlt : lt y.k x.k = false := by simpa using hlt
              obtain rfl : 19 = r := by rw [← HC.out, ckE_order HX.out hy hno hlt]
              rw [hlt] at hle
              clear HC HX hno h1 h2 hy hlt
              generalize x.k = xk at *
              generalize x.v = xv at *
              generalize y.k = yk at *
              go_wp2_with fail
              go_region
              clear HB c1 c2 d3
              go_wp2_with fail
              go_ret
              exact ⟨rfl, HB3.out⟩
    · obtain rfl : j = m := by omega
      have hji : ¬ (j : Int) < (j : Int) := by omega
      obtain rfl : 0 = r := by rw [← HC.out, HE.out]
      clear HC HE
      go_wp2_with fail
      go_ret
      exact ⟨rfl, HB.out⟩
end Go.Proofs.YtjcbaiohpdihoaaGreatDoor.Lf
