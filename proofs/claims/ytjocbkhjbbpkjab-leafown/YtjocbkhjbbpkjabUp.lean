/-
  A page is read: the program's read, Unpack.
-/
import Derived.Test.YtjocbkhjbbpkjabRd
import Derived.Test.YtjocbkhjbbpkjabRt
namespace Go.Proofs.Ytjocbkhjbbpkjab
open Go.RowKit
set_option linter.unusedVariables false
set_option linter.unusedSimpArgs false
set_option maxRecDepth 100000

/-- a number, a text, an entry, entries; what is left; whether something was missing -/
def numb : List UInt8 → Bool → Nat × List UInt8 × Bool
  | [], _ => (0, [], true)
  | c :: l, sh => (c.toNat, l, sh)
def txt (l : List UInt8) (sh : Bool) : List UInt8 × List UInt8 × Bool :=
  match rdT l with
  | some (t, m) => (t, m, sh)
  | none => ([], [], true)
theorem txt_some {l t m : List UInt8} (h : rdT l = some (t, m)) (sh : Bool) : txt l sh = (t, m, sh) := by unfold txt; rw [h]
theorem txt_none {l : List UInt8} (h : rdT l = none) (sh : Bool) : txt l sh = ([], [], true) := by unfold txt; rw [h]
def ent1 (p : List UInt8 × Bool) : Ent × List UInt8 × Bool :=
  (⟨bt (txt p.1 p.2).1, bt (txt (txt p.1 p.2).2.1 (txt p.1 p.2).2.2).1⟩, (txt (txt p.1 p.2).2.1 (txt p.1 p.2).2.2).2)
def goR : Nat → List UInt8 × Bool → List Ent × List UInt8 × Bool
  | 0, p => ([], p)
  | n + 1, p => ((goR n p).1 ++ [(ent1 (goR n p).2).1], (ent1 (goR n p).2).2)
theorem goR_len : ∀ n p, (goR n p).1.length = n
  | 0, p => rfl
  | n + 1, p => by simp [goR, goR_len n p]
theorem txt_len (l : List UInt8) (sh : Bool) : (txt l sh).1.length ≤ 255 ∧ (txt l sh).2.1.length ≤ l.length := by
  cases h : rdT l with
  | none => rw [txt_none h]; exact ⟨Nat.zero_le _, Nat.zero_le _⟩
  | some p =>
    obtain ⟨t, m⟩ := p
    rw [txt_some h]
    have := rdT_len h
    exact ⟨this.1, by show m.length ≤ l.length; omega⟩
theorem goR_left : ∀ n (p : List UInt8 × Bool), (goR n p).2.1.length ≤ p.1.length
  | 0, p => Nat.le_refl _
  | n + 1, p => by
    have h0 := goR_left n p
    have h1 := (txt_len (goR n p).2.1 (goR n p).2.2).2
    have h2 := (txt_len (txt (goR n p).2.1 (goR n p).2.2).2.1 (txt (goR n p).2.1 (goR n p).2.2).2.2).2
    show (txt (txt (goR n p).2.1 (goR n p).2.2).2.1 (txt (goR n p).2.1 (goR n p).2.2).2.2).2.1.length ≤ _
    omega
theorem goR_sml : ∀ n p, SmlL (goR n p).1
  | 0, p => fun x hx => by cases hx
  | n + 1, p => fun x hx => by
    rcases List.mem_append.1 hx with h | h
    · exact goR_sml n p x h
    · rw [List.mem_singleton] at h
      subst h
      have h1 := (txt_len (goR n p).2.1 (goR n p).2.2).1
      have h2 := (txt_len (txt (goR n p).2.1 (goR n p).2.2).2.1 (txt (goR n p).2.1 (goR n p).2.2).2.2).1
      refine ⟨?_, ?_⟩
      · show (bt (txt (goR n p).2.1 (goR n p).2.2).1).size ≤ _
        rw [bt_len]
        omega
      · show (bt (txt (txt (goR n p).2.1 (goR n p).2.2).2.1 (txt (goR n p).2.1 (goR n p).2.2).2.2).1).size ≤ _
        rw [bt_len]
        omega
section
variable {w W : World} {r : Nat} {l : List UInt8} {sh : Bool}
theorem number_any (hl : l.length ≤ 140737488351232) (h : Rdr w r l sh) :
    Calls Try.prog 28 #[.pointer (some ⟨r, 0, none⟩)] w fun e w' => e = .returned (.int .i64 ((numb l sh).1 : Nat)) ∧ Rdr w' r (numb l sh).2.1 (numb l sh).2.2 ∧ Kr r w w' := by
  cases l with
  | nil => exact number_nil h
  | cons c l => exact number_cons c l (by rw [List.length_cons] at hl; omega) h
theorem text_any (hl : l.length ≤ 140737488351232) (h : Rdr w r l sh) :
    Calls Try.prog 29 #[.pointer (some ⟨r, 0, none⟩)] w fun e w' => e = .returned (.string (bt (txt l sh).1)) ∧ Rdr w' r (txt l sh).2.1 (txt l sh).2.2 ∧ Kr r w w' := by
  cases he : rdT l with
  | none => rw [txt_none he]; exact text_none hl he h
  | some p =>
    obtain ⟨t, m⟩ := p
    rw [txt_some he]
    exact text_some hl he h
end
theorem numb_len (l : List UInt8) (sh : Bool) : (numb l sh).1 ≤ 255 ∧ (numb l sh).2.1.length ≤ l.length := by
  cases l with
  | nil => exact ⟨Nat.zero_le _, Nat.le_refl _⟩
  | cons c l =>
    have := c.toNat_lt
    exact ⟨by show c.toNat ≤ 255; omega, by show l.length ≤ (c :: l).length; rw [List.length_cons]; omega⟩
/-- what stands in a page -/
def rdS (l : List UInt8) : Nat × List Ent × Bool :=
  ((numb l false).1, (goR (numb (numb l false).2.1 (numb l false).2.2).1 (numb (numb l false).2.1 (numb l false).2.2).2).1, !(goR (numb (numb l false).2.1 (numb l false).2.2).1 (numb (numb l false).2.1 (numb l false).2.2).2).2.2)

set_option maxHeartbeats 2000000 in
theorem read_any (w : World) (l : List UInt8) (hl : l.length ≤ 140737488351232) :
    Calls Try.prog 18 #[.string (bt l)] w fun e w' => ∃ a c, e = .returned (.tuple #[.int .i64 ((rdS l).1 : Nat), .slice a (rdS l).2.1.length c, .bool (rdS l).2.2]) ∧ RowE w' w.heap.size (.slice a (rdS l).2.1.length c) (rdS l).2.1 ∧ Below w.heap.size w w' := by
  have HR0 : Hid (Rdr (w.alloc (.cells #[.string (bt l), .bool false] 64)) w.heap.size l false) := Blk.made w _ 64
  have HB0 : Hid (Below w.heap.size w (w.alloc (.cells #[.string (bt l), .bool false] 64))) := (Below.refl _ w).alloc (Nat.le_refl _) _
  obtain ⟨n1, m1⟩ := numb_len l false
  obtain ⟨n2, m2⟩ := numb_len (numb l false).2.1 (numb l false).2.2
  have HN1 : Hid (∀ w1 : World, Rdr w1 w.heap.size l false → Calls Try.prog 28 #[.pointer (some ⟨w.heap.size, 0, none⟩)] w1 fun e w' => e = .returned (.int .i64 ((numb l false).1 : Nat)) ∧ Rdr w' w.heap.size (numb l false).2.1 (numb l false).2.2 ∧ Kr w.heap.size w1 w') := fun w1 h1 => number_any hl h1
  have HN2 : Hid (∀ w1 : World, Rdr w1 w.heap.size (numb l false).2.1 (numb l false).2.2 → Calls Try.prog 28 #[.pointer (some ⟨w.heap.size, 0, none⟩)] w1 fun e w' => e = .returned (.int .i64 ((numb (numb l false).2.1 (numb l false).2.2).1 : Nat)) ∧ Rdr w' w.heap.size (numb (numb l false).2.1 (numb l false).2.2).2.1 (numb (numb l false).2.1 (numb l false).2.2).2.2 ∧ Kr w.heap.size w1 w') := fun w1 h1 => number_any (by omega) h1
  unfold rdS
  generalize (numb l false).1 = kd at *
  generalize (numb l false).2.1 = l1 at *
  generalize (numb l false).2.2 = b1 at *
  obtain ⟨p, hp⟩ : ∃ p, (numb l1 b1).2 = p := ⟨_, rfl⟩
  rw [hp] at HN2 m2 ⊢
  clear hp
  generalize (numb l1 b1).1 = cnt at *
  have hpl : p.1.length ≤ 140737488351232 := by omega
  have HGL := hid (goR_len cnt p)
  obtain ⟨F, hF⟩ : ∃ F, (fun j => goR j p) = F := ⟨_, rfl⟩
  have HT : Hid (∀ (j : Nat) (w1 : World), Rdr w1 w.heap.size (F j).2.1 (F j).2.2 → Calls Try.prog 29 #[.pointer (some ⟨w.heap.size, 0, none⟩)] w1 fun e w' => e = .returned (.string (bt (txt (F j).2.1 (F j).2.2).1)) ∧ Rdr w' w.heap.size (txt (F j).2.1 (F j).2.2).2.1 (txt (F j).2.1 (F j).2.2).2.2 ∧ Kr w.heap.size w1 w') := fun j w1 h1 => text_any (by rw [← hF]; have := goR_left j p; show (goR j p).2.1.length ≤ _; omega) h1
  have HT2 : Hid (∀ (j : Nat) (w1 : World), Rdr w1 w.heap.size (txt (F j).2.1 (F j).2.2).2.1 (txt (F j).2.1 (F j).2.2).2.2 → Calls Try.prog 29 #[.pointer (some ⟨w.heap.size, 0, none⟩)] w1 fun e w' => e = .returned (.string (ent1 (F j).2).1.v) ∧ Rdr w' w.heap.size (F (j + 1)).2.1 (F (j + 1)).2.2 ∧ Kr w.heap.size w1 w') := fun j w1 h1 => by
    have h := text_any (by rw [← hF]; have := goR_left j p; have := (txt_len (goR j p).2.1 (goR j p).2.2).2; show (txt (goR j p).2.1 (goR j p).2.2).2.1.length ≤ _; omega) h1
    subst hF
    exact h
  have HTK : Hid (∀ j, bt (txt (F j).2.1 (F j).2.2).1 = (ent1 (F j).2).1.k) := fun j => rfl
  have HFS : Hid (∀ j, (F (j + 1)).1 = (F j).1 ++ [(ent1 (F j).2).1]) := fun j => by rw [← hF]; rfl
  have HFL : Hid (∀ j, (F j).1.length = j) := fun j => by rw [← hF]; exact goR_len j p
  have HSM : Hid (∀ j, Sml (ent1 (F j).2).1.k ∧ Sml (ent1 (F j).2).1.v) := fun j => by
    have h := goR_sml (j + 1) p (ent1 (goR j p).2).1 (by show _ ∈ (goR j p).1 ++ [_]; simp)
    rw [← hF]
    exact h
  have HF0 : Hid (F 0 = ([], p)) := by show _ = _; rw [← hF]; rfl
  have hFc : goR cnt p = F cnt := by rw [← hF]
  rw [hFc, HFL.out cnt]
  clear hF hFc HGL hl m1 n1 m2
  have HAP : Hid (∀ (w1 : World) (v : Value) (M : List Ent), Rdr w1 w.heap.size [] true → True) := fun _ _ _ _ => trivial
  clear HAP
  go_enter Try.func18, Try.ntmps18
  go_wp2_with (first
    | (go_at_call 28; refine (HN1.out _ HR0.out).mono ?_; clear HN1; rintro e w1 ⟨rfl, hr1, hk1⟩; have HR1 := hid hr1; have HB1 := hid (HB0.out.trans (Keep.below hk1 (fun j hj => by rw [hj]; exact Nat.le_refl _) HB0.out.size)); clear hr1 hk1 HR0 HB0)
    | (go_at_call 28; refine (HN2.out _ HR1.out).mono ?_; clear HN2; rintro e w2 ⟨rfl, hr2, hk2⟩; have HR2 := hid hr2; have HB2 := hid (HB1.out.trans (Keep.below hk2 (fun j hj => by rw [hj]; exact Nat.le_refl _) HB1.out.size)); clear hr2 hk2 HR1 HB1))
  go_loopw [8, 14] (fun x i wr => ∃ (j : Nat) (ba : Option Addr) (bc : Nat), j ≤ cnt ∧ i = .int .i64 (j : Nat) ∧ x = .slice ba j bc ∧ Hid (RowE wr w.heap.size (.slice ba j bc) (F j).1) ∧ Hid (Rdr wr w.heap.size (F j).2.1 (F j).2.2) ∧ Hid (Below w.heap.size w wr)) (fun _ i _ => cnt - (intOf i).toNat)
  case atStart => exact ⟨0, none, 0, Nat.zero_le _, rfl, rfl, (by show RowE _ _ _ _; rw [HF0.out]; exact RowE.nil _ _), (by show Rdr _ _ _ _; rw [HF0.out]; exact HR2.out), HB2⟩
  case round =>
    obtain ⟨j, ba, bc, hj, rfl, rfl, HO, HR, HB⟩ := hrel
    clear HR2 HB2 HF0
    by_cases hjm : j < cnt
    · have hji : (j : Int) < (cnt : Int) := by omega
      have HT1 := hid (HT.out j wr HR.out)
      have HT22 := hid (HT2.out j)
      rw [HTK.out j] at HT1
      have HFJ := hid (HFS.out j)
      have HLJ := hid (HFL.out j)
      obtain ⟨s1, s2⟩ := HSM.out j
      have hne : ∀ w1 : World, Rdr w1 w.heap.size (F j).2.1 (F j).2.2 → RowE w1 w.heap.size (.slice ba j bc) (F j).1 → ∀ g, (Value.slice ba j bc).ownBlock = some g → ¬ g = w.heap.size := fun w1 h1 h2 g hg => Blk.ne h1 h2 (by decide) hg
      have HNE := hid (hne wr HR.out HO.out)
      clear hne
      obtain ⟨x, hx⟩ : ∃ x, (ent1 (F j).2).1 = x := ⟨_, rfl⟩
      rw [hx] at HT1 HT22 HFJ s1 s2
      clear hx
      obtain ⟨l3, hl3⟩ : ∃ l3, (txt (F j).2.1 (F j).2.2).2.1 = l3 := ⟨_, rfl⟩
      obtain ⟨b3, hb3⟩ : ∃ b3, (txt (F j).2.1 (F j).2.2).2.2 = b3 := ⟨_, rfl⟩
      rw [hl3, hb3] at HT1 HT22
      clear hl3 hb3
      have HEO := hid (fun w1 : World => LiesE.one w1 x s1 s2)
      clear s1 s2
      go_wp2_with (first
        | (go_at_call 29; refine HT1.out.mono ?_; clear HT1; rintro e w3 ⟨rfl, hr3, hk3⟩; have HR3 := hid hr3; have HO3 : Hid (RowE w3 w.heap.size (.slice ba j bc) (F j).1) := Keep.row hk3 HO.out HNE.out; have HB3 := hid (HB.out.trans (Keep.below hk3 (fun j hj => by rw [hj]; exact Nat.le_refl _) HB.out.size)); clear hr3 hk3 HR HO HB)
        | (go_at_call 29; refine (HT22.out w3 HR3.out).mono ?_; clear HT22; rintro e w4 ⟨rfl, hr4, hk4⟩; have HR4 := hid hr4; have HO4 : Hid (RowE w4 w.heap.size (.slice ba j bc) (F j).1) := Keep.row hk4 HO3.out HNE.out; have HB4 := hid (HB3.out.trans (Keep.below hk4 (fun j hj => by rw [hj]; exact Nat.le_refl _) HB3.out.size)); clear hr4 hk4 HR3 HO3 HB3; have hba : Hid (Below w4.heap.size w4 (w4.alloc (.cells #[.string x.k, .string x.v] 26))) := (Below.refl _ w4).alloc (Nat.le_refl _) _; have HO5 := hid (HO4.out.on hba.out); have HB5 := hid (HB4.out.trans (hba.out.mono HB4.out.size)); have HR5 := hid (HR4.out.on hba.out); clear hba)
        | (at_builtin; refine wpList_more _ w rfl (.tmp 16) (.tmp 20) rfl (.slice ba j bc) (F j).1 j HLJ.out rfl HO5.out HB5.out (.slice (some ⟨w4.heap.size, 0, none⟩) 1 1) [x] 1 rfl rfl (HEO.out w4) (by omega) ?_; intro va vc w6 hr6 hb6 hg6; have HO6 : Hid (RowE w6 w.heap.size (.slice va (j + 1) vc) (F (j + 1)).1) := (by show RowE _ _ _ _; rw [HFJ.out]; exact hr6); have HB6 := hid hb6; have HR6 : Hid (Rdr w6 w.heap.size (F (j + 1)).2.1 (F (j + 1)).2.2) := Blk.kept HR5.out hg6 (fun e => HNE.out _ e.symm rfl); clear hr6 hb6 hg6))
      go_roundw
      case rel => exact ⟨j + 1, va, vc, by omega, by go_num, rfl, HO6, HR6, HB6⟩
      case measure => simp [intOf]; omega
    · obtain rfl : j = cnt := by omega
      have hji : ¬ (j : Int) < (j : Int) := by omega
      have hd : Below wr.heap.size wr wr.drew := (Below.refl _ wr).drew
      have HO2 := hid (HO.out.on hd)
      have HB2 := hid (HB.out.trans (hd.mono HB.out.size))
      have c1 : wr.cell? ⟨w.heap.size, 1, none⟩ = some (.bool (F j).2.2) := Blk.cell HR.out (i := 1) rfl
      clear HR HO HB hd
      obtain ⟨bb, hbb⟩ : ∃ bb, (F j).2.2 = bb := ⟨_, rfl⟩
      have HBB := hid hbb
      rw [hbb] at c1
      clear hbb
      go_wp2_with fail
      go_region
      go_wp2_with fail
      go_ret3
      refine ⟨ba, bc, ?_, HO2.out, HB2.out⟩
      rw [HBB.out]
      rfl
end Go.Proofs.Ytjocbkhjbbpkjab

