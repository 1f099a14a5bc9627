/-
  A page is read: the program's reader.
-/
import Derived.Test.YtjocbkhjbbpkjabPk
namespace Go.Proofs.Ytjocbkhjbbpkjab
open Go.RowKit
set_option linter.unusedVariables false
set_option linter.unusedSimpArgs false
set_option maxRecDepth 100000

/-- bytes as a text -/
def bt (l : List UInt8) : ByteArray := ⟨l.toArray⟩
theorem bt_len (l : List UInt8) : (bt l).size = l.length := bt_size l
theorem bt_data (l : List UInt8) : (bt l).data.toList = l := by simp [bt]
theorem bt_self (s : ByteArray) : bt s.data.toList = s := by unfold bt; simp
theorem bt_cut (l : List UInt8) (i j : Nat) : (bt l).extract i j = bt ((l.take j).drop i) := by
  apply ByteArray.ext
  rw [ByteArray.data_extract]
  apply Array.toList_inj.1
  show ((l.toArray).extract i j).toList = ((l.take j).drop i).toArray.toList
  rw [Array.toList_extract, List.extract_eq_take_drop, List.drop_take]

/-- the reader at block r -/
def Rdr (w : World) (r : Nat) (l : List UInt8) (sh : Bool) : Prop := Blk w r #[.string (bt l), .bool sh] 64
def Kr (r : Nat) (w w' : World) : Prop := Keep (fun j => j = r) w w'
section
variable {w W : World} {r : Nat} {l : List UInt8} {sh : Bool}
theorem Rdr.rest (h : Rdr w r l sh) (l' : List UInt8) : Rdr (w.setCell ⟨r, 0, none⟩ (.string (bt l'))) r l' sh := Blk.set h 0 (.string (bt l'))
theorem Rdr.short (h : Rdr w r l sh) : Rdr (w.setCell ⟨r, 1, none⟩ (.bool true)) r l true := Blk.set h 1 (.bool true)
theorem Kr.set (w : World) (r i : Nat) (v : Value) : Kr r w (w.setCell ⟨r, i, none⟩ v) := Keep.set (S := fun j => j = r) w rfl i v
theorem Kr.trans {a b c : World} (h : Kr r a b) (k : Kr r b c) : Kr r a c := Keep.trans h k (fun _ _ h => h)
theorem Kr.of_below (h : Below w.heap.size w W) : Kr r w W := Keep.of_below h
theorem Rdr.on (h : Rdr w r l sh) (hb : Below w.heap.size w W) : Rdr W r l sh := Blk.on h hb h.lt

theorem number_cons (c : UInt8) (l : List UInt8) (hl : l.length ≤ 140737488351232) (h : Rdr w r (c :: l) sh) :
    Calls Try.prog 28 #[.pointer (some ⟨r, 0, none⟩)] w fun e w' => e = .returned (.int .i64 (c.toNat : Nat)) ∧ Rdr w' r l sh ∧ Kr r w w' := by
  have c0 : w.cell? ⟨r, 0, none⟩ = some (.string (bt (c :: l))) := Blk.cell h (i := 0) rfl
  have f0 := Blk.free h 0
  have HR := hid (h.rest l)
  have hsz := bt_len (c :: l)
  rw [List.length_cons] at hsz
  have hg := get_ok (bt (c :: l)) 0 1 w (by decide) (by decide) (by unfold maxLen; omega) (by omega)
  have hv : val (sub (bt (c :: l)) 0 1) = c.toNat := by unfold sub; rw [bt_data]; simp [val]
  rw [hv] at hg
  have hcut : (bt (c :: l)).extract 1 (bt (c :: l)).size = bt l := by rw [bt_cut, hsz]; simp
  have hc : c.toNat ≤ 255 := by have := c.toNat_lt; omega
  have hsl : ∀ w1 : World, (Instr.slice 9 (.string (bt (c :: l))) (some (.int .i64 1)) none none).run Try.prog w1 = .ok (.string (bt l)) w1 := fun w1 => by
    have := run_slice_string_l (P := Try.prog) (w := w1) (t := 9) (s := bt (c :: l)) Try.underlying9 .i64 1 (by decide) (by omega)
    rw [this, ← hcut]
    rfl
  have hw : IntKind.i64.wrap (c.toNat : Int) = (c.toNat : Int) := by rw [IntKind.wrap_i64]; omega
  have HK := hid (Kr.set w r 0 (.string (bt l)))
  have hg' : Calls Try.prog 34 #[.string (bt (c :: l)), .int .i64 0, .int .i64 1] w fun e w' => e = .returned (.tuple #[.int .u64 (c.toNat : Nat), .int .i64 0]) ∧ w = w' := hg
  clear hg hv hcut h
  generalize bt (c :: l) = s at *
  generalize bt l = s1 at *
  generalize c.toNat = n at *
  go_enter Try.func28, Try.ntmps28
  go_wp2_with (go_at_call 34; refine hg'.mono ?_; clear hg'; rintro e w1 ⟨rfl, rfl⟩)
  go_ret
  exact ⟨rfl, HR.out, HK.out⟩
theorem number_nil (h : Rdr w r [] sh) :
    Calls Try.prog 28 #[.pointer (some ⟨r, 0, none⟩)] w fun e w' => e = .returned (.int .i64 0) ∧ Rdr w' r [] true ∧ Kr r w w' := by
  have c0 : w.cell? ⟨r, 0, none⟩ = some (.string (bt [])) := Blk.cell h (i := 0) rfl
  have c1 : w.cell? ⟨r, 1, none⟩ = some (.bool sh) := Blk.cell h (i := 1) rfl
  have f1 := Blk.free h 1
  have HR := hid h.short
  have hg := get_off (bt []) 0 1 w (by decide) (by decide) (by decide) (by rw [bt_len]; unfold maxLen; decide) (.inr (by rw [bt_len]; decide))
  have HK := hid (Kr.set w r 1 (.bool true))
  have hg' : Calls Try.prog 34 #[.string (bt []), .int .i64 0, .int .i64 1] w fun e w' => e = .returned (.tuple #[.int .u64 0, .int .i64 3]) ∧ w = w' := hg
  clear hg
  generalize bt [] = s at *
  go_enter Try.func28, Try.ntmps28
  go_wp2_with (go_at_call 34; refine hg'.mono ?_; clear hg'; rintro e w1 ⟨rfl, rfl⟩)
  go_ret
  exact ⟨rfl, HR.out, HK.out⟩

/-- a text, as it stands in a page -/
def rdT : List UInt8 → Option (List UInt8 × List UInt8)
  | [] => none
  | c :: l => if l.length < c.toNat then none else some (l.take c.toNat, l.drop c.toNat)
theorem rdT_len {l t m : List UInt8} (h : rdT l = some (t, m)) : t.length ≤ 255 ∧ m.length < l.length := by
  cases l with
  | nil => cases h
  | cons c l =>
    simp only [rdT] at h
    by_cases hc : l.length < c.toNat
    · rw [if_pos hc] at h; cases h
    · rw [if_neg hc] at h
      cases h
      have := c.toNat_lt
      rw [List.length_take, List.length_drop, List.length_cons]
      omega
set_option maxHeartbeats 1000000 in
theorem text_some {l t m : List UInt8} (hl : l.length ≤ 140737488351232) (he : rdT l = some (t, m)) (h : Rdr w r l sh) :
    Calls Try.prog 29 #[.pointer (some ⟨r, 0, none⟩)] w fun e w' => e = .returned (.string (bt t)) ∧ Rdr w' r m sh ∧ Kr r w w' := by
  cases l with
  | nil => cases he
  | cons c l =>
    simp only [rdT] at he
    by_cases hc : l.length < c.toNat
    · rw [if_pos hc] at he; cases he
    rw [if_neg hc] at he
    cases he
    rw [List.length_cons] at hl
    have hn := number_cons c l (by omega) h
    have hc9 : c.toNat ≤ 255 := by have := c.toNat_lt; omega
    have HR : Hid (∀ w1 : World, Rdr w1 r l sh → Rdr (w1.setCell ⟨r, 0, none⟩ (.string (bt (l.drop c.toNat)))) r (l.drop c.toNat) sh) := fun w1 h1 => h1.rest _
    have hsz := bt_len l
    have h1 : (bt l).extract 0 c.toNat = bt (l.take c.toNat) := by rw [bt_cut]; simp
    have h2 : (bt l).extract c.toNat (bt l).size = bt (l.drop c.toNat) := by rw [bt_cut, hsz]; simp
    have hs1 : ∀ w1 : World, (Instr.slice 9 (.string (bt l)) none (some (.int .i64 (c.toNat : Nat))) none).run Try.prog w1 = .ok (.string (bt (l.take c.toNat))) w1 := fun w1 => by
      have := run_slice_string_h (P := Try.prog) (w := w1) (t := 9) (s := bt l) Try.underlying9 .i64 (c.toNat : Nat) (by omega) (by omega)
      rw [this, ← h1]
      rfl
    have hs2 : ∀ w1 : World, (Instr.slice 9 (.string (bt l)) (some (.int .i64 (c.toNat : Nat))) none none).run Try.prog w1 = .ok (.string (bt (l.drop c.toNat))) w1 := fun w1 => by
      have := run_slice_string_l (P := Try.prog) (w := w1) (t := 9) (s := bt l) Try.underlying9 .i64 (c.toNat : Nat) (by omega) (by omega)
      rw [this, ← h2]
      rfl
    have HCL : Hid (∀ w1 : World, Calls Try.prog 23 #[.string (bt (l.take c.toNat))] w1 fun e w' => e = .returned (.string (bt (l.take c.toNat))) ∧ Below w1.heap.size w1 w') := fun w1 => clone_any _ w1 (by rw [bt_len, List.length_take]; omega)
    have hgt : ¬ ((bt l).size : Int) < (c.toNat : Int) := by omega
    have HCE : Hid (∀ w1 : World, Rdr w1 r l sh → w1.cell? ⟨r, 0, none⟩ = some (.string (bt l)) ∧ w1.frozen? ⟨r, 0, none⟩ = false) := fun w1 h1 => ⟨Blk.cell h1 (i := 0) rfl, Blk.free h1 0⟩
    clear h1 h2 hsz h hc hl
    generalize bt l = s at *
    generalize bt (l.take c.toNat) = s1 at *
    obtain ⟨s2, hs2'⟩ : ∃ s2, bt (l.drop c.toNat) = s2 := ⟨_, rfl⟩
    rw [hs2'] at hs2 HR
    clear hs2'
    generalize l.drop c.toNat = m at *
    generalize c.toNat = n at *
    go_enter Try.func29, Try.ntmps29
    go_wp2_with (first
      | (go_at_call 28; refine hn.mono ?_; clear hn; rintro e w1 ⟨rfl, hr1, hk1⟩; have HR1 := hid (HR.out _ hr1); obtain ⟨c0, f0⟩ := HCE.out _ hr1; have HK1 := hid (hk1.trans (Kr.set w1 r 0 (.string s2))); clear hr1 hk1)
      | (go_at_call 23; refine (HCL.out _).mono ?_; clear HCL; rintro e w2 ⟨rfl, hb2⟩))
    go_ret
    exact ⟨rfl, HR1.out.on hb2, HK1.out.trans (Kr.of_below hb2)⟩
theorem text_none {l : List UInt8} (hl : l.length ≤ 140737488351232) (he : rdT l = none) (h : Rdr w r l sh) :
    Calls Try.prog 29 #[.pointer (some ⟨r, 0, none⟩)] w fun e w' => e = .returned (.string (bt [])) ∧ Rdr w' r [] true ∧ Kr r w w' := by
  cases l with
  | nil =>
    have hn := number_nil h
    have HR : Hid (∀ w1 : World, Rdr w1 r [] true → Rdr (w1.setCell ⟨r, 0, none⟩ (.string (bt []))) r [] true) := fun w1 h1 => h1.rest _
    have hsz : (bt []).size = 0 := rfl
    have hs1 : ∀ w1 : World, (Instr.slice 9 (.string (bt [])) none (some (.int .i64 0)) none).run Try.prog w1 = .ok (.string (bt [])) w1 := fun w1 => by
      rw [run_slice_string_h (P := Try.prog) (w := w1) (t := 9) (s := bt []) Try.underlying9 .i64 0 (by omega) (by omega)]
      rfl
    have hs2 : ∀ w1 : World, (Instr.slice 9 (.string (bt [])) (some (.int .i64 0)) none none).run Try.prog w1 = .ok (.string (bt [])) w1 := fun w1 => by
      rw [run_slice_string_l (P := Try.prog) (w := w1) (t := 9) (s := bt []) Try.underlying9 .i64 0 (by omega) (by omega)]
      rfl
    have HCL : Hid (∀ w1 : World, Calls Try.prog 23 #[.string (bt [])] w1 fun e w' => e = .returned (.string (bt [])) ∧ Below w1.heap.size w1 w') := fun w1 => clone_any _ w1 (by rw [bt_len]; decide)
    have HCE : Hid (∀ w1 : World, Rdr w1 r [] true → w1.cell? ⟨r, 0, none⟩ = some (.string (bt [])) ∧ w1.frozen? ⟨r, 0, none⟩ = false) := fun w1 h1 => ⟨Blk.cell h1 (i := 0) rfl, Blk.free h1 0⟩
    have hgt : ¬ ((bt []).size : Int) < 0 := by omega
    clear h hl he hsz
    generalize bt [] = s at *
    go_enter Try.func29, Try.ntmps29
    go_wp2_with (first
      | (go_at_call 28; refine hn.mono ?_; clear hn; rintro e w1 ⟨rfl, hr1, hk1⟩; have HR1 := hid (HR.out _ hr1); obtain ⟨c0, f0⟩ := HCE.out _ hr1; have HK1 := hid (hk1.trans (Kr.set w1 r 0 (.string s))); clear hr1 hk1)
      | (go_at_call 23; refine (HCL.out _).mono ?_; clear HCL; rintro e w2 ⟨rfl, hb2⟩))
    go_ret
    exact ⟨rfl, HR1.out.on hb2, HK1.out.trans (Kr.of_below hb2)⟩
  | cons c l =>
    simp only [rdT] at he
    by_cases hc : l.length < c.toNat
    · rw [List.length_cons] at hl
      have hn := number_cons c l (by omega) h
      have hsz := bt_len l
      have hgt : ((bt l).size : Int) < (c.toNat : Int) := by omega
      have HR : Hid (∀ w1 : World, Rdr w1 r l sh → Rdr ((w1.setCell ⟨r, 1, none⟩ (.bool true)).setCell ⟨r, 0, none⟩ (.string (bt []))) r [] true) := fun w1 h1 => h1.short.rest _
      have HCE : Hid (∀ w1 : World, Rdr w1 r l sh → w1.cell? ⟨r, 0, none⟩ = some (.string (bt l)) ∧ w1.frozen? ⟨r, 0, none⟩ = false ∧ w1.frozen? ⟨r, 1, none⟩ = false ∧ w1.cell? ⟨r, 1, none⟩ = some (.bool sh)) := fun w1 h1 => ⟨Blk.cell h1 (i := 0) rfl, Blk.free h1 0, Blk.free h1 1, Blk.cell h1 (i := 1) rfl⟩
      clear h hc hl hsz he
      generalize bt l = s at *
      generalize c.toNat = n at *
      have hbn : bt [] = ⟨#[]⟩ := rfl
      rw [hbn] at HR ⊢
      go_enter Try.func29, Try.ntmps29
      go_wp2_with (go_at_call 28; refine hn.mono ?_; clear hn; rintro e w1 ⟨rfl, hr1, hk1⟩; have HR1 := hid (HR.out _ hr1); obtain ⟨c0, f0, f1, f2⟩ := HCE.out _ hr1; have HK1 := hid (hk1.trans ((Kr.set w1 r 1 (.bool true)).trans (Kr.set _ r 0 (.string ⟨#[]⟩)))); clear hr1 hk1)
      go_ret
      exact ⟨rfl, HR1.out, HK1.out⟩
    · rw [if_neg hc] at he; cases he
end
end Go.Proofs.Ytjocbkhjbbpkjab

