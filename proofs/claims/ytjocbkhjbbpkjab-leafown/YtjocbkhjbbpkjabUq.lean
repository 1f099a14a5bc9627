/-
  Unpack.
-/
import Derived.Test.YtjocbkhjbbpkjabUp
namespace Go.Proofs.Ytjocbkhjbbpkjab
open Go.RowKit
set_option linter.unusedVariables false
set_option linter.unusedSimpArgs false
set_option maxRecDepth 100000

def unp (l : List UInt8) : Option (Nat × List Ent) :=
  if (rdS l).2.2 = true ∧ packE ((rdS l).1 : Nat) (rdS l).2.1 = 0 ∧ packS ((rdS l).1 : Nat) (rdS l).2.1 = bt l then some ((rdS l).1, (rdS l).2.1) else none
theorem other_texts {s t : ByteArray} (h : ¬ s = t) : (s.toList == t.toList) = false := by
  rw [eq_iff]; exact decide_eq_false h
theorem rdS_sml (l : List UInt8) : SmlL (rdS l).2.1 ∧ (rdS l).2.1.length ≤ 255 := by
  refine ⟨goR_sml _ _, ?_⟩
  show (goR _ _).1.length ≤ 255
  rw [goR_len]
  exact (numb_len _ _).1

set_option maxHeartbeats 1000000 in
theorem unpack_any (w : World) (l : List UInt8) (hl : l.length ≤ 140737488351232) :
    Calls Try.prog 11 #[.string (bt l)] w fun e w' => ∃ a c, e = .returned (.tuple #[.int .i64 (((unp l).getD (0, [])).1 : Nat), .slice a ((unp l).getD (0, [])).2.length c, .int .i64 (if unp l = none then 3 else 0)]) ∧ RowE w' w.heap.size (.slice a ((unp l).getD (0, [])).2.length c) ((unp l).getD (0, [])).2 ∧ Below w.heap.size w w' := by
  have hr := read_any w l hl
  obtain ⟨hs, hn⟩ := rdS_sml l
  have HLS := hid hs
  clear hs
  unfold unp
  generalize (rdS l).1 = kd at *
  generalize (rdS l).2.2 = ok at *
  generalize (rdS l).2.1 = M at *
  obtain ⟨n, hnn⟩ : ∃ n, M.length = n := ⟨_, rfl⟩
  have HN := hid hnn
  rw [hnn] at hr hn
  cases ok with
  | false =>
    have e1 : (if false = true ∧ packE (kd : Int) M = 0 ∧ packS (kd : Int) M = bt l then some (kd, M) else none) = (none : Option (Nat × List Ent)) := if_neg (fun h => by cases h.1)
    rw [e1]
    have HRW : Hid (∀ w1 : World, RowE w1 w.heap.size (.slice none 0 0) []) := fun w1 => RowE.nil w1 _
    clear e1 hl hnn
    go_enter Try.func11, Try.ntmps11
    go_wp2_with (go_at_call 18; refine hr.mono ?_; clear hr; rintro e w1 ⟨a1, c1, rfl, hr1, hb1⟩; have HB1 := hid hb1; clear hb1 hr1)
    go_ret3
    exact ⟨none, 0, rfl, HRW.out _, HB1.out⟩
  | true =>
    have HPK : Hid (∀ (w1 : World) (v : Value), RowE w1 w.heap.size v M → Calls Try.prog 10 #[.int .i64 (kd : Nat), v] w1 fun e w' => e = .returned (.tuple #[.string (packS (kd : Int) M), .int .i64 (packE (kd : Int) M : Nat)]) ∧ Below w1.heap.size w1 w') := fun w1 v h1 => pack_any w1 kd v M (h1.lies HLS.out) (by omega)
    by_cases he : packE (kd : Int) M = 0
    · rw [he] at HPK
      by_cases hp : packS (kd : Int) M = bt l
      · have e1 : (if true = true ∧ packE (kd : Int) M = 0 ∧ packS (kd : Int) M = bt l then some (kd, M) else none) = some (kd, M) := if_pos ⟨rfl, he, hp⟩
        rw [e1]
        show Calls Try.prog 11 #[.string (bt l)] w fun e w' => ∃ a c, e = .returned (.tuple #[.int .i64 (kd : Nat), .slice a M.length c, .int .i64 0]) ∧ RowE w' w.heap.size (.slice a M.length c) M ∧ Below w.heap.size w w'
        rw [hnn]
        rw [hp] at HPK
        clear e1 hl hnn he hp
        generalize bt l = s at *
        go_enter Try.func11, Try.ntmps11
        go_wp2_with (first
          | (go_at_call 18; refine hr.mono ?_; clear hr; rintro e w1 ⟨a1, c1, rfl, hr1, hb1⟩; have HB1 := hid hb1; have HR1 := hid hr1; clear hb1 hr1)
          | (go_at_call 10; refine (HPK.out _ _ HR1.out).mono ?_; clear HPK; rintro e w2 ⟨rfl, hb2⟩; have HB2 := hid (HB1.out.trans (hb2.mono HB1.out.size)); have HR2 := hid (HR1.out.on hb2); clear hb2 HB1 HR1))
        go_ret3
        exact ⟨a1, c1, rfl, HR2.out, HB2.out⟩
      · have e1 : (if true = true ∧ packE (kd : Int) M = 0 ∧ packS (kd : Int) M = bt l then some (kd, M) else none) = (none : Option (Nat × List Ent)) := if_neg (fun h => hp h.2.2)
        rw [e1]
        have hot := other_texts hp
        have HRW : Hid (∀ w1 : World, RowE w1 w.heap.size (.slice none 0 0) []) := fun w1 => RowE.nil w1 _
        clear e1 hl hnn he hp
        generalize bt l = s at *
        generalize packS (kd : Int) M = s2 at *
        go_enter Try.func11, Try.ntmps11
        go_wp2_with (first
          | (go_at_call 18; refine hr.mono ?_; clear hr; rintro e w1 ⟨a1, c1, rfl, hr1, hb1⟩; have HB1 := hid hb1; have HR1 := hid hr1; clear hb1 hr1)
          | (go_at_call 10; refine (HPK.out _ _ HR1.out).mono ?_; clear HPK; rintro e w2 ⟨rfl, hb2⟩; have HB2 := hid (HB1.out.trans (hb2.mono HB1.out.size)); clear hb2 HB1 HR1))
        go_ret3
        exact ⟨none, 0, rfl, HRW.out _, HB2.out⟩
    · have e1 : (if true = true ∧ packE (kd : Int) M = 0 ∧ packS (kd : Int) M = bt l then some (kd, M) else none) = (none : Option (Nat × List Ent)) := if_neg (fun h => he h.2.1)
      rw [e1]
      have HRW : Hid (∀ w1 : World, RowE w1 w.heap.size (.slice none 0 0) []) := fun w1 => RowE.nil w1 _
      clear e1 hl hnn
      generalize bt l = s at *
      generalize packS (kd : Int) M = s2 at *
      generalize packE (kd : Int) M = q at *
      have d5 : ((q : Int) == 0) = false := beq_eq_false_iff_ne.2 (by omega)
      have d6 : ((q : Int) != 0) = true := by simp; omega
      have d7 : ¬ (q : Int) = 0 := by omega
      clear he
      go_enter Try.func11, Try.ntmps11
      go_wp2_with (first
        | (go_at_call 18; refine hr.mono ?_; clear hr; rintro e w1 ⟨a1, c1, rfl, hr1, hb1⟩; have HB1 := hid hb1; have HR1 := hid hr1; clear hb1 hr1)
        | (go_at_call 10; refine (HPK.out _ _ HR1.out).mono ?_; clear HPK; rintro e w2 ⟨rfl, hb2⟩; have HB2 := hid (HB1.out.trans (hb2.mono HB1.out.size)); clear hb2 HB1 HR1))
      go_ret3
      exact ⟨none, 0, rfl, HRW.out _, HB2.out⟩
end Go.Proofs.Ytjocbkhjbbpkjab

