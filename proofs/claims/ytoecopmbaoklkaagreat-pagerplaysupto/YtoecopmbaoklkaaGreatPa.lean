/-
  A pager of the program with its disk; New, refuses, Reads, Undo, Unpin; of a nil pager all.
-/
import Derived.Test.YtoecopmbaoklkaaGreatSf
import Derived.Test.YtoecopmbaoklkaaGreatCm
import Derived.Test.YtoecopmbaoklkaaGreatPt
namespace Go.Proofs.YtoecopmbaoklkaaGreat
open Go.RowKit
set_option linter.unusedVariables false
set_option linter.unusedSimpArgs false
set_option maxRecDepth 100000

/-- a pager at block q over a disk at block k: all of it lies in S -/
def Pk (w : World) (S : Nat → Prop) (k q : Nat) (p : Pp) : Prop :=
  ∃ D T : Nat → Prop, (∀ j, S j ↔ D j ∨ T j) ∧ (∀ j, D j → ¬ T j) ∧ Dk w D k p.d ∧ Sh w T k q p.room p.rd p.hs p.ch
/-- what a call leaves -/
structure Pm (w : World) (S : Nat → Prop) (k q : Nat) (p : Pp) (W : World) : Prop where
  pk : ∃ S', Pk W S' k q p ∧ Grows S S' w
  keep : Keep S w W
theorem Pk.lt {w : World} {S : Nat → Prop} {k q : Nat} {p : Pp} (h : Pk w S k q p) : ∀ j, S j → j < w.heap.size := by
  obtain ⟨D, T, h1, _, h3, h4⟩ := h
  intro j hj
  rcases (h1 j).1 hj with hj | hj
  · exact h3.lt j hj
  · exact h4.1 j hj
theorem Keep.pk {R S : Nat → Prop} {w w' : World} {k q : Nat} {p : Pp} (h : Keep R w w') (hp : Pk w S k q p) (hn : ∀ j, S j → ¬ R j) : Pk w' S k q p := by
  obtain ⟨D, T, h1, h2, h3, h4⟩ := hp
  exact ⟨D, T, h1, h2, h.dk h3 (fun j hj => hn j ((h1 j).2 (.inl hj))), h.sh h4 (fun j hj => hn j ((h1 j).2 (.inr hj)))⟩
theorem Pk.on {w w' : World} {S : Nat → Prop} {k q : Nat} {p : Pp} (h : Pk w S k q p) (hb : Below w.heap.size w w') : Pk w' S k q p := (Keep.of_below (S := fun _ => False) hb).pk h (fun _ _ h => h)
theorem Pm.refl {w : World} {S : Nat → Prop} {k q : Nat} {p : Pp} (h : Pk w S k q p) : Pm w S k q p w := ⟨⟨S, h, Grows.refl _ _⟩, Keep.refl _ _⟩
theorem Pm.on {w W V : World} {S : Nat → Prop} {k q : Nat} {p : Pp} (h : Pm w S k q p W) (hb : Below W.heap.size W V) : Pm w S k q p V := by
  obtain ⟨S', h1, h2⟩ := h.pk
  exact ⟨⟨S', h1.on hb, h2⟩, h.keep.trans (Keep.of_below (S := fun _ => False) hb) (fun _ _ h => h.elim)⟩
theorem Pm.base {w W V : World} {S : Nat → Prop} {k q : Nat} {p : Pp} (h : Pm W S k q p V) (hb : Below w.heap.size w W) : Pm w S k q p V := by
  obtain ⟨S', h1, h2⟩ := h.pk
  refine ⟨⟨S', h1, fun j hj => ?_⟩, (Keep.of_below (S := S) hb).trans h.keep (fun _ _ h => h)⟩
  rcases h2 j hj with h' | h'
  · exact .inl h'
  · exact .inr (Nat.le_trans hb.size h')
theorem Pm.trans {w W V : World} {S S' : Nat → Prop} {k q : Nat} {p' : Pp} (hg : Grows S S' w) (hk : Keep S w W) (h : Pm W S' k q p' V) : Pm w S k q p' V := by
  obtain ⟨T2, h1, h2⟩ := h.pk
  refine ⟨⟨T2, h1, hg.trans h2 hk.size⟩, hk.trans h.keep (fun j hj h' => ?_)⟩
  rcases hg j h' with h' | h'
  · exact h'
  · omega
/-- the pager's own part turned -/
theorem Pm.shelf {w W : World} {S D T : Nat → Prop} {k q : Nat} {p : Pp} {hs : List Hp} {ch : List Pg} {rd : Nat} (h1 : ∀ j, S j ↔ D j ∨ T j) (h2 : ∀ j, D j → ¬ T j) (h3 : Dk w D k p.d) (h : Sm w T k q p.room rd hs ch W) : Pm w S k q { p with hs := hs, ch := ch, rd := rd } W := by
  obtain ⟨T', s1, s2⟩ := h.sh
  refine ⟨⟨fun j => D j ∨ T' j, ⟨D, T', fun j => Iff.rfl, fun j hj ht => ?_, h.keep.dk h3 h2, s1⟩, fun j hj => ?_⟩, h.keep.mono (fun j _ hj => (h1 j).2 (.inr hj))⟩
  · rcases s2 j ht with t | t
    · exact h2 j hj t
    · have := h3.lt j hj; omega
  · rcases hj with hj | hj
    · exact .inl ((h1 j).2 (.inl hj))
    · rcases s2 j hj with t | t
      · exact .inl ((h1 j).2 (.inr t))
      · exact .inr t
/-- the disk turned -/
theorem Pm.disk {w W : World} {S D T : Nat → Prop} {k q : Nat} {p : Pp} {d : Ds} (h1 : ∀ j, S j ↔ D j ∨ T j) (h2 : ∀ j, D j → ¬ T j) (h4 : Sh w T k q p.room p.rd p.hs p.ch) (h : Wm w D k d W) : Pm w S k q { p with d := d } W := by
  obtain ⟨D', s1, s2⟩ := h.disk
  refine ⟨⟨fun j => D' j ∨ T j, ⟨D', T, fun j => Iff.rfl, fun j hj ht => ?_, s1, h.keep.sh h4 (fun j hj hd => h2 j hd hj)⟩, fun j hj => ?_⟩, h.keep.mono (fun j _ hj => (h1 j).2 (.inl hj))⟩
  · rcases s2 j hj with t | t
    · exact h2 j t ht
    · have := h4.1 j ht; omega
  · rcases hj with hj | hj
    · rcases s2 j hj with t | t
      · exact .inl ((h1 j).2 (.inl t))
      · exact .inr t
    · exact .inl ((h1 j).2 (.inr hj))

theorem pnew_nil (r : Int) (w : World) : Calls Tryz.prog 7 #[.pointer none, .int .i64 r] w fun e w' => e = .returned (.tuple #[.pointer none, .int .i64 18]) ∧ w = w' := by
  go_enter Tryz.func7, Tryz.ntmps7
  go_wp2
  go_ret2
  exact ⟨rfl, rfl⟩
theorem pnew_no (k : Nat) (r : Int) (hr : ¬ (1 ≤ r ∧ r ≤ 1024)) (w : World) : Calls Tryz.prog 7 #[.pointer (some ⟨k, 0, none⟩), .int .i64 r] w fun e w' => e = .returned (.tuple #[.pointer none, .int .i64 1]) ∧ w = w' := by
  by_cases h1 : r < 1
  · have h2 : decide (r < 1) = true := decide_eq_true h1
    go_enter Tryz.func7, Tryz.ntmps7
    go_wp2
    go_ret2
    exact ⟨rfl, rfl⟩
  · have h2 : decide (r < 1) = false := decide_eq_false h1
    have h3 : 1024 < r := by omega
    go_enter Tryz.func7, Tryz.ntmps7
    go_wp2
    go_ret2
    exact ⟨rfl, rfl⟩
/-- a pager without pages -/
def pw (d : Ds) (room : Nat) : Pp := ⟨d, room, [], [], 0⟩
theorem size_alloc (w : World) (o : Obj) : (w.alloc o).heap.size = w.heap.size + 1 := by unfold World.alloc; exact Array.size_push _
theorem pnew_made (S : Nat → Prop) (k : Nat) (d : Ds) (r : Nat) (w : World) (hd : Dk w S k d) : ∃ S', Pk ((w.alloc (.map #[] 0)).alloc (.cells #[.pointer (some ⟨k, 0, none⟩), .slice none 0 0, .int .i64 (r : Nat), .map (some w.heap.size), .slice none 0 0, .int .i64 0] 65)) S' k (w.heap.size + 1) (pw d r) ∧ Grows S S' w := by
  have hb1 : Below w.heap.size w (w.alloc (.map #[] 0)) := (Below.refl _ _).alloc (Nat.le_refl _) _
  have hd2 := hd.on hb1
  have hm2 : ∀ o : Obj, IMap ((w.alloc (.map #[] 0)).alloc o) w.heap.size 0 (fun _ => none) := fun o => (IMap.made w).same (Below.heap_alloc _ _ _ (by rw [size_alloc]; omega))
  have hbk := Blk.made (w.alloc (.map #[] 0)) #[.pointer (some ⟨k, 0, none⟩), .slice none 0 0, .int .i64 (r : Nat), .map (some w.heap.size), .slice none 0 0, .int .i64 0] 65
  rw [size_alloc] at hbk
  refine ⟨fun j => S j ∨ (j = w.heap.size ∨ j = w.heap.size + 1), ⟨S, fun j => j = w.heap.size ∨ j = w.heap.size + 1, fun j => Iff.rfl, fun j hj hh => ?_, hd2.on ((Below.refl _ _).alloc (Nat.le_refl _) _), ⟨fun j hj => ?_, .inr rfl, .slice none 0 0, .slice none 0 0, w.heap.size, hbk, World.ownsRow_nil _ _ _ _, World.ownsRow_nil _ _ _ _, hm2 _, fun g e => (by simp [Value.ownBlock] at e), fun g e => (by simp [Value.ownBlock] at e), .inl rfl⟩⟩, fun j hj => ?_⟩
  · have := hd.lt j hj; omega
  · rw [size_alloc, size_alloc]
    omega
  · rcases hj with hj | hj
    · exact .inl hj
    · exact .inr (by omega)
theorem pnew_any (S : Nat → Prop) (k : Nat) (d : Ds) (r : Nat) (hr : 1 ≤ r ∧ r ≤ 1024) (w : World) (hd : Dk w S k d) : Calls Tryz.prog 7 #[.pointer (some ⟨k, 0, none⟩), .int .i64 (r : Nat)] w fun e w' => ∃ q, e = .returned (.tuple #[.pointer (some ⟨q, 0, none⟩), .int .i64 0]) ∧ (∃ S', Pk w' S' k q (pw d r) ∧ Grows S S' w) ∧ Below w.heap.size w w' := by
  have h1 : ¬ (r : Int) < 1 := by omega
  have h2 : decide ((r : Int) < 1) = false := decide_eq_false h1
  have h3 : ¬ 1024 < (r : Int) := by omega
  have HD := hid (pnew_made S k d r w hd)
  have HB : Hid (∀ o : Obj, Below w.heap.size w ((w.alloc (.map #[] 0)).alloc o)) := fun o => ((Below.refl _ _).alloc (Nat.le_refl _) _).alloc (by rw [size_alloc]; omega) _
  have hsz := size_alloc w (.map #[] 0)
  clear hd
  have hmk : ∀ v : World, (Instr.makeMap 61 none).run Tryz.prog v = .ok (.map (some v.heap.size)) (v.alloc (.map #[] 0)) := fun v => by kernel_rfl
  have hb56 : ∀ (v : World) (x : Int) (m : Option Nat), (Instr.build 63 #[(0, .int .i64 x), (1, .map m)]).run Tryz.prog v = .ok (.agg #[.int .i64 x, .map m, .slice none 0 0]) v := fun v x m => by kernel_rfl
  have hb59 : ∀ (v : World) (x : Int) (m : Option Nat) (a : Option Addr), (Instr.build 65 #[(0, .pointer a), (2, .agg #[.int .i64 x, .map m, .slice none 0 0])]).run Tryz.prog v = .ok (.agg #[.pointer a, .slice none 0 0, .int .i64 x, .map m, .slice none 0 0, .int .i64 0]) v := fun v x m a => by kernel_rfl
  go_enter Tryz.func7, Tryz.ntmps7
  go_wp2
  go_ret2
  exact ⟨_, rfl, HD.out, HB.out _⟩

theorem pisPage_if (n f g : Nat) (b1 : g ≤ 1019) (b2 : 31 ≤ g) (b3 : f ≤ 2000) (a : Int) (w : World) (z : Bool) (hz : z = true ↔ (a = 0 ∨ (f : Int) ≤ a ∧ a < (f : Int) + (g : Int) - 1))
    (hf : Calls Tryz.prog 92 #[.int .i64 (n : Nat)] w fun e w' => e = .returned (.int .i64 (f : Nat)) ∧ w = w') (hp : Calls Tryz.prog 87 #[.int .i64 (n : Nat)] w fun e w' => e = .returned (.int .i64 (g : Nat)) ∧ w = w') : Calls Tryz.prog 68 #[.int .i64 (n : Nat), .int .i64 a] w fun e w' => e = .returned (.bool z) ∧ w = w' := by
  by_cases h0 : a = 0
  · obtain rfl : z = true := hz.2 (.inl h0)
    subst h0
    clear hz
    go_enter Tryz.func68, Tryz.ntmps68
    go_wp2_with (first
      | (go_at_call 92; refine hf.mono ?_; clear hf; rintro e w1 ⟨rfl, rfl⟩))
    go_ret
    exact ⟨rfl, rfl⟩
  · have h0b : (a == 0) = false := by simp; omega
    by_cases h3 : (f : Int) ≤ a
    · have h3b : decide ((f : Int) ≤ a) = true := decide_eq_true h3
      by_cases h4 : a < (f : Int) + (g : Int) - 1
      · obtain rfl : z = true := hz.2 (.inr ⟨h3, h4⟩)
        clear hz
        go_enter Tryz.func68, Tryz.ntmps68
        go_wp2_with (first
          | (go_at_call 92; refine hf.mono ?_; clear hf; rintro e w1 ⟨rfl, rfl⟩)
          | (go_at_call 87; refine hp.mono ?_; clear hp; rintro e w1 ⟨rfl, rfl⟩))
        go_ret
        exact ⟨rfl, rfl⟩
      · obtain rfl : z = false := by cases z with | false => rfl | true => exact absurd (hz.1 rfl) (by omega)
        clear hz
        go_enter Tryz.func68, Tryz.ntmps68
        go_wp2_with (first
          | (go_at_call 92; refine hf.mono ?_; clear hf; rintro e w1 ⟨rfl, rfl⟩)
          | (go_at_call 87; refine hp.mono ?_; clear hp; rintro e w1 ⟨rfl, rfl⟩))
        go_ret
        exact ⟨by rw [← decide_eq_false (show ¬ a < (f : Int) + (g : Int) - 1 by omega)]; rfl, rfl⟩
    · have h3b : decide ((f : Int) ≤ a) = false := decide_eq_false h3
      obtain rfl : z = false := by cases z with | false => rfl | true => exact absurd (hz.1 rfl) (by omega)
      clear hz
      go_enter Tryz.func68, Tryz.ntmps68
      go_wp2_with (first
        | (go_at_call 92; refine hf.mono ?_; clear hf; rintro e w1 ⟨rfl, rfl⟩))
      go_ret
      exact ⟨rfl, rfl⟩
theorem pisPage_any (n : Nat) (h1 : 64 ≤ n) (h2 : n ≤ 2048) (a : Int) (w : World) : Calls Tryz.prog 68 #[.int .i64 (n : Nat), .int .i64 a] w fun e w' => e = .returned (.bool (decide (isPg n a))) ∧ w = w' := by
  have b1 := pgs_hi h2
  have b2 := pgs_lo h1
  exact pisPage_if n (frs n) (pgs n) b1 b2 (by unfold frs lb; omega) a w _ (by rw [decide_eq_true_eq]; unfold isPg; omega) (first_any n h1 h2 w) (pages_any n h1 h2 w)

section
variable {w : World} {S : Nat → Prop} {k q : Nat} {p : Pp}
theorem Pk.blk (h : Pk w S k q p) : ∃ cv uv m, Blk w q #[.pointer (some ⟨k, 0, none⟩), cv, .int .i64 (p.room : Nat), .map (some m), uv, .int .i64 (p.rd : Nat)] 65 := by
  obtain ⟨D, T, _, _, _, _, _, cv, uv, m, h, _⟩ := h
  exact ⟨cv, uv, m, h⟩
theorem prefuses_nil (a : Int) (w : World) : Calls Tryz.prog 40 #[.pointer none, .int .i64 a] w fun e w' => e = .returned (.int .i64 18) ∧ w = w' := by
  go_enter Tryz.func40, Tryz.ntmps40
  go_wp2
  go_ret
  exact ⟨rfl, rfl⟩
theorem prefuses_any (a : Int) (h : Pk w S k q p) : Calls Tryz.prog 40 #[.pointer (some ⟨q, 0, none⟩), .int .i64 a] w fun e w' => e = .returned (.int .i64 (if isPg p.d.bs.length a then 0 else 1)) ∧ w = w' := by
  obtain ⟨cv, uv, m, hb⟩ := h.blk
  have c0 : w.cell? ⟨q, 0, none⟩ = some (.pointer (some ⟨k, 0, none⟩)) := hb.cell (i := 0) rfl
  obtain ⟨D, T, _, _, hd, _⟩ := h
  have hln := len_any w D k p.d hd
  have hip := pisPage_any p.d.bs.length hd.1.lo hd.1.hi a w
  clear hb hd
  by_cases hp : isPg p.d.bs.length a
  · rw [if_pos hp]
    rw [decide_eq_true hp] at hip
    clear hp
    generalize p.d.bs.length = n at *
    go_enter Tryz.func40, Tryz.ntmps40
    go_wp2_with (first
      | (go_at_call 69; refine hln.mono ?_; clear hln; rintro e w1 ⟨rfl, rfl⟩)
      | (go_at_call 68; refine hip.mono ?_; clear hip; rintro e w1 ⟨rfl, rfl⟩))
    go_ret
    exact ⟨rfl, rfl⟩
  · rw [if_neg hp]
    rw [decide_eq_false hp] at hip
    clear hp
    generalize p.d.bs.length = n at *
    go_enter Tryz.func40, Tryz.ntmps40
    go_wp2_with (first
      | (go_at_call 69; refine hln.mono ?_; clear hln; rintro e w1 ⟨rfl, rfl⟩)
      | (go_at_call 68; refine hip.mono ?_; clear hip; rintro e w1 ⟨rfl, rfl⟩))
    go_ret
    exact ⟨rfl, rfl⟩
theorem reads_nil (w : World) : Calls Tryz.prog 14 #[.pointer none] w fun e w' => e = .returned (.int .i64 0) ∧ w = w' := by
  go_enter Tryz.func14, Tryz.ntmps14
  go_wp2
  go_ret
  exact ⟨rfl, rfl⟩
theorem reads_any (h : Pk w S k q p) : Calls Tryz.prog 14 #[.pointer (some ⟨q, 0, none⟩)] w fun e w' => e = .returned (.int .i64 (p.rd : Nat)) ∧ w = w' := by
  obtain ⟨cv, uv, m, hb⟩ := h.blk
  have c5 : w.cell? ⟨q, 5, none⟩ = some (.int .i64 (p.rd : Nat)) := hb.cell (i := 5) rfl
  clear hb h
  go_enter Tryz.func14, Tryz.ntmps14
  go_wp2
  go_ret
  exact ⟨rfl, rfl⟩
theorem undo_nil (w : World) : Calls Tryz.prog 35 #[.pointer none] w fun e w' => e = .returned (.tuple #[]) ∧ w = w' := by
  go_enter Tryz.func35, Tryz.ntmps35
  go_wp2
  go_end0
  exact ⟨rfl, rfl⟩
/-- a cell of the pager's block turned -/
theorem Su.cell1 {T : Nat → Prop} {room rd : Nat} {U : List Int} {hs : List Hp} {ch ch' : List Pg} (h : Su w T k q room rd U hs ch) {cv : Value} (hr : RowP w 0 cv ch') (hc : In T cv) : Su (w.setCell ⟨q, 1, none⟩ cv) T k q room rd U hs ch' ∧ Keep T w (w.setCell ⟨q, 1, none⟩ cv) := by
  obtain ⟨h1, h2, cv0, uv, m, h3, h4, h5, h6, h7, h8, h9⟩ := h
  have k2 : Keep (fun j => j = q) w (w.setCell ⟨q, 1, none⟩ cv) := Keep.set (S := fun j => j = q) w rfl 1 cv
  refine ⟨⟨fun j hj => ?_, h2, cv, uv, m, h3.set 1 cv, k2.row hr (fun g e => h3.ne hr (by decide) e), k2.row h5 (fun g e => h3.ne h5 (by decide) e), k2.imap h6 (fun e => (h6.ne_blk h3) e.symm), hc, h8, h9⟩, Keep.set (S := T) w h2 1 cv⟩
  have := h1 j hj
  simpa [World.setCell] using this
theorem Su.cell5 {T : Nat → Prop} {room rd rd' : Nat} {U : List Int} {hs : List Hp} {ch : List Pg} (h : Su w T k q room rd U hs ch) : Su (w.setCell ⟨q, 5, none⟩ (.int .i64 (rd' : Nat))) T k q room rd' U hs ch ∧ Keep T w (w.setCell ⟨q, 5, none⟩ (.int .i64 (rd' : Nat))) := by
  obtain ⟨h1, h2, cv0, uv, m, h3, h4, h5, h6, h7, h8, h9⟩ := h
  have k2 : Keep (fun j => j = q) w (w.setCell ⟨q, 5, none⟩ (.int .i64 (rd' : Nat))) := Keep.set (S := fun j => j = q) w rfl 5 _
  refine ⟨⟨fun j hj => ?_, h2, cv0, uv, m, h3.set 5 _, k2.row h4 (fun g e => h3.ne h4 (by decide) e), k2.row h5 (fun g e => h3.ne h5 (by decide) e), k2.imap h6 (fun e => (h6.ne_blk h3) e.symm), h7, h8, h9⟩, Keep.set (S := T) w h2 5 _⟩
  have := h1 j hj
  simpa [World.setCell] using this
theorem undo_any (h : Pk w S k q p) : Calls Tryz.prog 35 #[.pointer (some ⟨q, 0, none⟩)] w fun e w' => e = .returned (.tuple #[]) ∧ Pm w S k q p.undo w' := by
  obtain ⟨cv, uv, m, hb⟩ := h.blk
  have c1 := hb.cell (i := 1) rfl
  have f1 := hb.free 1
  obtain ⟨D, T, h1, h2, h3, h4⟩ := h
  have h5 := Su.cell1 (ch' := []) (cv := .slice none 0 0) h4 (World.ownsRow_nil _ _ _ _) (fun g e => by simp [Value.ownBlock] at e)
  have HF := hid (Pm.shelf (p := p) (rd := p.rd) (hs := p.hs) (ch := []) h1 h2 h3 ⟨⟨T, h5.1, Grows.refl _ _⟩, h5.2⟩)
  clear hb h1 h2 h3 h4 h5
  go_enter Tryz.func35, Tryz.ntmps35
  go_wp2
  go_end0
  exact ⟨rfl, HF.out⟩
theorem unpin_nil (a : Int) (w : World) : Calls Tryz.prog 31 #[.pointer none, .int .i64 a] w fun e w' => e = .returned (.int .i64 18) ∧ w = w' := by
  go_enter Tryz.func31, Tryz.ntmps31
  go_wp2
  go_ret
  exact ⟨rfl, rfl⟩
theorem unpin_any (N : Nat) (hN : N < 4611686018427387904) (a : Int) (ha : I64 a) (hok : p.Ok N) (h : Pk w S k q p) : Calls Tryz.prog 31 #[.pointer (some ⟨q, 0, none⟩), .int .i64 a] w fun e w' => e = .returned (.int .i64 (p.unE a : Nat)) ∧ Pm w S k q (p.un a) w' := by
  have HP := hid h
  obtain ⟨D, T, h1, h2, h3, h4⟩ := h
  have hp := hasPins_any a ha h4
  unfold Pp.unE Pp.un
  by_cases hpn : pinned p.hs a = true
  · rw [if_pos hpn, if_pos hpn]
    rw [hpn] at hp
    obtain ⟨x, hx, hx0⟩ : ∃ x, fndH p.hs a = some x ∧ 0 < x.pins := by
      unfold pinned at hpn
      cases e : fndH p.hs a with
      | none => rw [e] at hpn; cases hpn
      | some x => rw [e] at hpn; exact ⟨x, rfl, by simpa using hpn⟩
    have hxm := (hok.pg x (fndH_some hx).1).2.2
    have hpi := pin_any a (-1) ha h4 (by have := hok.len; have := hok.room; omega) hx (fun n => n - 1) (by omega) (by omega)
    have HF : Hid (∀ w', Sm w T k q p.room p.rd (pinH p.hs a (fun n => n - 1)) p.ch w' → Pm w S k q { p with hs := pinH p.hs a (· - 1) } w') := fun w' h => Pm.shelf (p := p) h1 h2 h3 h
    clear h1 h2 h3 h4 hx hxm hx0 hpn HP hok
    go_enter Tryz.func31, Tryz.ntmps31
    go_wp2_with (first
      | (go_at_call 41; refine hp.mono ?_; clear hp; rintro e w1 ⟨rfl, rfl⟩)
      | (go_at_call 63; refine hpi.mono ?_; clear hpi; rintro e w2 ⟨rfl, hs2⟩; have HS2 := hid hs2; clear hs2))
    go_ret
    exact ⟨rfl, HF.out _ HS2.out⟩
  · rw [if_neg hpn, if_neg hpn]
    have hpn2 : pinned p.hs a = false := by simpa using hpn
    rw [hpn2] at hp
    clear h1 h2 h3 h4 hpn hpn2 hok
    go_enter Tryz.func31, Tryz.ntmps31
    go_wp2_with (first
      | (go_at_call 41; refine hp.mono ?_; clear hp; rintro e w1 ⟨rfl, rfl⟩))
    go_ret
    exact ⟨rfl, Pm.refl HP.out⟩
end

end Go.Proofs.YtoecopmbaoklkaaGreat
