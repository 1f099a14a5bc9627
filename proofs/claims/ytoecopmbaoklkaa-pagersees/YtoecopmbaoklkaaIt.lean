/-
  The blocks that settle a group, handed out one by one.
-/
import Derived.Test.YtoecopmbaoklkaaFo
namespace Go.Proofs.Ytoecopmbaoklkaa
open Go.RowKit Go.Shelf
attribute [local go_sem] Oper.semAt_some
set_option linter.unusedVariables false
set_option linter.unusedSimpArgs false
set_option maxRecDepth 100000

theorem grown_of_below {w w' : World} (h : Below w.heap.size w w') : w.grownBy w' none := ⟨h.os, h.tape, h.output, h.size, fun k hk _ => h.block k hk⟩
/-- a page's cells, where all outside the disk stands -/
theorem LiesO.kj {w0 w : World} {k : Nat} {a : Option Addr} {n c : Nat} {L : List Pg} (h : LiesO w0 (foot k w0) (.slice a n c) L) (hk : Kj k w0 w) {j : Nat} {p : Pg} (hj : L[j]? = some p) : ∃ b off, a = some ⟨b, off, none⟩ ∧ b < w.heap.size ∧ w.cell? ⟨b, off + j * 2, none⟩ = some (.int .i64 p.pl) ∧ w.cell? ⟨b, off + j * 2 + 1, none⟩ = some (.string p.data) := by
  obtain ⟨b, off, hab, hlt, hn, c0, c1, _⟩ := h.at hj
  have e := (hk.keep b (Pr.of_cell c0 hn)).1
  exact ⟨b, off, hab, Nat.lt_of_lt_of_le hlt hk.size, (World.cell?_of_block (a := ⟨b, off + j * 2, none⟩) e).trans c0, (World.cell?_of_block (a := ⟨b, off + j * 2 + 1, none⟩) e).trans c1⟩
theorem LiesO.kjs {w0 w : World} {k : Nat} {v : Value} {L : List Pg} (h : LiesO w0 (foot k w0) v L) (hk : Kj k w0 w) : LiesO w (foot k w) v L := by
  obtain ⟨a, cap, h1, h2, h3, h4⟩ := h
  refine ⟨a, cap, h1, h2, h3, fun j p hp => ?_⟩
  obtain ⟨b, off, ha, hlt, hs, c0, c1, r⟩ := h4 j p hp
  obtain ⟨e, hn⟩ := hk.keep b (Pr.of_cell c0 hs)
  exact ⟨b, off, ha, Nat.lt_of_lt_of_le hlt hk.size, hn, (World.cell?_of_block (a := ⟨b, off + j * 2, none⟩) e).trans c0, (World.cell?_of_block (a := ⟨b, off + j * 2 + 1, none⟩) e).trans c1, r⟩
theorem Blk.kj {w0 w : World} {k b : Nat} {cs : Array Value} {t : TypeId} (h : Blk w0 b cs t) (hn : ¬ foot k w0 b) (hk : Kj k w0 w) : Blk w b cs t := (hk.keep b ⟨⟨_, h, rfl⟩, hn⟩).1.trans h

set_option maxHeartbeats 4000000 in
theorem settled_stops (n : Nat) (hn : 1 ≤ n) (w0 : World) (k bl : Nat) (v : Value) (L : List Pg) (hbx : Blk w0 bl #[v] 57) (hbn : ¬ foot k w0 bl) (hl : LiesO w0 (foot k w0) v L) (hk : k < w0.heap.size) :
    SeqStopsK Fence.wide n Try.prog 81 #[.pointer (some ⟨bl, 0, none⟩)] encP (Kj k) (fun ys => ys = settledL L) (fun pre => ∃ j, pre = (settledL L).take j) (settledL L).length w0 := by
  intro l J Jx W hW hJ _ hY h0
  have hro : Fence.wide.round = none := rfl
  have HK0 := hid (Kj.of_below hW hk)
  obtain ⟨a, c, e1⟩ := hl.form
  subst e1
  have c0 := (hbx.on hW hbx.lt).cell (i := 0) (v := .slice a L.length c) rfl
  have hlen := hl.len
  unfold maxLen at hlen
  have HL := hid hl
  obtain ⟨N, hN⟩ : ∃ N, L.length = N := ⟨_, rfl⟩
  have HN := hid hN
  have HSL : Hid ((settledL L).length = N + 1) := by show _ = _; rw [settledL_len, hN]
  have HAT : Hid (∀ j p, L[j]? = some p → (settledL L)[j]? = some p) := fun j p h => by
    unfold settledL
    rw [List.getElem?_append_left (List.getElem?_eq_some_iff.1 h).1]
    exact h
  have HLA : Hid ((settledL L)[N]? = some ⟨1, Z⟩) := by
    show _ = _
    unfold settledL
    rw [List.getElem?_append_right (by omega), hN, Nat.sub_self]
    rfl
  have HBK : Hid (∀ w1, Calls Try.prog 82 #[.string ⟨#[]⟩] w1 fun e w' => e = .returned (.string Z) ∧ Below w1.heap.size w1 w') := fun w1 => block_any ⟨#[]⟩ (by decide) w1
  rw [hN] at hlen c0
  clear hl hN
  refine callsIn_of_wp Try.func81 rfl trivial ?_ hro
  simp only [Try.ntmps81, List.size_toArray, List.length_cons, List.length_nil, Nat.reduceAdd, Nat.reduceSub, Array.replicate_succ, Array.replicate_zero, List.push_toArray, List.append_toArray, List.nil_append, List.cons_append]
  gi_wp2
  gi_loopw [7] (fun i wr => ∃ j : Nat, j ≤ N ∧ i = .int .i64 (j : Nat) ∧ J ((settledL L).take j) wr ∧ Hid (Kj k w0 wr)) (fun i _ => N - (intOf i).toNat)
  case atStart => exact ⟨0, Nat.zero_le _, rfl, by simpa using h0, HK0⟩
  case round =>
    obtain ⟨j, hj, rfl, hJs, HK⟩ := hrel
    clear HK0
    by_cases hlt : j < N
    · have hji : (j : Int) < (N : Int) := by omega
      obtain ⟨p, hp⟩ : ∃ p, L[j]? = some p := ⟨_, List.getElem?_eq_getElem (by rw [HN.out]; exact hlt)⟩
      obtain ⟨b, off, hab, hblt, cp0, cp1⟩ := HL.out.kj HK.out hp
      subst hab
      have hpre := take_snoc (HAT.out j p hp)
      have hb := (Below.refl wr.heap.size wr).alloc (Nat.le_refl _) (.cells #[.int .i64 p.pl, .string p.data] 64)
      have HK2 := hid (HK.out.trans (Kj.of_below hb (Nat.lt_of_lt_of_le hk HK.out.size)))
      obtain ⟨fn, tmps, assign, body, hy, hR⟩ := hY _ p _ (hJ _ _ _ none hJs (grown_of_below hb) (fun r e => by cases e)) (by rw [List.length_take, HSL.out]; omega)
      unfold encP at hy
      rw [← hpre] at hR
      obtain ⟨pl, data⟩ := p
      simp only at cp0 cp1 hy
      clear hpre hp HK hb
      gi_wp2
      refine hR.mono ?_
      rintro e W3 (⟨rfl, hJ3, hk3⟩ | ⟨rfl, hJx3⟩)
      · gi_wp2
        go_roundw
        case rel => exact ⟨j + 1, by omega, by go_num, hJ3, HK2.out.trans hk3⟩
        case measure => (simp [intOf]; try omega)
      · gi_wp2
        refine bodyPost_ret (results_none rfl _ _ _) rfl ?_
        exact ⟨⟨_, rfl⟩, .inr ⟨_, ⟨j + 1, rfl⟩, hJx3⟩⟩
    · have hji : ¬ (j : Int) < (N : Int) := by omega
      obtain rfl : j = N := by omega
      have HPR := hid (take_snoc HLA.out)
      have HAL : Hid ((settledL L).take (j + 1) = settledL L) := List.take_of_length_le (by rw [HSL.out]; omega)
      gi_wp2_with (refine ⟨trivial, ?_⟩; gi_at_call 82; refine ((callsIn_wide (n := _)).2 (HBK.out _)).mono ?_; rintro e w1 ⟨rfl, hb1⟩; obtain ⟨fn, tmps, assign, body, hy, hR⟩ := hY _ ⟨1, Z⟩ w1 (hJ _ _ _ none hJs (grown_of_below hb1) (fun r e => by cases e)) (by rw [List.length_take, HSL.out]; omega); unfold encP at hy; simp only at hy; rw [← HPR.out, HAL.out] at hR)
      refine hR.mono ?_
      rintro e W3 (⟨rfl, hJ3, hk3⟩ | ⟨rfl, hJx3⟩)
      · gi_wp2
        go_end0
        first | exact ⟨⟨_, rfl⟩, .inl ⟨_, rfl, hJ3⟩⟩ | exact ⟨⟨_, rfl⟩, .inl hJ3⟩
      · gi_wp2
        go_end0
        exact ⟨⟨_, rfl⟩, .inr ⟨_, ⟨j + 1, HAL.out.symm⟩, hJx3⟩⟩

end Go.Proofs.Ytoecopmbaoklkaa
