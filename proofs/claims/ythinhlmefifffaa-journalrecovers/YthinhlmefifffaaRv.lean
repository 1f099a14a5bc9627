/-
  What the journal reads of a disk: blocks one behind the other, the pages that the list tells.
-/
import Derived.Test.YthinhlmefifffaaCm
namespace Go.Proofs.Ythinhlmefifffaa
open Go.RowKit Go.Shelf
set_option linter.unusedVariables false
set_option linter.unusedSimpArgs false
set_option maxRecDepth 100000

theorem cutB_snoc {bs : List ByteArray} {a k : Nat} {s : ByteArray} (h : bs[a + k]? = some s) : cutB bs a (k + 1) = cutB bs a k ++ [s] := by
  unfold cutB
  exact take_snoc (by rw [List.getElem?_drop]; exact h)
theorem Ds.rd_in {d : Ds} (h : d.dn = false) {n : Nat} {s : ByteArray} (hs : d.bs[n]? = some s) : d.rdE (n : Int) = 0 ∧ d.rdS (n : Int) = s := by
  have hlt := (List.getElem?_eq_some_iff.1 hs).1
  have h0 : d.rdE (n : Int) = 0 := Ds.rdE_in h (by unfold Ds.out; omega)
  refine ⟨h0, ?_⟩
  unfold Ds.rdS
  rw [if_pos h0, Int.toNat_natCast, List.getD_eq_getElem?_getD, hs]
  rfl

set_option maxHeartbeats 4000000 in
theorem jread_any (w : World) (S : Nat → Prop) (k : Nat) (d : Ds) (hd : Dk w S k d) (hdn : d.dn = false) (a c : Nat) (hac : a + c ≤ d.bs.length) :
    Calls Try.prog 73 #[.pointer (some ⟨k, 0, none⟩), .int .i64 (a : Nat), .int .i64 (c : Nat)] w fun e w' => ∃ v', e = .returned (.tuple #[v', .int .i64 0]) ∧ RowS w' w.heap.size v' (cutB d.bs a c) ∧ Below w.heap.size w w' := by
  obtain ⟨i0, hi, hz0, hz1, hz2⟩ := info_parts info9
  have hhi := hd.1.hi
  have HD := hid hd
  have HDN := hid hdn
  have HAC := hid hac
  clear hd hdn
  have hab : a ≤ 2048 := by omega
  have hcb : c ≤ 2048 := by omega
  have HCL : Hid (∀ j, j ≤ c → (cutB d.bs a j).length = j) := fun j hj => cutB_len (by omega)
  clear hac hhi
  go_enter Try.func73, Try.ntmps73
  go_wp2_with fail
  go_loopw [8, 13] (fun x i wr => ∃ (j : Nat) (ba : Option Addr) (bc : Nat), j ≤ c ∧ i = .int .i64 (j : Nat) ∧ x = .slice ba j bc ∧ Hid (RowS wr w.heap.size (.slice ba j bc) (cutB d.bs a j)) ∧ Hid (Below w.heap.size w wr)) (fun _ i _ => c - (intOf i).toNat)
  case atStart => exact ⟨0, none, 0, Nat.zero_le _, rfl, rfl, World.ownsRow_nil _ _ _ _, Below.refl _ w⟩
  case round =>
    obtain ⟨j, ba, bc, hj, rfl, rfl, HR, HB⟩ := hrel
    by_cases hlt : j < c
    · have hji : (j : Int) < (c : Int) := by omega
      obtain ⟨s, hs⟩ : ∃ s, d.bs[a + j]? = some s := ⟨_, List.getElem?_eq_getElem (by have := HAC.out; omega)⟩
      have hrd := read_any ((a + j : Nat) : Int) wr S k d (HD.out.on HB.out)
      rw [(Ds.rd_in HDN.out hs).1, (Ds.rd_in HDN.out hs).2] at hrd
      rw [show ((a + j : Nat) : Int) = (a : Int) + (j : Int) by omega] at hrd
      have HSN := hid (cutB_snoc hs)
      have HL := hid (HCL.out j hj)
      clear hs
      go_wp2_with (first
        | (go_at_call 33; refine hrd.mono ?_; clear hrd; rintro e w1 ⟨rfl, hb1⟩; have HR1 := hid (HR.out.on hb1); have HB1 := hid (HB.out.trans (hb1.mono HB.out.size)); clear hb1)
        | (at_builtin; refine wpList_append_blk _ rfl (.tmp 27) (.tmp 29) 37 rfl w.heap.size 9 i0 (.string ⟨#[]⟩) 1 16 Try.underlying37 hi hz0 hz1 hz2 rfl (by decide) _ j (flatS (cutB d.bs a j)) rfl (by have h := HR1.out.alloc (.cells #[.string s] 9); rw [HL.out] at h; exact h) ⟨w1.heap.size, 0, none⟩ 1 1 [.string s] rfl rfl (cells_one w1 _ 9) ?c2 (by decide) ?c3 ?c4 ?c5 ?_))
      case c2 => intro u hu; simp at hu; subst hu; rfl
      case c3 => unfold maxLen; omega
      case c4 => omega
      case c5 => have := HB1.out.size; simp; omega
      intro v' w2 hown' hgrow hmv
      have HB2 := hid ((HB1.out.alloc HB1.out.size (.cells #[.string s] 9)).grown hgrow (by have := HB1.out.size; simp; omega) (fun g hg => by have h := HR1.out; exact ((h : w1.ownsRow w.heap.size 9 1 _ _ _).lt g hg).1))
      have HR2 : Hid (RowS w2 w.heap.size v' (cutB d.bs a (j + 1))) := by
        unfold RowS
        rw [HSN.out, flatS_append, List.length_append, HL.out]
        exact hown'
      obtain ⟨va, vc, hv'⟩ := own_form hown'
      subst hv'
      clear hown' hgrow hmv HR1 HB1 HR HB
      go_wp2_with fail
      go_roundw
      case rel => exact ⟨j + 1, va, vc, by omega, by go_num, rfl, HR2, HB2⟩
      case measure => simp [intOf]; omega
    · have hji : ¬ (j : Int) < (c : Int) := by omega
      obtain rfl : j = c := by omega
      go_wp2_with fail
      go_ret2
      exact ⟨_, rfl, HR.out, HB.out⟩

theorem info54 : (Try.prog.info? 54).map (fun i => (i.zero, i.size, i.bytes)) = some (some (.agg #[.int .i64 0, .string ⟨#[]⟩]), 2, 24) := by kernel_rfl
theorem grpL_snoc {lst cps : List ByteArray} {k : Nat} {s : ByteArray} (h : cps[k]? = some s) : grpL lst (cps.take (k + 1)) = grpL lst (cps.take k) ++ [⟨((numAt lst k : Nat) : Int), s⟩] := by
  have hk := (List.getElem?_eq_some_iff.1 h).1
  unfold grpL
  rw [take_snoc h, List.mapIdx_append, List.length_take, Nat.min_eq_left (by omega)]
  simp

set_option maxHeartbeats 4000000 in
theorem groupOf_any (w : World) (B B' : Nat) (u v : Value) (lst cps : List ByteArray) (hu : RowS w B u lst) (hv : RowS w B' v cps) (hl : cps.length ≤ 128 * lst.length) (hc : cps.length ≤ 2048) (hs : ∀ s ∈ lst, s.size = 256) :
    Calls Try.prog 74 #[u, v] w fun e w' => ∃ v', e = .returned v' ∧ RowP w' w.heap.size v' (grpL lst cps) ∧ Below w.heap.size w w' := by
  obtain ⟨i0, hi, hz0, hz1, hz2⟩ := info_parts info54
  obtain ⟨a, c, e1⟩ := hu.form
  obtain ⟨a', c', e2⟩ := hv.form
  subst e1
  subst e2
  have HU := hid hu
  have HV := hid hv
  have HS := hid hs
  obtain ⟨N, hN⟩ : ∃ N, cps.length = N := ⟨_, rfl⟩
  have HN := hid hN
  obtain ⟨M, hM⟩ : ∃ M, lst.length = M := ⟨_, rfl⟩
  have HM := hid hM
  rw [hN] at hl hc
  rw [hM] at hl
  rw [hN, hM]
  have HGL : Hid (∀ j, j ≤ N → (grpL lst (cps.take j)).length = j) := fun j hj => by rw [grpL_len, List.length_take]; omega
  clear hu hv hs hN hM
  go_enter Try.func74, Try.ntmps74
  go_wp2_with fail
  go_loopw [5, 10] (fun x i wr => ∃ (j : Nat) (ba : Option Addr) (bc : Nat), j ≤ N ∧ i = .int .i64 (j : Nat) ∧ x = .slice ba j bc ∧ Hid (RowP wr w.heap.size (.slice ba j bc) (grpL lst (cps.take j))) ∧ Hid (Below w.heap.size w wr)) (fun _ i _ => N - (intOf i).toNat)
  case atStart => exact ⟨0, none, 0, Nat.zero_le _, rfl, rfl, World.ownsRow_nil _ _ _ _, Below.refl _ w⟩
  case round =>
    obtain ⟨j, ba, bc, hj, rfl, rfl, HR, HB⟩ := hrel
    by_cases hlt : j < N
    · have hji : (j : Int) < (N : Int) := by omega
      obtain ⟨s, hsj⟩ : ∃ s, cps[j]? = some s := ⟨_, List.getElem?_eq_getElem (by rw [HN.out]; exact hlt)⟩
      obtain ⟨q, hq⟩ : ∃ q, j / 128 = q := ⟨_, rfl⟩
      have hqM : q < M := by omega
      obtain ⟨t, htq⟩ : ∃ t, lst[q]? = some t := ⟨_, List.getElem?_eq_getElem (by rw [HM.out]; exact hqM)⟩
      obtain ⟨g, x1, _, hgl⟩ := row_some HU.out (by rw [HM.out]; omega)
      subst x1
      obtain ⟨g', x2, _, hgl'⟩ := row_some HV.out (by rw [HN.out]; omega)
      subst x2
      have ct : wr.cell? ⟨g, q, none⟩ = some (.string t) := (HB.out.cell (p := ⟨g, q, none⟩) hgl).trans (HU.out.at htq).1
      have cs : wr.cell? ⟨g', j, none⟩ = some (.string s) := (HB.out.cell (p := ⟨g', j, none⟩) hgl').trans (HV.out.at hsj).1
      have hqi : (j : Int) / 128 = (q : Int) := by omega
      obtain ⟨r, hr⟩ : ∃ r, j % 128 * 2 = r := ⟨_, rfl⟩
      have hri : (j : Int) % 128 * 2 = (r : Int) := by omega
      have htz : t.size = 256 := HS.out t (List.mem_of_getElem? htq)
      have hgt : ∀ w1, _ := fun w1 => get_any t r (by rw [htz]; decide) (by omega) w1
      have HNA : Hid (numAt lst j = Nu.val (Nu.sub t r 2)) := by
        show _ = _
        unfold numAt Nu.sub
        rw [hq, hr, List.getD_eq_getElem?_getD, htq]
        rfl
      have HSN := hid (grpL_snoc (lst := lst) hsj)
      rw [HNA.out] at HSN
      have HL := hid (HGL.out j hj)
      generalize Nu.val (Nu.sub t r 2) = x at hgt HSN
      clear hsj htq hq hr HNA
      go_wp2_with (first
        | (go_at_call 91; refine (hgt _).mono ?_; clear hgt; rintro e w1 ⟨rfl, rfl⟩)
        | (at_builtin; refine wpList_append_blk _ rfl (.tmp 15) (.tmp 27) 25 rfl w.heap.size 54 i0 (.agg #[.int .i64 0, .string ⟨#[]⟩]) 2 24 Try.underlying25 hi hz0 hz1 hz2 rfl (by decide) _ j (flatP (grpL lst (cps.take j))) rfl (by have h := HR.out.alloc (.cells #[.int .i64 (x : Nat), .string s] 54); rw [HL.out] at h; exact h) ⟨wr.heap.size, 0, none⟩ 1 1 [.int .i64 (x : Nat), .string s] rfl rfl (cells_two wr _ _ 54) ?c2 (by decide) ?c3 ?c4 ?c5 ?_))
      case c2 => intro u hu; simp at hu; rcases hu with rfl | rfl <;> rfl
      case c3 => unfold maxLen; omega
      case c4 => omega
      case c5 => have := HB.out.size; simp; omega
      intro v' w2 hown' hgrow hmv
      have HB2 := hid ((HB.out.alloc HB.out.size (.cells #[.int .i64 (x : Nat), .string s] 54)).grown hgrow (by have := HB.out.size; simp; omega) (fun g hg => by have h := HR.out; exact ((h : wr.ownsRow w.heap.size 54 2 _ _ _).lt g hg).1))
      have HR2 : Hid (RowP w2 w.heap.size v' (grpL lst (cps.take (j + 1)))) := by
        unfold RowP
        rw [HSN.out, flatP_append, List.length_append, HL.out]
        exact hown'
      obtain ⟨va, vc, hv'⟩ := own_form hown'
      subst hv'
      clear hown' hgrow hmv HR HB ct cs
      go_wp2_with fail
      go_roundw
      case rel => exact ⟨j + 1, va, vc, by omega, by go_num, rfl, HR2, HB2⟩
      case measure => simp [intOf]; omega
    · have hji : ¬ (j : Int) < (N : Int) := by omega
      obtain rfl : j = N := by omega
      rw [List.take_of_length_le (by rw [HN.out]; omega)] at HR
      go_wp2_with fail
      go_ret
      exact ⟨_, rfl, HR.out, HB.out⟩

end Go.Proofs.Ythinhlmefifffaa
