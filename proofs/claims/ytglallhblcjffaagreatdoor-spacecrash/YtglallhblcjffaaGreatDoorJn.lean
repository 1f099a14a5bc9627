/-
  What strings.Join answers of blocks, put side by side.
-/
import Derived.Test.YtglallhblcjffaaGreatDoorEq
import Derived.Test.YtglallhblcjffaaGreatDoorMix
import Derived.Test.YtglallhblcjffaaGreatDoorShelf
namespace Go.Proofs.YtglallhblcjffaaGreatDoor
open Go.RowKit
set_option linter.unusedVariables false
set_option linter.unusedSimpArgs false
set_option maxRecDepth 100000

theorem put_any (n c : Nat) (h1 : 1 ≤ c) (h2 : c ≤ 8) (hn : n < 256 ^ c) (w : World) : Calls Tryz.prog 138 #[.int .u64 (n : Nat), .int .i64 (c : Nat)] w fun e w' => e = .returned (.string (bt (Nu.be n c))) ∧ Below w.heap.size w w' := by
  have hp := Nu.put_ok n c w h1 h2 hn
  rw [show (⟨(Nu.be n c).toArray⟩ : ByteArray) = bt (Nu.be n c) from rfl] at hp
  generalize bt (Nu.be n c) = s at *
  clear hn
  go_enter Tryz.func138, Tryz.ntmps138
  go_wp2_with (go_at_call 94; refine hp.mono ?_; rintro e w1 ⟨rfl, hb1⟩)
  go_ret
  exact ⟨rfl, hb1⟩
theorem get_any (s : ByteArray) (p : Nat) (hs : s.size ≤ maxLen) (h : p + 2 ≤ s.size) (w : World) : Calls Tryz.prog 136 #[.string s, .int .i64 (p : Nat)] w fun e w' => e = .returned (.int .i64 (Nu.val (Nu.sub s p 2) : Nat)) ∧ w = w' := by
  have hp : Calls Tryz.prog 158 #[.string s, .int .i64 (p : Nat), .int .i64 2] w fun e w' => e = .returned (.tuple #[.int .u64 (Nu.val (Nu.sub s p 2)), .int .i64 0]) ∧ w = w' := Nu.get_ok s p 2 w (by omega) (by omega) hs h
  have hv : Nu.val (Nu.sub s p 2) < 65536 := by
    have h1 := Nu.val_lt (Nu.sub s p 2)
    have h2 : (Nu.sub s p 2).length ≤ 2 := by unfold Nu.sub; rw [List.length_take]; omega
    have h3 := Nat.pow_le_pow_right (n := 256) (by omega) h2
    omega
  generalize Nu.val (Nu.sub s p 2) = v at *
  have hvi : (v : Int) < 65536 := by omega
  clear h hs
  go_enter Tryz.func136, Tryz.ntmps136
  go_wp2_with (go_at_call 158; refine hp.mono ?_; rintro e w1 ⟨rfl, rfl⟩)
  go_ret
  exact ⟨rfl, rfl⟩
theorem block_any (s : ByteArray) (h : s.size ≤ 256) (w : World) : Calls Tryz.prog 109 #[.string s] w fun e w' => e = .returned (.string (Nu.padOf s 256)) ∧ Below w.heap.size w w' := by
  have hp : Calls Tryz.prog 84 #[.string s, .int .i64 256] w fun e w' => e = .returned (.tuple #[.string (Nu.padOf s 256), .int .i64 0]) ∧ Below w.heap.size w w' := Nu.pad_ok s 256 w (by omega) h
  generalize Nu.padOf s 256 = t at *
  clear h
  go_enter Tryz.func109, Tryz.ntmps109
  go_wp2_with (go_at_call 84; refine hp.mono ?_; rintro e w1 ⟨rfl, hb1⟩)
  go_ret
  exact ⟨rfl, hb1⟩
theorem blk_pad {s : ByteArray} (h : s.size ≤ 256) : blk s = Nu.padOf s 256 := by
  unfold blk Nu.padOf
  rw [if_neg (by omega)]
  exact Nu.ba_append s.data.toList _
/-- of how many blocks the law's disk is -/
def szN (x : Int) : Nat := 64 + (IntKind.u64.wrap x % 300).toNat
theorem szN_lo (x : Int) : 64 ≤ szN x := by unfold szN; omega
theorem szN_hi (x : Int) : szN x ≤ 363 := by
  unfold szN; omega
theorem has_jrnl (l : List UInt8) : Lib.hasPrefix l [106, 114, 110, 108] = decide (l.take 4 = [106, 114, 110, 108]) := by
  unfold Lib.hasPrefix
  rw [Bool.eq_iff_iff, List.isPrefixOf_iff_prefix, List.prefix_iff_eq_take, decide_eq_true_iff]
  exact eq_comm
theorem told_any (h : ByteArray) (hs : h.size = 256) (w : World) : Calls Tryz.prog 98 #[.string h] w fun e w' => e = .returned (.int .i64 (told h : Nat)) ∧ w = w' := by
  have hp : Calls Tryz.prog 67 #[.string h, .string ⟨#[106, 114, 110, 108]⟩] w fun e w' => e = .returned (.bool (decide (h.data.toList.take 4 = [106, 114, 110, 108]))) ∧ w = w' := (Tryz.strings_HasPrefix h ⟨#[106, 114, 110, 108]⟩ w).mono fun e w' hh => ⟨by rw [hh.1, ← has_jrnl], hh.2.symm⟩
  have hg := get_any h 4 (by rw [hs]; decide) (by omega) w
  unfold told
  by_cases hj : h.data.toList.take 4 = [106, 114, 110, 108]
  · rw [if_pos hj]
    rw [decide_eq_true hj] at hp
    rw [show Nu.val (Nu.sub h 4 2) = Nu.val ((h.data.toList.drop 4).take 2) from rfl] at hg
    generalize Nu.val ((h.data.toList.drop 4).take 2) = v at *
    clear hj hs
    go_enter Tryz.func98, Tryz.ntmps98
    go_wp2_with (first | (go_at_call 67; refine hp.mono ?_; rintro e w1 ⟨rfl, rfl⟩) | (go_at_call 136; refine hg.mono ?_; rintro e w1 ⟨rfl, rfl⟩))
    go_ret
    exact ⟨rfl, rfl⟩
  · rw [if_neg hj]
    rw [decide_eq_false hj] at hp
    clear hj hs hg
    go_enter Tryz.func98, Tryz.ntmps98
    go_wp2_with (go_at_call 67; refine hp.mono ?_; rintro e w1 ⟨rfl, rfl⟩)
    go_ret
    exact ⟨rfl, rfl⟩

/-- a builder at block b that holds these bytes -/
def Bb (w : World) (b : Nat) (l : List UInt8) : Prop := Lib.IsBuilderF 128 5 b b (Lib.byteCells l) w
theorem bb_zero {w : World} {b : Nat} (h : Lib.BuilderAt 128 5 b b (.pointer (some ⟨b, 0, none⟩)) [] w) : Bb w b [] := Lib.IsBuilderF.of (.inr h)

set_option maxHeartbeats 2000000 in
theorem write_bb (b : Nat) (l : List UInt8) (s : ByteArray) (w : World) (h : Bb w b l) (hlen : l.length + s.size ≤ 100000) :
    Calls Tryz.prog 79 #[.pointer (some ⟨b, 0, none⟩), .string s] w fun e w' => (∃ k, e = .returned (.tuple #[.int .i64 k, .nilIface])) ∧ Bb w' b (l ++ s.data.toList) ∧ Below b w w' := by
  obtain ⟨i0, hi, hz0, hz1, hz2⟩ := info_parts info5
  have hcc := check_zb b (Lib.byteCells l) w h
  obtain ⟨n, hn⟩ : ∃ n, l.length = n := ⟨_, rfl⟩
  have hll : (Lib.byteCells l).length = n := by rw [Lib.byteCells_length]; exact hn
  have HC : Hid (Lib.byteCells (l ++ s.data.toList) = Lib.byteCells l ++ Lib.strCells s) := by
    show _ = _
    rw [Lib.strCells_eq, ← Lib.byteCells_append]
  rw [hn] at hlen
  have HZ2 : Hid (∀ w', Lib.IsBuilderF 128 5 b b (Lib.byteCells l ++ Lib.strCells s) w' → Bb w' b (l ++ s.data.toList)) := fun w' h => by unfold Bb; rw [HC.out]; exact h
  generalize Lib.byteCells l = bs at hcc hll HC HZ2
  clear h HC hn
  go_enter Tryz.func79, Tryz.ntmps79
  go_wp2_with (first | (go_at_call 124; refine hcc.mono ?_; rintro e w1 ⟨rfl, h1, hb1⟩; have hlt := h1.lt; obtain ⟨hB, v, hbk, hown, hne⟩ := h1; have c0 : w1.cell? ⟨b, 0, none⟩ = some (.pointer (some ⟨b, 0, none⟩)) := by { rw [Lib.cell_of_heap hbk]; rfl }; have c1 : w1.cell? ⟨b, 1, none⟩ = some v := by { rw [Lib.cell_of_heap hbk]; rfl }) | (at_builtin; refine Lib.wpList_append_own_stringF _ rfl _ _ 39 9 rfl b 5 i0 Tryz.underlying39 Tryz.underlying9 hi hz0 hz1 hz2 _ _ _ rfl hown s rfl ?c3 ?c4 ?c5 ?_))
  case c3 => unfold maxLen; omega
  case c4 => omega
  case c5 => omega
  intro v' w2 hown' hgrow _
  have hb2 : w2.heap[b]? = some (.cells #[.pointer (some ⟨b, 0, none⟩), v] 128 (0, 0)) := by
    rw [hgrow.block b hlt (fun e => hne e.symm)]
    exact hbk
  have d1 : w2.cell? ⟨b, 1, none⟩ = some v := by rw [Lib.cell_of_heap hb2]; rfl
  have f1 : w2.frozen? ⟨b, 1, none⟩ = false := Lib.frozen_of_heap hb2 1
  have hput := Lib.BuilderAtF.put (T := 128) (e := 5) hB hb2 (bs' := bs ++ Lib.strCells s) (by simpa [Lib.strCells_length, hll] using hown') (by decide)
  have HBel := hid ((hb1.grown hgrow (by omega) (fun k hk => (hown.lt k hk).1)).setCell (p := ⟨b, 1, none⟩) (Nat.le_refl _) v')
  obtain ⟨ao, n', cap, hv'⟩ : ∃ ao n' cap, v' = .slice ao n' cap := by
    rcases hown'.2 with ⟨hv, _⟩ | ⟨g, cap, cur, fz, hv, _⟩
    · exact ⟨_, _, _, hv⟩
    · exact ⟨_, _, _, hv⟩
  subst hv'
  have HP := hid (HZ2.out _ (.inr hput))
  clear hput hgrow hown hown' hbk
  go_wp2
  go_ret2
  exact ⟨⟨_, rfl⟩, HP.out, HBel.out⟩

set_option maxHeartbeats 1000000 in
theorem string_bb (b : Nat) (l : List UInt8) (w : World) (h : Bb w b l) (h0 : 0 < l.length) :
    Calls Tryz.prog 81 #[.pointer (some ⟨b, 0, none⟩)] w fun e w' => e = .returned (.string (bt l)) ∧ Bb w' b l ∧ Below b w w' := by
  obtain ⟨p, hp, hAt⟩ : ∃ p, (p = .pointer none ∨ p = .pointer (some ⟨b, 0, none⟩)) ∧ Lib.BuilderAtF 128 5 b b p (Lib.byteCells l) w := by
    rcases h with h | h
    · exact ⟨_, .inl rfl, h⟩
    · exact ⟨_, .inr rfl, h⟩
  have hA2 := hAt.drew
  obtain ⟨hB, v, hbk, hown, hne⟩ := hAt
  obtain ⟨n, hll⟩ : ∃ n, l.length = n := ⟨_, rfl⟩
  rw [hll] at h0
  have hne0 : l ≠ [] := fun e => by rw [e] at hll; simp at hll; omega
  rw [Lib.byteCells_length, hll] at hown
  rcases hown.2 with ⟨_, hz⟩ | ⟨g, cap, cur, fz, hv, hbg, hg, hfz, hnc, hcm, hcs, htake⟩
  · omega
  subst hv
  have hk1 : w.drew.heap[b]? = some (.cells #[p, .slice (some ⟨g, 0, none⟩) n cap] 128 (0, 0)) := hbk
  have hg1 : w.drew.heap[g]? = some (.cells cur 5 fz) := hg
  have c1 : w.drew.cell? ⟨b, 1, none⟩ = some (.slice (some ⟨g, 0, none⟩) n cap) := by rw [Lib.cell_of_heap hk1]; rfl
  have hSD : (Builtin.unsafeSliceData_ #[39] 170 #[.slice (some ⟨g, 0, none⟩) n cap]).run Tryz.prog w.drew = .ok (.pointer (some ⟨g, 0, none⟩)) w.drew := Lib.run_unsafeSliceData_row _ _ _ _ _ _ (by omega)
  have hUS : (Builtin.unsafeString_ #[170, 3] 9 #[.pointer (some ⟨g, 0, none⟩), .int .i64 n]).run Tryz.prog w.drew = .ok (.string (bt l)) (w.drew.freeze ⟨g, 0, none⟩ n) := by
    have := Lib.run_unsafeString_row w.drew 170 3 9 5 Tryz.underlying170 cells5 g cur.size (by simp [World.shape?, hg1]) l hne0 (by omega) (by unfold maxLen at hcm; omega) (fun j x hx => hown.cells (g := g) rfl j (.int .u8 x.toNat) (by simp [Lib.byteCells, hx]))
    rwa [hll] at this
  have hF := hA2.froze (g := g) (cap := cap) (by rw [Lib.byteCells_length, hll]; exact c1)
  rw [Lib.byteCells_length, hll] at hF
  have HZ : Hid (Bb (w.drew.freeze ⟨g, 0, none⟩ n) b l) := by
    rcases hp with rfl | rfl
    · exact .inl hF
    · exact .inr hF
  have HB := hid (Lib.below_freeze (Below.drew (Below.refl b w)) (p := ⟨g, 0, none⟩) hbg n)
  clear hF hA2 hown htake hk1 hg1 hll hne0 hbk hg
  go_enter Tryz.func81, Tryz.ntmps81
  go_wp2
  go_region
  all_goals (go_wp2; go_ret; exact ⟨rfl, HZ.out, HB.out⟩)


theorem row_cap {w : World} {B : Nat} {e : TypeId} {size n m c : Nat} {a : Option Addr} {xs : List Value} (h : w.ownsRow B e size (.slice a n c) m xs) : m ≤ c ∧ c ≤ maxLen := by
  obtain ⟨a', c', e1, h1, h2, _⟩ := own_cells h
  injection e1 with _ _ e2
  subst e2
  exact ⟨h1, h2⟩
theorem catB_take {lst : List ByteArray} {k : Nat} {s : ByteArray} (h : lst[k]? = some s) : catB (lst.take (k + 1)) = catB (lst.take k) ++ s.data.toList := by
  rw [take_snoc h, catB_append]
  simp [catB]
theorem catB_len {lst : List ByteArray} (h : ∀ s ∈ lst, s.size = 256) : (catB lst).length = 256 * lst.length := by
  induction lst with
  | nil => rfl
  | cons a r ih =>
    have h1 : a.data.toList.length = 256 := h a (by simp)
    show (a.data.toList ++ catB r).length = _
    rw [List.length_append, h1, ih (fun s hs => h s (by simp [hs])), List.length_cons]
    omega

set_option maxHeartbeats 4000000 in
theorem join_any (w : World) (B : Nat) (v : Value) (lst : List ByteArray) (hv : RowS w B v lst) (hl : lst.length ≤ 100) (hs : ∀ s ∈ lst, s.size = 256) :
    Calls Tryz.prog 140 #[v, .string ⟨#[]⟩] w fun e w' => e = .returned (.string (bt (catB lst))) ∧ Below w.heap.size w w' := by
  obtain ⟨a, c, e1⟩ := hv.form
  subst e1
  have HV := hid hv
  have HS := hid hs
  obtain ⟨n, hn⟩ : ∃ n, lst.length = n := ⟨_, rfl⟩
  have HN := hid hn
  rw [hn] at hl ⊢
  clear hv hs hn
  by_cases h0 : n = 0
  · subst h0
    have hnil : lst = [] := List.eq_nil_of_length_eq_zero HN.out
    subst hnil
    go_enter Tryz.func140, Tryz.ntmps140
    go_wp2_with fail
    go_ret
    exact ⟨rfl, Below.refl _ _⟩
  obtain ⟨g, x1, hgB, hgl⟩ := row_some HV.out (by rw [HN.out]; omega)
  subst x1
  obtain ⟨s0, hs0⟩ : ∃ s, lst[0]? = some s := ⟨_, List.getElem?_eq_getElem (by rw [HN.out]; omega)⟩
  have c0 : w.cell? ⟨g, 0, none⟩ = some (.string s0) := (HV.out.at hs0).1
  have hz0 : s0.size = 256 := HS.out s0 (List.mem_of_getElem? hs0)
  by_cases h1 : n = 1
  · subst h1
    have HE : Hid (bt (catB lst) = s0) := by
      show _ = _
      have h2 := catB_take hs0
      rw [List.take_of_length_le (by rw [HN.out]; omega)] at h2
      rw [h2]
      exact bt_self s0
    clear hs0 HV
    go_enter Tryz.func140, Tryz.ntmps140
    go_wp2_with fail
    go_ret
    exact ⟨by rw [HE.out]; rfl, Below.refl _ _⟩
  have hn0 : ¬ (n : Int) = 0 := by omega
  have hn1 : ¬ (n : Int) = 1 := by omega
  have HS0 := hid hs0
  have hb0 : Below w.heap.size w (w.alloc (.cells #[.pointer none, .slice none 0 0] 128)) := (Below.refl _ w).alloc (Nat.le_refl _) _
  have hG : Calls Tryz.prog 78 #[.pointer (some ⟨w.heap.size, 0, none⟩), .int .i64 ((256 * n : Nat) : Int)] (w.alloc (.cells #[.pointer none, .slice none 0 0] 128)) fun e w' => e = .returned (.tuple #[]) ∧ (Lib.BuilderAt 128 5 w.heap.size w.heap.size (.pointer (some ⟨w.heap.size, 0, none⟩)) [] w' ∧ Below w.heap.size (w.alloc (.cells #[.pointer none, .slice none 0 0] 128)) w') := Grow_zb w.heap.size (256 * n) _ (heap_alloc_new w _) (by omega) (by omega)
  have hW1 : ∀ w1, Bb w1 w.heap.size [] → _ := fun w1 h => write_bb w.heap.size [] s0 w1 h (by rw [hz0]; decide)
  have hcnd : n ≤ c := by have := (row_cap HV.out).1; rw [HN.out] at this; exact this
  have hW2 : ∀ (l : List UInt8) w1, Bb w1 w.heap.size l → l.length ≤ 90000 → _ := fun l w1 h hl => write_bb w.heap.size l ⟨#[]⟩ w1 h (by show l.length + 0 ≤ _; omega)
  clear hs0
  go_enter Tryz.func140, Tryz.ntmps140
  go_wp2_with fail
  go_loop [5, 41] (fun x i => ∃ k : Nat, k ≤ n ∧ i = .int .i64 (k : Nat) ∧ x = .int .i64 ((256 * k : Nat) : Int)) (fun _ i => n - (intOf i).toNat)
  case atStart => exact ⟨0, Nat.zero_le _, rfl, rfl⟩
  case round =>
    obtain ⟨k, hk, rfl, rfl⟩ := hrel
    by_cases hlt : k < n
    · have hki : (k : Int) < (n : Int) := by omega
      obtain ⟨s, hsk⟩ : ∃ s, lst[k]? = some s := ⟨_, List.getElem?_eq_getElem (by rw [HN.out]; exact hlt)⟩
      have ck := (HV.out.at hsk).1
      have hzk : s.size = 256 := HS.out s (List.mem_of_getElem? hsk)
      clear hsk
      go_wp2_with fail
      go_round
      case rel => exact ⟨k + 1, by omega, by go_num, by go_num⟩
      case measure => simp [intOf]; omega
    · obtain rfl : k = n := by omega
      go_wp2_with (first
        | (go_at_call 78; go_loud (refine hG.mono ?_; clear hG; rintro e w1 ⟨rfl, h1, b1⟩; have HB1 := hid (hb0.trans b1); have HZ1 := hid (bb_zero h1); have d0 : w1.cell? ⟨g, 0, none⟩ = some (.string s0) := (HB1.out.cell (p := ⟨g, 0, none⟩) hgl).trans c0; clear h1 b1 hb0))
        | (go_at_call 79; refine (hW1 _ HZ1.out).mono ?_; clear hW1; rintro e w2 ⟨⟨k2, rfl⟩, h2, b2⟩; have HB2 := hid (HB1.out.trans b2); have HZ2 := hid h2; clear h2 b2 HZ1 HB1 d0))
      go_loopw [65] (fun i wr => ∃ j : Nat, j + 1 ≤ k ∧ i = .int .i64 (j : Nat) ∧ Hid (Bb wr w.heap.size (catB (lst.take (j + 1)))) ∧ Hid (Below w.heap.size w wr)) (fun i _ => k - 1 - (intOf i).toNat)
      case atStart => exact ⟨0, by omega, rfl, (by rw [catB_take HS0.out]; exact HZ2), HB2⟩
      case round =>
        obtain ⟨j, hj, rfl, HZ, HB⟩ := hrel
        clear HZ2 HB2
        by_cases hjl : j + 1 < k
        · obtain ⟨s, hsk⟩ : ∃ s, lst[j + 1]? = some s := ⟨_, List.getElem?_eq_getElem (by rw [HN.out]; exact hjl)⟩
          have ck : wr.cell? ⟨g, 1 + j, none⟩ = some (.string s) := by rw [Nat.add_comm 1 j]; exact (HB.out.cell (p := ⟨g, j + 1, none⟩) hgl).trans (HV.out.at hsk).1
          have hzk : s.size = 256 := HS.out s (List.mem_of_getElem? hsk)
          have HC : Hid (catB (lst.take (j + 1 + 1)) = catB (lst.take (j + 1)) ++ s.data.toList) := catB_take hsk
          have hlen : (catB (lst.take (j + 1))).length ≤ 30000 := by
            rw [catB_len (fun s hs => HS.out s (List.mem_of_mem_take hs)), List.length_take]
            omega
          obtain ⟨l, hll⟩ : ∃ l, catB (lst.take (j + 1)) = l := ⟨_, rfl⟩
          rw [hll] at HZ HC hlen
          have hw2 := hW2 l wr HZ.out (by omega)
          have hw3 : ∀ w1, Bb w1 w.heap.size (l ++ (⟨#[]⟩ : ByteArray).data.toList) → _ := fun w1 h => write_bb w.heap.size _ s w1 h (by rw [hzk, List.length_append]; show _ + 0 + _ ≤ _; omega)
          have HD : Hid (l ++ (⟨#[]⟩ : ByteArray).data.toList ++ s.data.toList = l ++ s.data.toList) := by show _ = _; rw [show (⟨#[]⟩ : ByteArray).data.toList = [] from rfl, List.append_nil]
          clear hsk hll hlen hW2 HZ
          go_wp2_with (first
            | (go_at_call 79; refine hw2.mono ?_; clear hw2; rintro e w3 ⟨⟨k3, rfl⟩, h3, b3⟩; have HB3 := hid (HB.out.trans b3); have HZ3 := hid h3; clear h3 b3 HB)
            | (go_at_call 79; refine (hw3 _ HZ3.out).mono ?_; clear hw3; rintro e w4 ⟨⟨k4, rfl⟩, h4, b4⟩; have HB4 := hid (HB3.out.trans b4); have HZ4 := hid h4; clear h4 b4 HB3 HZ3))
          go_roundw
          case rel => exact ⟨j + 1, by omega, by go_num, (by rw [HC.out, ← HD.out]; exact HZ4), HB4⟩
          case measure => simp [intOf]; omega
        · obtain rfl : k = j + 1 := by omega
          have HT : Hid (lst.take (j + 1) = lst) := List.take_of_length_le (by rw [HN.out]; omega)
          rw [HT.out] at HZ
          have hS := string_bb _ _ _ HZ.out (by rw [catB_len HS.out, HN.out]; omega)
          obtain ⟨r, hr⟩ : ∃ r, bt (catB lst) = r := ⟨_, rfl⟩
          have HR := hid hr
          rw [hr] at hS
          clear hr
          clear HZ
          go_wp2_with (go_at_call 81; refine hS.mono ?_; rintro e w3 ⟨rfl, h3, b3⟩)
          go_ret
          exact ⟨by rw [HR.out]; rfl, HB.out.trans b3⟩

end Go.Proofs.YtglallhblcjffaaGreatDoor
