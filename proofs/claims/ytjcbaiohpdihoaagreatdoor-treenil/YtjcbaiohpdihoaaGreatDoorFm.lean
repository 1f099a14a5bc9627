/-
  The space's form: where its map is, its mark, its pages, its bits.
-/
import Derived.Test.YtjcbaiohpdihoaaGreatDoorEq
import Derived.Test.YtjcbaiohpdihoaaGreatDoorMix
import Derived.Test.YtjcbaiohpdihoaaGreatDoorShelf
import Derived.Test.YtjcbaiohpdihoaaGreatDoorEt
import Derived.Deep.QuietTactic
import Derived.BigQuiet
namespace Go.Proofs.YtjcbaiohpdihoaaGreatDoor
open Go.RowKit
set_option linter.unusedVariables false
set_option linter.unusedSimpArgs false
set_option maxRecDepth 100000

theorem put_any (n c : Nat) (h1 : 1 ≤ c) (h2 : c ≤ 8) (hn : n < 256 ^ c) (w : World) : Calls Tryz.prog 230 #[.int .u64 (n : Nat), .int .i64 (c : Nat)] w fun e w' => e = .returned (.string (bt (Nu.be n c))) ∧ Below w.heap.size w w' := by
  have hp := Nu.put_ok n c w h1 h2 hn
  rw [show (⟨(Nu.be n c).toArray⟩ : ByteArray) = bt (Nu.be n c) from rfl] at hp
  generalize bt (Nu.be n c) = s at *
  clear hn
  go_enter Tryz.func230, Tryz.ntmps230
  go_wp2_with (go_at_call 188; refine hp.mono ?_; rintro e w1 ⟨rfl, hb1⟩)
  go_ret
  exact ⟨rfl, hb1⟩
theorem get_any (s : ByteArray) (p : Nat) (hs : s.size ≤ maxLen) (h : p + 2 ≤ s.size) (w : World) : Calls Tryz.prog 228 #[.string s, .int .i64 (p : Nat)] w fun e w' => e = .returned (.int .i64 (Nu.val (Nu.sub s p 2) : Nat)) ∧ w = w' := by
  have hp : Calls Tryz.prog 155 #[.string s, .int .i64 (p : Nat), .int .i64 2] w fun e w' => e = .returned (.tuple #[.int .u64 (Nu.val (Nu.sub s p 2)), .int .i64 0]) ∧ w = w' := Nu.get_ok s p 2 w (by omega) (by omega) hs h
  have hv : Nu.val (Nu.sub s p 2) < 65536 := by
    have h1 := Nu.val_lt (Nu.sub s p 2)
    have h2 : (Nu.sub s p 2).length ≤ 2 := by unfold Nu.sub; rw [List.length_take]; omega
    have h3 := Nat.pow_le_pow_right (n := 256) (by omega) h2
    omega
  generalize Nu.val (Nu.sub s p 2) = v at *
  have hvi : (v : Int) < 65536 := by omega
  clear h hs
  go_enter Tryz.func228, Tryz.ntmps228
  go_wp2_with (go_at_call 155; refine hp.mono ?_; rintro e w1 ⟨rfl, rfl⟩)
  go_ret
  exact ⟨rfl, rfl⟩
theorem block_any (s : ByteArray) (h : s.size ≤ 256) (w : World) : Calls Tryz.prog 187 #[.string s] w fun e w' => e = .returned (.string (Nu.padOf s 256)) ∧ Below w.heap.size w w' := by
  have hp : Calls Tryz.prog 126 #[.string s, .int .i64 256] w fun e w' => e = .returned (.tuple #[.string (Nu.padOf s 256), .int .i64 0]) ∧ Below w.heap.size w w' := Nu.pad_ok s 256 w (by omega) h
  generalize Nu.padOf s 256 = t at *
  clear h
  go_enter Tryz.func187, Tryz.ntmps187
  go_wp2_with (go_at_call 126; refine hp.mono ?_; rintro e w1 ⟨rfl, hb1⟩)
  go_ret
  exact ⟨rfl, hb1⟩
theorem blk_pad {s : ByteArray} (h : s.size ≤ 256) : blk s = Nu.padOf s 256 := by
  unfold blk Nu.padOf
  rw [if_neg (by omega)]
  exact Nu.ba_append s.data.toList _
/-- of how many blocks the law's disk is -/
def szN (x : Int) : Nat := 64 + (IntKind.u64.wrap x % 300).toNat
theorem szN_lo (x : Int) : 64 ≤ szN x := by unfold szN; omega
theorem szN_hi (x : Int) : szN x ≤ 363 := by
  unfold szN; omega
theorem has_jrnl (l : List UInt8) : Lib.hasPrefix l [106, 114, 110, 108] = decide (l.take 4 = [106, 114, 110, 108]) := by
  unfold Lib.hasPrefix
  rw [Bool.eq_iff_iff, List.isPrefixOf_iff_prefix, List.prefix_iff_eq_take, decide_eq_true_iff]
  exact eq_comm
theorem told_any (h : ByteArray) (hs : h.size = 256) (w : World) : Calls Tryz.prog 176 #[.string h] w fun e w' => e = .returned (.int .i64 (told h : Nat)) ∧ w = w' := by
  have hp : Calls Tryz.prog 114 #[.string h, .string ⟨#[106, 114, 110, 108]⟩] w fun e w' => e = .returned (.bool (decide (h.data.toList.take 4 = [106, 114, 110, 108]))) ∧ w = w' := (Tryz.strings_HasPrefix h ⟨#[106, 114, 110, 108]⟩ w).mono fun e w' hh => ⟨by rw [hh.1, ← has_jrnl], hh.2.symm⟩
  have hg := get_any h 4 (by rw [hs]; decide) (by omega) w
  unfold told
  by_cases hj : h.data.toList.take 4 = [106, 114, 110, 108]
  · rw [if_pos hj]
    rw [decide_eq_true hj] at hp
    rw [show Nu.val (Nu.sub h 4 2) = Nu.val ((h.data.toList.drop 4).take 2) from rfl] at hg
    generalize Nu.val ((h.data.toList.drop 4).take 2) = v at *
    clear hj hs
    go_enter Tryz.func176, Tryz.ntmps176
    go_wp2_with (first | (go_at_call 114; refine hp.mono ?_; rintro e w1 ⟨rfl, rfl⟩) | (go_at_call 228; refine hg.mono ?_; rintro e w1 ⟨rfl, rfl⟩))
    go_ret
    exact ⟨rfl, rfl⟩
  · rw [if_neg hj]
    rw [decide_eq_false hj] at hp
    clear hj hs hg
    go_enter Tryz.func176, Tryz.ntmps176
    go_wp2_with (go_at_call 114; refine hp.mono ?_; rintro e w1 ⟨rfl, rfl⟩)
    go_ret
    exact ⟨rfl, rfl⟩

/-- a builder at block b that holds these bytes -/
def Bb (w : World) (b : Nat) (l : List UInt8) : Prop := Lib.IsBuilderF 173 5 b b (Lib.byteCells l) w
theorem bb_zero {w : World} {b : Nat} (h : Lib.BuilderAt 173 5 b b (.pointer (some ⟨b, 0, none⟩)) [] w) : Bb w b [] := Lib.IsBuilderF.of (.inr h)

set_option maxHeartbeats 2000000 in
theorem write_bb (b : Nat) (l : List UInt8) (s : ByteArray) (w : World) (h : Bb w b l) (hlen : l.length + s.size ≤ 100000) :
    Calls Tryz.prog 116 #[.pointer (some ⟨b, 0, none⟩), .string s] w fun e w' => (∃ k, e = .returned (.tuple #[.int .i64 k, .nilIface])) ∧ Bb w' b (l ++ s.data.toList) ∧ Below b w w' := by
  obtain ⟨i0, hi, hz0, hz1, hz2⟩ := info_parts info5
  have hcc := check_zb b (Lib.byteCells l) w h
  obtain ⟨n, hn⟩ : ∃ n, l.length = n := ⟨_, rfl⟩
  have hll : (Lib.byteCells l).length = n := by rw [Lib.byteCells_length]; exact hn
  have HC : Hid (Lib.byteCells (l ++ s.data.toList) = Lib.byteCells l ++ Lib.strCells s) := by
    show _ = _
    rw [Lib.strCells_eq, ← Lib.byteCells_append]
  rw [hn] at hlen
  have HZ2 : Hid (∀ w', Lib.IsBuilderF 173 5 b b (Lib.byteCells l ++ Lib.strCells s) w' → Bb w' b (l ++ s.data.toList)) := fun w' h => by unfold Bb; rw [HC.out]; exact h
  generalize Lib.byteCells l = bs at hcc hll HC HZ2
  clear h HC hn
  go_enter Tryz.func116, Tryz.ntmps116
  go_wp2_with (first | (go_at_call 172; refine hcc.mono ?_; rintro e w1 ⟨rfl, h1, hb1⟩; have hlt := h1.lt; obtain ⟨hB, v, hbk, hown, hne⟩ := h1; have c0 : w1.cell? ⟨b, 0, none⟩ = some (.pointer (some ⟨b, 0, none⟩)) := by { rw [Lib.cell_of_heap hbk]; rfl }; have c1 : w1.cell? ⟨b, 1, none⟩ = some v := by { rw [Lib.cell_of_heap hbk]; rfl }) | (at_builtin; refine Lib.wpList_append_own_stringF _ rfl _ _ 171 9 rfl b 5 i0 Tryz.underlying171 Tryz.underlying9 hi hz0 hz1 hz2 _ _ _ rfl hown s rfl ?c3 ?c4 ?c5 ?_))
  case c3 => unfold maxLen; omega
  case c4 => omega
  case c5 => omega
  intro v' w2 hown' hgrow _
  have hb2 : w2.heap[b]? = some (.cells #[.pointer (some ⟨b, 0, none⟩), v] 173 (0, 0)) := by
    rw [hgrow.block b hlt (fun e => hne e.symm)]
    exact hbk
  have d1 : w2.cell? ⟨b, 1, none⟩ = some v := by rw [Lib.cell_of_heap hb2]; rfl
  have f1 : w2.frozen? ⟨b, 1, none⟩ = false := Lib.frozen_of_heap hb2 1
  have hput := Lib.BuilderAtF.put (T := 173) (e := 5) hB hb2 (bs' := bs ++ Lib.strCells s) (by simpa [Lib.strCells_length, hll] using hown') (by decide)
  have HBel := hid ((hb1.grown hgrow (by omega) (fun k hk => (hown.lt k hk).1)).setCell (p := ⟨b, 1, none⟩) (Nat.le_refl _) v')
  obtain ⟨ao, n', cap, hv'⟩ : ∃ ao n' cap, v' = .slice ao n' cap := by
    rcases hown'.2 with ⟨hv, _⟩ | ⟨g, cap, cur, fz, hv, _⟩
    · exact ⟨_, _, _, hv⟩
    · exact ⟨_, _, _, hv⟩
  subst hv'
  have HP := hid (HZ2.out _ (.inr hput))
  clear hput hgrow hown hown' hbk
  go_wp2
  go_ret2
  exact ⟨⟨_, rfl⟩, HP.out, HBel.out⟩

set_option maxHeartbeats 1000000 in
theorem string_bb (b : Nat) (l : List UInt8) (w : World) (h : Bb w b l) (h0 : 0 < l.length) :
    Calls Tryz.prog 118 #[.pointer (some ⟨b, 0, none⟩)] w fun e w' => e = .returned (.string (bt l)) ∧ Bb w' b l ∧ Below b w w' := by
  obtain ⟨p, hp, hAt⟩ : ∃ p, (p = .pointer none ∨ p = .pointer (some ⟨b, 0, none⟩)) ∧ Lib.BuilderAtF 173 5 b b p (Lib.byteCells l) w := by
    rcases h with h | h
    · exact ⟨_, .inl rfl, h⟩
    · exact ⟨_, .inr rfl, h⟩
  have hA2 := hAt.drew
  obtain ⟨hB, v, hbk, hown, hne⟩ := hAt
  obtain ⟨n, hll⟩ : ∃ n, l.length = n := ⟨_, rfl⟩
  rw [hll] at h0
  have hne0 : l ≠ [] := fun e => by rw [e] at hll; simp at hll; omega
  rw [Lib.byteCells_length, hll] at hown
  rcases hown.2 with ⟨_, hz⟩ | ⟨g, cap, cur, fz, hv, hbg, hg, hfz, hnc, hcm, hcs, htake⟩
  · omega
  subst hv
  have hk1 : w.drew.heap[b]? = some (.cells #[p, .slice (some ⟨g, 0, none⟩) n cap] 173 (0, 0)) := hbk
  have hg1 : w.drew.heap[g]? = some (.cells cur 5 fz) := hg
  have c1 : w.drew.cell? ⟨b, 1, none⟩ = some (.slice (some ⟨g, 0, none⟩) n cap) := by rw [Lib.cell_of_heap hk1]; rfl
  have hSD : (Builtin.unsafeSliceData_ #[171] 240 #[.slice (some ⟨g, 0, none⟩) n cap]).run Tryz.prog w.drew = .ok (.pointer (some ⟨g, 0, none⟩)) w.drew := Lib.run_unsafeSliceData_row _ _ _ _ _ _ (by omega)
  have hUS : (Builtin.unsafeString_ #[240, 3] 9 #[.pointer (some ⟨g, 0, none⟩), .int .i64 n]).run Tryz.prog w.drew = .ok (.string (bt l)) (w.drew.freeze ⟨g, 0, none⟩ n) := by
    have := Lib.run_unsafeString_row w.drew 240 3 9 5 Tryz.underlying240 cells5 g cur.size (by simp [World.shape?, hg1]) l hne0 (by omega) (by unfold maxLen at hcm; omega) (fun j x hx => hown.cells (g := g) rfl j (.int .u8 x.toNat) (by simp [Lib.byteCells, hx]))
    rwa [hll] at this
  have hF := hA2.froze (g := g) (cap := cap) (by rw [Lib.byteCells_length, hll]; exact c1)
  rw [Lib.byteCells_length, hll] at hF
  have HZ : Hid (Bb (w.drew.freeze ⟨g, 0, none⟩ n) b l) := by
    rcases hp with rfl | rfl
    · exact .inl hF
    · exact .inr hF
  have HB := hid (Lib.below_freeze (Below.drew (Below.refl b w)) (p := ⟨g, 0, none⟩) hbg n)
  clear hF hA2 hown htake hk1 hg1 hll hne0 hbk hg
  go_enter Tryz.func118, Tryz.ntmps118
  go_wp2
  go_region
  all_goals (go_wp2; go_ret; exact ⟨rfl, HZ.out, HB.out⟩)


theorem row_cap {w : World} {B : Nat} {e : TypeId} {size n m c : Nat} {a : Option Addr} {xs : List Value} (h : w.ownsRow B e size (.slice a n c) m xs) : m ≤ c ∧ c ≤ maxLen := by
  obtain ⟨a', c', e1, h1, h2, _⟩ := own_cells h
  injection e1 with _ _ e2
  subst e2
  exact ⟨h1, h2⟩
theorem catB_take {lst : List ByteArray} {k : Nat} {s : ByteArray} (h : lst[k]? = some s) : catB (lst.take (k + 1)) = catB (lst.take k) ++ s.data.toList := by
  rw [take_snoc h, catB_append]
  simp [catB]
theorem catB_len {lst : List ByteArray} (h : ∀ s ∈ lst, s.size = 256) : (catB lst).length = 256 * lst.length := by
  induction lst with
  | nil => rfl
  | cons a r ih =>
    have h1 : a.data.toList.length = 256 := h a (by simp)
    show (a.data.toList ++ catB r).length = _
    rw [List.length_append, h1, ih (fun s hs => h s (by simp [hs])), List.length_cons]
    omega

set_option maxHeartbeats 4000000 in
theorem join_any (w : World) (B : Nat) (v : Value) (lst : List ByteArray) (hv : RowS w B v lst) (hl : lst.length ≤ 100) (hs : ∀ s ∈ lst, s.size = 256) :
    Calls Tryz.prog 232 #[v, .string ⟨#[]⟩] w fun e w' => e = .returned (.string (bt (catB lst))) ∧ Below w.heap.size w w' := by
  obtain ⟨a, c, e1⟩ := hv.form
  subst e1
  have HV := hid hv
  have HS := hid hs
  obtain ⟨n, hn⟩ : ∃ n, lst.length = n := ⟨_, rfl⟩
  have HN := hid hn
  rw [hn] at hl ⊢
  clear hv hs hn
  by_cases h0 : n = 0
  · subst h0
    have hnil : lst = [] := List.eq_nil_of_length_eq_zero HN.out
    subst hnil
    go_enter Tryz.func232, Tryz.ntmps232
    go_wp2_with fail
    go_ret
    exact ⟨rfl, Below.refl _ _⟩
  obtain ⟨g, x1, hgB, hgl⟩ := row_some HV.out (by rw [HN.out]; omega)
  subst x1
  obtain ⟨s0, hs0⟩ : ∃ s, lst[0]? = some s := ⟨_, List.getElem?_eq_getElem (by rw [HN.out]; omega)⟩
  have c0 : w.cell? ⟨g, 0, none⟩ = some (.string s0) := (HV.out.at hs0).1
  have hz0 : s0.size = 256 := HS.out s0 (List.mem_of_getElem? hs0)
  by_cases h1 : n = 1
  · subst h1
    have HE : Hid (bt (catB lst) = s0) := by
      show _ = _
      have h2 := catB_take hs0
      rw [List.take_of_length_le (by rw [HN.out]; omega)] at h2
      rw [h2]
      exact bt_self s0
    clear hs0 HV
    go_enter Tryz.func232, Tryz.ntmps232
    go_wp2_with fail
    go_ret
    exact ⟨by rw [HE.out]; rfl, Below.refl _ _⟩
  have hn0 : ¬ (n : Int) = 0 := by omega
  have hn1 : ¬ (n : Int) = 1 := by omega
  have HS0 := hid hs0
  have hb0 : Below w.heap.size w (w.alloc (.cells #[.pointer none, .slice none 0 0] 173)) := (Below.refl _ w).alloc (Nat.le_refl _) _
  have hG : Calls Tryz.prog 115 #[.pointer (some ⟨w.heap.size, 0, none⟩), .int .i64 ((256 * n : Nat) : Int)] (w.alloc (.cells #[.pointer none, .slice none 0 0] 173)) fun e w' => e = .returned (.tuple #[]) ∧ (Lib.BuilderAt 173 5 w.heap.size w.heap.size (.pointer (some ⟨w.heap.size, 0, none⟩)) [] w' ∧ Below w.heap.size (w.alloc (.cells #[.pointer none, .slice none 0 0] 173)) w') := Grow_zb w.heap.size (256 * n) _ (heap_alloc_new w _) (by omega) (by omega)
  have hW1 : ∀ w1, Bb w1 w.heap.size [] → _ := fun w1 h => write_bb w.heap.size [] s0 w1 h (by rw [hz0]; decide)
  have hcnd : n ≤ c := by have := (row_cap HV.out).1; rw [HN.out] at this; exact this
  have hW2 : ∀ (l : List UInt8) w1, Bb w1 w.heap.size l → l.length ≤ 90000 → _ := fun l w1 h hl => write_bb w.heap.size l ⟨#[]⟩ w1 h (by show l.length + 0 ≤ _; omega)
  clear hs0
  go_enter Tryz.func232, Tryz.ntmps232
  go_wp2_with fail
  go_loop [5, 41] (fun x i => ∃ k : Nat, k ≤ n ∧ i = .int .i64 (k : Nat) ∧ x = .int .i64 ((256 * k : Nat) : Int)) (fun _ i => n - (intOf i).toNat)
  case atStart => exact ⟨0, Nat.zero_le _, rfl, rfl⟩
  case round =>
    obtain ⟨k, hk, rfl, rfl⟩ := hrel
    by_cases hlt : k < n
    · have hki : (k : Int) < (n : Int) := by omega
      obtain ⟨s, hsk⟩ : ∃ s, lst[k]? = some s := ⟨_, List.getElem?_eq_getElem (by rw [HN.out]; exact hlt)⟩
      have ck := (HV.out.at hsk).1
      have hzk : s.size = 256 := HS.out s (List.mem_of_getElem? hsk)
      clear hsk
      go_wp2_with fail
      go_round
      case rel => exact ⟨k + 1, by omega, by go_num, by go_num⟩
      case measure => simp [intOf]; omega
    · obtain rfl : k = n := by omega
      go_wp2_with (first
        | (go_at_call 115; go_loud (refine hG.mono ?_; clear hG; rintro e w1 ⟨rfl, h1, b1⟩; have HB1 := hid (hb0.trans b1); have HZ1 := hid (bb_zero h1); have d0 : w1.cell? ⟨g, 0, none⟩ = some (.string s0) := (HB1.out.cell (p := ⟨g, 0, none⟩) hgl).trans c0; clear h1 b1 hb0))
        | (go_at_call 116; refine (hW1 _ HZ1.out).mono ?_; clear hW1; rintro e w2 ⟨⟨k2, rfl⟩, h2, b2⟩; have HB2 := hid (HB1.out.trans b2); have HZ2 := hid h2; clear h2 b2 HZ1 HB1 d0))
      go_loopw [65] (fun i wr => ∃ j : Nat, j + 1 ≤ k ∧ i = .int .i64 (j : Nat) ∧ Hid (Bb wr w.heap.size (catB (lst.take (j + 1)))) ∧ Hid (Below w.heap.size w wr)) (fun i _ => k - 1 - (intOf i).toNat)
      case atStart => exact ⟨0, by omega, rfl, (by rw [catB_take HS0.out]; exact HZ2), HB2⟩
      case round =>
        obtain ⟨j, hj, rfl, HZ, HB⟩ := hrel
        clear HZ2 HB2
        by_cases hjl : j + 1 < k
        · obtain ⟨s, hsk⟩ : ∃ s, lst[j + 1]? = some s := ⟨_, List.getElem?_eq_getElem (by rw [HN.out]; exact hjl)⟩
          have ck : wr.cell? ⟨g, 1 + j, none⟩ = some (.string s) := by rw [Nat.add_comm 1 j]; exact (HB.out.cell (p := ⟨g, j + 1, none⟩) hgl).trans (HV.out.at hsk).1
          have hzk : s.size = 256 := HS.out s (List.mem_of_getElem? hsk)
          have HC : Hid (catB (lst.take (j + 1 + 1)) = catB (lst.take (j + 1)) ++ s.data.toList) := catB_take hsk
          have hlen : (catB (lst.take (j + 1))).length ≤ 30000 := by
            rw [catB_len (fun s hs => HS.out s (List.mem_of_mem_take hs)), List.length_take]
            omega
          obtain ⟨l, hll⟩ : ∃ l, catB (lst.take (j + 1)) = l := ⟨_, rfl⟩
          rw [hll] at HZ HC hlen
          have hw2 := hW2 l wr HZ.out (by omega)
          have hw3 : ∀ w1, Bb w1 w.heap.size (l ++ (⟨#[]⟩ : ByteArray).data.toList) → _ := fun w1 h => write_bb w.heap.size _ s w1 h (by rw [hzk, List.length_append]; show _ + 0 + _ ≤ _; omega)
          have HD : Hid (l ++ (⟨#[]⟩ : ByteArray).data.toList ++ s.data.toList = l ++ s.data.toList) := by show _ = _; rw [show (⟨#[]⟩ : ByteArray).data.toList = [] from rfl, List.append_nil]
          clear hsk hll hlen hW2 HZ
          go_wp2_with (first
            | (go_at_call 116; refine hw2.mono ?_; clear hw2; rintro e w3 ⟨⟨k3, rfl⟩, h3, b3⟩; have HB3 := hid (HB.out.trans b3); have HZ3 := hid h3; clear h3 b3 HB)
            | (go_at_call 116; refine (hw3 _ HZ3.out).mono ?_; clear hw3; rintro e w4 ⟨⟨k4, rfl⟩, h4, b4⟩; have HB4 := hid (HB3.out.trans b4); have HZ4 := hid h4; clear h4 b4 HB3 HZ3))
          go_roundw
          case rel => exact ⟨j + 1, by omega, by go_num, (by rw [HC.out, ← HD.out]; exact HZ4), HB4⟩
          case measure => simp [intOf]; omega
        · obtain rfl : k = j + 1 := by omega
          have HT : Hid (lst.take (j + 1) = lst) := List.take_of_length_le (by rw [HN.out]; omega)
          rw [HT.out] at HZ
          have hS := string_bb _ _ _ HZ.out (by rw [catB_len HS.out, HN.out]; omega)
          obtain ⟨r, hr⟩ : ∃ r, bt (catB lst) = r := ⟨_, rfl⟩
          have HR := hid hr
          rw [hr] at hS
          clear hr
          clear HZ
          go_wp2_with (go_at_call 118; refine hS.mono ?_; rintro e w3 ⟨rfl, h3, b3⟩)
          go_ret
          exact ⟨by rw [HR.out]; rfl, HB.out.trans b3⟩

end Go.Proofs.YtjcbaiohpdihoaaGreatDoor

namespace Go.Proofs.YtjcbaiohpdihoaaGreatDoor
open Go.RowKit
set_option linter.unusedVariables false
set_option linter.unusedSimpArgs false
set_option maxRecDepth 100000

theorem listBlocks_any (m : Nat) (h : m ≤ 100000) (w : World) : Calls Tryz.prog 178 #[.int .i64 (m : Nat)] w fun e w' => e = .returned (.int .i64 (lb m : Nat)) ∧ w = w' := by
  have HL : Hid ((((lb m : Nat) : Int)) = ((m : Int) + 128 - 1) / 128) := by show _ = _; unfold lb; omega
  go_enter Tryz.func178, Tryz.ntmps178
  go_wp2
  go_ret
  exact ⟨by rw [HL.out]; rfl, rfl⟩
theorem copiesAt_any (m : Nat) (h : m ≤ 100000) (w : World) : Calls Tryz.prog 179 #[.int .i64 (m : Nat)] w fun e w' => e = .returned (.int .i64 (2 + lb m : Nat)) ∧ w = w' := by
  have hl := listBlocks_any m h w
  have hb : lb m ≤ 100000 := by unfold lb; omega
  generalize lb m = x at hl hb
  go_enter Tryz.func179, Tryz.ntmps179
  go_wp2_with (go_at_call 178; refine hl.mono ?_; rintro e w1 ⟨rfl, rfl⟩)
  go_ret
  exact ⟨rfl, rfl⟩
theorem firstPage_any (m : Nat) (h : m ≤ 100000) (w : World) : Calls Tryz.prog 203 #[.int .i64 (m : Nat)] w fun e w' => e = .returned (.int .i64 (2 + lb m + m : Nat)) ∧ w = w' := by
  have hl := copiesAt_any m h w
  have hb : 2 + lb m ≤ 100002 := by unfold lb; omega
  generalize 2 + lb m = x at hl hb
  go_enter Tryz.func203, Tryz.ntmps203
  go_wp2_with (go_at_call 179; refine hl.mono ?_; rintro e w1 ⟨rfl, rfl⟩)
  go_ret
  exact ⟨rfl, rfl⟩

theorem pages_no (n : Int) (h : n < 64 ∨ 2048 < n) (w : World) : Calls Tryz.prog 175 #[.int .i64 n] w fun e w' => e = .returned (.int .i64 0) ∧ w = w' := by
  rcases h with h | h
  · have hd : decide (n < 64) = true := decide_eq_true h
    go_enter Tryz.func175, Tryz.ntmps175
    go_wp2
    go_ret
    exact ⟨rfl, rfl⟩
  · have hd : decide (n < 64) = false := decide_eq_false (by omega)
    go_enter Tryz.func175, Tryz.ntmps175
    go_wp2
    go_ret
    exact ⟨rfl, rfl⟩
theorem pages_any (n : Nat) (h1 : 64 ≤ n) (h2 : n ≤ 2048) (w : World) : Calls Tryz.prog 175 #[.int .i64 (n : Nat)] w fun e w' => e = .returned (.int .i64 (pgs n : Nat)) ∧ w = w' := by
  have hd : decide ((n : Int) < 64) = false := decide_eq_false (by omega)
  have f1 := pgs_fit h1
  have f3 := pgs_hi h2
  have f2 : ∀ m, pgs n < m → n < 2 * m + 1 + lb m := fun m hm => by
    have := pgs_more h1
    have := @lb_mono (pgs n + 1) m hm
    omega
  have hl : ∀ m : Nat, m ≤ 2048 → _ := fun m hm => listBlocks_any m (by omega) w
  have hlb : ∀ m : Nat, m ≤ 2048 → lb m ≤ 20 := fun m hm => by unfold lb; omega
  generalize pgs n = q at *
  go_enter Tryz.func175, Tryz.ntmps175
  go_wp2
  go_loop [3] (fun x => ∃ m : Nat, q ≤ m ∧ m ≤ 2048 ∧ x = .int .i64 (m : Nat)) (fun x => (intOf x).toNat)
  case atStart => exact ⟨n / 2, by omega, by omega, by go_num⟩
  case round =>
    obtain ⟨m, hm1, hm2, rfl⟩ := hrel
    have hlm := hl m hm2
    have hbm := hlb m hm2
    by_cases hlt : q < m
    · have hf := f2 m hlt
      generalize lb m = x at hlm hbm hf
      go_wp2_with (go_at_call 178; refine hlm.mono ?_; rintro e w1 ⟨rfl, rfl⟩)
      go_round
      case rel => exact ⟨m - 1, by omega, by omega, by go_num⟩
      case measure => simp [intOf]; omega
    · obtain rfl : m = q := by omega
      generalize lb m = x at hlm hbm f1
      go_wp2_with (go_at_call 178; refine hlm.mono ?_; rintro e w1 ⟨rfl, rfl⟩)
      go_ret
      exact ⟨rfl, rfl⟩
theorem first_no (n : Int) (h : n < 64 ∨ 2048 < n) (w : World) : Calls Tryz.prog 137 #[.int .i64 n] w fun e w' => e = .returned (.int .i64 0) ∧ w = w' := by
  have hp := pages_no n h w
  go_enter Tryz.func137, Tryz.ntmps137
  go_wp2_with (go_at_call 175; refine hp.mono ?_; rintro e w1 ⟨rfl, rfl⟩)
  go_ret
  exact ⟨rfl, rfl⟩
theorem first_any (n : Nat) (h1 : 64 ≤ n) (h2 : n ≤ 2048) (w : World) : Calls Tryz.prog 137 #[.int .i64 (n : Nat)] w fun e w' => e = .returned (.int .i64 (frs n : Nat)) ∧ w = w' := by
  have hp := pages_any n h1 h2 w
  have hf := firstPage_any (pgs n) (by have := pgs_hi h2; omega) w
  rw [show 2 + lb (pgs n) + pgs n = frs n from rfl] at hf
  have h0 : ¬ ((pgs n : Nat) : Int) = 0 := by have := pgs_lo h1; omega
  generalize pgs n = q at hp hf h0
  generalize frs n = r at hf
  go_enter Tryz.func137, Tryz.ntmps137
  go_wp2_with (first | (go_at_call 175; refine hp.mono ?_; rintro e w1 ⟨rfl, rfl⟩) | (go_at_call 203; refine hf.mono ?_; rintro e w1 ⟨rfl, rfl⟩))
  go_ret
  exact ⟨rfl, rfl⟩
theorem isPage_any (n : Nat) (h1 : 64 ≤ n) (h2 : n ≤ 2048) (a : Int) (w : World) : Calls Tryz.prog 229 #[.int .i64 (pgs n : Nat), .int .i64 a] w fun e w' => e = .returned (.bool (decide (isPg n a))) ∧ w = w' := by
  have hf : ∀ w, _ := fun w => firstPage_any (pgs n) (by have := pgs_hi h2; omega) w
  rw [show 2 + lb (pgs n) + pgs n = frs n from rfl] at hf
  have b1 := pgs_lo h1
  have b2 := pgs_hi h2
  have b3 : frs n ≤ 100000 := by have := frs_end h1; omega
  obtain ⟨b, hb⟩ : ∃ b, b = decide (isPg n a) := ⟨_, rfl⟩
  rw [← hb]
  have hB : b = true ↔ (a = 0 ∨ ((frs n : Nat) : Int) ≤ a ∧ a < ((frs n + pgs n - 1 : Nat) : Int)) := by rw [hb, decide_eq_true_iff]; exact Iff.rfl
  clear hb
  generalize pgs n = q at *
  generalize frs n = r at *
  by_cases c0 : a = 0
  · have hd : b = true := hB.2 (.inl c0)
    have e0 : (a == 0) = true := by simp [c0]
    subst hd
    clear hB c0
    go_enter Tryz.func229, Tryz.ntmps229
    go_wp2
    go_ret
    exact ⟨rfl, rfl⟩
  · have e0 : (a == 0) = false := by simp [c0]
    by_cases c1 : (r : Int) ≤ a
    · have e1 : decide ((r : Int) ≤ a) = true := decide_eq_true c1
      by_cases c2 : a < ((r + q - 1 : Nat) : Int)
      · have hd : b = true := hB.2 (.inr ⟨c1, c2⟩)
        have e2 : decide (a < (r : Int) + (q : Int) - 1) = true := decide_eq_true (by omega)
        subst hd
        clear hB c0
        go_enter Tryz.func229, Tryz.ntmps229
        go_wp2_with (go_at_call 203; refine (hf _).mono ?_; rintro e w1 ⟨rfl, rfl⟩)
        go_ret
        exact ⟨rfl, rfl⟩
      · have hd : b = false := by cases b with | false => rfl | true => have := hB.1 rfl; omega
        have e2 : decide (a < (r : Int) + (q : Int) - 1) = false := decide_eq_false (by omega)
        subst hd
        clear hB c0
        go_enter Tryz.func229, Tryz.ntmps229
        go_wp2_with (go_at_call 203; refine (hf _).mono ?_; rintro e w1 ⟨rfl, rfl⟩)
        go_ret
        exact ⟨rfl, rfl⟩
    · have e1 : decide ((r : Int) ≤ a) = false := decide_eq_false c1
      have hd : b = false := by cases b with | false => rfl | true => have := hB.1 rfl; omega
      subst hd
      clear hB c0
      go_enter Tryz.func229, Tryz.ntmps229
      go_wp2_with (go_at_call 203; refine (hf _).mono ?_; rintro e w1 ⟨rfl, rfl⟩)
      go_ret
      exact ⟨rfl, rfl⟩

/-- pages as they lie in memory, outside S -/
def LiesO (w : World) (S : Nat → Prop) (v : Value) (L : List Pg) : Prop :=
  ∃ (a : Option Addr) (cap : Nat), v = .slice a L.length cap ∧ L.length ≤ cap ∧ cap ≤ maxLen ∧ ∀ k p, L[k]? = some p → ∃ b off, a = some ⟨b, off, none⟩ ∧ b < w.heap.size ∧ ¬ S b ∧ w.cell? ⟨b, off + k * 2, none⟩ = some (.int .i64 p.pl) ∧ w.cell? ⟨b, off + k * 2 + 1, none⟩ = some (.string p.data) ∧ (-9223372036854775808 ≤ p.pl ∧ p.pl ≤ 9223372036854775807) ∧ p.data.size ≤ maxLen
theorem LiesO.keep {w w' : World} {S S' : Nat → Prop} {v : Value} {L : List Pg} (h : LiesO w S v L) (hk : Keep S w w') (hg : Grows S S' w) : LiesO w' S' v L := by
  obtain ⟨a, cap, h1, h2, h3, h4⟩ := h
  refine ⟨a, cap, h1, h2, h3, fun k p hp => ?_⟩
  obtain ⟨b, off, ha, hb, hs, c1, c2, r⟩ := h4 k p hp
  have e := hk.block b hb hs
  exact ⟨b, off, ha, Nat.lt_of_lt_of_le hb hk.size, fun h' => (hg b h').elim hs (fun h' => by omega), (World.cell?_of_block (a := ⟨b, off + k * 2, none⟩) e).trans c1, (World.cell?_of_block (a := ⟨b, off + k * 2 + 1, none⟩) e).trans c2, r⟩
theorem LiesO.on {w w' : World} {S : Nat → Prop} {v : Value} {L : List Pg} (h : LiesO w S v L) (hb : Below w.heap.size w w') : LiesO w' S v L := by
  obtain ⟨a, cap, h1, h2, h3, h4⟩ := h
  refine ⟨a, cap, h1, h2, h3, fun k p hp => ?_⟩
  obtain ⟨b, off, ha, hlt, hs, c1, c2, r⟩ := h4 k p hp
  exact ⟨b, off, ha, Nat.lt_of_lt_of_le hlt hb.size, hs, (hb.cell (p := ⟨b, off + k * 2, none⟩) hlt).trans c1, (hb.cell (p := ⟨b, off + k * 2 + 1, none⟩) hlt).trans c2, r⟩
theorem LiesO.out {w : World} {S S' : Nat → Prop} {v : Value} {L : List Pg} (h : LiesO w S v L) (hs : ∀ j, j < w.heap.size → S' j → S j) : LiesO w S' v L := by
  obtain ⟨a, cap, h1, h2, h3, h4⟩ := h
  refine ⟨a, cap, h1, h2, h3, fun k p hp => ?_⟩
  obtain ⟨b, off, ha, hlt, hn, r⟩ := h4 k p hp
  exact ⟨b, off, ha, hlt, fun h' => hn (hs b hlt h'), r⟩
theorem LiesO.form {w : World} {S : Nat → Prop} {v : Value} {L : List Pg} (h : LiesO w S v L) : ∃ a c, v = .slice a L.length c := by obtain ⟨a, c, h, _⟩ := h; exact ⟨a, c, h⟩
theorem LiesO.at {w : World} {S : Nat → Prop} {a : Option Addr} {n c : Nat} {L : List Pg} (h : LiesO w S (.slice a n c) L) {k : Nat} {p : Pg} (hk : L[k]? = some p) : ∃ b off, a = some ⟨b, off, none⟩ ∧ b < w.heap.size ∧ ¬ S b ∧ w.cell? ⟨b, off + k * 2, none⟩ = some (.int .i64 p.pl) ∧ w.cell? ⟨b, off + k * 2 + 1, none⟩ = some (.string p.data) ∧ (-9223372036854775808 ≤ p.pl ∧ p.pl ≤ 9223372036854775807) ∧ p.data.size ≤ maxLen := by
  obtain ⟨a', c', h1, _, _, h4⟩ := h
  injection h1 with e1 _ _
  subst e1
  exact h4 k p hk
theorem LiesO.fit {w : World} {S : Nat → Prop} {v : Value} {L : List Pg} (h : LiesO w S v L) : ∀ p ∈ L, (-9223372036854775808 ≤ p.pl ∧ p.pl ≤ 9223372036854775807) ∧ p.data.size ≤ maxLen := by
  obtain ⟨a, c, h1, h2, h3, h4⟩ := h
  intro p hp
  obtain ⟨k, hk⟩ := List.mem_iff_getElem?.1 hp
  obtain ⟨_, _, _, _, _, _, _, h5, h6⟩ := h4 k p hk
  exact ⟨h5, h6⟩
theorem LiesO.len {w : World} {S : Nat → Prop} {v : Value} {L : List Pg} (h : LiesO w S v L) : L.length ≤ maxLen := by
  obtain ⟨a, c, h1, h2, h3, h4⟩ := h
  omega
theorem RowP.lies {w : World} {B : Nat} {S : Nat → Prop} {v : Value} {L : List Pg} (h : RowP w B v L) (hS : ∀ g, v.ownBlock = some g → ¬ S g) (hf : ∀ p ∈ L, (-9223372036854775808 ≤ p.pl ∧ p.pl ≤ 9223372036854775807) ∧ p.data.size ≤ maxLen) : LiesO w S v L := by
  obtain ⟨a, cap, e1, h1, h2, hcc⟩ := own_cells h
  refine ⟨a, cap, e1, h1, h2, fun k p hp => ?_⟩
  obtain ⟨g, hg, _, hlt, c0, _⟩ := hcc (k * 2) (.int .i64 p.pl) (by rw [flatP_even, hp]; rfl)
  obtain ⟨g', hg', _, _, c1, _⟩ := hcc (k * 2 + 1) (.string p.data) (by rw [flatP_odd, hp]; rfl)
  subst hg
  cases hg'
  obtain ⟨f1, f2⟩ := hf p (List.mem_of_getElem? hp)
  refine ⟨g, 0, rfl, hlt, hS g (by rw [e1]; rfl), ?_, ?_, f1, f2⟩
  · rw [Nat.zero_add]; exact c0
  · rw [Nat.zero_add]; exact c1

theorem info4 : (Tryz.prog.info? 4).map (fun i => (i.zero, i.size, i.bytes)) = some (some (.bool false), 1, 1) := by kernel_rfl
/-- which numbers stood ahead -/
def marks (n : Nat) (seen : List Int) : List Value := (List.range n).map fun (j : Nat) => .bool (decide (((j : Nat) : Int) ∈ seen))
theorem marks_nil (n : Nat) : (madeCells (Value.bool false).cells (n * 1)).toList = marks n [] := by
  simp [marks, Value.cells, toList_madeCells_one]
  rw [List.map_const']
  simp
theorem marks_at {n : Nat} {seen : List Int} {q : Nat} (h : q < n) : (marks n seen)[q]? = some (.bool (decide ((q : Int) ∈ seen))) := by
  simp [marks, h]
theorem marks_set {n : Nat} {seen : List Int} {q : Nat} (h : q < n) : (marks n seen).set q (.bool true) = marks n (seen ++ [(q : Int)]) := by
  apply List.ext_getElem?
  intro i
  rw [List.getElem?_set]
  by_cases hi : i < n
  · rw [marks_at hi, marks_at hi]
    by_cases e : q = i
    · subst e
      rw [if_pos rfl, if_pos (by simp [marks]; exact h)]
      simp
    · rw [if_neg e]
      have : ((i : Int) ∈ seen ++ [(q : Int)]) ↔ (i : Int) ∈ seen := by simp; omega
      simp only [this]
  · have l1 : (marks n seen)[i]? = none := List.getElem?_eq_none (by simp [marks]; omega)
    have l2 : (marks n (seen ++ [(q : Int)]))[i]? = none := List.getElem?_eq_none (by simp [marks]; omega)
    rw [l1, l2]
    split
    · rename_i e; subst e; exact absurd h hi
    · rfl

set_option maxHeartbeats 4000000 in
theorem check_any (n : Nat) (h1 : 64 ≤ n) (h2 : n ≤ 2048) (w : World) (S : Nat → Prop) (v : Value) (L : List Pg) (hl : LiesO w S v L) :
    Calls Tryz.prog 181 #[.int .i64 (n : Nat), v] w fun e w' => e = .returned (.int .i64 (ck n L : Nat)) ∧ Below w.heap.size w w' := by
  obtain ⟨i0, hi, hz0, hz1, hz2⟩ := info_parts info4
  obtain ⟨a, c, e1⟩ := hl.form
  subst e1
  have HL := hid hl
  have hlen := hl.len
  unfold maxLen at hlen
  have hpg := pages_any n h1 h2 w
  have hq := pgs_hi h2
  have hip : ∀ (x : Int) w1, _ := fun x w1 => isPage_any n h1 h2 x w1
  have HIP : Hid (∀ a, isPg n a → 0 ≤ a ∧ a < n) := fun a h => isPg_lt h1 h
  obtain ⟨N, hN⟩ : ∃ N, L.length = N := ⟨_, rfl⟩
  have HN := hid hN
  obtain ⟨e, he⟩ : ∃ e, ck n L = e := ⟨_, rfl⟩
  rw [he]
  have HE := hid he
  rw [hN] at hlen ⊢
  clear hl hN he
  obtain ⟨q, hqq⟩ : ∃ q, pgs n = q := ⟨_, rfl⟩
  rw [hqq] at hpg hip hq
  have HQ := hid hqq
  clear hqq
  by_cases hm : q < N
  · have hmi : (q : Int) < (N : Int) := by omega
    obtain rfl : 10 = e := by rw [← HE.out]; unfold ck; rw [HQ.out, HN.out, if_pos hm]
    go_enter Tryz.func181, Tryz.ntmps181
    go_wp2_with (go_at_call 175; refine hpg.mono ?_; rintro e w1 ⟨rfl, rfl⟩)
    go_ret
    exact ⟨rfl, Below.refl _ _⟩
  have hmi : ¬ (q : Int) < (N : Int) := by omega
  have HC0 : Hid (e = ckL n ((L.take 0).map Pg.pl) (L.drop 0)) := by
    show _ = _
    rw [← HE.out]
    unfold ck
    rw [HQ.out, HN.out, if_neg hm]
    rfl
  clear HE
  go_enter Tryz.func181, Tryz.ntmps181
  go_wp2_with (first
    | (go_at_call 175; refine hpg.mono ?_; clear hpg; rintro e w1 ⟨rfl, rfl⟩)
    | (at_make; refine wpList_make_full _ rfl (.tmp 15) (.tmp 15) 289 rfl w.heap.size 4 i0 (.bool false) 1 Tryz.underlying289 hi hz0 hz1 .i64 .i64 _ _ n rfl rfl rfl rfl (by rw [hz2]; omega) (by unfold maxLen; omega) (Nat.le_refl _) ?_; intro w1 hown hgrow; have HB1 := hid ((Below.refl _ w).grown hgrow (Nat.le_refl _) (fun k hk => by cases hk)); rw [marks_nil] at hown; have HO1 := hid hown; clear hown hgrow))
  go_loopw [19] (fun i wr => ∃ k : Nat, k ≤ N ∧ i = .int .i64 (k : Nat) ∧ Hid (wr.ownsRow w.heap.size 4 1 (.slice (some ⟨w.heap.size, 0, none⟩) n n) n (marks n ((L.take k).map Pg.pl))) ∧ Hid (Below w.heap.size w wr) ∧ Hid (e = ckL n ((L.take k).map Pg.pl) (L.drop k))) (fun i _ => N - (intOf i).toNat)
  case atStart => exact ⟨0, Nat.zero_le _, rfl, HO1, HB1, HC0⟩
  case round =>
    obtain ⟨k, hk, rfl, HO, HB, HC⟩ := hrel
    clear HO1 HB1 HC0
    by_cases hlt : k < N
    · have hki : (k : Int) < (N : Int) := by omega
      obtain ⟨p, hp⟩ : ∃ p, L[k]? = some p := ⟨_, List.getElem?_eq_getElem (by rw [HN.out]; exact hlt)⟩
      obtain ⟨b, off, hab, hblt, _, cp0, cp1, hpl, hpd⟩ := (HL.out.on HB.out).at hp
      subst hab
      have HC2 : Hid _ := HC.out.trans (ckL_at hp)
      have HSN := hid (take_snoc hp)
      have hmk : ∀ q, (q : Nat) < n → wr.cell? ⟨w.heap.size, q, none⟩ = some (.bool (decide ((q : Int) ∈ (L.take k).map Pg.pl))) := fun q hq => by rw [HO.out.cellAt q (by omega), marks_at hq]
      have hip1 := hip p.pl
      obtain ⟨pl, data⟩ := p
      simp only at cp0 cp1 hpl hpd hip1 HC2
      unfold maxLen at hpd
      have HBX := hid (HB.out.alloc HB.out.size (.cells #[.int .i64 pl, .string data] 110))
      by_cases g1 : isPg n pl
      · rw [decide_eq_true g1] at hip1
        have HC3 : Hid _ := HC2.out.trans (if_neg (fun h => h g1))
        have g1' := HIP.out pl g1
        obtain ⟨q', rfl⟩ : ∃ q' : Nat, pl = (q' : Int) := ⟨pl.toNat, by omega⟩
        have hqn : q' < n := by omega
        by_cases g2 : data.size = 256
        · have HC4 : Hid _ := HC3.out.trans (if_neg (fun h => h g2))
          have g2i : ((data.size : Int) != 256) = false := by simp; omega
          by_cases g3 : (q' : Int) ∈ (L.take k).map Pg.pl
          · obtain rfl : e = 9 := HC4.out.trans (if_pos g3)
            have cm : (wr.alloc (.cells #[.int .i64 (q' : Int), .string data] 110)).cell? ⟨w.heap.size, q', none⟩ = some (.bool true) := by
              have := hmk q' hqn
              rw [decide_eq_true g3] at this
              exact ((Below.refl _ wr).alloc (Nat.le_refl _) _ |>.cell (p := ⟨w.heap.size, q', none⟩) ((HO.out.lt w.heap.size rfl).2)).trans this
            clear hmk HC HC2 HC3 HC4 hp HSN g1 g3 HL HO hip HIP
            go_wp2_with (go_at_call 229; refine (hip1 _).mono ?_; clear hip1; rintro e w1 ⟨rfl, rfl⟩)
            go_ret
            exact ⟨rfl, HBX.out⟩
          · have HC5 : Hid (e = ckL n ((L.take (k + 1)).map Pg.pl) (L.drop (k + 1))) := HC4.out.trans (if_neg g3)
            have hO1 := HO.out.alloc (.cells #[.int .i64 (q' : Int), .string data] 110)
            have cm : (wr.alloc (.cells #[.int .i64 (q' : Int), .string data] 110)).cell? ⟨w.heap.size, q', none⟩ = some (.bool false) := by
              rw [hO1.cellAt q' (by omega), marks_at hqn, decide_eq_false g3]
            have fm : (wr.alloc (.cells #[.int .i64 (q' : Int), .string data] 110)).frozen? ⟨w.heap.size, q', none⟩ = false := hO1.frozenAt q'
            have HO4 : Hid (((wr.alloc (.cells #[.int .i64 (q' : Int), .string data] 110)).setCell ⟨w.heap.size, q', none⟩ (.bool true)).ownsRow w.heap.size 4 1 (.slice (some ⟨w.heap.size, 0, none⟩) n n) n (marks n ((L.take (k + 1)).map Pg.pl))) := by
              have h := own_set hO1 q' (.bool true)
              rw [marks_set hqn] at h
              rw [HSN.out, List.map_append]
              exact h
            have HB4 := hid (HBX.out.setCell (p := ⟨w.heap.size, q', none⟩) (Nat.le_refl _) (.bool true))
            clear hmk HC HC2 HC3 HC4 hp HSN g1 g3 HL HO hip HIP hO1 HBX
            go_wp2_with (go_at_call 229; refine (hip1 _).mono ?_; clear hip1; rintro e w1 ⟨rfl, rfl⟩)
            go_roundw
            case rel => exact ⟨k + 1, by omega, by go_num, HO4, HB4, HC5⟩
            case measure => simp [intOf]; omega
        · obtain rfl : e = 3 := HC3.out.trans (if_pos g2)
          have g2i : ((data.size : Int) != 256) = true := by simp; omega
          clear hmk HC HC2 HC3 hp HSN g1 HL HO hip HIP
          go_wp2_with (go_at_call 229; refine (hip1 _).mono ?_; clear hip1; rintro e w1 ⟨rfl, rfl⟩)
          go_ret
          exact ⟨rfl, HBX.out⟩
      · obtain rfl : e = 1 := HC2.out.trans (if_pos g1)
        rw [decide_eq_false g1] at hip1
        clear hmk HC HC2 hp HSN g1 HL HO hip HIP
        go_wp2_with (go_at_call 229; refine (hip1 _).mono ?_; clear hip1; rintro e w1 ⟨rfl, rfl⟩)
        go_ret
        exact ⟨rfl, HBX.out⟩
    · have hki : ¬ (k : Int) < (N : Int) := by omega
      obtain rfl : k = N := by omega
      have HC9 : Hid (e = 0) := by
        have := HC.out
        rw [List.drop_eq_nil_of_le (by rw [HN.out]; omega)] at this
        exact this
      go_wp2_with fail
      go_ret
      exact ⟨by rw [HC9.out]; rfl, HB.out⟩

end Go.Proofs.YtjcbaiohpdihoaaGreatDoor

namespace Go.Proofs.YtjcbaiohpdihoaaGreatDoor.Nu
open Go.RowKit
set_option linter.unusedVariables false
set_option maxRecDepth 100000
/-- What Set answers: s, in which the bytes from p on are n's. -/
def setOf (s : ByteArray) (p n c : Nat) : ByteArray := s.extract 0 p ++ ⟨(be n c).toArray⟩ ++ s.extract (p + c) s.size
set_option maxHeartbeats 400000 in
theorem set_ok (s : ByteArray) (p n c : Nat) (w : World) (h1 : 1 ≤ c) (h2 : c ≤ 8) (hn : n < 256 ^ c) (hs : s.size ≤ maxLen) (h : p + c ≤ s.size) :
    Calls Tryz.prog 189 #[.string s, .int .i64 p, .int .u64 n, .int .i64 c] w fun e w' => e = .returned (.tuple #[.string (setOf s p n c), .int .i64 0]) ∧ Below w.heap.size w w' := by
  have hs' := hs
  unfold maxLen at hs'
  have hlen := be_length n c
  go_enter Tryz.func189, Tryz.ntmps189
  go_wp2_with (first
    | (go_at_call 188; refine (put_ok n c _ h1 h2 hn).mono ?_; rintro e w1 ⟨rfl, hb⟩)
    | (go_at_call 220; refine (stands_yes s p c _ h2 hs h).mono ?_; rintro e w' ⟨rfl, rfl⟩))
  go_quiet (fail)
  go_wp2
  go_ret2
  exact ⟨rfl, hb.trans ((below_drewN _ _).mono hb.size)⟩
end Go.Proofs.YtjcbaiohpdihoaaGreatDoor.Nu
namespace Go.Proofs.YtjcbaiohpdihoaaGreatDoor
open Go.RowKit
set_option linter.unusedVariables false
set_option linter.unusedSimpArgs false
set_option maxRecDepth 100000

/-! ## bits -/
def byteAt (b : ByteArray) (k : Nat) : Nat := (b.data.toList.getD k 0).toNat
/-- is the i-th bit 1? -/
def hasB (b : ByteArray) (i : Nat) : Bool := (byteAt b (i / 8)).testBit (i % 8)
/-- a byte with a bit set, or not -/
def wb (x k : Nat) (t : Bool) : Nat := x - (if x.testBit k then 2 ^ k else 0) + (if t then 2 ^ k else 0)
def withB (b : ByteArray) (i : Nat) (t : Bool) : ByteArray := Nu.setOf b (i / 8) (wb (byteAt b (i / 8)) (i % 8) t) 1
theorem byteAt_lt (b : ByteArray) (k : Nat) : byteAt b k < 256 := by unfold byteAt; exact UInt8.toNat_lt _
theorem bit_and : ∀ x : Fin 256, ∀ k : Fin 8, (bits BinOp.and IntKind.u8 ((x.val : Int) / 2 ^ k.val) 1 == 1) = x.val.testBit k.val := by decide +kernel
theorem bit_put : ∀ x : Fin 256, ∀ k : Fin 8, bits BinOp.or IntKind.u8 (bits BinOp.andNot IntKind.u8 (x.val : Int) (2 ^ k.val % 256)) (2 ^ k.val % 256) = (wb x.val k.val true : Nat) := by decide +kernel
theorem bit_out : ∀ x : Fin 256, ∀ k : Fin 8, bits BinOp.andNot IntKind.u8 (x.val : Int) (2 ^ k.val % 256) = (wb x.val k.val false : Nat) := by decide +kernel
theorem wb_lt : ∀ x : Fin 256, ∀ k : Fin 8, ∀ t : Bool, wb x.val k.val t < 256 := by decide +kernel
theorem wb_bit : ∀ x : Fin 256, ∀ k j : Fin 8, ∀ t : Bool, (wb x.val k.val t).testBit j.val = if j = k then t else x.val.testBit j.val := by decide +kernel

theorem getB (b : ByteArray) (k : Nat) (h : k < b.size) : (b[k]'h).toNat = byteAt b k := by
  unfold byteAt
  have h1 : k < b.data.toList.length := by simpa using h
  rw [List.getD_eq_getElem?_getD, List.getElem?_eq_getElem h1]
  rfl
theorem setOf_list (b : ByteArray) (p n : Nat) (hp : p < b.size) : (Nu.setOf b p n 1).data.toList = b.data.toList.take p ++ [UInt8.ofNat n] ++ b.data.toList.drop (p + 1) := by
  have e1 : Nu.be n 1 = [UInt8.ofNat n] := rfl
  have hs : b.size = b.data.size := rfl
  unfold Nu.setOf
  rw [e1, ByteArray.data_append, ByteArray.data_append, ByteArray.data_extract, ByteArray.data_extract, Array.toList_append, Array.toList_append, Array.toList_extract, Array.toList_extract, List.extract_eq_take_drop, List.extract_eq_take_drop]
  simp only [List.drop_zero, Nat.sub_zero]
  congr 1
  rw [hs, List.take_of_length_le (by simp)]
theorem setOf_size (b : ByteArray) (p n : Nat) (hp : p < b.size) : (Nu.setOf b p n 1).size = b.size := by
  have h := congrArg List.length (setOf_list b p n hp)
  have e : ∀ s : ByteArray, s.size = s.data.toList.length := fun s => by simp
  rw [e, e, h]
  have := e b
  simp only [List.length_append, List.length_take, List.length_drop, List.length_singleton]
  omega
theorem byteAt_set (b : ByteArray) (p n k : Nat) (hp : p < b.size) (hn : n < 256) : byteAt (Nu.setOf b p n 1) k = if k = p then n else byteAt b k := by
  have e : b.size = b.data.toList.length := by simp
  unfold byteAt
  rw [setOf_list b p n hp, List.getD_eq_getElem?_getD, List.getD_eq_getElem?_getD]
  by_cases h : k = p
  · subst h
    have hl : (b.data.toList.take k).length = k := by rw [List.length_take]; omega
    rw [if_pos rfl, List.getElem?_append_left (by rw [List.length_append, hl]; simp), List.getElem?_append_right (by rw [hl]; exact Nat.le_refl _), hl, Nat.sub_self]
    simp
    omega
  · rw [if_neg h]
    by_cases h2 : k < p
    · rw [List.append_assoc, List.getElem?_append_left (by simp; omega), List.getElem?_take_of_lt h2]
    · rw [List.getElem?_append_right (by simp; omega), List.getElem?_drop]
      congr 3
      simp
      omega
theorem withB_size {b : ByteArray} {i : Nat} (hb : b.size = 256) (hi : i < 2048) (t : Bool) : (withB b i t).size = 256 := by
  unfold withB
  rw [setOf_size _ _ _ (by omega), hb]
theorem hasB_with {b : ByteArray} {i : Nat} (hb : b.size = 256) (hi : i < 2048) (t : Bool) (j : Nat) : hasB (withB b i t) j = if j = i then t else hasB b j := by
  have hx := byteAt_lt b (i / 8)
  have hw := wb_lt ⟨_, hx⟩ ⟨i % 8, by omega⟩ t
  unfold hasB withB
  rw [byteAt_set _ _ _ _ (by omega) hw]
  by_cases h : j / 8 = i / 8
  · rw [if_pos h]
    have := wb_bit ⟨_, hx⟩ ⟨i % 8, by omega⟩ ⟨j % 8, by omega⟩ t
    simp only [Fin.mk.injEq] at this
    rw [this, h]
    by_cases h2 : j % 8 = i % 8
    · rw [if_pos h2, if_pos (by omega)]
    · rw [if_neg h2, if_neg (by intro e; subst e; exact h2 rfl)]
  · rw [if_neg h, if_neg (by intro e; subst e; exact h rfl)]

theorem bhas_any (b : ByteArray) (i : Nat) (hb : b.size = 256) (hi : i < 2048) (w : World) : Calls Tryz.prog 86 #[.string b, .int .i64 (i : Nat)] w fun e w' => e = .returned (.bool (hasB b i)) ∧ w = w' := by
  have h3 : ((i / 8 : Nat) : Int) < 256 := by omega
  have HX : Hid (∀ h, (bits BinOp.and IntKind.u8 (((b[i / 8]'h).toNat : Int) / 2 ^ (i % 8)) 1 == 1) = hasB b i) := fun h => by
    rw [getB b _ h]
    exact bit_and ⟨_, byteAt_lt b (i / 8)⟩ ⟨i % 8, by omega⟩
  go_enter Tryz.func86, Tryz.ntmps86
  go_wp2
  rw [HX.out]
  go_ret
  exact ⟨rfl, rfl⟩
set_option maxHeartbeats 1000000 in
theorem bwith_any (b : ByteArray) (i : Nat) (t : Bool) (hb : b.size = 256) (hi : i < 2048) (w : World) : Calls Tryz.prog 127 #[.string b, .int .i64 (i : Nat), .bool t] w fun e w' => e = .returned (.string (withB b i t)) ∧ Below w.heap.size w w' := by
  have h3 : ((i / 8 : Nat) : Int) < 256 := by omega
  have hx := byteAt_lt b (i / 8)
  have hw := wb_lt ⟨_, hx⟩ ⟨i % 8, by omega⟩ t
  have hst := Nu.set_ok b (i / 8) (wb (byteAt b (i / 8)) (i % 8) t) 1 w (by decide) (by decide) (by simpa using hw) (by rw [hb]; decide) (by omega)
  have HST := hid hst
  clear hst
  cases t with
  | true =>
    have HX : Hid (∀ h, bits BinOp.or IntKind.u8 (bits BinOp.andNot IntKind.u8 (((b[i / 8]'h).toNat : Int)) (2 ^ (i % 8) % 256)) (2 ^ (i % 8) % 256) = ((wb (byteAt b (i / 8)) (i % 8) true : Nat) : Int)) := fun h => by
      rw [getB b _ h]
      exact bit_put ⟨_, hx⟩ ⟨i % 8, by omega⟩
    have hw2 : wb (byteAt b (i / 8)) (i % 8) true < 256 := hw
    have HW : Hid (IntKind.u64.wrap ((wb (byteAt b (i / 8)) (i % 8) true : Nat) : Int) = ((wb (byteAt b (i / 8)) (i % 8) true : Nat) : Int)) := by show _ = _; rw [IntKind.wrap_u64]; omega
    clear hw hx
    go_enter Tryz.func127, Tryz.ntmps127
    go_wp2_with fail
    rw [HX.out, HW.out]
    go_wp2_with (go_at_call 189; refine HST.out.mono ?_; clear HST; rintro e w1 ⟨rfl, hb1⟩)
    go_ret
    exact ⟨rfl, hb1⟩
  | false =>
    have HX : Hid (∀ h, bits BinOp.andNot IntKind.u8 (((b[i / 8]'h).toNat : Int)) (2 ^ (i % 8) % 256) = ((wb (byteAt b (i / 8)) (i % 8) false : Nat) : Int)) := fun h => by
      rw [getB b _ h]
      exact bit_out ⟨_, hx⟩ ⟨i % 8, by omega⟩
    have hw2 : wb (byteAt b (i / 8)) (i % 8) false < 256 := hw
    have HW : Hid (IntKind.u64.wrap ((wb (byteAt b (i / 8)) (i % 8) false : Nat) : Int) = ((wb (byteAt b (i / 8)) (i % 8) false : Nat) : Int)) := by show _ = _; rw [IntKind.wrap_u64]; omega
    clear hw hx
    go_enter Tryz.func127, Tryz.ntmps127
    go_wp2_with fail
    rw [HX.out, HW.out]
    go_wp2_with (go_at_call 189; refine HST.out.mono ?_; clear HST; rintro e w1 ⟨rfl, hb1⟩)
    go_ret
    exact ⟨rfl, hb1⟩
end Go.Proofs.YtjcbaiohpdihoaaGreatDoor
