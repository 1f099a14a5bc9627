/-
  What the program's Words, and the document's, answer: a list of its own that holds the words of the line; and that two lists alike are told as alike.
-/
import Derived.Test.YtgbhlbcdaankoaaDoorNumbers
namespace Go.Proofs.YtgbhlbcdaankoaaDoor
open Go.RowKit
set_option linter.unusedVariables false

theorem info9 : (Tryd.prog.info? 9).map (fun i => (i.zero, i.size, i.bytes)) = some (some (.string ⟨#[]⟩), 1, 16) := by kernel_rfl

theorem own_below {w w' : World} {B : Nat} {e : TypeId} {size : Nat} {v : Value} {n : Nat} {xs : List Value} (h : w.ownsRow B e size v n xs) (hb : Below w.heap.size w w') : w'.ownsRow B e size v n xs := by
  refine ⟨h.1, ?_⟩
  rcases h.2 with hn | ⟨g, cap, cur, hv, hB, hg, rest⟩
  · exact .inl hn
  · have hlt : g < w.heap.size := by
      rcases Nat.lt_or_ge g w.heap.size with h' | h'
      · exact h'
      · rw [Array.getElem?_eq_none h'] at hg; cases hg
    exact .inr ⟨g, cap, cur, hv, hB, (hb.block g hlt).trans hg, rest⟩
theorem own_base {w : World} {B B' : Nat} {e : TypeId} {size : Nat} {v : Value} {n : Nat} {xs : List Value} (h : w.ownsRow B e size v n xs) (hB : B' ≤ B) : w.ownsRow B' e size v n xs := by
  refine ⟨h.1, ?_⟩
  rcases h.2 with hn | ⟨g, cap, cur, hv, hB', rest⟩
  · exact .inl hn
  · exact .inr ⟨g, cap, cur, hv, Nat.le_trans hB hB', rest⟩

/-- texts as cells -/
def cellsS (L : List ByteArray) : List Value := L.map Value.string
/-- the words of a line -/
def wordsB (s : ByteArray) : List ByteArray := (words s.data.toList).map fun l => ⟨l.toArray⟩
def notNil (t : ByteArray) : Bool := decide (t.data.toList ≠ [])

theorem back_list (P : List ByteArray) : (P.map (·.data.toList)).map (fun l => (⟨l.toArray⟩ : ByteArray)) = P := by
  rw [List.map_map]
  conv => rhs; rw [← List.map_id P]
  apply List.map_congr_left
  intro a _
  rfl
theorem pieces_words (s : ByteArray) : (Lib.splitB ⟨#[32]⟩ 0 (Lib.countB s ⟨#[32]⟩) s).filter notNil = wordsB s := by
  have h1 := Lib.splitB_data ⟨#[32]⟩ 0 (Lib.countB s ⟨#[32]⟩) s
  have h2 := split_words _ s.data.toList rfl
  rw [← back_list ((Lib.splitB ⟨#[32]⟩ 0 (Lib.countB s ⟨#[32]⟩) s).filter notNil)]
  unfold wordsB
  congr 1
  rw [← h2]
  have h3 : Lib.splitK [32] 0 (Lib.count s.data.toList [32]) s.data.toList = (Lib.splitB ⟨#[32]⟩ 0 (Lib.countB s ⟨#[32]⟩) s).map (·.data.toList) := h1.symm
  rw [h3, List.filter_map]
  rfl

/-- what is kept of the first k pieces -/
def keep (P : List ByteArray) (k : Nat) : List ByteArray := (P.take k).filter notNil
theorem keep_le (P : List ByteArray) (k : Nat) : (keep P k).length ≤ k := by
  unfold keep
  have h1 := List.length_filter_le notNil (P.take k)
  have h2 : (P.take k).length ≤ k := by rw [List.length_take]; omega
  omega
theorem keep_hit {P : List ByteArray} {k : Nat} {t : ByteArray} (h : P[k]? = some t) (hn : notNil t = true) : keep P (k + 1) = keep P k ++ [t] := by
  unfold keep
  rw [List.take_add_one, h, List.filter_append]
  simp [hn]
theorem keep_miss {P : List ByteArray} {k : Nat} {t : ByteArray} (h : P[k]? = some t) (hn : notNil t = false) : keep P (k + 1) = keep P k := by
  unfold keep
  rw [List.take_add_one, h, List.filter_append]
  simp [hn]
theorem notNil_of {t : ByteArray} (h : 0 < t.size) : notNil t = true := by
  unfold notNil
  simp only [decide_eq_true_eq]
  intro e
  have := size_list t
  rw [e] at this
  simp at this
  omega

theorem one_cell (W : World) (u : Value) (t : TypeId) : ∀ j x, [u][j]? = some x → (W.alloc (.cells #[u] t)).cell? ((⟨W.heap.size, 0, none⟩ : Addr).add j) = some x := by
  intro j x hj
  match j, hj with
  | 0, hj => simp at hj; subst hj; simp [Addr.add]

theorem piece_cell (w : World) (P : List ByteArray) (k : Nat) (t : ByteArray) (h : P[k]? = some t) :
    (w.alloc (.cells (P.map Value.string).toArray 9)).cell? ⟨w.heap.size, k, none⟩ = some (.string t) := by
  rw [World.cell?_alloc_mark]
  simp [h]

theorem piece_size (sep : ByteArray) : ∀ (k : Nat) (s t : ByteArray), t ∈ Lib.splitB sep 0 k s → t.size ≤ s.size
  | 0, s, t, h => by simp only [Lib.splitB, List.mem_singleton] at h; subst h; exact Nat.le_refl _
  | k + 1, s, t, h => by
    unfold Lib.splitB at h
    split at h
    · simp only [List.mem_singleton] at h; subst h; exact Nat.le_refl _
    · rcases List.mem_cons.1 h with rfl | h
      · rw [ByteArray.size_extract]; omega
      · have := piece_size sep k _ t h
        rw [ByteArray.size_extract] at this
        omega

/-- one text more -/
theorem more_own {W W' w : World} {B : Nat} {v v' : Value} {L : List ByteArray} {t : ByteArray} (hB : B ≤ w.heap.size) (hb : Below B W w) (hBW : B ≤ W.heap.size)
    (hown : w.ownsRow B 9 1 v L.length (cellsS L)) (hown' : W'.ownsRow B 9 1 v' (L.length + 1) (cellsS L ++ [.string t])) (hgrow : (w.alloc (.cells #[.string t] 9)).grownBy W' v.ownBlock) :
    W'.ownsRow B 9 1 v' (L ++ [t]).length (cellsS (L ++ [t])) ∧ Below B W W' := by
  constructor
  · have e : cellsS (L ++ [t]) = cellsS L ++ [.string t] := by simp [cellsS]
    rw [e, List.length_append]
    exact hown'
  · exact (hb.alloc hB _).grown hgrow (by simp; omega) (fun k hk => (hown.lt k hk).1)

set_option maxHeartbeats 1000000 in
theorem words_any (s : ByteArray) (w : World) (env : Env w) (hs : s.size ≤ 4294967280) :
    Calls Tryd.prog 13 #[.string s] w fun e w' => ∃ v, e = .returned v ∧ w'.ownsRow w.heap.size 9 1 v (wordsB s).length (cellsS (wordsB s)) ∧ Below w.heap.size w w' := by
  obtain ⟨mx, hmx⟩ := env.most
  have hcnt : Lib.countB s ⟨#[32]⟩ ≤ s.size := Lib.countB_le ⟨#[32]⟩ (by decide) s.size s (Nat.le_refl _)
  obtain ⟨P, hP⟩ : ∃ P, Lib.splitB ⟨#[32]⟩ 0 (Lib.countB s ⟨#[32]⟩) s = P := ⟨_, rfl⟩
  have hlen : P.length = Lib.countB s ⟨#[32]⟩ + 1 := by rw [← hP]; exact Lib.splitB_all ⟨#[32]⟩ (by decide) 0 _ s rfl
  have HW : Hid (keep P P.length = wordsB s) := by
    show _ = _
    unfold keep
    rw [List.take_length, ← hP]
    exact pieces_words s
  have hsz : ∀ t ∈ P, t.size ≤ s.size := by rw [← hP]; exact fun t ht => piece_size _ _ _ _ ht
  have hsp := Tryd.strings_Split s ⟨#[32]⟩ mx w (by omega) hmx (by decide)
  rw [hP] at hsp
  obtain ⟨c, hc⟩ : ∃ c, Lib.countB s ⟨#[32]⟩ + 1 = c := ⟨_, rfl⟩
  rw [hc] at hsp hlen
  have hcl : c ≤ 4294967281 := by omega
  clear hcnt hc hmx
  obtain ⟨i0, hi, hz0, hz1, hz2⟩ := info_parts info9
  have hB0 : (w.alloc (.cells (P.map Value.string).toArray 9)).heap.size = w.heap.size + 1 := by simp
  have HC : Hid (∀ k t, P[k]? = some t → (w.alloc (.cells (P.map Value.string).toArray 9)).cell? ⟨w.heap.size, k, none⟩ = some (.string t)) := fun k t h => piece_cell w P k t h
  have hbw : Below w.heap.size w (w.alloc (.cells (P.map Value.string).toArray 9)) := (Below.refl _ w).alloc (Nat.le_refl _) _
  generalize hW1 : w.alloc (.cells (P.map Value.string).toArray 9) = W1 at hsp HC hbw hB0
  have HB0 : Hid (W1.heap.size = w.heap.size + 1) := hB0
  clear hW1 hB0
  go_enter Tryd.func13, Tryd.ntmps13
  go_wp2_with (go_at_call 20; refine hsp.mono ?_; rintro e w1 ⟨rfl, rfl⟩)
  go_loopw [3, 9] (fun v i wr => ∃ k : Nat, k ≤ c ∧ i = .int .i64 k ∧ wr.ownsRow w1.heap.size 9 1 v (keep P k).length (cellsS (keep P k)) ∧ Below w1.heap.size w1 wr) (fun _ i _ => c - (intOf i).toNat)
  case atStart => exact ⟨0, Nat.zero_le _, rfl, World.ownsRow_nil _ _ _ _, Below.refl _ _⟩
  case round =>
    obtain ⟨k, hk, rfl, hown, hb⟩ := hrel
    by_cases hlt : k < c
    · obtain ⟨t, ht⟩ : ∃ t, P[k]? = some t := ⟨P[k]'(by omega), List.getElem?_eq_getElem (by omega)⟩
      have hcell : wr.cell? ⟨w.heap.size, k, none⟩ = some (.string t) := (hb.cell (p := ⟨w.heap.size, k, none⟩) (by show w.heap.size < _; have := HB0.out; omega)).trans (HC.out k t ht)
      by_cases ht0 : t.size = 0
      · have := empty_of t ht0
        subst this
        have HK : Hid (keep P (k + 1) = keep P k) := keep_miss ht (by decide)
        go_wp2
        go_roundw
        case rel => exact ⟨k + 1, by omega, by go_num, by rw [HK.out]; exact hown, hb⟩
        case measure => simp [intOf]; omega
      · have n1 := full_list t (by omega)
        have n2 := full_isEmpty t (by omega)
        have hts : t.size ≤ s.size := hsz t (List.mem_of_getElem? ht)
        have hkl := keep_le P k
        have hBr : w1.heap.size ≤ wr.heap.size := hb.size
        have HK : Hid (keep P (k + 1) = keep P k ++ [t]) := keep_hit ht (notNil_of (by omega))
        generalize hKL : keep P k = L at hown HK hkl
        clear hKL
        go_wp2_with (first
          | (go_at_call 21; refine (clone_any t _ (by omega)).mono ?_; rintro e w2 ⟨rfl, hb2⟩; have hown2 := own_below hown hb2; have hb3 := hb.trans (hb2.mono hBr); have hBr2 := hb3.size)
          | (at_builtin; refine wpList_append_own _ rfl _ _ 26 rfl w1.heap.size 9 i0 (.string ⟨#[]⟩) 1 16 Tryd.underlying26 hi hz0 hz1 hz2 rfl (by decide) _ _ _ rfl (hown2.alloc _) ⟨w2.heap.size, 0, none⟩ 1 1 [.string t] rfl rfl ?c1 ?c2 ?c3 ?c4 ?c5 ?_))
        case c1 => exact one_cell w2 _ _
        case c2 => intro u hu; simp at hu; subst hu; rfl
        case c3 => unfold maxLen; omega
        case c4 => omega
        case c5 => simp; omega
        intro v' w3 hown' hgrow _
        obtain ⟨R1, R2⟩ := more_own hBr2 hb3 (Nat.le_refl _) hown2 hown' hgrow
        clear hown' hgrow hown hown2 hcell hb hb2 hb3
        go_wp2
        go_roundw
        case rel => exact ⟨k + 1, by omega, by go_num, by rw [HK.out]; exact R1, R2⟩
        case measure => simp [intOf]; omega
    · obtain rfl : k = c := by omega
      go_wp2
      go_ret
      refine ⟨_, rfl, ?_, hbw.trans (hb.mono hbw.size)⟩
      have HW2 := HW.out
      rw [hlen] at HW2
      rw [HW2] at hown
      exact own_base hown hbw.size

theorem drop_at (s : ByteArray) (k : Nat) (h : k < s.size) : s.data.toList.drop k = s[k] :: s.data.toList.drop (k + 1) := by
  have hl : k < s.data.toList.length := h
  rw [List.drop_eq_getElem_cons hl]
  rfl
theorem grow_list (cur s : ByteArray) (k : Nat) (h : k < s.size) : (cur ++ s.extract k (k + 1)).data.toList = cur.data.toList ++ [s[k]] := by
  rw [ByteArray.data_append, Array.toList_append, Lib.extract_data, drop_at s k h]
  simp
theorem grow_size (cur s : ByteArray) (k : Nat) (h : k < s.size) : (cur ++ s.extract k (k + 1)).size = cur.size + 1 := by
  rw [← size_list, grow_list cur s k h, List.length_append, size_list]; rfl
theorem one_mk {t : ByteArray} (h : 0 < t.size) : one t.data.toList = [t.data.toList] := by
  have := notNil_of h
  unfold notNil at this
  unfold one
  rw [if_neg (by simpa using this)]
theorem lists_snoc (L : List ByteArray) (t : ByteArray) : (L ++ [t]).map (·.data.toList) = L.map (·.data.toList) ++ [t.data.toList] := by simp
theorem wordsB_of {L : List ByteArray} {s : ByteArray} (h : L.map (·.data.toList) = words s.data.toList) : L = wordsB s := by
  rw [← back_list L, h]
  rfl

set_option maxHeartbeats 1000000 in
theorem rWords_any (s : ByteArray) (w : World) (hs : s.size ≤ 1048576) :
    Calls Tryd.prog 14 #[.string s] w fun e w' => ∃ v, e = .returned v ∧ w'.ownsRow w.heap.size 9 1 v (wordsB s).length (cellsS (wordsB s)) ∧ Below w.heap.size w w' := by
  obtain ⟨i0, hi, hz0, hz1, hz2⟩ := info_parts info9
  go_enter Tryd.func14, Tryd.ntmps14
  go_wp2
  go_loopw [3, 4, 5] (fun v x i wr => ∃ (k : Nat) (cur : ByteArray) (L : List ByteArray), k ≤ s.size ∧ cur.size ≤ k ∧ L.length ≤ k ∧
      Hid (L.map (·.data.toList) ++ wordsFrom cur.data.toList (s.data.toList.drop k) = words s.data.toList) ∧ wr.ownsRow w.heap.size 9 1 v L.length (cellsS L) ∧ Below w.heap.size w wr ∧
      x = .string cur ∧ i = .int .i64 k) (fun _ _ i _ => s.size - (intOf i).toNat)
  case atStart => exact ⟨0, ⟨#[]⟩, [], Nat.zero_le _, by decide, by simp, rfl, World.ownsRow_nil _ _ _ _, Below.refl _ _, rfl, rfl⟩
  case round =>
    obtain ⟨k, cur, L, hk, hcur, hL, HL, hown, hb, rfl, rfl⟩ := hrel
    have hBr := hb.size
    by_cases hlt : k < s.size
    · have hby : (s[k].toNat : Int) ≤ 255 := by have := s[k].toNat_lt; omega
      have hdrop := drop_at s k hlt
      by_cases h32 : s[k] = 32
      · have h32i : (s[k].toNat : Int) = 32 := by rw [h32]; rfl
        have HL2 : Hid (L.map (·.data.toList) ++ (one cur.data.toList ++ wordsFrom [] (s.data.toList.drop (k + 1))) = words s.data.toList) := by
          show _ = _
          rw [← HL.out, hdrop, wordsFrom, if_pos h32]
        clear hdrop h32 HL
        by_cases hc0 : cur.size = 0
        · have := empty_of cur hc0
          subst this
          have HL3 : Hid (L.map (·.data.toList) ++ wordsFrom [] (s.data.toList.drop (k + 1)) = words s.data.toList) := by
            show _ = _
            rw [← HL2.out]; rfl
          go_wp2
          go_roundw
          case rel => exact ⟨k + 1, ⟨#[]⟩, L, by omega, by show 0 ≤ _; omega, by omega, HL3, hown, hb, rfl, by go_num⟩
          case measure => simp [intOf]; omega
        · have n1 := full_list cur (by omega)
          have n2 := full_isEmpty cur (by omega)
          have HL3 : Hid ((L ++ [cur]).map (·.data.toList) ++ wordsFrom [] (s.data.toList.drop (k + 1)) = words s.data.toList) := by
            show _ = _
            rw [← HL2.out, one_mk (by omega), lists_snoc, List.append_assoc]
          clear HL2
          go_wp2_with (at_builtin; refine wpList_append_own _ rfl _ _ 26 rfl w.heap.size 9 i0 (.string ⟨#[]⟩) 1 16 Tryd.underlying26 hi hz0 hz1 hz2 rfl (by decide) _ _ _ rfl (hown.alloc _) ⟨wr.heap.size, 0, none⟩ 1 1 [.string cur] rfl rfl ?c1 ?c2 ?c3 ?c4 ?c5 ?_)
          case c1 => exact one_cell wr _ _
          case c2 => intro u hu; simp at hu; subst hu; rfl
          case c3 => unfold maxLen; omega
          case c4 => omega
          case c5 => simp; omega
          intro v' w3 hown' hgrow _
          obtain ⟨R1, R2⟩ := more_own hBr hb (Nat.le_refl _) hown hown' hgrow
          clear hown' hgrow hown hb
          go_wp2
          go_roundw
          case rel => exact ⟨k + 1, ⟨#[]⟩, L ++ [cur], by omega, by show 0 ≤ _; omega, by simp; omega, HL3, R1, R2, rfl, by go_num⟩
          case measure => simp [intOf]; omega
      · have h32i : ((s[k].toNat : Int) == 32) = false := by
          simp only [beq_eq_false_iff_ne, ne_eq]
          intro e
          exact h32 (UInt8.toNat_inj.1 (by show s[k].toNat = 32; omega))
        have HL2 : Hid (L.map (·.data.toList) ++ wordsFrom (cur ++ s.extract k (k + 1)).data.toList (s.data.toList.drop (k + 1)) = words s.data.toList) := by
          show _ = _
          rw [← HL.out, hdrop, wordsFrom, if_neg h32, grow_list cur s k hlt]
        have hsz := grow_size cur s k hlt
        have HZ : Hid ((cur ++ s.extract k (k + 1)).size ≤ k + 1) := by show _ ≤ _; omega
        clear hdrop h32 HL hsz
        go_wp2
        go_roundw
        case rel => exact ⟨k + 1, _, L, by omega, HZ.out, by omega, HL2, hown, hb, rfl, by go_num⟩
        case measure => simp [intOf]; omega
    · obtain rfl : k = s.size := by omega
      have hnil : s.data.toList.drop s.size = [] := List.drop_eq_nil_of_le (by rw [size_list]; omega)
      by_cases hc0 : cur.size = 0
      · have := empty_of cur hc0
        subst this
        have HE : Hid (L = wordsB s) := wordsB_of (by have := HL.out; rw [hnil] at this; simpa [wordsFrom, one] using this)
        clear hnil HL
        go_wp2
        go_ret
        exact ⟨_, rfl, by rw [← HE.out]; exact hown, hb⟩
      · have n1 := full_list cur (by omega)
        have n2 := full_isEmpty cur (by omega)
        have HE : Hid (L ++ [cur] = wordsB s) := wordsB_of (by have := HL.out; rw [hnil, wordsFrom, one_mk (by omega)] at this; rw [lists_snoc]; exact this)
        clear hnil HL
        go_wp2_with (at_builtin; refine wpList_append_own _ rfl _ _ 26 rfl w.heap.size 9 i0 (.string ⟨#[]⟩) 1 16 Tryd.underlying26 hi hz0 hz1 hz2 rfl (by decide) _ _ _ rfl (hown.alloc _) ⟨wr.heap.size, 0, none⟩ 1 1 [.string cur] rfl rfl ?c1 ?c2 ?c3 ?c4 ?c5 ?_)
        case c1 => exact one_cell wr _ _
        case c2 => intro u hu; simp at hu; subst hu; rfl
        case c3 => unfold maxLen; omega
        case c4 => omega
        case c5 => simp; omega
        intro v' w3 hown' hgrow _
        obtain ⟨R1, R2⟩ := more_own hBr hb (Nat.le_refl _) hown hown' hgrow
        clear hown' hgrow hown hb
        go_wp2
        go_ret
        exact ⟨_, rfl, by rw [← HE.out]; exact R1, R2⟩

end Go.Proofs.YtgbhlbcdaankoaaDoor
