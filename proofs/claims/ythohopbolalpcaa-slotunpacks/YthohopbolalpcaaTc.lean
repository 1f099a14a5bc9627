/-
  A slot, as the document reads it.
-/
import Derived.Test.YthohopbolalpcaaTb
namespace Go.Proofs.Ythohopbolalpcaa
open Go.RowKit
set_option linter.unusedVariables false
set_option linter.unusedSimpArgs false
set_option maxRecDepth 100000

def nameQ (T : ByteArray) : ByteArray := trimOf (T.extract 4 12)
def kidQ (T : ByteArray) (m : Nat) : List Nat := (List.range m).map fun k => num T 0 (7 + k)
def ndQ (T : ByteArray) : Nd := ⟨hs (nameQ T) (kidQ T (num T 0 4)) * 65536 + num T 0 2, nameQ T, kidQ T (num T 0 4), (num T 0 5 : Nat), decide (num T 0 1 = 1), num T 0 6⟩
def badQ (T : ByteArray) : Prop := 4 < num T 0 4 ∨ ctE (nameQ T).data.toList (kidQ T (num T 0 4)) ≠ 0
def slQ (s : ByteArray) (j : Nat) : ByteArray := s.extract (16 + 48 * j) (64 + 48 * j)
def Z48 : ByteArray := ⟨(List.replicate 48 0).toArray⟩
theorem extract_list (s : ByteArray) (a b : Nat) : (s.extract a b).data.toList = sub s a (b - a) := by
  rw [ByteArray.data_extract]
  unfold sub
  rw [Array.toList_extract]
  try simp [List.extract_eq_take_drop]
theorem slQ_list (s : ByteArray) (j : Nat) : (slQ s j).data.toList = sub s (16 + 48 * j) 48 := by
  unfold slQ
  rw [extract_list, show 64 + 48 * j - (16 + 48 * j) = 48 by omega]
theorem slQ_sub (s : ByteArray) (j : Nat) : sub (slQ s j) 0 48 = sub s (16 + 48 * j) 48 := by
  show ((slQ s j).data.toList.drop 0).take 48 = _
  rw [slQ_list, List.drop_zero]
  unfold sub
  rw [List.take_take, Nat.min_self]
theorem slQ_size {s : ByteArray} {j : Nat} (h : 64 + 48 * j ≤ s.size) : (slQ s j).size = 48 := by
  rw [Lib.size_eq, slQ_list, sub_length _ _ _ (by omega)]
theorem ndQ_slot {T : ByteArray} {x : Nd} (ho : NdOk x) (ht : sub T 0 48 = slotB x) (hz : T.size = 48) : ndQ T = x ∧ ¬ badQ T := by
  obtain ⟨h8, h4, hA⟩ := ctE_ok ho.ct
  have hkn : kind x.name.data.toList ≠ 0 := by
    intro h0
    have := ho.ct
    unfold ctE at this
    rw [if_pos h0] at this
    omega
  have hN : ∀ i, i < 11 → num T 0 i = tell x i := fun i hi => num_slot ho ht hi
  have hname : nameQ T = x.name := by
    have h1 : (T.extract 4 12).data.toList = sub T 4 8 := extract_list T 4 12
    have h2 : val (sub T 4 8) = val (padOf x.name 8).data.toList := hN 3 (by decide)
    have h3 := be_val (sub T 4 8)
    rw [sub_length _ _ _ (by omega), h2] at h3
    have h9 := be_val (padOf x.name 8).data.toList
    rw [pad8_len h8] at h9
    have he : T.extract 4 12 = padOf x.name 8 := by
      apply ByteArray.ext
      apply Array.toList_inj.1
      rw [h1, ← h3, h9]
    unfold nameQ
    rw [he, trimOf_pad x.name 8 h8, trim_name hkn]
  have h44 : num T 0 4 = x.kids.length := hN 4 (by decide)
  have hkid : kidQ T (num T 0 4) = x.kids := by
    rw [h44]
    unfold kidQ
    apply List.ext_getElem?
    intro k
    rw [List.getElem?_map]
    by_cases hk : k < x.kids.length
    · rw [List.getElem?_range hk]
      show some (num T 0 (7 + k)) = _
      rw [hN (7 + k) (by omega)]
      have e : tell x (7 + k) = x.kids.getD k 0 := by
        unfold tell
        iterate 7 rw [if_neg (by omega)]
        rw [show 7 + k - 7 = k by omega]
      rw [e, List.getD_eq_getElem?_getD, List.getElem?_eq_getElem hk]
      rfl
    · rw [List.getElem?_eq_none (by simp; omega), List.getElem?_eq_none (by omega)]
      rfl
  constructor
  · unfold ndQ
    rw [hname, hkid, hN 2 (by decide), hN 5 (by decide), hN 1 (by decide), hN 6 (by decide)]
    have e1 : tell x 1 = if x.queued then 1 else 0 := rfl
    have e2 : tell x 2 = x.at' % 65536 := rfl
    have e5 : tell x 5 = x.count.toNat := rfl
    have e6 : tell x 6 = x.next := rfl
    rw [e1, e2, e5, e6, ← ho.hash]
    have hc0 := ho.c0
    have hat : x.at' / 65536 * 65536 + x.at' % 65536 = x.at' := by omega
    have hct : ((x.count.toNat : Nat) : Int) = x.count := by omega
    have hqq : decide ((if x.queued = true then 1 else 0) = 1) = x.queued := by cases x.queued <;> rfl
    rw [hat, hct, hqq]
  · unfold badQ
    rw [hname, hkid, h44]
    intro h
    rcases h with h | h
    · omega
    · exact h ho.ct

/-- what the document reads of a page -/
structure RdQ (s : ByteArray) (b : Bk) (j : Nat) : Prop where
  d : b.depth = (val (sub s 1 1) : Nat)
  n : b.next = (val (sub s 2 2) : Nat)
  j5 : j ≤ 5
  nodes : b.nodes = (List.range j).map fun k => ndQ (slQ s k)
  used : ∀ k, k < j → slQ s k ≠ Z48
  stop : j = 5 ∨ slQ s j = Z48

section
variable {s : ByteArray} {b : Bk}
theorem page_none (ho : BkOk b) (hs : s.data.toList = pageB b) {k : Nat} (hk : b.nodes.length ≤ k) (h5 : k < 5) : slQ s k = Z48 := by
  have hl := ho.len
  apply ByteArray.ext
  apply Array.toList_inj.1
  rw [slQ_list]
  have e : s.data.toList = (headB b ++ b.nodes.flatMap slotB ++ List.replicate (48 * (k - b.nodes.length)) 0) ++ List.replicate 48 0 ++ List.replicate (240 - 48 * k - 48) 0 := by
    rw [hs]
    unfold pageB
    simp only [List.append_assoc]
    rw [List.replicate_append_replicate, List.replicate_append_replicate, show 48 * (k - b.nodes.length) + (48 + (240 - 48 * k - 48)) = 240 - 48 * b.nodes.length by omega]
  exact sub_mid e (by rw [List.length_append, List.length_append, headB_len, slots_len, List.length_replicate]; omega) (List.length_replicate ..)
theorem page_some (ho : BkOk b) (hs : s.data.toList = pageB b) {k : Nat} {x : Nd} (hx : b.nodes[k]? = some x) : slQ s k ≠ Z48 ∧ ndQ (slQ s k) = x ∧ ¬ badQ (slQ s k) := by
  have hl := ho.len
  have hk := (List.getElem?_eq_some_iff.1 hx).1
  have h1 := page_slot hs hx
  have hz : s.size = 256 := by rw [Lib.size_eq, hs]; exact pageB_len ho
  refine ⟨fun h => ?_, ndQ_slot (ho.nd hx) (by rw [slQ_sub]; exact h1) (slQ_size (by omega))⟩
  have h2 := slQ_list s k
  rw [h, h1] at h2
  obtain ⟨r, hr⟩ := slot_one x
  rw [hr] at h2
  have h3 : (Z48.data.toList)[0]? = some 0 := rfl
  rw [h2] at h3
  simp at h3
theorem rdQ_page (ho : BkOk b) (hs : s.data.toList = pageB b) {b' : Bk} {j : Nat} (h : RdQ s b' j) : b' = b := by
  obtain ⟨h1, h2⟩ := page_head ho hs
  have hn := ho.len
  have hj : j = b.nodes.length := by
    rcases Nat.lt_trichotomy j b.nodes.length with h3 | h3 | h3
    · rcases h.stop with h4 | h4
      · omega
      · obtain ⟨x, hx⟩ : ∃ x, b.nodes[j]? = some x := ⟨_, List.getElem?_eq_getElem h3⟩
        exact absurd h4 (page_some ho hs hx).1
    · exact h3
    · exact absurd (page_none ho hs (Nat.le_refl _) (by have := h.j5; omega)) (h.used _ h3)
  have hnd : b'.nodes = b.nodes := by
    rw [h.nodes, hj]
    apply List.ext_getElem?
    intro k
    rw [List.getElem?_map]
    by_cases hk : k < b.nodes.length
    · obtain ⟨x, hx⟩ : ∃ x, b.nodes[k]? = some x := ⟨_, List.getElem?_eq_getElem hk⟩
      rw [List.getElem?_range hk, hx]
      show some (ndQ (slQ s k)) = some x
      rw [(page_some ho hs hx).2.1]
    · rw [List.getElem?_eq_none (by simp; omega), List.getElem?_eq_none (by omega)]
      rfl
  have hd : b'.depth = b.depth := by rw [h.d, h1]; have := ho.d0; omega
  have hx : b'.next = b.next := by rw [h.n, h2]; have := ho.n0; omega
  cases b'
  cases b
  simp only at hnd hd hx
  rw [hnd, hd, hx]
/-- a slot that is bad is no bucket's -/
theorem bad_page (ho : BkOk b) (hs : s.data.toList = pageB b) {k : Nat} (h5 : k < 5) (h0 : slQ s k ≠ Z48) : ¬ badQ (slQ s k) := by
  rcases Nat.lt_or_ge k b.nodes.length with hk | hk
  · exact (page_some ho hs (List.getElem?_eq_getElem hk)).2.2
  · exact absurd (page_none ho hs hk h5) h0
end
theorem num_lt' {T : ByteArray} (hz : T.size = 48) {i : Nat} (hi : i < 11) : num T 0 i < 256 ^ wd i := num_lt T 0 (by omega) hi
theorem kidQ_snoc (T : ByteArray) (m : Nat) : kidQ T (m + 1) = kidQ T m ++ [num T 0 (7 + m)] := by
  unfold kidQ
  rw [List.range_succ, List.map_append]
  rfl
theorem kidQ_len (T : ByteArray) (m : Nat) : (kidQ T m).length = m := by simp [kidQ]
theorem kidQ_u {T : ByteArray} (hz : T.size = 48) {m : Nat} (hm : m ≤ 4) : U64 (kidQ T m) := by
  intro y hy
  obtain ⟨k, hk, rfl⟩ := List.mem_map.1 hy
  have hk := List.mem_range.1 hk
  have h1 := num_lt' hz (i := 7 + k) (by omega)
  have ew : wd (7 + k) = 6 := by
    unfold wd
    iterate 6 rw [if_neg (by omega)]
  rw [ew] at h1
  omega
theorem ndQ_fine {T : ByteArray} (hz : T.size = 48) (hm : num T 0 4 ≤ 4) : U64 (ndQ T).kids ∧ (ndQ T).at' < 18446744073709551616 ∧ (ndQ T).next < 18446744073709551616 ∧ (ndQ T).name.size ≤ 140737488351232 ∧ -9223372036854775808 ≤ (ndQ T).count ∧ (ndQ T).count ≤ 9223372036854775807 := by
  have hl := hs_lt (nameQ T) (kidQ T (num T 0 4))
  have h2 : num T 0 2 < 65536 := num_lt' hz (i := 2) (by decide)
  have h5 : num T 0 5 < 4294967296 := num_lt' hz (i := 5) (by decide)
  have h6 : num T 0 6 < 281474976710656 := num_lt' hz (i := 6) (by decide)
  have hn : (nameQ T).size ≤ 8 := by
    have h1 := trimOf_le (T.extract 4 12)
    have h3 : (T.extract 4 12).size ≤ 8 := by rw [ByteArray.size_extract]; omega
    unfold nameQ
    omega
  refine ⟨kidQ_u hz hm, ?_, ?_, ?_, ?_, ?_⟩
  · show hs (nameQ T) (kidQ T (num T 0 4)) * 65536 + num T 0 2 < _; omega
  · show num T 0 6 < _; omega
  · show (nameQ T).size ≤ _; omega
  · show _ ≤ ((num T 0 5 : Nat) : Int); omega
  · show ((num T 0 5 : Nat) : Int) ≤ _; omega
end Go.Proofs.Ythohopbolalpcaa
