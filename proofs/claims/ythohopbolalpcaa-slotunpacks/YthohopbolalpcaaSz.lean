/-
  What is unpacked of a bucket's page.
-/
import Derived.Test.YthohopbolalpcaaSy
namespace Go.Proofs.Ythohopbolalpcaa
open Go.RowKit
set_option linter.unusedVariables false
set_option linter.unusedSimpArgs false
set_option maxRecDepth 100000

theorem NdOk.fine {x : Nd} (h : NdOk x) : U64 x.kids ∧ x.at' < 18446744073709551616 ∧ x.next < 18446744073709551616 ∧ x.name.size ≤ 140737488351232 ∧ -9223372036854775808 ≤ x.count ∧ x.count ≤ 9223372036854775807 := by
  obtain ⟨h8, _, hA⟩ := ctE_ok h.ct
  have h1 := isA_lt h.at1
  have h2 := h.nxl
  have h3 := h.c0
  have h4 := h.c1
  exact ⟨fun y hy => by have := isA_lt (hA y hy); omega, by omega, by omega, by omega, by omega, by omega⟩
theorem OwnN.liesOk {w : World} {B : Nat} {v : Value} {M : List (Nd × Value)} {b : Bk} (h : OwnN w B v M) (hm : M.map (·.1) = b.nodes) (ho : bkE b = 0) : LiesN w v b.nodes := by
  have := h.lies (fun y hy => by
    have hy1 : y.1 ∈ b.nodes := by rw [← hm]; exact List.mem_map.2 ⟨y, hy, rfl⟩
    obtain ⟨j, hj⟩ := List.mem_iff_getElem?.1 hy1
    exact ((BkOk.of ho).nd hj).fine)
  rw [hm] at this
  exact this
/-- how Unpack of a bucket's page ends -/
def UnpB (b : Bk) (w : World) (e : Ending) (w' : World) : Prop := ∃ va vc M, e = .returned (.tuple #[.agg #[.int .i64 b.depth, .int .i64 b.next, .slice va b.nodes.length vc], .int .i64 0]) ∧ M.map (·.1) = b.nodes ∧ OwnN w' w.heap.size (.slice va b.nodes.length vc) M ∧ LiesN w' (.slice va b.nodes.length vc) b.nodes ∧ Below w.heap.size w w'
theorem unp_ok (b : Bk) (hb : bkE b = 0) (w : World) : Calls Try.prog 19 #[.string ⟨(pageB b).toArray⟩] w fun e w' => UnpB b w e w' := by
  have hsz : (⟨(pageB b).toArray⟩ : ByteArray).size ≤ maxLen := by rw [Lib.size_eq]; show (pageB b).length ≤ maxLen; rw [pageB_len (BkOk.of hb)]; unfold maxLen; omega
  refine (sUnpack_any _ w hsz).mono fun e w' h => ?_
  rcases h with ⟨b', v, M, h0, hp, rfl, hM, hO, hbl⟩ | ⟨h, _⟩
  · have hbb : b' = b := page_inj h0 hb hp
    subst hbb
    obtain ⟨va, vc, rfl⟩ := own_form hO.row
    have hl : M.length = b'.nodes.length := by rw [← hM]; simp
    have hL := hO.liesOk hM h0
    rw [hl] at hO hL ⊢
    exact ⟨va, vc, M, rfl, hM, hO, hL, hbl⟩
  · exact absurd rfl (h b hb)
/-- how Unpack of anything ends, once more -/
def UnpS (s : ByteArray) (w : World) (e : Ending) (w' : World) : Prop :=
  (∃ b va vc M, bkE b = 0 ∧ (⟨(pageB b).toArray⟩ : ByteArray) = s ∧ e = .returned (.tuple #[.agg #[.int .i64 b.depth, .int .i64 b.next, .slice va b.nodes.length vc], .int .i64 0]) ∧ M.map (·.1) = b.nodes ∧ OwnN w' w.heap.size (.slice va b.nodes.length vc) M ∧ LiesN w' (.slice va b.nodes.length vc) b.nodes ∧ Below w.heap.size w w') ∨
  ((∀ b, bkE b = 0 → pageB b ≠ s.data.toList) ∧ e = .returned (.tuple #[.agg #[.int .i64 0, .int .i64 0, .slice none 0 0], .int .i64 3]) ∧ Below w.heap.size w w')
theorem unp_any (s : ByteArray) (w : World) (hs : s.size ≤ maxLen) : Calls Try.prog 19 #[.string s] w fun e w' => UnpS s w e w' := by
  refine (sUnpack_any s w hs).mono fun e w' h => ?_
  rcases h with ⟨b, v, M, h0, hp, rfl, hM, hO, hbl⟩ | h
  · obtain ⟨va, vc, rfl⟩ := own_form hO.row
    have hl : M.length = b.nodes.length := by rw [← hM]; simp
    have hL := hO.liesOk hM h0
    rw [hl] at hO hL ⊢
    exact .inl ⟨b, va, vc, M, h0, by rw [hp], rfl, hM, hO, hL, hbl⟩
  · exact .inr h
theorem unp_no (s : ByteArray) (w : World) (hs : s.size ≤ maxLen) (hn : ∀ b, bkE b = 0 → (⟨(pageB b).toArray⟩ : ByteArray) ≠ s) : Calls Try.prog 19 #[.string s] w fun e w' => e = .returned (.tuple #[.agg #[.int .i64 0, .int .i64 0, .slice none 0 0], .int .i64 3]) ∧ Below w.heap.size w w' := by
  refine (unp_any s w hs).mono fun e w' h => ?_
  rcases h with ⟨b, _, _, _, h0, hp, _⟩ | ⟨_, h⟩
  · exact absurd hp (hn b h0)
  · exact h
/-- Pack of a bucket that is one -/
theorem pack_ok (b : Bk) (v : Value) (w : World) (hl : LiesN w v b.nodes) (hb : bkE b = 0) :
    Calls Try.prog 16 #[.agg #[.int .i64 b.depth, .int .i64 b.next, v]] w fun e w' => e = .returned (.tuple #[.string ⟨(pageB b).toArray⟩, .int .i64 0]) ∧ Below w.heap.size w w' := by
  have := sPack_any b v w hl
  rw [hb, if_pos rfl] at this
  exact this
/-- a bucket without anything -/
def bz : Bk := ⟨0, 0, []⟩
theorem same_zero (w : World) : Calls Try.prog 21 #[.agg #[.int .i64 0, .int .i64 0, .slice none 0 0], .agg #[.int .i64 0, .int .i64 0, .slice none 0 0]] w fun e w' => e = .returned (.bool true) ∧ Below w.heap.size w w' :=
  same_true bz _ _ w (LiesN.nil w) (LiesN.nil w)
/-- how a copy ends, once more -/
def CopL (b : Bk) (w : World) (e : Ending) (w' : World) : Prop := ∃ va vc, e = .returned (.agg #[.int .i64 b.depth, .int .i64 b.next, .slice va b.nodes.length vc]) ∧ LiesN w' (.slice va b.nodes.length vc) b.nodes ∧ Below w.heap.size w w'
theorem copy_lies (b : Bk) (v : Value) (w : World) (hl : LiesN w v b.nodes) (hz : b.nodes.length * 72 ≤ 140737488351232) (hk : SmN b.nodes) :
    Calls Try.prog 17 #[.agg #[.int .i64 b.depth, .int .i64 b.next, v]] w fun e w' => CopL b w e w' := by
  refine (copy_any b v w hl hz hk).mono fun e w' h => ?_
  obtain ⟨v', M, rfl, hM, hO, hb⟩ := h
  obtain ⟨va, vc, rfl⟩ := own_form hO.row
  have hlen : M.length = b.nodes.length := by rw [← hM]; simp
  have hL := hO.lies (fun y hy => by
    have hy1 : y.1 ∈ b.nodes := by rw [← hM]; exact List.mem_map.2 ⟨y, hy, rfl⟩
    obtain ⟨j, hj⟩ := List.mem_iff_getElem?.1 hy1
    obtain ⟨_, _, _, _, _, h4⟩ := hl
    obtain ⟨_, _, _, _, _, _, hf⟩ := h4 j y.1 hj
    exact ⟨hf.lies.u64, hf.atl, hf.nxl, hf.nm, hf.c0, hf.c1⟩)
  rw [hM, hlen] at hL
  rw [hlen]
  exact ⟨va, vc, rfl, hL, hb⟩
end Go.Proofs.Ythohopbolalpcaa

