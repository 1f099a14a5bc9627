/-
  What the document's Make and CopyAll answer.
-/
import Derived.Test.YtjfkkabpfjcceabMake
namespace Go.Proofs.Ytjfkkabpfjcceab
open Go.RowKit
set_option linter.unusedVariables false
set_option maxRecDepth 100000
set_option linter.unusedSimpArgs false

set_option maxHeartbeats 2000000 in
theorem copyAll_any (w : World) (kv : Value) (K : List (List Cl)) (hK : LiesT w kv K) (hk : K.length * 24 ≤ 140737488355328) (hl : ∀ l ∈ K, l.length * 24 ≤ 140737488355328) :
    Calls Try.prog 6 #[kv] w fun e w' => ∃ v', e = .returned v' ∧ OwnsT w' w.heap.size v' K ∧ Below w.heap.size w w' := by
  obtain ⟨i0, hi, hz0, hz1, hz2⟩ := info_parts info23
  have HK : Hid (LiesT w kv K) := hK
  have HLL : Hid (∀ l ∈ K, l.length * 24 ≤ 140737488355328) := hl
  obtain ⟨ka, kc, rfl, hk1, hk2, _⟩ := hK
  clear hl
  go_enter Try.func6, Try.ntmps6
  go_wp2_with fail
  go_loopw [3, 7] (fun mv i wr => ∃ j : Nat, j ≤ K.length ∧ OwnsT wr w.heap.size mv (K.take j) ∧ Below w.heap.size w wr ∧ i = .int .i64 (j : Nat)) (fun _ i _ => K.length - (intOf i).toNat)
  case atStart => exact ⟨0, Nat.zero_le _, OwnsT.nil _ _, Below.refl _ _, rfl⟩
  case round =>
    obtain ⟨j, hj, hO, hbr, rfl⟩ := hrel
    have hbs := hbr.size
    obtain ⟨vs, hrow, hel⟩ := hO
    obtain ⟨ma, mc, hmv, _⟩ := own_cells hrow
    subst hmv
    by_cases hlt : j < K.length
    · obtain ⟨l, hl⟩ : ∃ l, K[j]? = some l := ⟨K[j], List.getElem?_eq_getElem hlt⟩
      obtain ⟨b, off, x, ha, hbl, hcx, hlx⟩ : ∃ b off x, ka = some ⟨b, off, none⟩ ∧ b < wr.heap.size ∧ wr.cell? ⟨b, off + j, none⟩ = some x ∧ Lies wr x l := by
        obtain ⟨a', cap', hv', _, _, HC'⟩ := HK.out.on hbr
        cases hv'
        exact HC' j _ hl
      subst ha
      have hji : (j : Int) < (K.length : Int) := by omega
      have hcp := copy_any wr x l hlx (HLL.out l (List.mem_of_getElem? hl))
      obtain ⟨xa, xc, rfl, _⟩ := hlx
      have HT2 : Hid (K.take (j + 1) = K.take j ++ [l]) := by show _ = _; rw [List.take_add_one, hl]; rfl
      have htl : (K.take j).length = j := by rw [List.length_take]; omega
      have HEL : Hid (∀ (i : Nat) m, (K.take j)[i]? = some m → ∃ x, vs[i]? = some x ∧ Owns wr w.heap.size x m) := hel
      obtain ⟨D, hD⟩ : ∃ D, K.take j = D := ⟨_, rfl⟩
      rw [hD] at HEL hrow htl HT2 ⊢
      have hdl : D.length + 1 ≤ K.length := by omega
      clear hel hl hD htl
      go_wp2_with (first | (go_at_call 5; refine hcp.mono ?_; rintro e w3 ⟨x3, rfl, hx3, hb3⟩; obtain ⟨ya, yc, hyv, _⟩ := own_cells hx3; subst hyv; have hrow3 := own_below hrow hb3; have hx4 : Owns w3 w.heap.size (.slice ya l.length yc) l := own_base hx3 hbs; have HBR3 := hbr.trans (hb3.mono hbs); have HEL3 : Hid (∀ (i : Nat) m, D[i]? = some m → ∃ x, vs[i]? = some x ∧ Owns w3 w.heap.size x m) := (fun i m hi => by { obtain ⟨x, h1, h2⟩ := HEL.out i m hi; exact ⟨x, h1, own_below h2 hb3⟩ }); have hs3 := HBR3.size) | (at_builtin; refine wpList_append_own _ rfl _ _ 24 rfl w.heap.size 23 i0 (.slice none 0 0) 1 24 Try.underlying24 hi hz0 hz1 hz2 rfl (by decide) _ D.length vs rfl (hrow3.alloc _) ⟨w3.heap.size, 0, none⟩ 1 1 [.slice ya l.length yc] rfl rfl ?c1 ?c2 ?c3 ?c4 ?c5 ?_))
      case c1 => exact one_cell w3 _ _
      case c2 => intro u hu; simp at hu; subst hu; rfl
      case c3 => unfold maxLen; omega
      case c4 => omega
      case c5 => simp; omega
      intro v' w4 hown' hgrow _
      have hOT := more_term hrow3 HEL3.out hx4 hown' hgrow
      have hb4 : Below w.heap.size w w4 := (HBR3.alloc hs3 _).grown hgrow (by simp; omega) (fun k hk => (hrow3.lt k hk).1)
      clear hown' hgrow hrow3 hx4 hx3 hb3 HEL3 HEL hrow HBR3 hbr
      go_wp2_with fail
      go_roundw
      case rel => exact ⟨j + 1, by omega, by rw [HT2.out]; exact hOT, hb4, by go_num⟩
      case measure => simp [intOf]; omega
    · obtain rfl : j = K.length := by omega
      have hfin : OwnsT wr w.heap.size (.slice ma (K.take K.length).length mc) (K.take K.length) := ⟨vs, hrow, hel⟩
      rw [List.take_length] at hfin
      have HFIN : Hid (OwnsT wr w.heap.size (.slice ma K.length mc) K) := hfin
      clear hfin hrow hel
      rw [List.take_length]
      go_wp2_with fail
      go_ret
      exact ⟨.slice ma K.length mc, rfl, HFIN.out, hbr⟩

/-- a right term is its first name above its arguments -/
theorem make_back {nm : ByteArray} {kd : Fo} (hE : check (Fo.cons nm kd .nil).flat = 0) (hc : ∀ l ∈ kd.trees, check l = 0) : makeE nm kd.trees = 0 ∧ mkT nm kd.trees kd.trees.length = (Fo.cons nm kd .nil).flat := by
  have h64 := (check_zero hE).1
  have hfl : (Fo.cons nm kd .nil).flat = ⟨nm, (kd.trees.length : Nat)⟩ :: kd.trees.flatten := by rw [Fo.trees_flatten, Fo.trees_length]; simp [Fo.flat]
  have gen : ∀ (R : List (List Cl)) (acc : List Cl), acc.length + R.flatten.length ≤ 64 → R.foldl mkStep acc = acc ++ R.flatten := by
    intro R
    induction R with
    | nil => intro acc _; simp
    | cons l r ih =>
      intro acc h
      simp only [List.flatten_cons, List.length_append] at h
      have e : mkStep acc l = acc ++ l := by unfold mkStep; rw [if_pos (by omega)]
      rw [List.foldl_cons, e, ih _ (by rw [List.length_append]; omega), List.flatten_cons, List.append_assoc]
  have hm : mkT nm kd.trees kd.trees.length = (Fo.cons nm kd .nil).flat := by
    rw [hfl] at h64 ⊢
    unfold mkT
    rw [List.take_length, gen _ _ (by simp only [List.length_cons, List.length_nil] at h64 ⊢; omega)]
    rfl
  refine ⟨?_, hm⟩
  unfold makeE
  rw [if_pos (kidsErr_all hc), hm, hE]

end Go.Proofs.Ytjfkkabpfjcceab
