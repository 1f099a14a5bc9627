/-
  What the program's Kids and End, and the document's Kids, answer.
-/
import Derived.Test.YtjfkkabpfjcceabMany
namespace Go.Proofs.Ytjfkkabpfjcceab
open Go.RowKit
set_option linter.unusedVariables false
set_option maxRecDepth 100000
set_option linter.unusedSimpArgs false

theorem kids_bad (w : World) (v : Value) (L : List Cl) (hv : Lies w v L) (hE : check L ≠ 0) :
    Calls Try.prog 7 #[v] w fun e w' => e = .returned (.tuple #[.slice none 0 0, .int .i64 (check L : Nat)]) ∧ Below w.heap.size w w' := by
  have hck := check_any w v L hv
  generalize check L = e0 at hck hE ⊢
  have e1 : ((e0 : Int) == 0) = false := by simp only [beq_eq_false_iff_ne]; omega
  have e2 : ¬ (e0 : Int) = 0 := by omega
  go_enter Try.func7, Try.ntmps7
  go_wp2_with (go_at_call 15; refine hck.mono ?_; rintro e w1 ⟨rfl, hb1⟩)
  go_ret2
  exact ⟨rfl, hb1⟩

theorem trees_fine {f : Fo} (h : Fine f.flat) : ∀ l ∈ f.trees, Fine l := by
  intro l hl c hc
  exact h c (by rw [← Fo.trees_flatten]; exact List.mem_flatten.2 ⟨l, hl, hc⟩)

set_option maxHeartbeats 2000000 in
theorem kids_ok (w : World) (v : Value) (L : List Cl) (hv : Lies w v L) (hE : check L = 0) (nm : ByteArray) (kd : Fo) (hL : L = (Fo.cons nm kd .nil).flat) :
    Calls Try.prog 7 #[v] w fun e w' => ∃ v', e = .returned (.tuple #[v', .int .i64 0]) ∧ OwnsT w' w.heap.size v' kd.trees ∧ Below w.heap.size w w' := by
  have hck := check_any w v L hv
  obtain ⟨h64, hcE, _⟩ := check_zero hE
  rw [hE] at hck
  obtain ⟨i0, hi, hz0, hz1, hz2⟩ := info_parts info23
  have HV : Hid (Lies w v L) := hv
  have HNM : Hid (∀ c ∈ L, c.nm.size ≤ 281474976710656) := fun c hc => by have := (name_len (cellsErr_zero.1 hcE c hc)).2; omega
  have HCE : Hid (cellsErr L = 0) := hcE
  have hd1 : L.drop 1 = kd.flat := by rw [hL]; simp [Fo.flat]
  have hl1 : 1 ≤ L.length := by rw [hL]; simp [Fo.flat]
  have HD1 : Hid (L.drop 1 = kd.flat) := hd1
  obtain ⟨T, hT⟩ : ∃ T, kd.trees = T := ⟨_, rfl⟩
  have HT : Hid (kd.trees = T) := hT
  rw [hT]
  obtain ⟨a, cap, rfl, hc1, hc2, hF, HC⟩ := hv
  clear hE hcE hd1 hT hL HC
  go_enter Try.func7, Try.ntmps7
  go_wp2_with (go_at_call 15; refine hck.mono ?_; rintro e w1 ⟨rfl, hb1⟩)
  go_loopw [5, 6] (fun kv i wr => ∃ (done : List (List Cl)) (rest : Fo) (at_ : Nat), Hid (T = done ++ rest.trees) ∧ Hid (L.drop at_ = rest.flat) ∧ 1 ≤ at_ ∧ at_ ≤ L.length ∧ done.length < at_ ∧ OwnsT wr w.heap.size kv done ∧ Below w.heap.size w wr ∧ i = .int .i64 (at_ : Nat)) (fun _ i _ => L.length - (intOf i).toNat)
  case atStart => exact ⟨[], kd, 1, HT.out.symm, HD1, Nat.le_refl _, hl1, by simp, OwnsT.nil _ _, hb1, rfl⟩
  case round =>
    obtain ⟨done, rest, at_, HDN, HDR, ha1, ha2, hdl, hO, hbr, rfl⟩ := hrel
    cases rest with
    | nil =>
      have hend : ¬ at_ < L.length := by
        intro h
        have := congrArg List.length HDR.out
        simp [Fo.flat] at this
        omega
      have hei : ¬ (at_ : Int) < (L.length : Int) := by omega
      have HX : Hid (T = done) := by show _ = _; have := HDN.out; simpa [Fo.trees] using this
      obtain ⟨ka, kc, hkv, _⟩ := own_cells hO.choose_spec.1
      subst hkv
      go_wp2_with fail
      go_ret2
      exact ⟨_, rfl, by rw [HX.out]; exact hO, hbr⟩
    | cons nm' k' r' =>
      obtain ⟨p1, p2, p3⟩ := posN_at HDR.out ha2
      have hlt : (at_ : Int) < (L.length : Int) := by omega
      have hbe := behind_any wr _ L (HV.out.on hbr) h64 HCE.out at_
      rw [p1] at hbe
      have HP3 : Hid (L.drop (at_ + k'.size + 1) = r'.flat) := p3
      have hpart : L.drop at_ = (Fo.cons nm' k' .nil).flat ++ r'.flat := by rw [HDR.out, Fo.flat_cons]
      have hml : (Fo.cons nm' k' .nil).flat.length = k'.size + 1 := by rw [Fo.flat_length]; simp [Fo.size]
      obtain ⟨c, hc⟩ : ∃ c, L[at_]? = some c := ⟨L[at_], List.getElem?_eq_getElem (by omega)⟩
      obtain ⟨b, off, ha, hbl, d1, d2⟩ : ∃ b off, a = some ⟨b, off, none⟩ ∧ _ := by
        obtain ⟨a', cap', hv', _, _, _, HC'⟩ := HV.out
        cases hv'
        exact HC' at_ c hc
      subst ha
      have hfr0 := Lies.part (HV.out.on hbr) hpart (by rw [hml]; omega)
      rw [hml, show k'.size + 1 = at_ + k'.size + 1 - at_ by omega] at hfr0
      have hfr := fresh_any wr _ _ hfr0 (by rw [hml]; omega) (fun c hc => HNM.out c (List.mem_of_mem_drop (i := at_) (by rw [hpart]; simp [hc])))
      have HD2 : Hid (T = (done ++ [(Fo.cons nm' k' .nil).flat]) ++ r'.trees) := by show _ = _; rw [HDN.out]; simp [Fo.trees, Fo.flat]
      obtain ⟨M, hM⟩ : ∃ M, (Fo.cons nm' k' .nil).flat = M := ⟨_, rfl⟩
      rw [hM] at hfr HD2
      obtain ⟨vs, hrow, hel⟩ := hO
      have HEL : Hid (∀ (j : Nat) l, done[j]? = some l → ∃ x, vs[j]? = some x ∧ Owns wr w.heap.size x l) := hel
      obtain ⟨ka, kc, hkv, _⟩ := own_cells hrow
      subst hkv
      have hbrs := hbr.size
      clear hel hfr0 hpart hml hM HDN HDR p1 p3 d1 d2 hc
      go_wp2_with (first | (go_at_call 16; refine hbe.mono ?_; rintro e w2 ⟨rfl, rfl⟩) | (go_at_call 17; refine hfr.mono ?_; rintro e w3 ⟨x3, rfl, hx3, hb3⟩; obtain ⟨xa, xc, hxv, _⟩ := own_cells hx3; subst hxv; have hrow3 := own_below hrow hb3; have hx4 : Owns w3 w.heap.size (.slice xa M.length xc) M := own_base hx3 hbrs; have HBR3 := hbr.trans (hb3.mono hbrs); have HEL3 : Hid (∀ (j : Nat) l, done[j]? = some l → ∃ x, vs[j]? = some x ∧ Owns w3 w.heap.size x l) := (fun j l hj => by { obtain ⟨x, h1, h2⟩ := HEL.out j l hj; exact ⟨x, h1, own_below h2 hb3⟩ }); have hs3 := HBR3.size) | (at_builtin; refine wpList_append_own _ rfl _ _ 24 rfl w.heap.size 23 i0 (.slice none 0 0) 1 24 Try.underlying24 hi hz0 hz1 hz2 rfl (by decide) _ done.length vs rfl (hrow3.alloc _) ⟨w3.heap.size, 0, none⟩ 1 1 [.slice xa M.length xc] rfl rfl ?c1 ?c2 ?c3 ?c4 ?c5 ?_))
      case c1 => exact one_cell w3 _ _
      case c2 =>
        intro u hu; simp at hu; subst hu; rfl
      case c3 => unfold maxLen; omega
      case c4 => omega
      case c5 => simp; omega
      intro v' w4 hown' hgrow _
      have hOT := more_term hrow3 HEL3.out hx4 hown' hgrow
      have hb4 : Below w.heap.size w w4 := (HBR3.alloc hs3 _).grown hgrow (by simp; omega) (fun k hk => (hrow3.lt k hk).1)
      clear hown' hgrow hrow3 hx4 hx3 hb3 HEL3 HEL hrow HBR3 hbr
      go_wp2_with fail
      go_roundw
      case rel => exact ⟨done ++ [M], r', at_ + k'.size + 1, HD2, HP3, by omega, p2, by simp; omega, hOT, hb4, by go_num⟩
      case measure => simp [intOf]; omega

end Go.Proofs.Ytjfkkabpfjcceab
