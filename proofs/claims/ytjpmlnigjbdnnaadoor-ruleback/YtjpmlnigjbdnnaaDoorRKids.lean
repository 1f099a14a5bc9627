/-
  What the document's Kids answers; and whether two lists of terms are alike.
-/
import Derived.Test.YtjpmlnigjbdnnaaDoorKids
import Derived.Test.YtjpmlnigjbdnnaaDoorWake
namespace Go.Proofs.YtjpmlnigjbdnnaaDoor
open Go.RowKit
set_option linter.unusedVariables false
set_option maxRecDepth 100000
set_option linter.unusedSimpArgs false

theorem posZ_at {L : List Cl} {i : Nat} {nm : ByteArray} {k r : Fo} (h : L.drop i = (Fo.cons nm k r).flat) (hi : i ≤ L.length) : posZ L i = ((i + k.size + 1 : Nat) : Int) := by
  have h1 : fo 1 (L.drop i) = some r.flat := by
    have := fo_flat (.cons nm k .nil) r.flat
    rw [h, Fo.flat_cons]; exact this
  have h2 := (posN_at h hi).1
  rw [posN_some h1] at h2
  rw [posZ_some h1, h2]

set_option maxHeartbeats 2000000 in
theorem rKids_ok (w : World) (v : Value) (L : List Cl) (hv : Lies w v L) (hE : check L = 0) (nm : ByteArray) (kd : Fo) (hL : L = (Fo.cons nm kd .nil).flat) :
    Calls Tryd.prog 80 #[v] w fun e w' => ∃ v', e = .returned v' ∧ OwnsT w' w.heap.size v' kd.trees ∧ Below w.heap.size w w' := by
  obtain ⟨h64, hcE, _⟩ := check_zero hE
  obtain ⟨i0, hi, hz0, hz1, hz2⟩ := info_parts info23
  have HV : Hid (Lies w v L) := hv
  have HCE : Hid (cellsErr L = 0) := hcE
  have hd1 : L.drop 1 = kd.flat := by rw [hL]; simp [Fo.flat]
  have hl1 : 1 ≤ L.length := by rw [hL]; simp [Fo.flat]
  have HD1 : Hid (L.drop 1 = kd.flat) := hd1
  obtain ⟨T, hT⟩ : ∃ T, kd.trees = T := ⟨_, rfl⟩
  have HT : Hid (kd.trees = T) := hT
  rw [hT]
  obtain ⟨a, cap, rfl, hc1, hc2, hF, HC⟩ := hv
  clear hE hcE hd1 hT hL HC
  go_enter Tryd.func80, Tryd.ntmps80
  go_wp2_with fail
  go_loopw [3, 4] (fun kv i wr => ∃ (done : List (List Cl)) (rest : Fo) (at_ : Nat), Hid (T = done ++ rest.trees) ∧ Hid (L.drop at_ = rest.flat) ∧ 1 ≤ at_ ∧ at_ ≤ L.length ∧ done.length < at_ ∧ OwnsT wr w.heap.size kv done ∧ Below w.heap.size w wr ∧ i = .int .i64 (at_ : Nat)) (fun _ i _ => L.length - (intOf i).toNat)
  case atStart => exact ⟨[], kd, 1, HT.out.symm, HD1, Nat.le_refl _, hl1, by simp, OwnsT.nil _ _, Below.refl _ _, rfl⟩
  case round =>
    obtain ⟨done, rest, at_, HDN, HDR, ha1, ha2, hdl, hO, hbr, rfl⟩ := hrel
    cases rest with
    | nil =>
      have hend : ¬ at_ < L.length := by
        intro h
        have := congrArg List.length HDR.out
        simp [Fo.flat] at this
        omega
      have hei : ¬ (at_ : Int) < (L.length : Int) := by omega
      have HX : Hid (T = done) := by show _ = _; have := HDN.out; simpa [Fo.trees] using this
      obtain ⟨ka, kc, hkv, _⟩ := own_cells hO.choose_spec.1
      subst hkv
      go_wp2_with fail
      go_ret
      exact ⟨_, rfl, by rw [HX.out]; exact hO, hbr⟩
    | cons nm' k' r' =>
      obtain ⟨p1, p2, p3⟩ := posN_at HDR.out ha2
      have hlt : (at_ : Int) < (L.length : Int) := by omega
      have hbe : ∀ w1, Below w.heap.size w w1 → _ := fun w1 hb => rBehind_any w1 _ L (HV.out.on hb) h64 HCE.out L.length at_ (by omega) ha2
      rw [posZ_at HDR.out ha2] at hbe
      have HP3 : Hid (L.drop (at_ + k'.size + 1) = r'.flat) := p3
      have hpart : L.drop at_ = (Fo.cons nm' k' .nil).flat ++ r'.flat := by rw [HDR.out, Fo.flat_cons]
      have hml : (Fo.cons nm' k' .nil).flat.length = k'.size + 1 := by rw [Fo.flat_length]; simp [Fo.size]
      obtain ⟨c, hc⟩ : ∃ c, L[at_]? = some c := ⟨L[at_], List.getElem?_eq_getElem (by omega)⟩
      obtain ⟨b, off, ha, hbl, d1, d2⟩ : ∃ b off, a = some ⟨b, off, none⟩ ∧ _ := by
        obtain ⟨a', cap', hv', _, _, _, HC'⟩ := HV.out
        cases hv'
        exact HC' at_ c hc
      subst ha
      have hfr0 := Lies.part (HV.out.on hbr) hpart (by rw [hml]; omega)
      rw [hml, show k'.size + 1 = at_ + k'.size + 1 - at_ by omega] at hfr0
      have hfr := copy_any wr _ _ hfr0 (by rw [hml]; omega)
      have HD2 : Hid (T = (done ++ [(Fo.cons nm' k' .nil).flat]) ++ r'.trees) := by show _ = _; rw [HDN.out]; simp [Fo.trees, Fo.flat]
      obtain ⟨M, hM⟩ : ∃ M, (Fo.cons nm' k' .nil).flat = M := ⟨_, rfl⟩
      rw [hM] at hfr HD2
      obtain ⟨vs, hrow, hel⟩ := hO
      have HEL : Hid (∀ (j : Nat) l, done[j]? = some l → ∃ x, vs[j]? = some x ∧ Owns wr w.heap.size x l) := hel
      obtain ⟨ka, kc, hkv, _⟩ := own_cells hrow
      subst hkv
      have hbrs := hbr.size
      clear hel hfr0 hpart hml hM HDN HDR p1 p3 d1 d2 hc
      go_wp2_with (first | (go_at_call 69; refine (hbe _ hbr).mono ?_; rintro e w2 ⟨rfl, rfl⟩) | (go_at_call 22; refine hfr.mono ?_; rintro e w3 ⟨x3, rfl, hx3, hb3⟩; obtain ⟨xa, xc, hxv, _⟩ := own_cells hx3; subst hxv; have hrow3 := own_below hrow hb3; have hx4 : Owns w3 w.heap.size (.slice xa M.length xc) M := own_base hx3 hbrs; have HBR3 := hbr.trans (hb3.mono hbrs); have HEL3 : Hid (∀ (j : Nat) l, done[j]? = some l → ∃ x, vs[j]? = some x ∧ Owns w3 w.heap.size x l) := (fun j l hj => by { obtain ⟨x, h1, h2⟩ := HEL.out j l hj; exact ⟨x, h1, own_below h2 hb3⟩ }); have hs3 := HBR3.size) | (at_builtin; refine wpList_append_own _ rfl _ _ 107 rfl w.heap.size 23 i0 (.slice none 0 0) 1 24 Tryd.underlying107 hi hz0 hz1 hz2 rfl (by decide) _ done.length vs rfl (hrow3.alloc _) ⟨w3.heap.size, 0, none⟩ 1 1 [.slice xa M.length xc] rfl rfl ?c1 ?c2 ?c3 ?c4 ?c5 ?_))
      case c1 => exact one_cell w3 _ _
      case c2 =>
        intro u hu; simp at hu; subst hu; rfl
      case c3 => unfold maxLen; omega
      case c4 => omega
      case c5 => simp; omega
      intro v' w4 hown' hgrow _
      have hOT := more_term hrow3 HEL3.out hx4 hown' hgrow
      have hb4 : Below w.heap.size w w4 := (HBR3.alloc hs3 _).grown hgrow (by simp; omega) (fun k hk => (hrow3.lt k hk).1)
      clear hown' hgrow hrow3 hx4 hx3 hb3 HEL3 HEL hrow HBR3 hbr
      go_wp2_with (go_at_call 69; refine (hbe _ hb4).mono ?_; rintro e w5 ⟨rfl, rfl⟩)
      go_roundw
      case rel => exact ⟨done ++ [M], r', at_ + k'.size + 1, HD2, HP3, by omega, p2, by simp; omega, hOT, hb4, by go_num⟩
      case measure => simp [intOf]; omega


end Go.Proofs.YtjpmlnigjbdnnaaDoor
