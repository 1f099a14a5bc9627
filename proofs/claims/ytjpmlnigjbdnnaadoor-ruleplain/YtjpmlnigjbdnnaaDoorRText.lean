/-
  What the document's Depth, Text and Print answer.
-/
import Derived.Test.YtjpmlnigjbdnnaaDoorRKids
import Derived.Test.YtjpmlnigjbdnnaaDoorRVars
namespace Go.Proofs.YtjpmlnigjbdnnaaDoor
open Go.RowKit
set_option linter.unusedVariables false
set_option maxRecDepth 100000
set_option linter.unusedSimpArgs false

theorem trees_fo : ∀ (f : Fo) (l : List Cl), l ∈ f.trees → ∃ nm k, l = (Fo.cons nm k .nil).flat ∧ k.size + 1 ≤ f.size
  | .nil, l, h => by simp [Fo.trees] at h
  | .cons nm k r, l, h => by
    simp only [Fo.trees, List.mem_cons] at h
    rcases h with rfl | h
    · exact ⟨nm, k, by simp [Fo.flat], by simp only [Fo.size]; omega⟩
    · obtain ⟨nm', k', e, h'⟩ := trees_fo r l h
      exact ⟨nm', k', e, by simp only [Fo.size]; omega⟩
theorem tree_check {nm : ByteArray} {kd : Fo} (hE : check (Fo.cons nm kd .nil).flat = 0) {l : List Cl} (hl : l ∈ kd.trees) : check l = 0 := by
  obtain ⟨h1, h2, _⟩ := check_zero hE
  obtain ⟨nm', k', rfl, hk⟩ := trees_fo kd l hl
  rw [Fo.flat_length] at h1
  simp only [Fo.size] at h1
  refine check_of rfl (by simp only [Fo.size]; omega) (cellsErr_zero.2 fun c hc => cellsErr_zero.1 h2 c ?_)
  have : c ∈ kd.flat := by rw [← Fo.trees_flatten]; exact List.mem_flatten.2 ⟨_, hl, hc⟩
  simp [Fo.flat, this]
theorem drop_tree {K : List (List Cl)} {j : Nat} {nm : ByteArray} {k r : Fo} (h : K.drop j = (Fo.cons nm k r).trees) : K[j]? = some (Fo.cons nm k .nil).flat ∧ K.drop (j + 1) = r.trees := by
  have h1 : (K.drop j)[0]? = some (Fo.cons nm k .nil).flat := by rw [h]; simp [Fo.trees, Fo.flat]
  rw [List.getElem?_drop, Nat.add_zero] at h1
  refine ⟨h1, ?_⟩
  rw [← List.drop_drop, h]; rfl

set_option maxHeartbeats 2000000 in
theorem rText_any : ∀ (n : Nat) (w : World) (v : Value) (nm : ByteArray) (kd : Fo), kd.size < n → Lies w v (Fo.cons nm kd .nil).flat → check (Fo.cons nm kd .nil).flat = 0 →
    Calls Tryd.prog 56 #[v] w fun e w' => e = .returned (.string ⟨(Fo.cons nm kd .nil).text.toArray⟩) ∧ Below w.heap.size w w' := by
  intro n
  induction n with
  | zero => intro w v nm kd h; omega
  | succ n ih =>
    intro w v nm kd hn hv hE
    have hkids := rKids_ok w v _ hv hE nm kd rfl
    have hfn : ∀ l ∈ kd.trees, Fine l := trees_fine (fun c hc => by obtain ⟨_, _, _, _, _, hf, _⟩ := hv; exact hf c (by simp [Fo.flat, hc]))
    have HTF : Hid (∀ l ∈ kd.trees, Fine l) := hfn
    have HCT : Hid (∀ l ∈ kd.trees, check l = 0) := fun l hl => tree_check hE hl
    have hcells : ∀ c ∈ (Fo.cons nm kd .nil).flat, cellErr c = 0 := cellsErr_zero.1 (check_zero hE).2.1
    have htl := text_len (.cons nm kd .nil) hcells
    have hsz : kd.size ≤ 64 := by have := (check_zero hE).1; rw [Fo.flat_length] at this; simp [Fo.size] at this; omega
    have htl2 : (Fo.cons nm kd .nil).text.length ≤ 715 := by simp only [Fo.size] at htl; omega
    have HIH : Hid (∀ (w : World) (v : Value) (nm : ByteArray) (kd : Fo), kd.size < n → Lies w v (Fo.cons nm kd .nil).flat → check (Fo.cons nm kd .nil).flat = 0 →
      Calls Tryd.prog 56 #[v] w fun e w' => e = .returned (.string ⟨(Fo.cons nm kd .nil).text.toArray⟩) ∧ Below w.heap.size w w') := ih
    have HTS : Hid (∀ nm' k', (Fo.cons nm' k' .nil).flat ∈ kd.trees → k'.size < n) := fun nm' k' hm => by
      obtain ⟨nm2, k2, e, h2⟩ := trees_fo kd _ hm
      have h3 := congrArg List.length e
      rw [Fo.flat_length, Fo.flat_length] at h3
      simp only [Fo.size] at h3
      omega
    obtain ⟨b0, off0, ha0, z1⟩ : ∃ b off, (∃ cap, v = .slice (some ⟨b, off, none⟩) (Fo.cons nm kd .nil).flat.length cap) ∧ w.cell? ⟨b, off, none⟩ = some (.string nm) := by
      obtain ⟨a, cap, rfl, _, _, _, hc⟩ := hv
      obtain ⟨b, off, rfl, _, d1, _⟩ := hc 0 ⟨nm, (kd.len : Nat)⟩ (by simp [Fo.flat])
      exact ⟨b, off, ⟨cap, rfl⟩, by simpa using d1⟩
    obtain ⟨cap0, rfl⟩ := ha0
    have hlen0 : 0 < (Fo.cons nm kd .nil).flat.length := by simp [Fo.flat]
    obtain ⟨K, hK⟩ : ∃ K, kd.trees = K := ⟨_, rfl⟩
    have hkl : K.length ≤ 64 := by rw [← hK, Fo.trees_length]; have := Fo.len_le kd; omega
    have HKN : Hid (K.length = kd.len) := by show _ = _; rw [← hK, Fo.trees_length]
    have HTX : Hid ((Fo.cons nm kd .nil).text = nm.data.toList ++ wrapP kd.len kd.text) := Fo.text_one nm kd
    have HKD : Hid (kd.trees = K) := hK
    rw [hK] at hkids HTF HCT HTS
    obtain ⟨TX, hTX⟩ : ∃ TX, (Fo.cons nm kd .nil).text = TX := ⟨_, rfl⟩
    rw [hTX] at HTX htl2 ⊢
    clear ih hfn hv hE hK hn hTX htl hcells
    generalize (Fo.cons nm kd .nil).flat.length = len0 at hkids hlen0 ⊢
    have hl0 : (0 : Int) < (len0 : Int) := by omega
    by_cases h0 : kd.len = 0
    · have := Fo.len_zero h0
      subst this
      have hK0 : K = [] := by rw [← HKD.out]; rfl
      subst hK0
      have HX : Hid (TX = nm.data.toList) := by show _ = _; rw [HTX.out]; simp [wrapP, Fo.len]
      clear HTX HKD
      go_enter Tryd.func56, Tryd.ntmps56
      go_wp2_with (go_at_call 80; refine hkids.mono ?_; rintro e w2 ⟨v2, rfl, hO2, hb2⟩; obtain ⟨ka, kc, hkv, kc1, kc2, HKC0⟩ := hO2.lies HTF.out; subst hkv)
      go_loop [3, 14] (fun m i => m = .string nm ∧ i = .int .i64 0) (fun m i => 0)
      case atStart => exact ⟨rfl, rfl⟩
      case round =>
        obtain ⟨rfl, rfl⟩ := hrel
        go_wp2_with fail
        go_ret
        exact ⟨by rw [HX.out]; rfl, hb2⟩
    · have HX : Hid (nm.data.toList ++ still 0 kd ++ [41] = TX) := by show _ = _; rw [HTX.out]; unfold still wrapP; rw [if_pos rfl, if_neg h0]; simp
      have hk0 : 0 < K.length := by have := HKN.out; omega
      have hki0 : (0 : Int) < (K.length : Int) := by omega
      clear HTX h0
      go_enter Tryd.func56, Tryd.ntmps56
      go_wp2_with (go_at_call 80; refine hkids.mono ?_; rintro e w2 ⟨v2, rfl, hO2, hb2⟩; obtain ⟨ka, kc, hkv, kc1, kc2, HKC0⟩ := hO2.lies HTF.out; subst hkv)
      have HKH : Hid (LiesT w2 (.slice ka K.length kc) K) := ⟨ka, kc, rfl, kc1, kc2, HKC0⟩
      clear HKC0 hO2 hkids
      go_loopw [3, 14] (fun m i wr => ∃ (j : Nat) (rest : Fo) (s : ByteArray), Hid (K.drop j = rest.trees) ∧ j ≤ K.length ∧ Hid (s.data.toList ++ still j rest ++ [41] = TX) ∧ s.size ≤ 715 ∧ Below w2.heap.size w2 wr ∧ m = .string s ∧ i = .int .i64 (j : Nat)) (fun _ i _ => K.length - (intOf i).toNat)
      case atStart => exact ⟨0, kd, nm, by show _ = _; rw [← HKD.out]; rfl, Nat.zero_le _, HX, by have := congrArg List.length HX.out; simp only [List.length_append, size_list] at this; omega, Below.refl _ _, rfl, rfl⟩
      case round =>
        obtain ⟨j, rest, s, HDR, hj, HS, hss, hbr, rfl, rfl⟩ := hrel
        cases rest with
        | nil =>
          have hjq : ¬ j < K.length := by have := congrArg List.length HDR.out; simp [Fo.trees] at this; omega
          have hjn : ¬ (j : Int) < (K.length : Int) := by omega
          have HE : Hid (s ++ ⟨#[41]⟩ = ⟨TX.toArray⟩) := by
            show _ = _
            have h1 := HS.out
            unfold still at h1
            rw [if_neg (by omega)] at h1
            simp only [moreC, Fo.len, if_true, List.append_nil] at h1
            rw [← h1]
            apply ByteArray.ext
            apply Array.ext'
            simp [ByteArray.data_append]
          clear HS HDR
          go_wp2_with fail
          go_ret
          exact ⟨by rw [← HE.out]; rfl, hb2.trans (hbr.mono hb2.size)⟩
        | cons nm' k' r' =>
          obtain ⟨g1, g2⟩ := drop_tree HDR.out
          have hjl : j < K.length := (List.getElem?_eq_some_iff.1 g1).1
          have hji : (j : Int) < (K.length : Int) := by omega
          have hmem := List.mem_of_getElem? g1
          obtain ⟨b, off, x, ha, hbl, hcx, hlx⟩ : ∃ b off x, ka = some ⟨b, off, none⟩ ∧ b < wr.heap.size ∧ wr.cell? ⟨b, off + j, none⟩ = some x ∧ Lies wr x (Fo.cons nm' k' .nil).flat := by
            obtain ⟨a', cap', hv', _, _, HC'⟩ := HKH.out.on hbr
            cases hv'
            exact HC' j _ g1
          subst ha
          have hcall := HIH.out wr x nm' k' (HTS.out _ _ hmem) hlx (HCT.out _ hmem)
          have HD2 : Hid (K.drop (j + 1) = r'.trees) := g2
          obtain ⟨xa, xc, rfl, _⟩ := hlx
          have HS2 : Hid (s.data.toList ++ (if j = 0 then 40 else 44) :: ((Fo.cons nm' k' .nil).text ++ still (j + 1) r') ++ [41] = TX) := by
            show _ = _
            rw [← HS.out]
            unfold still
            rw [Fo.text_cons nm' k' r', if_neg (show ¬ j + 1 = 0 by omega)]
            by_cases hj0 : j = 0
            · rw [if_pos hj0, if_pos hj0]
            · rw [if_neg hj0, if_neg hj0]
              simp [moreC, Fo.len]
          generalize hT' : (Fo.cons nm' k' .nil).text = T' at hcall HS2
          have HLN : Hid (s.size + T'.length + 1 ≤ 715) := by
            show _ ≤ _
            have := congrArg List.length HS2.out
            simp only [List.length_append, List.length_cons, size_list] at this
            omega
          have hts : (⟨T'.toArray⟩ : ByteArray).size = T'.length := by simp [ByteArray.size]
          clear HS HDR g1 g2 hmem hT'
          have hn1 : s.size + 1 + (⟨T'.toArray⟩ : ByteArray).size ≤ 715 := by have := HLN.out; omega
          generalize hTB : (⟨T'.toArray⟩ : ByteArray) = TB at hcall hn1
          have HTB : Hid (TB.data.toList = T') := by show _ = _; rw [← hTB]
          clear hTB hts
          by_cases hj0 : j = 0
          · have j1 : ((j : Int) == 0) = true := by simp; omega
            have HN : Hid ((s ++ ⟨#[40]⟩ ++ TB).data.toList ++ still (j + 1) r' ++ [41] = TX) := by
              show _ = _
              rw [← HS2.out, ByteArray.data_append, ByteArray.data_append, if_pos hj0]
              simp [HTB.out]
            have hsn : (s ++ ⟨#[40]⟩ ++ TB).size ≤ 715 := by rw [ByteArray.size_append, ByteArray.size_append]; exact hn1
            clear HS2 hj0
            go_wp2_with (go_at_call 56; refine hcall.mono ?_; rintro e w3 ⟨rfl, hb3⟩; have hb4 := hbr.trans (hb3.mono hbr.size))
            go_roundw
            case rel => exact ⟨j + 1, r', s ++ ⟨#[40]⟩ ++ TB, HD2, by omega, HN, hsn, hb4, rfl, by go_num⟩
            case measure => simp [intOf]; omega
          · have j1 : ((j : Int) == 0) = false := by simp only [beq_eq_false_iff_ne]; omega
            have j2 : ¬ (j : Int) = 0 := by omega
            have HN : Hid ((s ++ ⟨#[44]⟩ ++ TB).data.toList ++ still (j + 1) r' ++ [41] = TX) := by
              show _ = _
              rw [← HS2.out, ByteArray.data_append, ByteArray.data_append, if_neg hj0]
              simp [HTB.out]
            have hsn : (s ++ ⟨#[44]⟩ ++ TB).size ≤ 715 := by rw [ByteArray.size_append, ByteArray.size_append]; exact hn1
            clear HS2 hj0
            go_wp2_with (go_at_call 56; refine hcall.mono ?_; rintro e w3 ⟨rfl, hb3⟩; have hb4 := hbr.trans (hb3.mono hbr.size))
            go_roundw
            case rel => exact ⟨j + 1, r', s ++ ⟨#[44]⟩ ++ TB, HD2, by omega, HN, hsn, hb4, rfl, by go_num⟩
            case measure => simp [intOf]; omega

end Go.Proofs.YtjpmlnigjbdnnaaDoor
