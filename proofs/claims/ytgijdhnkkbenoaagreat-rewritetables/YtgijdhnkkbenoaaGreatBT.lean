/-
  What the document's Fits answers of a normal form.
-/
import Derived.Test.YtgijdhnkkbenoaaGreatBQ
import Derived.Test.YtgijdhnkkbenoaaGreatBL
import Derived.Test.YtgijdhnkkbenoaaGreatBM
import Derived.Deep.LoopGhost
namespace Go.Proofs.YtgijdhnkkbenoaaGreat
open Go.RowKit
set_option linter.unusedVariables false
set_option linter.unusedSimpArgs false
set_option maxRecDepth 100000

theorem cal_nil : ∀ f : Fo, Cal [] f
  | .nil => trivial
  | .cons nm k r => ⟨fun h => absurd rfl h, cal_nil k, cal_nil r⟩
theorem start_right {T : List Cl} (hg : grd T = true) : stR 0 (todo [] T).reverse [] [] = true := by
  unfold stR
  obtain ⟨nm, kd, e⟩ := check_term (grd_iff.1 hg).1
  have h1 : (todo [] T).reverse.all opR = true := List.all_eq_true.2 fun o ho => opR_iff.2 (todo_grd hg o (List.mem_reverse.1 ho))
  have h2 : cnt (todo [] T).reverse.reverse ([] : List (List Cl)).length = some 1 := by
    rw [List.reverse_reverse, e, todo_flat]
    have := cnt_todos [] (.cons nm kd .nil) 0 (cal_nil _)
    simpa [Fo.len] using this
  rw [h1, decide_eq_true h2]
  rfl
theorem startP_grd {T : List Cl} (hg : grd T = true) : startP T = (⟨(todo [] T).reverse, [], 0, []⟩, 0) := by
  unfold startP
  rw [if_pos (grd_iff.1 hg).1, if_pos hg]
section
variable {rs : List Rl} {T : List Cl} {fu F : Int}
theorem run_start (hc : chkRs rs = 0) (hg : grd T = true) (hl : 8 * fu.toNat ≤ 2513169400000) : Rt ⟨todo [] T, [], 0, [], fu⟩ ∧ runP rs noTb (startP T).1 fu = ((fin rs noTb ⟨todo [] T, [], 0, [], fu⟩).1.stt, (fin rs noTb ⟨todo [] T, [], 0, [], fu⟩).2) := by
  have hs := start_right hg
  have h64 := (check_zero (grd_iff.1 hg).1).1
  have e : Stt.cf ⟨(todo [] T).reverse, [], 0, []⟩ fu = ⟨todo [] T, [], 0, [], fu⟩ := by simp [Stt.cf]
  refine ⟨?_, ?_⟩
  · rw [← e]
    exact rt_of hs (by simp only [List.length_reverse, todo_len]; omega)
  · rw [startP_grd hg]
    unfold runP
    rw [if_pos hc, if_pos hs, e]
/-- a term that comes to a value -/
theorem norm_ok (hc : chkRs rs = 0) (hg : grd T = true) (hl : 8 * fu.toNat ≤ 2513169400000) (hF : F = max fu 0) {V : List Cl} {g : Int} (h : EvS rs (todo [] T) F [V] g) : normP rs T fu = (V, F - g, 0) ∧ ∃ S', runP rs noTb (startP T).1 fu = (⟨[], [V], F - g, S'⟩, 0) := by
  obtain ⟨hrt, hrun⟩ := run_start (fu := fu) hc hg hl
  obtain ⟨k, n', S', h1⟩ := h [] [] 0 []
  rw [List.append_nil, List.nil_append] at h1
  obtain ⟨f1, f2⟩ := h.fuel
  have hst := ns_steps k h1 (Int.le_refl _) (by simp only; omega)
  simp only at hst
  have h2 := ns_sh (fu - F) k h1 (by simp only; omega)
  have e : Cf.sh (fu - F) ⟨todo [] T, [], 0, [], F⟩ = ⟨todo [] T, [], 0, [], fu⟩ := by simp only [Cf.sh]; congr 1; omega
  rw [e] at h2
  obtain ⟨q1, _⟩ := fin_ns (RsOk.of hc) noTb_ok k hrt h2
  have q2 : fin rs noTb (Cf.sh (fu - F) ⟨[], [V], n', S', g⟩) = (Cf.sh (fu - F) ⟨[], [V], n', S', g⟩, 0) := fin_halt rfl
  rw [q1, q2] at hrun
  have hn : n' = F - g := by omega
  have hrun2 : runP rs noTb (startP T).1 fu = (⟨[], [V], F - g, S'⟩, 0) := by rw [hrun, ← hn]; rfl
  refine ⟨?_, S', hrun2⟩
  unfold normP
  rw [if_pos hc, startP_grd hg, if_pos rfl]
  rw [startP_grd hg] at hrun2
  rw [hrun2]
  rfl
theorem norm_err (hc : chkRs rs = 0) (hg : grd T = true) (hl : 8 * fu.toNat ≤ 2513169400000) (hF : F = max fu 0) {k : Nat} (h : EvE rs (todo [] T) F k) : normP rs T fu = ([], 0, k) := by
  obtain ⟨hrt, hrun⟩ := run_start (fu := fu) hc hg hl
  obtain ⟨m, c, h1, h3, h4, h5⟩ := h [] [] 0 []
  rw [List.append_nil] at h1
  obtain ⟨f1, f2⟩ := ns_fuel m h1
  simp only at f1 f2
  have h2 := ns_sh (fu - F) m h1 (by simp only; omega)
  have e : Cf.sh (fu - F) ⟨todo [] T, [], 0, [], F⟩ = ⟨todo [] T, [], 0, [], fu⟩ := by simp only [Cf.sh]; congr 1; omega
  rw [e] at h2
  obtain ⟨q1, _⟩ := fin_ns (RsOk.of hc) noTb_ok m hrt h2
  obtain ⟨q3, q4⟩ := halt_sh h3
  have q2 := fin_halt (q4 (fu - F) (fun he => by
    rcases q3 with ⟨h, _⟩ | h | ⟨_, h⟩
    · omega
    · omega
    · omega))
  rw [q1, q2] at hrun
  unfold normP
  rw [if_pos hc, startP_grd hg, if_pos rfl]
  rw [startP_grd hg] at hrun
  rw [hrun]
  simp only
  rw [if_neg h5]
end
/-- what becomes of a term -/
def Res (rs : List Rl) (h : Fo) (f : Int) : Prop := (∃ V g, InnOk rs h f [V] g ∧ NFt rs V ∧ 0 ≤ g ∧ g ≤ f) ∨ ∃ k, k ≠ 0 ∧ InnErr rs h f k
theorem Res.tr {rs : List Rl} {h' h : Fo} {f' f : Int} (x : Res rs h' f') (t : Tr rs h' f' h f) (hf : f' ≤ f) : Res rs h f := by
  rcases x with ⟨V, g, a, b, c, d⟩ | ⟨k, a, b⟩
  · exact .inl ⟨V, g, t.1 V g a, b, c, by omega⟩
  · exact .inr ⟨k, a, t.2 k b⟩
theorem kids_total {rs : List Rl} {kd : Fo} {f : Int} (h0 : 0 ≤ f) (ih : ∀ (j : Nat) nm k g, kd.trees[j]? = some (Fo.cons nm k .nil).flat → 0 ≤ g → g ≤ f → Res rs (.cons nm k .nil) g) : ∀ j, j ≤ kd.len → (∃ Vs g, Vs.length = j ∧ (∀ v ∈ Vs, NFt rs v) ∧ KidsOk rs kd j f Vs g ∧ 0 ≤ g ∧ g ≤ f) ∨ ∃ k, k ≠ 0 ∧ ∀ nm0, RootErr rs nm0 kd f k
  | 0, _ => .inl ⟨[], f, rfl, (fun v hv => by cases hv), KidsOk.zero rs kd f, h0, Int.le_refl _⟩
  | j + 1, hj => by
    rcases kids_total h0 ih j (by omega) with ⟨Vs, g, a, b, c, d, e⟩ | ⟨k, a, b⟩
    · obtain ⟨l, hl⟩ : ∃ l, kd.trees[j]? = some l := ⟨kd.trees[j]'(by rw [Fo.trees_length]; omega), List.getElem?_eq_getElem (by rw [Fo.trees_length]; omega)⟩
      obtain ⟨nm, k, el, _⟩ := trees_get kd l (List.mem_of_getElem? hl)
      subst el
      rcases ih j nm k g hl d e with ⟨V, g', x, y, z, u⟩ | ⟨q, x, y⟩
      · refine .inl ⟨Vs ++ [V], g', by simp [a], fun v hv => ?_, c.more hl x, z, by omega⟩
        rcases List.mem_append.1 hv with hv | hv
        · exact b v hv
        · simp at hv; subst hv; exact y
      · exact .inr ⟨q, x, fun nm0 => c.err hl y⟩
    · exact .inr ⟨k, a, b⟩
theorem res_step {rs : List Rl} (hok : RsOk rs) {nm : ByteArray} {kd : Fo} {f : Int} (h0 : 0 ≤ f) (hG : GrdF (.cons nm kd .nil)) (ih : ∀ (j : Nat) nm k g, kd.trees[j]? = some (Fo.cons nm k .nil).flat → 0 ≤ g → g ≤ f → Res rs (.cons nm k .nil) g) (ihf : ∀ nm2 kd2 g, 0 ≤ g → g < f → GrdF (.cons nm2 kd2 .nil) → kd2.size ≤ 600 → Res rs (.cons nm2 kd2 .nil) g) : Res rs (.cons nm kd .nil) f := by
  have hc0 := hG ⟨nm, (kd.len : Nat)⟩ (by simp [Fo.flat])
  have hkd : kind nm.data.toList = 1 := sym_kind (c := ⟨nm, (kd.len : Nat)⟩) hc0.1 hc0.2
  have hl4 : kd.len ≤ 4 := by have := (cellErr_ar hc0.1).2; simp only at this; omega
  rcases kids_total h0 ih kd.len (Nat.le_refl _) with ⟨Vs, g, a, b, c, d, e⟩ | ⟨k, a, b⟩
  · by_cases hb : 64 < ((⟨nm, (kd.len : Nat)⟩ : Cl) :: Vs.flatten).length
    · exact .inr ⟨6, by decide, round_big c a hb⟩
    · have hb' : ((⟨nm, (kd.len : Nat)⟩ : Cl) :: Vs.flatten).length ≤ 64 := by omega
      cases hF : firstI rs ((⟨nm, (kd.len : Nat)⟩ : Cl) :: Vs.flatten) with
      | none =>
        obtain ⟨x, y⟩ := round_norm c a b hkd hl4 hb' hF
        exact .inl ⟨_, g, y, x, d, e⟩
      | some p =>
        obtain ⟨i, bs⟩ := p
        by_cases hg : g ≤ 0
        · exact .inr ⟨14, by decide, round_dry hok c a b hkd hl4 hb' hF hg⟩
        · obtain ⟨r, hr, _⟩ := firstI_some hF
          obtain ⟨_, _, _, nm2, kd2, _, x, y, z⟩ := round_next hok c a b hkd hl4 hb' hF (by omega) hr
          exact (ihf nm2 kd2 (g - 1) (by omega) (by omega) x y).tr z (by omega)
  · exact .inr ⟨k, a, (b nm).err⟩
theorem res_all {rs : List Rl} (hok : RsOk rs) : ∀ (F n : Nat) (nm : ByteArray) (kd : Fo) (f : Int), kd.size < n → kd.size ≤ 600 → 0 ≤ f → f ≤ F → GrdF (.cons nm kd .nil) → Res rs (.cons nm kd .nil) f := by
  intro F
  induction F using Nat.strongRecOn with
  | _ F ihF =>
    intro n
    induction n with
    | zero => intro nm kd f h; omega
    | succ n ihn =>
      intro nm kd f hn h6 h0 hF hG
      refine res_step hok h0 hG (fun j nm' k' g hj hg0 hgf => ?_) (fun nm2 kd2 g hg0 hgf hG2 hs2 => ?_)
      · obtain ⟨n1, k1, e, hG1, hs1⟩ := trees_grd hG.parts.2.1 _ (List.mem_of_getElem? hj)
        obtain ⟨rfl, rfl⟩ := one_inj e
        exact ihn _ _ g (by omega) (by omega) hg0 (by omega) hG1
      · exact ihF (F - 1) (by omega) (kd2.size + 1) nm2 kd2 g (by omega) hs2 hg0 (by omega) hG2
/-- what Normal answers of a ground term -/
theorem norm_total {rs : List Rl} (hc : chkRs rs = 0) {T : List Cl} (hg : grd T = true) {fu : Int} (hl : 8 * fu.toNat ≤ 2513169400000) : (∃ V g, NFt rs V ∧ 0 ≤ g ∧ g ≤ max fu 0 ∧ normP rs T fu = (V, max fu 0 - g, 0) ∧ EvS rs (todo [] T) (max fu 0) [V] g) ∨ ∃ k, k ≠ 0 ∧ normP rs T fu = ([], 0, k) := by
  obtain ⟨nm, kd, e⟩ := check_term (grd_iff.1 hg).1
  have h64 := (check_zero (grd_iff.1 hg).1).1
  have hgd := hg
  rw [e] at hgd h64
  rw [Fo.flat_length] at h64
  simp only [Fo.size] at h64
  rcases res_all (RsOk.of hc) (max fu 0).toNat (kd.size + 1) nm kd (max fu 0) (by omega) (by omega) (by omega) (by omega) (GrdF.of hgd) with ⟨V, g, a, b, c, d⟩ | ⟨k, a, b⟩
  · have h := a [] _ (rep_self rs _)
    rw [← todo_flat, ← e] at h
    exact .inl ⟨V, g, b, c, d, (norm_ok hc hg hl rfl h).1, h⟩
  · have h := b [] _ (rep_self rs _)
    rw [← todo_flat, ← e] at h
    exact .inr ⟨k, a, norm_err hc hg hl rfl h⟩

theorem fine_grd {h : Fo} (hg : GrdF h) : Fine h.flat := fun c hc => by
  have h1 := (hg c hc).1
  have h2 := (kind_one (sym_kind h1 (hg c hc).2)).1
  have h3 := cellErr_ar h1
  have h4 : c.nm.size ≤ 8 := h2
  omega
theorem fo_lt {n j : Nat} {Vs : List (List Cl)} (h : ∀ v ∈ Vs, v.length ≤ 64) (hl : Vs.length ≤ 4) : Vs.flatten.length ≤ 256 := by
  have := flat_lim Vs h
  omega

/-- what Inner answers of the arguments, with so much fuel -/
def KidI (rs : List Rl) (w : World) (rv : Value) (kd : Fo) (f : Int) : Prop := ∀ (w1 : World) (x : Value) (l : List Cl) (j : Nat) (g : Int), kd.trees[j]? = some l → Below w.heap.size w w1 → Lies w1 x l → 0 ≤ g → g ≤ f → ∃ nm' k', l = (Fo.cons nm' k' .nil).flat ∧ Calls Tryz.prog 24 #[rv, x, .int .i64 g] w1 fun e w' => InnPost rs (.cons nm' k' .nil) g w1.heap.size e w' ∧ Below w1.heap.size w1 w'
theorem owns_src {w : World} {B : Nat} {v : Value} {V : List Cl} (h : Owns w B v V) (hV : V ≠ []) : ∃ ad c, v = .slice (some ad) V.length c ∧ ∀ j u, (flatC V)[j]? = some u → w.cell? (ad.add j) = some u := by
  obtain ⟨a, c, hv, _, _, hc⟩ := own_cells h
  cases V with
  | nil => exact absurd rfl hV
  | cons c0 r =>
    obtain ⟨g, ha, _⟩ := hc 0 (.string c0.nm) rfl
    subst ha
    refine ⟨⟨g, 0, none⟩, c, hv, fun j u hj => ?_⟩
    obtain ⟨g', e, _, _, h1⟩ := hc j u hj
    cases e
    rw [add_plain, Nat.zero_add]
    exact h1
theorem nft_ne {rs : List Rl} {V : List Cl} (h : NFt rs V) : V ≠ [] := by
  obtain ⟨c, L, e⟩ := check_cons (grd_iff.1 h.1).1
  rw [e]
  simp

set_option maxHeartbeats 8000000 in
theorem inner_step (rs : List Rl) (hok : RsOk rs) (F n : Nat) (hF : F ≤ 1000000) (ihF : ∀ F' n', F' < F → InnAt rs F' n') (ihn : InnAt rs F n) : InnAt rs F (n + 1) := by
  intro w rv tv nm kd f hr hn h600 hf0 hfF hT hG
  obtain ⟨i5, hi5, hw0, hw1, hw2⟩ := info_parts info59
  have HR := hid hr
  have HOK := hid hok
  obtain ⟨ra, rc, hrv, _⟩ := id hr
  subst hrv
  obtain ⟨ta, tc, htv, _⟩ := id hT
  subst htv
  have HKI : Hid (KidI rs w (.slice ra rs.length rc) kd f) := fun w1 x l j g hj hb hx h0 h1 => by
    obtain ⟨nm', k', e, hg', hs'⟩ := trees_grd hG.parts.2.1 l (List.mem_of_getElem? hj)
    subst e
    exact ⟨nm', k', rfl, ihn w1 _ x nm' k' g (hr.on hb) (by omega) (by omega) h0 (by omega) hx hg'⟩
  have HLT : Hid (∀ (f' : Int) (kd' : Fo), f' < f → GrdF kd' → kd'.size ≤ 600 → KidI rs w (.slice ra rs.length rc) kd' f') := fun f' kd' hff hg0 hs0 w1 x l j g hj hb hx h0 h1 => by
    obtain ⟨nm', k', e, hg', hs'⟩ := trees_grd hg0 l (List.mem_of_getElem? hj)
    subst e
    exact ⟨nm', k', rfl, ihF (F - 1) (k'.size + 1) (by omega) w1 _ x nm' k' g (hr.on hb) (by omega) (by omega) h0 (by omega) hx hg'⟩
  have HT := hid hT
  have HG := hid hG
  have hfm : f ≤ 1000000 := by omega
  clear hr hok ihF ihn hT hG
  go_enter Tryz.func24, Tryz.ntmps24
  go_wp2_with fail
  go_loopg [1, 2] f.toNat (fun gk tv fv wr => ∃ (nm' : ByteArray) (kd' : Fo) (f' : Int), f'.toNat ≤ gk ∧ 0 ≤ f' ∧ f' ≤ f ∧ fv = .int .i64 f' ∧ kd'.size ≤ 600 ∧ Hid (Lies wr tv (Fo.cons nm' kd' .nil).flat) ∧ Hid (GrdF (.cons nm' kd' .nil)) ∧ Hid (KidI rs w (.slice ra rs.length rc) kd' f') ∧ Hid (Tr rs (.cons nm' kd' .nil) f' (.cons nm kd .nil) f) ∧ Hid (Below w.heap.size w wr))
  case atStart => exact ⟨nm, kd, f, Nat.le_refl _, hf0, Int.le_refl _, rfl, h600, HT, HG, HKI, Tr.refl _ _ _, Below.refl _ _⟩
  case round =>
    clear HT HG HKI
    obtain ⟨nm1, kd1, f1, hgk, hf1, hff, rfl, hs1, HT, HG, HKI, HTR, HB⟩ := hrel
    have hc0 := HG.out ⟨nm1, (kd1.len : Nat)⟩ (by simp [Fo.flat])
    have HKD : Hid (kind nm1.data.toList = 1) := sym_kind (c := ⟨nm1, (kd1.len : Nat)⟩) hc0.1 hc0.2
    have hl4 : kd1.len ≤ 4 := by have := (cellErr_ar hc0.1).2; simp only at this; omega
    have hfl : (Fo.cons nm1 kd1 .nil).flat.length = kd1.size + 1 := by rw [Fo.flat_length]; simp [Fo.size]
    have hkids := rKidsW_ok wr _ _ HT.out (by rw [hfl]; omega) (cellsErr_zero.2 fun c hc => (HG.out c hc).1) nm1 kd1 rfl
    have HFT : Hid (∀ l ∈ kd1.trees, Fine l) := fun l hl => by
      obtain ⟨a1, a2, e, a3, _⟩ := trees_grd HG.out.parts.2.1 l hl
      rw [e]
      exact fine_grd a3
    obtain ⟨ta1, tc1, htv1, _, _, _, hcells⟩ := id HT.out
    obtain ⟨gt, offt, hta, hgt, t0, t1⟩ := hcells 0 ⟨nm1, (kd1.len : Nat)⟩ (by simp [Fo.flat])
    subst hta
    simp only [Nat.zero_mul, Nat.add_zero] at t0 t1
    rw [hfl] at htv1
    subst htv1
    have hpos : (0 : Int) < (kd1.size : Int) + 1 := by omega
    have hbs := HB.out.size
    clear hcells hc0 hfl
    go_wp2_with (go_at_call 52; refine hkids.mono ?_; clear hkids; rintro e w1 ⟨kv, rfl, hok1, hb1⟩; have HK1 := hid (hok1.lies HFT.out); obtain ⟨ka, kc, hkv, _⟩ := hok1.form; rw [Fo.trees_length] at hkv; subst hkv; have HB1 := hid (HB.out.trans (hb1.mono hbs)); have HRT1 := hid (HT.out.on hb1); have s0 := (hb1.cell (p := ⟨gt, offt, none⟩) hgt).trans t0; have s1 := (hb1.cell (p := ⟨gt, offt + 1, none⟩) hgt).trans t1; have HND := hid (own_lit w1 [⟨nm1, (kd1.len : Nat)⟩] (by unfold maxLen; simp)); clear hok1 hb1 t0 t1)
    have HBN : Hid (Below w1.heap.size w1 (w1.alloc (.cells #[.string nm1, .int .i64 (kd1.len : Nat)] 54))) := bel_al _ _
    go_loopw [2, 10, 26] (fun fv nv i w2 => ∃ (j : Nat) (Vs : List (List Cl)) (g : Int), j ≤ kd1.len ∧ 0 ≤ g ∧ g ≤ f1 ∧ fv = .int .i64 g ∧ i = .int .i64 (j : Nat) ∧ Hid (Vs.length = j ∧ (∀ v ∈ Vs, NFt rs v)) ∧ Hid (KidsOk rs kd1 j f1 Vs g) ∧ Hid (Owns w2 w1.heap.size nv (⟨nm1, (kd1.len : Nat)⟩ :: Vs.flatten)) ∧ Hid (Below w1.heap.size w1 w2)) (fun _ _ i _ => kd1.len - (intOf i).toNat)
    case atStart => exact ⟨0, [], f1, Nat.zero_le _, hf1, Int.le_refl _, rfl, rfl, ⟨rfl, fun v hv => by cases hv⟩, KidsOk.zero rs kd1 f1, HND, HBN⟩
    case round =>
      clear HND HBN
      revert wr
      intro wq hrel
      obtain ⟨j, Vs, g, hj, hg0, hgf, rfl, rfl, HVS, HKO, HNV, HBQ⟩ := hrel
      have hbq := HBQ.out.size
      have HBW := hid (HB1.out.trans (HBQ.out.mono HB1.out.size))
      have hfl64 : ∀ v ∈ Vs, v.length ≤ 64 := fun v hv => (HVS.out.2 v hv).size
      have hvl4 : Vs.length ≤ 4 := by have := HVS.out.1; omega
      have hfll := flat_lim Vs hfl64
      obtain ⟨D, hD⟩ : ∃ D, (⟨nm1, (kd1.len : Nat)⟩ : Cl) :: Vs.flatten = D := ⟨_, rfl⟩
      have HDD : Hid ((⟨nm1, (kd1.len : Nat)⟩ : Cl) :: Vs.flatten = D) := hD
      have hDl : D.length ≤ 300 := by rw [← hD]; simp only [List.length_cons]; omega
      rw [hD] at HNV
      obtain ⟨da, dc, hdv, _⟩ := own_cells HNV.out
      have hdv2 : _ = Value.slice da D.length dc := hdv
      subst hdv2
      clear hD hfl64 hvl4 hfll
      by_cases hlt : j < kd1.len
      · obtain ⟨l, hl⟩ : ∃ l, kd1.trees[j]? = some l := ⟨kd1.trees[j]'(by rw [Fo.trees_length]; exact hlt), List.getElem?_eq_getElem (by rw [Fo.trees_length]; exact hlt)⟩
        have hji : (j : Int) < (kd1.len : Int) := by omega
        obtain ⟨gk2, offk, x, hka, hgk2, k0, hlx⟩ := (HK1.out.on HBQ.out).at hl
        subst hka
        obtain ⟨nm2, k2, e, hcall⟩ := HKI.out wq x l j g hl HBW.out hlx hg0 hgf
        subst e
        obtain ⟨xa, xc, hxv, _⟩ := id hlx
        subst hxv
        have HL := hid hl
        clear hl hlx
        go_wp2_with fail
        refine hcall.mono ?_
        clear hcall
        rintro e w3 ⟨hpost, hb3⟩
        rcases hpost with ⟨V, g', v, rfl, hov, hnf, hg1, hg2, hio⟩ | ⟨k, rfl, hk0, hie⟩
        · have hV64 := hnf.size
          obtain ⟨ad, vc, hv, hsrc⟩ := owns_src hov (nft_ne hnf)
          subst hv
          have HRW := hid (own_below HNV.out hb3)
          have HSRC := hid hsrc
          have HNF := hid hnf
          have HKO2 := hid (HKO.out.more HL.out hio)
          have hb33 := HBQ.out.trans (hb3.mono hbq)
          have HB33 := hid hb33
          have hs33 := hb33.size
          clear hio hov hsrc hb33 hb3 k0 hnf
          go_wp2_with (at_builtin; refine wpList_append_own_wide _ rfl _ _ 23 rfl w1.heap.size 54 i5 (.agg #[.string ⟨#[]⟩, .int .i64 0]) 2 24 Tryz.underlying23 hi5 hw0 hw1 hw2 rfl (by decide) _ D.length (flatC D) rfl HRW.out ad V.length vc (flatC V) rfl (flatC_length V) HSRC.out (flatC_one V) ?k1 ?k2 ?k3 ?_)
          case k1 => unfold maxLen; omega
          case k2 => exact wide_of (by omega) (by decide)
          case k3 => exact hs33
          intro v' w4 hown' hgrow _
          have HN4 : Hid (Owns w4 w1.heap.size v' (D ++ V)) := by
            show w4.ownsRow _ _ _ _ _ _
            rw [List.length_append, flatC_append]
            exact hown'
          have HB4 := hid (HB33.out.grown hgrow hs33 (fun k hk => (HRW.out.lt k hk).1))
          obtain ⟨na, nc, hnv, _⟩ := own_cells hown'
          have hnv2 : v' = .slice na (D.length + V.length) nc := hnv
          subst hnv2
          clear hown' hgrow HRW HSRC HB33
          go_wp2_with fail
          go_roundw
          case rel => exact ⟨j + 1, Vs ++ [V], g', by omega, hg1, by omega, rfl, by go_num, ⟨by rw [List.length_append, HVS.out.1]; rfl, fun v hv => by rcases List.mem_append.1 hv with hv | hv; exact HVS.out.2 v hv; simp at hv; subst hv; exact HNF.out⟩, HKO2, (by rw [show ((⟨nm1, (kd1.len : Nat)⟩ : Cl) :: (Vs ++ [V]).flatten) = D ++ V by rw [← HDD.out]; simp]; exact HN4), HB4⟩
          case measure => (simp [intOf]; try omega)
        · have HIE : Hid (InnErr rs (.cons nm kd .nil) f k) := HTR.out.2 k (HKO.out.err HL.out hie).err
          have HBF := hid (HBW.out.trans (hb3.mono HBW.out.size))
          have hk1 : ¬ (k : Int) = 0 := by omega
          have hk2 : ((k : Int) == 0) = false := by simp only [beq_eq_false_iff_ne]; omega
          clear hie hb3 k0
          go_wp2_with fail
          go_ret3
          exact ⟨.inr ⟨k, rfl, hk0, HIE.out⟩, HBF.out⟩
      · have hji : ¬ (j : Int) < (kd1.len : Int) := by omega
        have hje : j = kd1.len := by omega
        have HKO1 : Hid (KidsOk rs kd1 kd1.len f1 Vs g) := by rw [← hje]; exact HKO.out
        have HVL : Hid (Vs.length = kd1.len) := by rw [← hje]; exact HVS.out.1
        clear hje HKO
        by_cases h64 : 64 < D.length
        · have HIE : Hid (InnErr rs (.cons nm kd .nil) f 6) := HTR.out.2 6 (round_big HKO1.out HVL.out (by rw [HDD.out]; exact h64))
          have h64i : (64 : Int) < (D.length : Int) := by omega
          go_wp2_with fail
          go_ret3
          exact ⟨.inr ⟨6, rfl, by decide, HIE.out⟩, HBW.out⟩
        · have h64i : ¬ (64 : Int) < (D.length : Int) := by omega
          have hD64 : ((⟨nm1, (kd1.len : Nat)⟩ : Cl) :: Vs.flatten).length ≤ 64 := by rw [HDD.out]; omega
          obtain ⟨kf, hkf1, hkf2, hkf3, hkf4⟩ := node_forest HVS.out.2 HVL.out HKD.out hl4 hD64
          rw [HDD.out] at hkf1 hkf4
          have hLD := Owns.lies HNV.out (fine_check (grd_iff.1 hkf4).1)
          have hfi := rfirst_any wq _ rs (HR.out.on HBW.out) HOK.out _ D hLD (grd_iff.1 hkf4).1
          have HGD := hid hkf4
          clear hkf1 hkf2 hkf3 hkf4 hLD
          go_wp2_with fail
          refine hfi.mono ?_
          clear hfi
          rintro e w5 ⟨hcase, hb5⟩
          have HB5 := hid (HBW.out.trans (hb5.mono HBW.out.size))
          rcases hcase with ⟨hF, rfl⟩ | ⟨ri, bs, bv, hF, rfl, hob⟩
          · obtain ⟨hnf, hio⟩ := round_norm HKO1.out HVL.out HVS.out.2 HKD.out hl4 hD64 (by rw [HDD.out]; exact hF)
            rw [HDD.out] at hnf hio
            have HIO := hid (HTR.out.1 D g hio)
            have HNF := hid hnf
            have HO5 : Hid (Owns w5 w.heap.size (.slice da D.length dc) D) := own_base (own_below HNV.out hb5) HB1.out.size
            clear hnf hio hF
            go_wp2_with fail
            go_ret3
            exact ⟨.inl ⟨D, g, _, rfl, HO5.out, HNF.out, hg0, by omega, HIO.out⟩, HB5.out⟩
          · have hri0 : ¬ (ri : Int) < 0 := by omega
            have hF' : firstI rs ((⟨nm1, (kd1.len : Nat)⟩ : Cl) :: Vs.flatten) = some (ri, bs) := by rw [HDD.out]; exact hF
            by_cases hg : g ≤ 0
            · have HIE := hid (HTR.out.2 14 (round_dry HOK.out HKO1.out HVL.out HVS.out.2 HKD.out hl4 hD64 hF' hg))
              obtain ⟨ba, bc, hbv, _⟩ := hob.form
              subst hbv
              clear hF hF' hob
              go_wp2_with fail
              go_ret3
              exact ⟨.inr ⟨14, rfl, by decide, HIE.out⟩, HB5.out⟩
            · have hg1 : 0 < g := by omega
              obtain ⟨r, hri, hmt⟩ := firstI_some hF
              obtain ⟨hga, hto, hcr, nm2, kd2, hsub, hgd2, hs2, htr⟩ := round_next HOK.out HKO1.out HVL.out HVS.out.2 HKD.out hl4 hD64 hF' hg1 hri
              have hmf := (mt_facts hmt).2.1
              have hLB := hob.lies (fun b hb => ⟨fine_check (hmf b hb).1, by have := nm_size (hmf b hb).2; omega⟩)
              obtain ⟨gr, offr, xr, yr, hra, hgrl, _, _, kr2, _, hly⟩ := (HR.out.on HB5.out).at hri
              subst hra
              have hril := (List.getElem?_eq_some_iff.1 hri).1
              have hrii : (ri : Int) < (rs.length : Int) := by omega
              obtain ⟨nr, kr, er⟩ := check_term hcr
              have hva := var_any w5 yr nr kr (by rw [← er]; exact hly) (by rw [← er]; exact hcr)
              have hat := at_any w5 _ bs nr hLB
              have hput := put_any w5 yr _ r.r bs hly hLB hcr hga hto
              obtain ⟨ba, bc, hbv, _⟩ := hob.form
              subst hbv
              obtain ⟨ya, yc, hyv, _, _, _, ycells⟩ := id hly
              obtain ⟨gy, offy, hya, hgy, y0, _⟩ := ycells 0 ⟨nr, (kr.len : Nat)⟩ (by rw [er]; simp [Fo.flat])
              subst hya
              simp only [Nat.zero_mul, Nat.add_zero] at y0
              have hrl : 0 < r.r.length := by rw [er]; simp [Fo.flat]
              have hrl8 : r.r.length ≤ 64 := (check_zero hcr).1
              have hrli : (0 : Int) < (r.r.length : Int) := by omega
              subst hyv
              by_cases hv2 : kind nr.data.toList = 2
              · rw [decide_eq_true hv2] at hva
                obtain ⟨v, hlook, hnf, hio⟩ := round_var HOK.out HKO1.out HVL.out HVS.out.2 HKD.out hl4 hD64 hF' hg1 hri er hv2
                have HIO := hid (HTR.out.1 v (g - 1) hio)
                have HNF := hid hnf
                have hv64 := hnf.size
                cases hix : idx bs nr with
                | none => rw [idx_none.1 hix] at hlook; cases hlook
                | some q =>
                  obtain ⟨v', hq1, hq2⟩ := idx_some hix
                  have hvv : v' = v := by rw [hlook] at hq2; exact (Option.some.inj hq2).symm
                  subst hvv
                  have ha : atI bs nr = (q : Int) := by unfold atI; rw [hix]
                  rw [ha] at hat
                  obtain ⟨bg, boff, x2, hba, hbg, b0, b1, hlx2, _⟩ := hLB.spot hq1
                  subst hba
                  have hql : q < bs.length := (List.getElem?_eq_some_iff.1 hq1).1
                  have hqi : (q : Int) < (bs.length : Int) := by omega
                  have hcp := copy_any w5 x2 v' hlx2 (by omega)
                  obtain ⟨xa2, xc2, hxv2, _⟩ := hlx2
                  subst hxv2
                  clear hlook hq1 hq2 ha hix hF hF' hob hmt hmf hLB hput hly hri er hnf hio htr hsub hga hto hcr ycells
                  go_wp2_with (first | (go_at_call 54; refine hva.mono ?_; clear hva; rintro e w6 ⟨rfl, rfl⟩) | (go_at_call 55; refine hat.mono ?_; clear hat; rintro e w6 ⟨rfl, rfl⟩) | (go_at_call 11; refine hcp.mono ?_; clear hcp; rintro e w7 ⟨x7, rfl, ho7, hb7⟩; have HO7 : Hid (Owns w7 w.heap.size x7 v') := own_base ho7 HB5.out.size; obtain ⟨za, zc, hzv, _⟩ := own_cells ho7; have hzv2 : x7 = .slice za v'.length zc := hzv; subst hzv2; have HB7 := hid (HB5.out.trans (hb7.mono HB5.out.size)); clear ho7 hb7))
                  go_ret3
                  exact ⟨.inl ⟨v', g - 1, _, rfl, HO7.out, HNF.out, by omega, by omega, HIO.out⟩, HB7.out⟩
              · rw [decide_eq_false hv2] at hva
                rw [hsub] at hput
                have hn2 : (Fo.cons nm2 kd2 .nil).flat.length = kd2.size + 1 := by rw [Fo.flat_length]; simp [Fo.size]
                have HTR2 := hid (htr.trans HTR.out)
                have HGD2 := hid hgd2
                have HKI2 := hid (HLT.out (g - 1) kd2 (by omega) hgd2.parts.2.1 hs2)
                have HFN2 := hid (fine_grd hgd2)
                clear hF hF' hob hmt hmf hLB hat hly hri er htr hsub hga hto hcr hgd2 ycells
                go_wp2_with (first | (go_at_call 54; refine hva.mono ?_; clear hva; rintro e w6 ⟨rfl, rfl⟩) | (go_at_call 56; refine hput.mono ?_; clear hput; rintro e w7 ⟨x7, rfl, ho7, hb7, _⟩; have HL7 := hid (Owns.lies ho7 HFN2.out); obtain ⟨za, zc, hzv, _⟩ := own_cells ho7; rw [hn2] at hzv; subst hzv; have HB7 := hid (HB5.out.trans (hb7.mono HB5.out.size)); have h4k : ¬ (4000 : Int) < (kd2.size : Int) + 1 := (by omega); clear ho7 hb7))
                go_roundg ((g - 1).toNat)
                case measure => omega
                case rel => exact ⟨nm2, kd2, g - 1, Nat.le_refl _, by omega, by omega, rfl, hs2, HL7, HGD2, HKI2, HTR2, HB7⟩

theorem inner_all (rs : List Rl) (hok : RsOk rs) : ∀ F, F ≤ 1000000 → ∀ n, InnAt rs F n := by
  intro F
  induction F using Nat.strongRecOn with
  | _ F ih =>
    intro hF n
    induction n with
    | zero => intro w rv tv nm kd f _ h; omega
    | succ n ihn => exact inner_step rs hok F n hF (fun F' n' h => ih F' h (by omega) n') ihn
theorem inner_any (w : World) (rv : Value) (rs : List Rl) (hr : LiesR w rv rs) (hok : RsOk rs) (tv : Value) (nm : ByteArray) (kd : Fo) (hT : Lies w tv (Fo.cons nm kd .nil).flat) (hG : grd (Fo.cons nm kd .nil).flat = true) (f : Int) (h0 : 0 ≤ f) (h1 : f ≤ 1000000) :
    Calls Tryz.prog 24 #[rv, tv, .int .i64 f] w fun e w' => InnPost rs (.cons nm kd .nil) f w.heap.size e w' ∧ Below w.heap.size w w' := by
  have hs := (check_zero (grd_iff.1 hG).1).1
  rw [Fo.flat_length] at hs
  simp only [Fo.size] at hs
  exact inner_all rs hok 1000000 (Nat.le_refl _) (kd.size + 1) w rv tv nm kd f hr (by omega) (by omega) h0 (by omega) hT (GrdF.of hG)

theorem nf_trees {rs : List Rl} : ∀ (kd : Fo), nfF rs kd → ∀ l ∈ kd.trees, ∃ nm k, l = (Fo.cons nm k .nil).flat ∧ nfF rs (.cons nm k .nil) ∧ k.size + 1 ≤ kd.size
  | .nil, _, l, hl => by simp [Fo.trees] at hl
  | .cons nm k r, h, l, hl => by
    simp only [Fo.trees, List.mem_cons] at hl
    rcases hl with rfl | hl
    · exact ⟨nm, k, (flat_one nm k).symm, ⟨h.1, h.2.1, trivial⟩, by simp only [Fo.size]; omega⟩
    · obtain ⟨n1, k1, e, a, b⟩ := nf_trees r h.2.2 l hl
      exact ⟨n1, k1, e, a, by simp only [Fo.size]; omega⟩
def FitsAt (rs : List Rl) (n : Nat) : Prop := ∀ (w : World) (rv tv : Value) (nm : ByteArray) (kd : Fo), kd.size < n → LiesR w rv rs → Lies w tv (Fo.cons nm kd .nil).flat → grd (Fo.cons nm kd .nil).flat = true → nfF rs (.cons nm kd .nil) →
  Calls Tryz.prog 26 #[rv, tv] w fun e w' => e = .returned (.bool false) ∧ Below w.heap.size w w'

set_option maxHeartbeats 4000000 in
theorem fits_step (rs : List Rl) (hok : RsOk rs) (n : Nat) (ih : FitsAt rs n) : FitsAt rs (n + 1) := by
  intro w rv tv nm kd hn hr hT hg hnf
  have hck := (grd_iff.1 hg).1
  have hfi := rfirst_any w rv rs hr hok tv _ hT hck
  have hn0 : firstI rs (Fo.cons nm kd .nil).flat = none := by
    cases h : firstI rs (Fo.cons nm kd .nil).flat with
    | none => rfl
    | some p =>
      obtain ⟨i, bs⟩ := p
      obtain ⟨r, hr, hm⟩ := firstI_some h
      have := hnf.1
      rw [firstR_none] at this
      rw [this r (List.mem_of_getElem? hr)] at hm
      cases hm
  have hkd : ∀ w1, Below w.heap.size w w1 → _ := fun w1 hb => rKids_ok w1 tv _ (hT.on hb) hck nm kd rfl
  have HIH : Hid (∀ (w1 : World) (x : Value) (l : List Cl), l ∈ kd.trees → Below w.heap.size w w1 → Lies w1 x l → Calls Tryz.prog 26 #[rv, x] w1 fun e w' => e = .returned (.bool false) ∧ Below w1.heap.size w1 w') := fun w1 x l hl hb hx => by
    obtain ⟨n1, k1, e, a, b⟩ := nf_trees kd hnf.2.1 l hl
    obtain ⟨n2, k2, e2, g2, _⟩ := trees_grd (GrdF.of hg).parts.2.1 l hl
    subst e
    obtain ⟨rfl, rfl⟩ := one_inj e2
    have h64 := (check_zero hck).1
    rw [Fo.flat_length] at h64
    simp only [Fo.size] at h64
    exact ih w1 rv x n1 k1 (by omega) (hr.on hb) hx (grd_of g2 (by omega)) a
  have HFT : Hid (∀ l ∈ kd.trees, Fine l) := fun l hl => by
    obtain ⟨a1, a2, e, a3, _⟩ := trees_grd (GrdF.of hg).parts.2.1 l hl
    rw [e]
    exact fine_grd a3
  obtain ⟨ra, rc, hrv, _⟩ := id hr
  subst hrv
  obtain ⟨ta, tc, htv, _⟩ := id hT
  subst htv
  have hkl : kd.len ≤ 64 := by
    have h64 := (check_zero hck).1
    rw [Fo.flat_length] at h64
    simp only [Fo.size] at h64
    have := Fo.len_le kd
    omega
  generalize (Fo.cons nm kd .nil).flat.length = tn at *
  clear hr hT hg hnf hck ih
  go_enter Tryz.func26, Tryz.ntmps26
  go_wp2_with (first
    | (go_at_call 53; refine hfi.mono ?_; clear hfi; rintro e w1 ⟨hcase, hb1⟩; obtain ⟨_, rfl⟩ : firstI rs (Fo.cons nm kd .nil).flat = none ∧ e = _ := (by rcases hcase with h | ⟨k, b, bv, h, _⟩; exact h; rw [hn0] at h; cases h); have HB1 := hid hb1; clear hcase hb1)
    | (go_at_call 52; refine (hkd _ HB1.out).mono ?_; clear hkd; rintro e w2 ⟨kv, rfl, hok2, hb2⟩; have HK2 := hid (hok2.lies HFT.out); obtain ⟨ka, kc, hkv, _⟩ := hok2.form; rw [Fo.trees_length] at hkv; subst hkv; have HB2 := hid (HB1.out.trans (hb2.mono HB1.out.size)); clear hok2 hb2))
  go_loopw [21] (fun i wr => ∃ j : Nat, j ≤ kd.len ∧ i = .int .i64 (j : Nat) ∧ Hid (Below w2.heap.size w2 wr)) (fun i _ => kd.len - (intOf i).toNat)
  case atStart => exact ⟨0, Nat.zero_le _, rfl, Below.refl _ _⟩
  case round =>
    obtain ⟨j, hj, rfl, HBr⟩ := hrel
    have HBW := hid (HB2.out.trans (HBr.out.mono HB2.out.size))
    by_cases hlt : j < kd.len
    · obtain ⟨l, hl⟩ : ∃ l, kd.trees[j]? = some l := ⟨kd.trees[j]'(by rw [Fo.trees_length]; exact hlt), List.getElem?_eq_getElem (by rw [Fo.trees_length]; exact hlt)⟩
      have hji : (j : Int) < (kd.len : Int) := by omega
      obtain ⟨gk, offk, x, hka, hgk, k0, hlx⟩ := (HK2.out.on HBr.out).at hl
      subst hka
      have hcall := HIH.out wr x l (List.mem_of_getElem? hl) HBW.out hlx
      obtain ⟨xa, xc, hxv, _⟩ := hlx
      subst hxv
      clear hl
      go_wp2_with (go_at_call 26; refine hcall.mono ?_; clear hcall; rintro e w4 ⟨rfl, hb4⟩; have HB4 := hid (HBr.out.trans (hb4.mono HBr.out.size)); clear hb4)
      go_roundw
      case rel => exact ⟨j + 1, by omega, by go_num, HB4⟩
      case measure => (simp [intOf]; try omega)
    · have hji : ¬ (j : Int) < (kd.len : Int) := by omega
      go_wp2_with fail
      go_ret
      exact ⟨rfl, HBW.out⟩
theorem fits_any (w : World) (rv : Value) (rs : List Rl) (hr : LiesR w rv rs) (hok : RsOk rs) (tv : Value) (T : List Cl) (hT : Lies w tv T) (hn : NFt rs T) :
    Calls Tryz.prog 26 #[rv, tv] w fun e w' => e = .returned (.bool false) ∧ Below w.heap.size w w' := by
  have all : ∀ n, FitsAt rs n := fun n => by
    induction n with
    | zero => intro w rv tv nm kd h; omega
    | succ n ih => exact fits_step rs hok n ih
  obtain ⟨hg, nm, kd, e, hnf⟩ := hn
  subst e
  exact all (kd.size + 1) w rv tv nm kd (by omega) hr hT hg hnf

end Go.Proofs.YtgijdhnkkbenoaaGreat
