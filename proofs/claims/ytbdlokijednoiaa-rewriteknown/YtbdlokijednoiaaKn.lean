/-
  A run with a table of right normal forms comes to the same normal form, in no more steps.
-/
import Derived.Test.YtbdlokijednoiaaBQ
import Derived.Test.YtbdlokijednoiaaBL
import Derived.Test.YtbdlokijednoiaaBM
namespace Go.Proofs.Ytbdlokijednoiaa
open Go.RowKit
set_option linter.unusedVariables false
set_option linter.unusedSimpArgs false
set_option maxRecDepth 100000

theorem cal_nil : ∀ f : Fo, Cal [] f
  | .nil => trivial
  | .cons nm k r => ⟨fun h => absurd rfl h, cal_nil k, cal_nil r⟩
theorem start_right {T : List Cl} (hg : grd T = true) : stR 0 (todo [] T).reverse [] [] = true := by
  unfold stR
  obtain ⟨nm, kd, e⟩ := check_term (grd_iff.1 hg).1
  have h1 : (todo [] T).reverse.all opR = true := List.all_eq_true.2 fun o ho => opR_iff.2 (todo_grd hg o (List.mem_reverse.1 ho))
  have h2 : cnt (todo [] T).reverse.reverse ([] : List (List Cl)).length = some 1 := by
    rw [List.reverse_reverse, e, todo_flat]
    have := cnt_todos [] (.cons nm kd .nil) 0 (cal_nil _)
    simpa [Fo.len] using this
  rw [h1, decide_eq_true h2]
  rfl
theorem startP_grd {T : List Cl} (hg : grd T = true) : startP T = (⟨(todo [] T).reverse, [], 0, []⟩, 0) := by
  unfold startP
  rw [if_pos (grd_iff.1 hg).1, if_pos hg]
section
variable {rs : List Rl} {T : List Cl} {fu F : Int}
theorem run_start (hc : chkRs rs = 0) (hg : grd T = true) (hl : 8 * fu.toNat ≤ 2513169400000) : Rt ⟨todo [] T, [], 0, [], fu⟩ ∧ runP rs noTb (startP T).1 fu = ((fin rs noTb ⟨todo [] T, [], 0, [], fu⟩).1.stt, (fin rs noTb ⟨todo [] T, [], 0, [], fu⟩).2) := by
  have hs := start_right hg
  have h64 := (check_zero (grd_iff.1 hg).1).1
  have e : Stt.cf ⟨(todo [] T).reverse, [], 0, []⟩ fu = ⟨todo [] T, [], 0, [], fu⟩ := by simp [Stt.cf]
  refine ⟨?_, ?_⟩
  · rw [← e]
    exact rt_of hs (by simp only [List.length_reverse, todo_len]; omega)
  · rw [startP_grd hg]
    unfold runP
    rw [if_pos hc, if_pos hs, e]
/-- a term that comes to a value -/
theorem norm_ok (hc : chkRs rs = 0) (hg : grd T = true) (hl : 8 * fu.toNat ≤ 2513169400000) (hF : F = max fu 0) {V : List Cl} {g : Int} (h : EvS rs (todo [] T) F [V] g) : normP rs T fu = (V, F - g, 0) ∧ ∃ S', runP rs noTb (startP T).1 fu = (⟨[], [V], F - g, S'⟩, 0) := by
  obtain ⟨hrt, hrun⟩ := run_start (fu := fu) hc hg hl
  obtain ⟨k, n', S', h1⟩ := h [] [] 0 []
  rw [List.append_nil, List.nil_append] at h1
  obtain ⟨f1, f2⟩ := h.fuel
  have hst := ns_steps k h1 (Int.le_refl _) (by simp only; omega)
  simp only at hst
  have h2 := ns_sh (fu - F) k h1 (by simp only; omega)
  have e : Cf.sh (fu - F) ⟨todo [] T, [], 0, [], F⟩ = ⟨todo [] T, [], 0, [], fu⟩ := by simp only [Cf.sh]; congr 1; omega
  rw [e] at h2
  obtain ⟨q1, _⟩ := fin_ns (RsOk.of hc) noTb_ok k hrt h2
  have q2 : fin rs noTb (Cf.sh (fu - F) ⟨[], [V], n', S', g⟩) = (Cf.sh (fu - F) ⟨[], [V], n', S', g⟩, 0) := fin_halt rfl
  rw [q1, q2] at hrun
  have hn : n' = F - g := by omega
  have hrun2 : runP rs noTb (startP T).1 fu = (⟨[], [V], F - g, S'⟩, 0) := by rw [hrun, ← hn]; rfl
  refine ⟨?_, S', hrun2⟩
  unfold normP
  rw [if_pos hc, startP_grd hg, if_pos rfl]
  rw [startP_grd hg] at hrun2
  rw [hrun2]
  rfl
theorem norm_err (hc : chkRs rs = 0) (hg : grd T = true) (hl : 8 * fu.toNat ≤ 2513169400000) (hF : F = max fu 0) {k : Nat} (h : EvE rs (todo [] T) F k) : normP rs T fu = ([], 0, k) := by
  obtain ⟨hrt, hrun⟩ := run_start (fu := fu) hc hg hl
  obtain ⟨m, c, h1, h3, h4, h5⟩ := h [] [] 0 []
  rw [List.append_nil] at h1
  obtain ⟨f1, f2⟩ := ns_fuel m h1
  simp only at f1 f2
  have h2 := ns_sh (fu - F) m h1 (by simp only; omega)
  have e : Cf.sh (fu - F) ⟨todo [] T, [], 0, [], F⟩ = ⟨todo [] T, [], 0, [], fu⟩ := by simp only [Cf.sh]; congr 1; omega
  rw [e] at h2
  obtain ⟨q1, _⟩ := fin_ns (RsOk.of hc) noTb_ok m hrt h2
  obtain ⟨q3, q4⟩ := halt_sh h3
  have q2 := fin_halt (q4 (fu - F) (fun he => by
    rcases q3 with ⟨h, _⟩ | h | ⟨_, h⟩
    · omega
    · omega
    · omega))
  rw [q1, q2] at hrun
  unfold normP
  rw [if_pos hc, startP_grd hg, if_pos rfl]
  rw [startP_grd hg] at hrun
  rw [hrun]
  simp only
  rw [if_neg h5]
end
/-- what becomes of a term -/
def Res (rs : List Rl) (h : Fo) (f : Int) : Prop := (∃ V g, InnOk rs h f [V] g ∧ NFt rs V ∧ 0 ≤ g ∧ g ≤ f) ∨ ∃ k, k ≠ 0 ∧ InnErr rs h f k
theorem Res.tr {rs : List Rl} {h' h : Fo} {f' f : Int} (x : Res rs h' f') (t : Tr rs h' f' h f) (hf : f' ≤ f) : Res rs h f := by
  rcases x with ⟨V, g, a, b, c, d⟩ | ⟨k, a, b⟩
  · exact .inl ⟨V, g, t.1 V g a, b, c, by omega⟩
  · exact .inr ⟨k, a, t.2 k b⟩
theorem kids_total {rs : List Rl} {kd : Fo} {f : Int} (h0 : 0 ≤ f) (ih : ∀ (j : Nat) nm k g, kd.trees[j]? = some (Fo.cons nm k .nil).flat → 0 ≤ g → g ≤ f → Res rs (.cons nm k .nil) g) : ∀ j, j ≤ kd.len → (∃ Vs g, Vs.length = j ∧ (∀ v ∈ Vs, NFt rs v) ∧ KidsOk rs kd j f Vs g ∧ 0 ≤ g ∧ g ≤ f) ∨ ∃ k, k ≠ 0 ∧ ∀ nm0, RootErr rs nm0 kd f k
  | 0, _ => .inl ⟨[], f, rfl, (fun v hv => by cases hv), KidsOk.zero rs kd f, h0, Int.le_refl _⟩
  | j + 1, hj => by
    rcases kids_total h0 ih j (by omega) with ⟨Vs, g, a, b, c, d, e⟩ | ⟨k, a, b⟩
    · obtain ⟨l, hl⟩ : ∃ l, kd.trees[j]? = some l := ⟨kd.trees[j]'(by rw [Fo.trees_length]; omega), List.getElem?_eq_getElem (by rw [Fo.trees_length]; omega)⟩
      obtain ⟨nm, k, el, _⟩ := trees_get kd l (List.mem_of_getElem? hl)
      subst el
      rcases ih j nm k g hl d e with ⟨V, g', x, y, z, u⟩ | ⟨q, x, y⟩
      · refine .inl ⟨Vs ++ [V], g', by simp [a], fun v hv => ?_, c.more hl x, z, by omega⟩
        rcases List.mem_append.1 hv with hv | hv
        · exact b v hv
        · simp at hv; subst hv; exact y
      · exact .inr ⟨q, x, fun nm0 => c.err hl y⟩
    · exact .inr ⟨k, a, b⟩
theorem res_step {rs : List Rl} (hok : RsOk rs) {nm : ByteArray} {kd : Fo} {f : Int} (h0 : 0 ≤ f) (hG : GrdF (.cons nm kd .nil)) (ih : ∀ (j : Nat) nm k g, kd.trees[j]? = some (Fo.cons nm k .nil).flat → 0 ≤ g → g ≤ f → Res rs (.cons nm k .nil) g) (ihf : ∀ nm2 kd2 g, 0 ≤ g → g < f → GrdF (.cons nm2 kd2 .nil) → kd2.size ≤ 600 → Res rs (.cons nm2 kd2 .nil) g) : Res rs (.cons nm kd .nil) f := by
  have hc0 := hG ⟨nm, (kd.len : Nat)⟩ (by simp [Fo.flat])
  have hkd : kind nm.data.toList = 1 := sym_kind (c := ⟨nm, (kd.len : Nat)⟩) hc0.1 hc0.2
  have hl4 : kd.len ≤ 4 := by have := (cellErr_ar hc0.1).2; simp only at this; omega
  rcases kids_total h0 ih kd.len (Nat.le_refl _) with ⟨Vs, g, a, b, c, d, e⟩ | ⟨k, a, b⟩
  · by_cases hb : 64 < ((⟨nm, (kd.len : Nat)⟩ : Cl) :: Vs.flatten).length
    · exact .inr ⟨6, by decide, round_big c a hb⟩
    · have hb' : ((⟨nm, (kd.len : Nat)⟩ : Cl) :: Vs.flatten).length ≤ 64 := by omega
      cases hF : firstI rs ((⟨nm, (kd.len : Nat)⟩ : Cl) :: Vs.flatten) with
      | none =>
        obtain ⟨x, y⟩ := round_norm c a b hkd hl4 hb' hF
        exact .inl ⟨_, g, y, x, d, e⟩
      | some p =>
        obtain ⟨i, bs⟩ := p
        by_cases hg : g ≤ 0
        · exact .inr ⟨14, by decide, round_dry hok c a b hkd hl4 hb' hF hg⟩
        · obtain ⟨r, hr, _⟩ := firstI_some hF
          obtain ⟨_, _, _, nm2, kd2, _, x, y, z⟩ := round_next hok c a b hkd hl4 hb' hF (by omega) hr
          exact (ihf nm2 kd2 (g - 1) (by omega) (by omega) x y).tr z (by omega)
  · exact .inr ⟨k, a, (b nm).err⟩
theorem res_all {rs : List Rl} (hok : RsOk rs) : ∀ (F n : Nat) (nm : ByteArray) (kd : Fo) (f : Int), kd.size < n → kd.size ≤ 600 → 0 ≤ f → f ≤ F → GrdF (.cons nm kd .nil) → Res rs (.cons nm kd .nil) f := by
  intro F
  induction F using Nat.strongRecOn with
  | _ F ihF =>
    intro n
    induction n with
    | zero => intro nm kd f h; omega
    | succ n ihn =>
      intro nm kd f hn h6 h0 hF hG
      refine res_step hok h0 hG (fun j nm' k' g hj hg0 hgf => ?_) (fun nm2 kd2 g hg0 hgf hG2 hs2 => ?_)
      · obtain ⟨n1, k1, e, hG1, hs1⟩ := trees_grd hG.parts.2.1 _ (List.mem_of_getElem? hj)
        obtain ⟨rfl, rfl⟩ := one_inj e
        exact ihn _ _ g (by omega) (by omega) hg0 (by omega) hG1
      · exact ihF (F - 1) (by omega) (kd2.size + 1) nm2 kd2 g (by omega) hs2 hg0 (by omega) hG2
/-- what Normal answers of a ground term -/
theorem norm_total {rs : List Rl} (hc : chkRs rs = 0) {T : List Cl} (hg : grd T = true) {fu : Int} (hl : 8 * fu.toNat ≤ 2513169400000) : (∃ V g, NFt rs V ∧ 0 ≤ g ∧ g ≤ max fu 0 ∧ normP rs T fu = (V, max fu 0 - g, 0) ∧ EvS rs (todo [] T) (max fu 0) [V] g) ∨ ∃ k, k ≠ 0 ∧ normP rs T fu = ([], 0, k) := by
  obtain ⟨nm, kd, e⟩ := check_term (grd_iff.1 hg).1
  have h64 := (check_zero (grd_iff.1 hg).1).1
  have hgd := hg
  rw [e] at hgd h64
  rw [Fo.flat_length] at h64
  simp only [Fo.size] at h64
  rcases res_all (RsOk.of hc) (max fu 0).toNat (kd.size + 1) nm kd (max fu 0) (by omega) (by omega) (by omega) (by omega) (GrdF.of hgd) with ⟨V, g, a, b, c, d⟩ | ⟨k, a, b⟩
  · have h := a [] _ (rep_self rs _)
    rw [← todo_flat, ← e] at h
    exact .inl ⟨V, g, b, c, d, (norm_ok hc hg hl rfl h).1, h⟩
  · have h := b [] _ (rep_self rs _)
    rw [← todo_flat, ← e] at h
    exact .inr ⟨k, a, norm_err hc hg hl rfl h⟩


/-! ## with a table -/

theorem EvS.sh {rs : List Rl} {A : List Opr} {f f' : Int} {V : List (List Cl)} (h : EvS rs A f V f') {x : Int} (hx : 0 ≤ f' + x) : EvS rs A (f + x) V (f' + x) := by
  intro stk vals n S
  obtain ⟨k, n', S', h1⟩ := h stk vals n S
  exact ⟨k, n', S', ns_sh x k h1 (.inr hx)⟩
theorem EvS.same {rs : List Rl} {A : List Opr} {f g f1 g1 : Int} {V W : List (List Cl)} (h : EvS rs A f V f1) (k : EvS rs A g W g1) (h0 : 0 ≤ f1) (k0 : 0 ≤ g1) : V = W := by
  rcases Int.le_total f g with hl | hl
  · have h2 := h.sh (x := g - f) (by omega)
    rw [show f + (g - f) = g by omega] at h2
    exact (h2.det k).1
  · have k2 := k.sh (x := f - g) (by omega)
    rw [show g + (f - g) = f by omega] at k2
    exact (h.det k2).1

/-- a table that tells normal forms -/
def TbN (rs : List Rl) (tb : Tb) : Prop := ∀ t p, tb t = some p → NFt rs p.1 ∧ ∃ F g, 0 ≤ g ∧ EvS rs (todo [] t) F [p.1] g
/-- what is had is in normal form -/
def Jn (rs : List Rl) (stk : List Opr) (vals : List (List Cl)) : Prop := (∀ o ∈ stk, o.k = 2 → NFt rs o.v) ∧ ∀ v ∈ vals, NFt rs v

theorem todo_nft {rs : List Rl} {bs : List Bd} (hb : ∀ x ∈ bs, NFt rs x.val) (L : List Cl) : ∀ o ∈ todo bs L, o.k = 2 → NFt rs o.v := by
  intro o ho hk
  obtain ⟨c, _, rfl⟩ := post_mem bs L o ho
  cases hl : look bs c.nm with
  | none => rw [opC_none hl] at hk; simp at hk
  | some v => rw [opC_some hl]; exact hb _ (look_mem hl)

/-- an op above values in normal form: what the run without a table makes of it -/
theorem hit_plain {rs : List Rl} (hok : RsOk rs) {nm : ByteArray} {Vs : List (List Cl)} (hV : ∀ v ∈ Vs, NFt rs v) (hkd : kind nm.data.toList = 1) (h4 : Vs.length ≤ 4) {f : Int} (h0 : 0 ≤ f) {V : List Cl} {F gt : Int} (hgt : 0 ≤ gt) (ht : EvS rs (todo [] ((⟨nm, (Vs.length : Nat)⟩ : Cl) :: Vs.flatten)) F [V] gt)
    (r : List Opr) (L : List (List Cl)) (n : Int) (S : List ByteArray) {m : Nat} {d : Cf} (hd : ns rs noTb m ⟨⟨1, ⟨nm, (Vs.length : Nat)⟩, []⟩ :: r, L ++ Vs, n, S, f⟩ = some d) (hds : d.stk = []) :
    ∃ k n' S' g, ns rs noTb k ⟨⟨1, ⟨nm, (Vs.length : Nat)⟩, []⟩ :: r, L ++ Vs, n, S, f⟩ = some ⟨r, L ++ [V], n', S', g⟩ ∧ 0 ≤ g ∧ g ≤ f := by
  have hl : Vs.length = (⟨nm, (Vs.length : Nat)⟩ : Cl).ar.toNat := by simp
  have hm := one_make (rs := rs) hl r L n S f
  have hdn : nx rs noTb d = none := by
    obtain ⟨stk, vals, st, hs, fu⟩ := d
    simp only at hds
    subst hds
    rfl
  by_cases hb : 64 < ((⟨nm, (Vs.length : Nat)⟩ : Cl) :: Vs.flatten).length
  · rw [if_pos hb] at hm
    have hn : nx rs noTb ⟨⟨1, ⟨nm, (Vs.length : Nat)⟩, []⟩ :: r, L ++ Vs, n, S, f⟩ = none := by unfold nx; simp only; rw [hm]
    obtain ⟨_, e⟩ := ns_stuck hn hd
    subst e
    cases hds
  rw [if_neg hb] at hm
  have hb' : ((⟨nm, (Vs.length : Nat)⟩ : Cl) :: Vs.flatten).length ≤ 64 := by omega
  obtain ⟨kf, e, h1, h2, h3⟩ := node_forest hV rfl hkd h4 hb'
  have hkf : kf.trees = Vs := by
    obtain ⟨k', k1, k2, k3, k4⟩ := vals_forest rs Vs hV
    have e2 : (⟨nm, (Vs.length : Nat)⟩ : Cl) :: Vs.flatten = (Fo.cons nm k' .nil).flat := by rw [flat_one, ← k1, Fo.trees_flatten, k4, k1]
    rw [e] at e2
    obtain ⟨_, e3⟩ := one_inj e2
    rw [e3, k1]
  have hkl : kf.len = Vs.length := by rw [← hkf, Fo.trees_length]
  have hks : kf.size ≤ 64 := by
    have := hb'
    rw [e, Fo.flat_length] at this
    simp only [Fo.size] at this
    omega
  have hkids : EvS rs (kf.todos []).flatten f Vs f := by
    have := nf_ev rs f kf h1 hks
    rwa [hkf] at this
  have htodo : todo [] ((⟨nm, (Vs.length : Nat)⟩ : Cl) :: Vs.flatten) = (kf.todos []).flatten ++ [⟨1, ⟨nm, (Vs.length : Nat)⟩, []⟩] := by
    rw [e, todo_flat, todos_root rfl, hkl]
  rw [htodo] at ht
  cases hF : firstI rs ((⟨nm, (Vs.length : Nat)⟩ : Cl) :: Vs.flatten) with
  | none =>
    have hn := firstI_none hF
    rw [hn] at hm
    have hev := hkids.norm hl hb' hn
    have hVe := hev.same ht h0 hgt
    simp only [List.cons.injEq, and_true] at hVe
    refine ⟨1, n, jn1 S nm, f, ?_, h0, Int.le_refl _⟩
    rw [← hVe]
    exact ns_one (nx_cons hm)
  | some p =>
    obtain ⟨i, bs⟩ := p
    obtain ⟨rl, hri, hR, hmt, hck, hlk, hbn⟩ := fire_looks hok e h1 h2 h3 hF
    rw [hR] at hm
    simp only at hm
    by_cases hf : f ≤ 0
    · rw [if_pos hf] at hm
      have hn : nx rs noTb ⟨⟨1, ⟨nm, (Vs.length : Nat)⟩, []⟩ :: r, L ++ Vs, n, S, f⟩ = none := by unfold nx; simp only; rw [hm]
      obtain ⟨_, e⟩ := ns_stuck hn hd
      subst e
      cases hds
    rw [if_neg hf] at hm
    have hstep := ns_one (nx_cons hm)
    obtain ⟨_, _, hcr, h8, _, _⟩ := chk_zero hck
    obtain ⟨nr, kr, er⟩ := check_term hcr
    have hlk' : LooksN rs bs (Fo.cons nr kr .nil).flat := by rw [← er]; exact hlk
    obtain ⟨h, p1, p2, p3, p4⟩ := rep_put (.cons nr kr .nil) hlk' (by rw [← er]; exact cellsErr_zero.1 (check_zero hcr).2.1)
    cases h with
    | nil => simp [Fo.len] at p3
    | cons nm2 kd2 q =>
      have hq : q = .nil := Fo.len_zero (by simp [Fo.len] at p3; exact p3)
      subst hq
      have hsz : kd2.size ≤ 600 := by
        have hs := sub_len (s := at_ bs) rl.r (fun c hc hv => by
          obtain ⟨v, v1, v2⟩ := (hlk c hc).1 hv
          unfold at_
          rw [v1]
          exact v2.size)
        rw [er, ← p1, Fo.flat_length, Fo.flat_length] at hs
        have h8' := h8.2
        rw [er, Fo.flat_length] at h8'
        simp only [Fo.size] at hs h8'
        omega
      have htd : todo bs rl.r = ((Fo.cons nr kr .nil).todos bs).flatten := by rw [er, todo_flat]
      rcases res_all hok (f - 1).toNat (kd2.size + 1) nm2 kd2 (f - 1) (by omega) hsz (by omega) (by omega) p4 with ⟨W, g, hin, hnf, g0, g1⟩ | ⟨k, k0, hin⟩
      · have hev : EvS rs (todo bs rl.r) (f - 1) [W] g := by rw [htd]; exact hin bs _ p2
        have hall := hkids.fire hl hb' hR (by omega) hev
        have hVe := hall.same ht g0 hgt
        simp only [List.cons.injEq, and_true] at hVe
        obtain ⟨k, n', S', hk⟩ := hev r L (inc n) (jn1 S nm)
        refine ⟨1 + k, n', S', g, ?_, g0, by omega⟩
        rw [← hVe]
        exact ns_trans hstep hk
      · exfalso
        have hev : EvE rs (todo bs rl.r) (f - 1) k := by rw [htd]; exact hin bs _ p2
        obtain ⟨a, c, q1, q2, _, q4⟩ := hev r L (inc n) (jn1 S nm)
        have := ns_det (ns_trans hstep q1) (halt_nx q2) hd hdn
        subst this
        unfold halt at q2
        rw [hds] at q2
        simp only [Option.some.injEq] at q2
        exact q4 q2.symm

theorem left_app {c : Cl} {V : List (List Cl)} (h : c.ar.toNat ≤ V.length) : V = left c V ++ V.drop (V.length - c.ar.toNat) ∧ (V.drop (V.length - c.ar.toNat)).length = c.ar.toNat := by
  unfold left
  refine ⟨(List.take_append_drop _ _).symm, ?_⟩
  rw [List.length_drop]
  omega

/-- wherever the run without a table ends well, the one with the table comes to the same values, with no less fuel left -/
theorem known_sim {rs : List Rl} (hok : RsOk rs) {tb : Tb} (htb : TbN rs tb) : ∀ (n : Nat) (stk : List Opr) (vals : List (List Cl)) (np : Int) (Sp : List ByteArray) (f : Int) (nt : Int) (St : List ByteArray) (ft : Int) (d : Cf),
    ns rs noTb n ⟨stk, vals, np, Sp, f⟩ = some d → d.stk = [] → 0 ≤ f → f ≤ ft → Jn rs stk vals → (∀ o ∈ stk, opOk o) → (∃ q, cnt stk vals.length = some q) →
    ∃ k n' S' g, ns rs tb k ⟨stk, vals, nt, St, ft⟩ = some ⟨[], d.vals, n', S', g⟩ ∧ ft - g ≤ f - d.fuel ∧ 0 ≤ d.fuel ∧ d.fuel ≤ g := by
  intro n
  induction n using Nat.strongRecOn with
  | _ n ih =>
    intro stk vals np Sp f nt St ft d hd hds h0 hft hJ hop hcnt
    cases stk with
    | nil =>
      obtain ⟨_, e⟩ := ns_stuck (b := d) stk_nil_nx hd
      subst e
      exact ⟨0, nt, St, ft, rfl, by simp only; omega, h0, hft⟩
    | cons o r =>
      obtain ⟨q, hq⟩ := hcnt
      obtain ⟨har, hrest⟩ := cnt_ar hq
      have hoo := hop o (by simp)
      cases n with
      | zero =>
        simp only [ns, Option.some.injEq] at hd
        rw [← hd] at hds
        cases hds
      | succ n =>
        have hor : ∀ x ∈ r, opOk x := fun x hx => hop x (by simp [hx])
        have hJr : ∀ x ∈ r, x.k = 2 → NFt rs x.v := fun x hx => hJ.1 x (by simp [hx])
        rcases hoo with ⟨hk, hkn, ha0, ha4, hv⟩ | ⟨hk, hg, hc⟩
        · obtain ⟨ok, oc, ov⟩ := o
          simp only at hk hkn ha0 ha4 hv har hrest
          subst hk
          subst hv
          obtain ⟨nm, ar⟩ := oc
          obtain ⟨a, rfl⟩ : ∃ a : Nat, ar = (a : Int) := ⟨ar.toNat, by simp only at ha0; omega⟩
          simp only [Int.toNat_natCast] at har hrest hkn ha4
          obtain ⟨e1, e2⟩ := left_app (c := ⟨nm, (a : Int)⟩) (V := vals) (by simpa using har)
          simp only [Int.toNat_natCast] at e1 e2
          generalize left ⟨nm, (a : Int)⟩ vals = L at e1
          generalize vals.drop (vals.length - a) = Vs at e1 e2
          subst e1
          subst e2
          have hVs : ∀ v ∈ Vs, NFt rs v := fun v hv => hJ.2 v (by simp [hv])
          have hLs : ∀ v ∈ L, NFt rs v := fun v hv => hJ.2 v (by simp [hv])
          have hl : Vs.length = (⟨nm, (Vs.length : Nat)⟩ : Cl).ar.toNat := by simp
          obtain ⟨m1, m2⟩ := node_app (V := L) hl
          have hm := one_make (rs := rs) hl r L np Sp f
          have hcl : (L ++ Vs).length - Vs.length + 1 = (L ++ [([] : List Cl)]).length := by simp
          cases htn : tb ((⟨nm, (Vs.length : Nat)⟩ : Cl) :: Vs.flatten) with
          | some p =>
            obtain ⟨pn, F, gt, hgt, hev⟩ := htb _ p htn
            obtain ⟨k, n', S', g, hk, g0, gf⟩ := hit_plain hok hVs hkn (by omega) h0 hgt hev r L np Sp hd hds
            have hdn : nx rs noTb d = none := by
              obtain ⟨s1, v1, t1, u1, w1⟩ := d
              simp only at hds
              subst hds
              rfl
            obtain ⟨hkle, hrem⟩ := ns_meet hd hdn hk
            have hkpos : k ≠ 0 := by
              rintro rfl
              simp only [ns, Option.some.injEq, Cf.mk.injEq] at hk
              have := congrArg List.length hk.1
              simp at this
            obtain ⟨k2, n2, S2, g2, h1, h2, h3, h4⟩ := ih (n + 1 - k) (by omega) r (L ++ [p.1]) n' S' g nt (jn St p.2) ft d hrem hds g0 (by omega) ⟨hJr, fun v hv => by
              rcases List.mem_append.1 hv with hv | hv
              · exact hLs v hv
              · simp only [List.mem_singleton] at hv; rw [hv]; exact pn⟩ hor ⟨q, by rw [hcl] at hrest; simpa using hrest⟩
            refine ⟨1 + k2, n2, S2, g2, ns_trans (ns_one (nx_cons ?_)) h1, by omega, h3, h4⟩
            have hb : ¬ 64 < ((⟨nm, (Vs.length : Nat)⟩ : Cl) :: Vs.flatten).length := by
              intro hb
              rw [if_pos hb] at hm
              have hn : nx rs noTb ⟨⟨1, ⟨nm, (Vs.length : Nat)⟩, []⟩ :: r, L ++ Vs, np, Sp, f⟩ = none := by unfold nx; simp only; rw [hm]
              obtain ⟨h', _⟩ := ns_stuck hn hd
              omega
            unfold one
            simp only [m1, m2]
            rw [if_neg (by decide), if_neg hb, htn]
          | none =>
            have hmt : one rs tb ⟨1, ⟨nm, (Vs.length : Nat)⟩, []⟩ ⟨r, L ++ Vs, nt, St, ft⟩ = if 64 < ((⟨nm, (Vs.length : Nat)⟩ : Cl) :: Vs.flatten).length then .stop 6 else match firstR rs ((⟨nm, (Vs.length : Nat)⟩ : Cl) :: Vs.flatten) with
                | none => .go ⟨r, L ++ [(⟨nm, (Vs.length : Nat)⟩ : Cl) :: Vs.flatten], nt, jn1 St nm, ft⟩
                | some p => if ft ≤ 0 then .stop 14 else .go ⟨todo p.2 p.1 ++ r, L, inc nt, jn1 St nm, ft - 1⟩ := by
              unfold one
              simp only [m1, m2]
              rw [if_neg (by decide), htn]
              rfl
            have hnx : ∃ c1, nx rs noTb ⟨⟨1, ⟨nm, (Vs.length : Nat)⟩, []⟩ :: r, L ++ Vs, np, Sp, f⟩ = some c1 ∧ ns rs noTb n c1 = some d := by
              simp only [ns] at hd
              cases hx : nx rs noTb ⟨⟨1, ⟨nm, (Vs.length : Nat)⟩, []⟩ :: r, L ++ Vs, np, Sp, f⟩ with
              | none => rw [hx] at hd; cases hd
              | some c1 => rw [hx] at hd; exact ⟨c1, rfl, hd⟩
            obtain ⟨c1, hx, hd1⟩ := hnx
            by_cases hb : 64 < ((⟨nm, (Vs.length : Nat)⟩ : Cl) :: Vs.flatten).length
            · rw [if_pos hb] at hm
              unfold nx at hx
              simp only at hx
              rw [hm] at hx
              cases hx
            rw [if_neg hb] at hm hmt
            have hb' : ((⟨nm, (Vs.length : Nat)⟩ : Cl) :: Vs.flatten).length ≤ 64 := by omega
            obtain ⟨kf, e, h1, h2, h3⟩ := node_forest hVs rfl hkn (by omega) hb'
            cases hF : firstI rs ((⟨nm, (Vs.length : Nat)⟩ : Cl) :: Vs.flatten) with
            | none =>
              have hn := firstI_none hF
              rw [hn] at hm hmt
              simp only at hm hmt
              rw [nx_cons hm] at hx
              cases hx
              obtain ⟨k2, n2, S2, g2, q1, q2, q3, q4⟩ := ih n (by omega) r _ np _ f nt (jn1 St nm) ft d hd1 hds h0 hft ⟨hJr, fun v hv => by
                rcases List.mem_append.1 hv with hv | hv
                · exact hLs v hv
                · simp only [List.mem_singleton] at hv; rw [hv]; exact NFt.of_node e h1 h3 hn⟩ hor ⟨q, by rw [hcl] at hrest; simpa using hrest⟩
              exact ⟨1 + k2, n2, S2, g2, ns_trans (ns_one (nx_cons hmt)) q1, q2, q3, q4⟩
            | some p =>
              obtain ⟨i, bs⟩ := p
              obtain ⟨rl, hri, hR, hmt2, hck, hlk, hbn⟩ := fire_looks hok e h1 h2 h3 hF
              rw [hR] at hm hmt
              simp only at hm hmt
              by_cases hf : f ≤ 0
              · rw [if_pos hf] at hm
                unfold nx at hx
                simp only at hx
                rw [hm] at hx
                cases hx
              rw [if_neg hf] at hm
              rw [if_neg (by omega)] at hmt
              rw [nx_cons hm] at hx
              cases hx
              obtain ⟨t1, t2, t3⟩ := todo_ok hck hmt2 h3
              obtain ⟨k2, n2, S2, g2, q1, q2, q3, q4⟩ := ih n (by omega) (todo bs rl.r ++ r) L _ _ (f - 1) (inc nt) (jn1 St nm) (ft - 1) d hd1 hds (by omega) (by omega) ⟨fun x hx hxk => by
                  rcases List.mem_append.1 hx with hx | hx
                  · exact todo_nft hbn _ x hx hxk
                  · exact hJr x hx hxk, hLs⟩ (fun x hx => by
                  rcases List.mem_append.1 hx with hx | hx
                  · exact t1 x hx
                  · exact hor x hx) ⟨q, by
                  rw [cnt_app, t3]
                  rw [hcl] at hrest
                  simpa using hrest⟩
              exact ⟨1 + k2, n2, S2, g2, ns_trans (ns_one (nx_cons hmt)) q1, by omega, q3, q4⟩
        · obtain ⟨ok, oc, ov⟩ := o
          simp only at hk hg hc har hrest
          subst hk
          subst hc
          have hone : ∀ (tb' : Tb) (n' : Int) (S' : List ByteArray) (f' : Int), one rs tb' ⟨2, noCl, ov⟩ ⟨r, vals, n', S', f'⟩ = .go ⟨r, vals ++ [ov], n', S', f'⟩ := fun tb' n' S' f' => by unfold one; rw [if_pos rfl]
          have hd1 : ns rs noTb n ⟨r, vals ++ [ov], np, Sp, f⟩ = some d := by
            simp only [ns] at hd
            rw [nx_cons (hone noTb np Sp f)] at hd
            exact hd
          obtain ⟨k2, n2, S2, g2, q1, q2, q3, q4⟩ := ih n (by omega) r (vals ++ [ov]) np Sp f nt St ft d hd1 hds h0 hft ⟨hJr, fun v hv => by
            rcases List.mem_append.1 hv with hv | hv
            · exact hJ.2 v hv
            · simp only [List.mem_singleton] at hv; rw [hv]; exact hJ.1 ⟨2, noCl, ov⟩ (by simp) rfl⟩ hor ⟨q, by
            have : noCl.ar.toNat = 0 := rfl
            rw [this] at hrest
            simpa using hrest⟩
          exact ⟨1 + k2, n2, S2, g2, ns_trans (ns_one (nx_cons (hone tb nt St ft))) q1, q2, q3, q4⟩

/-- a run with such a table, from a term's start, with as much fuel as its normal form takes -/
theorem known_run {rs : List Rl} (hc : chkRs rs = 0) {tb : Tb} (ht : TbOk tb) (htb : TbN rs tb) {T : List Cl} (hg : grd T = true) {V : List Cl} {F g : Int} (hF : F ≤ 1000) (h0 : 0 ≤ g) (h1 : g ≤ F) (h : EvS rs (todo [] T) F [V] g) :
    ∃ n' S', runP rs tb (startP T).1 (F - g) = (⟨[], [V], n', S'⟩, 0) ∧ n' ≤ F - g := by
  have hs := start_right hg
  have h64 := (check_zero (grd_iff.1 hg).1).1
  have e : Stt.cf ⟨(todo [] T).reverse, [], 0, []⟩ (F - g) = ⟨todo [] T, [], 0, [], F - g⟩ := by simp [Stt.cf]
  have hrt : Rt ⟨todo [] T, [], 0, [], F - g⟩ := by
    rw [← e]
    exact rt_of hs (by simp only [List.length_reverse, todo_len]; omega)
  have h2 := h.sh (x := -g) (by omega)
  rw [show F + -g = F - g by omega, show g + -g = 0 by omega] at h2
  obtain ⟨k, n', S', h3⟩ := h2 [] [] 0 []
  rw [List.append_nil, List.nil_append] at h3
  obtain ⟨k2, n2, S2, g2, q1, q2, q3, q4⟩ := known_sim (RsOk.of hc) htb k (todo [] T) [] 0 [] (F - g) 0 [] (F - g) _ h3 rfl (by omega) (Int.le_refl _) ⟨fun o ho hk => todo_nft (fun x hx => by cases hx) T o ho hk, fun v hv => by cases hv⟩ hrt.ops ⟨1, hrt.one⟩
  simp only at q1 q2 q3 q4
  have hst := ns_steps k2 q1 (Int.le_refl _) (by simp only; omega)
  simp only at hst
  obtain ⟨p1, _⟩ := fin_ns (RsOk.of hc) ht k2 hrt q1
  have p2 : fin rs tb ⟨[], [V], n2, S2, g2⟩ = (⟨[], [V], n2, S2, g2⟩, 0) := fin_halt rfl
  refine ⟨n2, S2, ?_, by omega⟩
  rw [startP_grd hg]
  unfold runP
  rw [if_pos hc, if_pos hs, e, p1, p2]
  rfl

end Go.Proofs.Ytbdlokijednoiaa
