/-
  What the net's lead answers: the places of the rules that a term may lead to.
-/
import Derived.Test.YtpflbdkbbkobbaaLead0
namespace Go.Proofs.Ytpflbdkbbkobbaa
open Go.RowKit Go.Maps
set_option linter.unusedVariables false
set_option maxRecDepth 100000
set_option linter.unusedSimpArgs false

theorem cand_len (Ls : List (List Cl)) (p R : List Cl) : (cand Ls p R).length ≤ Ls.length := by
  unfold cand
  exact Nat.le_trans (List.length_filter_le _ _) (by simp)
/-- what lead leaves: the places, in memory of its own unless the term ends there -/
def Led (Ls : List (List Cl)) (p R : List Cl) (W : World) (e : Ending) (w' : World) : Prop :=
  ∃ v l b, e = .returned v ∧ l.Perm (cand Ls p R) ∧ w'.ownsRow b 3 1 v l.length (intsV l) ∧ (R ≠ [] → b = W.heap.size) ∧ Below W.heap.size W w'
theorem ptr_some (a : Nat) (w : World) : (binOp .neq 82 (.pointer (some ⟨a, 0, none⟩)) (.pointer none)).run Try.prog w = .ok (.bool true) w := by kernel_rfl
theorem ptr_none (w : World) : (binOp .neq 82 (.pointer none) (.pointer none)).run Try.prog w = .ok (.bool false) w := by kernel_rfl
theorem At.look {w W : World} {B mx : Nat} {sv : Value} {p : List Cl} {d : Nd} {es : List Nat} {kids : Cl → Option Value} (h : At w B sv mx p d es kids) (hs : ∀ g, g < w.heap.size → W.heap[g]? = w.heap[g]?) {c : Cl} (hc : FineC c) :
    (Instr.lookup 58 (.map d.m) (.agg #[.string c.nm, .int .i64 c.ar]) false).run Try.prog W = .ok ((kids c).getD (.pointer none)) W := by
  cases hm : d.m with
  | none => rw [h.no hm c]; exact nil_get W hc
  | some m =>
    obtain ⟨_, n, _, hM⟩ := h.mp m hm
    exact (hM.same (hs m hM.lt)).get hc
theorem fine_wh : FineC wh := ⟨by decide, by decide, by decide⟩

set_option maxHeartbeats 4000000 in
theorem lead_any (w : World) (B nb : Nat) (sv : Value) (mx : Nat) (T : List Cl → Option Nd) (Ls : List (List Cl)) (h : Tre w B nb sv mx T (endsAt Ls)) (hP : ∀ p, (T p).isSome = true ↔ hasP Ls p) (h64 : Ls.length ≤ 64) (tv : Value) (t : List Cl) (hT : Lies w tv t) (hc : check t = 0) :
    ∀ (n k : Nat) (p : List Cl) (d : Nd) (W : World), t.length ≤ k + n → k ≤ t.length → T p = some d → Below w.heap.size w W →
    Calls Try.prog 51 #[.pointer (some ⟨d.a, ofs p, none⟩), tv, .int .i64 (k : Nat)] W fun e w' => Led Ls p (t.drop k) W e w' := by
  obtain ⟨ht1, ht2, ht3⟩ := check_zero hc
  obtain ⟨ta, tc, rfl, tc1, tc2, tF, tC⟩ := hT
  have HTC : Hid (Lies w (.slice ta t.length tc) t ∧ CellsAt w ta t) := ⟨⟨ta, tc, rfl, tc1, tc2, tF, tC⟩, tC⟩
  clear tC
  intro n
  induction n with
  | zero =>
    intro k p d W hk1 hk2 hp hW
    obtain rfl : k = t.length := by omega
    have hat := h.at' p d hp
    have hcs := hat.cells
    have hdl := hat.blk.lt
    have c1 : W.cell? ⟨d.a, ofs p + 1, none⟩ = some d.e := (hW.cell (p := ⟨d.a, ofs p + 1, none⟩) hdl).trans hcs.2.1
    have hrow := own_below hat.ends hW
    have HR : Hid (W.ownsRow B 3 1 d.e (endsAt Ls p).length (intsV (endsAt Ls p))) := hrow
    obtain ⟨ea, ec, hde, _⟩ := own_cells hat.ends
    rw [hde] at c1 HR
    have hkn : ((t.length : Int) == (t.length : Int)) = true := by simp
    clear hat hcs hrow hde
    generalize ofs p = o at c1 ⊢
    go_enter Try.func51, Try.ntmps51
    go_wp2_with fail
    go_ret
    refine ⟨_, endsAt Ls p, B, rfl, ?_, HR.out, fun h => absurd (List.drop_length) h, Below.refl _ _⟩
    rw [List.drop_length, cand_end]
  | succ n ih =>
    intro k p d W hk1 hk2 hp hW
    by_cases hlt : k < t.length
    · obtain ⟨c, hcc⟩ : ∃ c, t[k]? = some c := ⟨t[k], List.getElem?_eq_getElem hlt⟩
      have hdr := drop_cl hcc
      have hce := cellsErr_zero.1 ht2 c (List.mem_of_getElem? hcc)
      have hcf := tF c (List.mem_of_getElem? hcc)
      have hcF : FineC c := ⟨by unfold maxLen; omega, hcf.2.1, hcf.2.2⟩
      have hcw : c ≠ wh := fun e => wh_bad (e ▸ hce)
      obtain ⟨g, off, hta, hgl, d1, d2⟩ := HTC.out.2 k c hcc
      subst hta
      have e1 : W.cell? ⟨g, off + k * 2, none⟩ = some (.string c.nm) := (hW.cell (p := ⟨g, off + k * 2, none⟩) hgl).trans d1
      have e2 : W.cell? ⟨g, off + k * 2 + 1, none⟩ = some (.int .i64 c.ar) := (hW.cell (p := ⟨g, off + k * 2 + 1, none⟩) hgl).trans d2
      obtain ⟨r, hr⟩ : ∃ r, fo 1 (t.drop k) = some r := fo_each (t.take k) (t.drop k) 1 (by rw [List.take_append_drop]; exact ht3) (by rw [hdr]; simp)
      obtain ⟨q1, q2, q3⟩ := fo_drop hr (Nat.le_of_lt hlt)
      have hpos := posN_some hr
      have hbh : bh (t.drop k) = t.drop (posN t k) := by unfold bh; rw [hr, hpos, q1]; rfl
      have hpl : k + 1 ≤ posN t k ∧ posN t k ≤ t.length := by rw [hpos]; omega
      have hat := h.at' p d hp
      have cmap := hat.cells.1
      have HAT : Hid (At w B sv mx p d (endsAt Ls p) (kidsT T p)) := hat
      have hdl := hat.blk.lt
      have c0 : W.cell? ⟨d.a, ofs p, none⟩ = some (.map d.m) := (hW.cell (p := ⟨d.a, ofs p, none⟩) hdl).trans cmap
      have hstep := cand_step Ls p c (t.drop (k + 1)) hcw
      rw [← hdr, hbh] at hstep
      have HST : Hid ((cand Ls p (t.drop k)).Perm (cand Ls (p ++ [c]) (t.drop (k + 1)) ++ cand Ls (p ++ [wh]) (t.drop (posN t k)))) := hstep
      have hend : ∀ W1, Below w.heap.size w W1 → Calls Try.prog 69 #[.slice (some ⟨g, off, none⟩) t.length tc, .int .i64 (k : Nat)] W1 fun e w' => e = .returned (.int .i64 (posN t k : Nat)) ∧ Below W1.heap.size W1 w' := fun W1 h1 => end_any W1 _ t (HTC.out.1.on h1) hc k
      have hki : (k : Int) < (t.length : Int) := by omega
      have hkn : ((k : Int) == (t.length : Int)) = false := by simp only [beq_eq_false_iff_ne]; omega
      have hkn2 : ¬ (k : Int) = (t.length : Int) := by omega
      have hlk : ∀ q, (Instr.lookup 58 (.map d.m) (.agg #[.string c.nm, .int .i64 c.ar]) false).run Try.prog (W.drewN q) = .ok ((kidsT T p c).getD (.pointer none)) (W.drewN q) := fun q => hat.look (W := W.drewN q) (fun g hg => hW.block g hg) hcF
      have hlw : ∀ W1, Below W.heap.size W W1 → (Instr.lookup 58 (.map d.m) (.agg #[.string ⟨#[]⟩, .int .i64 0]) false).run Try.prog W1 = .ok ((kidsT T p wh).getD (.pointer none)) W1 := fun W1 h1 => hat.look (W := W1) (fun g hg => (h1.block g (Nat.lt_of_lt_of_le hg hW.size)).trans (hW.block g hg)) fine_wh
      have hK1 : kidsT T p c = (T (p ++ [c])).map fun x => ptr x.a := rfl
      have hK2 : kidsT T p wh = (T (p ++ [wh])).map fun x => ptr x.a := rfl
      have hwh := whole_any
      have HNE : Hid (t.drop k ≠ []) := by show _ ≠ _; rw [hdr]; simp
      have hlen1 := cand_len Ls (p ++ [c]) (t.drop (k + 1))
      have hlen2 := cand_len Ls (p ++ [wh]) (t.drop (posN t k))
      obtain ⟨o, ho⟩ : ∃ o, o = ofs p := ⟨_, rfl⟩
      rw [← ho] at c0 ⊢
      generalize hmm : d.m = dm at hlk hlw c0
      generalize hps : posN t k = ps at hend hpl HST hlen2
      rw [hK1] at hlk
      rw [hK2] at hlw
      clear hat cmap d1 d2 hdr hce hcf hcF hr q1 q2 q3 hpos hbh hstep ho hmm hps hK1 hK2 hcw hcc r
      cases hx : T (p ++ [c]) with
      | none =>
        rw [hx] at hlk
        simp only [Option.map_none, Option.getD_none] at hlk
        have hz1 : cand Ls (p ++ [c]) (t.drop (k + 1)) = [] := cand_none fun ⟨L, h1, h2⟩ => by
          have := (hP (p ++ [c])).2 (.inr ⟨L, h1, h2⟩)
          rw [hx] at this; cases this
        rw [hz1] at HST
        cases hy : T (p ++ [wh]) with
        | none =>
          rw [hy] at hlw
          simp only [Option.map_none, Option.getD_none] at hlw
          have hz2 : cand Ls (p ++ [wh]) (t.drop ps) = [] := cand_none fun ⟨L, h1, h2⟩ => by
            have := (hP (p ++ [wh])).2 (.inr ⟨L, h1, h2⟩)
            rw [hy] at this; cases this
          rw [hz2] at HST
          clear hx hy hz1 hz2 hlen1 hlen2
          go_enter Try.func51, Try.ntmps51
          go_wp2_with fail
          go_quiet (fail)
          generalize hwq : W.drewN _ = wq
          have hbq : Below W.heap.size W wq := by rw [← hwq]; exact below_drewN _ _
          have hBq := hW.trans (hbq.mono hW.size)
          clear hwq hlk
          go_wp2_with fail
          have ho2 : wq.ownsRow W.heap.size 3 1 (.slice none 0 0) 0 (intsV []) := World.ownsRow_nil _ _ _ _
          have hb2 := hbq
          generalize wq = w2 at *
          have hdW : d.a < w2.drew.heap.size := Nat.lt_of_lt_of_le HAT.out.blk.lt (Nat.le_trans hW.size hb2.size)
          have HS0 : w2.drew.cell? ⟨d.a, o, none⟩ = some (.map dm) := (hb2.drew.cell (p := ⟨d.a, o, none⟩) (Nat.lt_of_lt_of_le HAT.out.blk.lt hW.size)).trans c0
          have hbd : Below W.heap.size W w2.drew := hb2.drew
          go_region_held3 (fun w' => w'.cell? ⟨d.a, o, none⟩ = some (.map dm)) (first | exact HS0 | exact HS8)
            (first
              | (go_at_call 66; refine (hwh _).mono ?_; rintro e w8 ⟨rfl, b8⟩; have HS8 : w8.cell? ⟨d.a, o, none⟩ = some (.map dm) := (b8.cell (p := ⟨d.a, o, none⟩) hdW).trans HS0; have hb8 : Below W.heap.size W w8 := hbd.trans (b8.mono hbd.size); have hlw8 := hlw w8 hb8; have hB8 := hW.trans (hb8.mono hW.size); have ho8 := own_below (w := w2.drew) ho2 b8))
          clear hlw hlw8 HS0 HS8
          go_wp2_with fail
          go_ret
          refine ⟨_, [], W.heap.size, rfl, ?_, ho8, fun _ => rfl, hb8⟩
          exact HST.out.symm
        | some y =>
          rw [hy] at hlw
          simp only [Option.map_some, Option.getD_some, ptr] at hlw
          have hcy := fun W1 (h1 : Below w.heap.size w W1) => ih ps (p ++ [wh]) y W1 (by omega) hpl.2 hy h1
          rw [ofs_snoc] at hcy
          have hpy := ptr_some y.a
          clear hx hy hz1 hlen1
          go_enter Try.func51, Try.ntmps51
          go_wp2_with fail
          go_quiet (fail)
          generalize hwq : W.drewN _ = wq
          have hbq : Below W.heap.size W wq := by rw [← hwq]; exact below_drewN _ _
          have hBq := hW.trans (hbq.mono hW.size)
          clear hwq hlk
          go_wp2_with fail
          have ho2 : wq.ownsRow W.heap.size 3 1 (.slice none 0 0) 0 (intsV []) := World.ownsRow_nil _ _ _ _
          have hb2 := hbq
          generalize wq = w2 at *
          have hdW : d.a < w2.drew.heap.size := Nat.lt_of_lt_of_le HAT.out.blk.lt (Nat.le_trans hW.size hb2.size)
          have HS0 : w2.drew.cell? ⟨d.a, o, none⟩ = some (.map dm) := (hb2.drew.cell (p := ⟨d.a, o, none⟩) (Nat.lt_of_lt_of_le HAT.out.blk.lt hW.size)).trans c0
          have hbd : Below W.heap.size W w2.drew := hb2.drew
          go_region_held3 (fun w' => w'.cell? ⟨d.a, o, none⟩ = some (.map dm)) (first | exact HS0 | exact HS8)
            (first
              | (go_at_call 66; refine (hwh _).mono ?_; rintro e w8 ⟨rfl, b8⟩; have HS8 : w8.cell? ⟨d.a, o, none⟩ = some (.map dm) := (b8.cell (p := ⟨d.a, o, none⟩) hdW).trans HS0; have hb8 : Below W.heap.size W w8 := hbd.trans (b8.mono hbd.size); have hlw8 := hlw w8 hb8; have hB8 := hW.trans (hb8.mono hW.size); have ho8 := own_below (w := w2.drew) ho2 b8))
          clear hlw hlw8 HS0 HS8
          go_wp2_with (first
            | (go_at_call 69; refine (hend _ hB8).mono ?_; rintro e w9 ⟨rfl, hb9⟩; have hB9 := hB8.trans (hb9.mono hB8.size); have ho9 := own_below ho8 hb9)
            | (go_at_call 51; refine (hcy _ hB9).mono ?_; rintro e w3 ⟨v3, l3, b3, rfl, hl3, ho3, _, hb3⟩; have hn3 : l3.length ≤ 64 := by { rw [hl3.length_eq]; omega }; have ho4 := own_below ho9 hb3)
            | (at_builtin; refine wpList_join _ rfl _ _ rfl W.heap.size (.slice none 0 0) [] rfl ho4 b3 v3 l3 rfl ho3 (by first | omega | (simp; omega)) (Nat.le_trans hb8.size (Nat.le_trans hb9.size hb3.size)) ?_; intro v5 w5 ho5 hg5; obtain ⟨va5, vc5, hv5, _, _, _⟩ := own_cells ho5; have HO5 : Hid (w5.ownsRow W.heap.size 3 1 v5 ([] ++ l3).length (intsV ([] ++ l3))) := ho5; have HV5 : Hid (v5 = .slice va5 ([] ++ l3).length vc5) := hv5; have hb5 : Below W.heap.size W w5 := ((hb8.trans (hb9.mono hb8.size)).trans (hb3.mono (Nat.le_trans hb8.size hb9.size))).grown hg5 (Nat.le_trans hb8.size (Nat.le_trans hb9.size hb3.size)) (fun k hk => (World.ownsRow.lt ho4 k hk).1); have HL3 : Hid (l3.Perm (cand Ls (p ++ [wh]) (t.drop ps))) := hl3; clear hl3 ho3 hg5 ho4 ho9 ho8 ho5 hv5))
          go_ret
          refine ⟨_, [] ++ l3, W.heap.size, rfl, ?_, HO5.out, fun _ => rfl, hb5⟩
          exact HL3.out.trans HST.out.symm
      | some x =>
        rw [hx] at hlk
        simp only [Option.map_some, Option.getD_some, ptr] at hlk
        have hcx := fun W1 (h1 : Below w.heap.size w W1) => ih (k + 1) (p ++ [c]) x W1 (by omega) hlt hx h1
        rw [ofs_snoc] at hcx
        have hpx := ptr_some x.a
        cases hy : T (p ++ [wh]) with
        | none =>
          rw [hy] at hlw
          simp only [Option.map_none, Option.getD_none] at hlw
          have hz2 : cand Ls (p ++ [wh]) (t.drop ps) = [] := cand_none fun ⟨L, h1, h2⟩ => by
            have := (hP (p ++ [wh])).2 (.inr ⟨L, h1, h2⟩)
            rw [hy] at this; cases this
          rw [hz2] at HST
          clear hx hy hz2 hlen2
          go_enter Try.func51, Try.ntmps51
          go_wp2_with fail
          go_quiet (fail)
          generalize hwq : W.drewN _ = wq
          have hbq : Below W.heap.size W wq := by rw [← hwq]; exact below_drewN _ _
          have hBq := hW.trans (hbq.mono hW.size)
          clear hwq hlk
          go_wp2_with (first
            | (go_at_call 51; refine (hcx _ hBq).mono ?_; rintro e w1 ⟨v1, l1, b1, rfl, hl1, ho1, _, hb1⟩; have hn1 : l1.length ≤ 64 := by { rw [hl1.length_eq]; omega })
            | (at_builtin; refine wpList_join _ rfl _ _ rfl W.heap.size (.slice none 0 0) [] rfl (World.ownsRow_nil _ _ _ _) b1 v1 l1 rfl ho1 (by simp; omega) (Nat.le_trans hbq.size hb1.size) ?_; intro v2 w2 ho2 hg2; obtain ⟨va2, vc2, hv2, _, _, _⟩ := own_cells ho2; have hb2 : Below W.heap.size W w2 := (hbq.trans (hb1.mono hbq.size)).grown hg2 (Nat.le_trans hbq.size hb1.size) (fun k hk => by cases hk); have HL2 : Hid (l1.Perm (cand Ls (p ++ [c]) (t.drop (k + 1)))) := hl1; clear hl1 ho1 hg2; rw [List.nil_append] at ho2 hv2; subst hv2))
          have hdW : d.a < w2.drew.heap.size := Nat.lt_of_lt_of_le HAT.out.blk.lt (Nat.le_trans hW.size hb2.size)
          have HS0 : w2.drew.cell? ⟨d.a, o, none⟩ = some (.map dm) := (hb2.drew.cell (p := ⟨d.a, o, none⟩) (Nat.lt_of_lt_of_le HAT.out.blk.lt hW.size)).trans c0
          have hbd : Below W.heap.size W w2.drew := hb2.drew
          go_region_held3 (fun w' => w'.cell? ⟨d.a, o, none⟩ = some (.map dm)) (first | exact HS0 | exact HS8)
            (first
              | (go_at_call 66; refine (hwh _).mono ?_; rintro e w8 ⟨rfl, b8⟩; have HS8 : w8.cell? ⟨d.a, o, none⟩ = some (.map dm) := (b8.cell (p := ⟨d.a, o, none⟩) hdW).trans HS0; have hb8 : Below W.heap.size W w8 := hbd.trans (b8.mono hbd.size); have hlw8 := hlw w8 hb8; have hB8 := hW.trans (hb8.mono hW.size); have ho8 := own_below (w := w2.drew) ho2 b8))
          clear hlw hlw8 HS0 HS8
          go_wp2_with fail
          go_ret
          refine ⟨_, l1, W.heap.size, rfl, ?_, ho8, fun _ => rfl, hb8⟩
          exact HL2.out.trans (by have := HST.out.symm; rwa [List.append_nil] at this)
        | some y =>
          rw [hy] at hlw
          simp only [Option.map_some, Option.getD_some, ptr] at hlw
          have hcy := fun W1 (h1 : Below w.heap.size w W1) => ih ps (p ++ [wh]) y W1 (by omega) hpl.2 hy h1
          rw [ofs_snoc] at hcy
          have hpy := ptr_some y.a
          clear hx hy
          go_enter Try.func51, Try.ntmps51
          go_wp2_with fail
          go_quiet (fail)
          generalize hwq : W.drewN _ = wq
          have hbq : Below W.heap.size W wq := by rw [← hwq]; exact below_drewN _ _
          have hBq := hW.trans (hbq.mono hW.size)
          clear hwq hlk
          go_wp2_with (first
            | (go_at_call 51; refine (hcx _ hBq).mono ?_; rintro e w1 ⟨v1, l1, b1, rfl, hl1, ho1, _, hb1⟩; have hn1 : l1.length ≤ 64 := by { rw [hl1.length_eq]; omega })
            | (at_builtin; refine wpList_join _ rfl _ _ rfl W.heap.size (.slice none 0 0) [] rfl (World.ownsRow_nil _ _ _ _) b1 v1 l1 rfl ho1 (by simp; omega) (Nat.le_trans hbq.size hb1.size) ?_; intro v2 w2 ho2 hg2; obtain ⟨va2, vc2, hv2, _, _, _⟩ := own_cells ho2; have hb2 : Below W.heap.size W w2 := (hbq.trans (hb1.mono hbq.size)).grown hg2 (Nat.le_trans hbq.size hb1.size) (fun k hk => by cases hk); have HL2 : Hid (l1.Perm (cand Ls (p ++ [c]) (t.drop (k + 1)))) := hl1; clear hl1 ho1 hg2; rw [List.nil_append] at ho2 hv2; subst hv2))
          have hdW : d.a < w2.drew.heap.size := Nat.lt_of_lt_of_le HAT.out.blk.lt (Nat.le_trans hW.size hb2.size)
          have HS0 : w2.drew.cell? ⟨d.a, o, none⟩ = some (.map dm) := (hb2.drew.cell (p := ⟨d.a, o, none⟩) (Nat.lt_of_lt_of_le HAT.out.blk.lt hW.size)).trans c0
          have hbd : Below W.heap.size W w2.drew := hb2.drew
          go_region_held3 (fun w' => w'.cell? ⟨d.a, o, none⟩ = some (.map dm)) (first | exact HS0 | exact HS8)
            (first
              | (go_at_call 66; refine (hwh _).mono ?_; rintro e w8 ⟨rfl, b8⟩; have HS8 : w8.cell? ⟨d.a, o, none⟩ = some (.map dm) := (b8.cell (p := ⟨d.a, o, none⟩) hdW).trans HS0; have hb8 : Below W.heap.size W w8 := hbd.trans (b8.mono hbd.size); have hlw8 := hlw w8 hb8; have hB8 := hW.trans (hb8.mono hW.size); have ho8 := own_below (w := w2.drew) ho2 b8))
          clear hlw hlw8 HS0 HS8
          go_wp2_with (first
            | (go_at_call 69; refine (hend _ hB8).mono ?_; rintro e w9 ⟨rfl, hb9⟩; have hB9 := hB8.trans (hb9.mono hB8.size); have ho9 := own_below ho8 hb9)
            | (go_at_call 51; refine (hcy _ hB9).mono ?_; rintro e w3 ⟨v3, l3, b3, rfl, hl3, ho3, _, hb3⟩; have hn3 : l3.length ≤ 64 := by { rw [hl3.length_eq]; omega }; have ho4 := own_below ho9 hb3)
            | (at_builtin; refine wpList_join _ rfl _ _ rfl W.heap.size (.slice va2 l1.length vc2) l1 rfl ho4 b3 v3 l3 rfl ho3 (by first | omega | (simp; omega)) (Nat.le_trans hb8.size (Nat.le_trans hb9.size hb3.size)) ?_; intro v5 w5 ho5 hg5; obtain ⟨va5, vc5, hv5, _, _, _⟩ := own_cells ho5; have HO5 : Hid (w5.ownsRow W.heap.size 3 1 v5 (l1 ++ l3).length (intsV (l1 ++ l3))) := ho5; have HV5 : Hid (v5 = .slice va5 (l1 ++ l3).length vc5) := hv5; have hb5 : Below W.heap.size W w5 := ((hb8.trans (hb9.mono hb8.size)).trans (hb3.mono (Nat.le_trans hb8.size hb9.size))).grown hg5 (Nat.le_trans hb8.size (Nat.le_trans hb9.size hb3.size)) (fun k hk => (World.ownsRow.lt ho4 k hk).1); have HL3 : Hid (l3.Perm (cand Ls (p ++ [wh]) (t.drop ps))) := hl3; clear hl3 ho3 hg5 ho4 ho9 ho8 ho5 hv5))
          go_ret
          refine ⟨_, l1 ++ l3, W.heap.size, rfl, ?_, HO5.out, fun _ => rfl, hb5⟩
          exact (List.Perm.append HL2.out HL3.out).trans HST.out.symm
    · obtain rfl : k = t.length := by omega
      have hat := h.at' p d hp
      have hcs := hat.cells
      have hdl := hat.blk.lt
      have c1 : W.cell? ⟨d.a, ofs p + 1, none⟩ = some d.e := (hW.cell (p := ⟨d.a, ofs p + 1, none⟩) hdl).trans hcs.2.1
      have hrow := own_below hat.ends hW
      have HR : Hid (W.ownsRow B 3 1 d.e (endsAt Ls p).length (intsV (endsAt Ls p))) := hrow
      obtain ⟨ea, ec, hde, _⟩ := own_cells hat.ends
      rw [hde] at c1 HR
      have hkn : ((t.length : Int) == (t.length : Int)) = true := by simp
      clear hat hcs hrow hde
      generalize ofs p = o at c1 ⊢
      go_enter Try.func51, Try.ntmps51
      go_wp2_with fail
      go_ret
      refine ⟨_, endsAt Ls p, B, rfl, ?_, HR.out, fun h => absurd (List.drop_length) h, Below.refl _ _⟩
      rw [List.drop_length, cand_end]

end Go.Proofs.Ytpflbdkbbkobbaa
