/-
  A nil net has no rules; what is answered is new memory, and rules that were handed in may be written over.
-/
import Derived.Test.YtpflbdkbbkobbaaRows
import Derived.Test.YtpflbdkbbkobbaaWake8
import Derived.Test.YtpflbdkbbkobbaaOpenQ
import Derived.Test.YtpflbdkbbkobbaaOpenS
import Derived.ProofKit
import Derived.OpenShut
import Derived.ShutString
import Derived.ChangeOld
import Derived.Below
import Derived.SizedLaws
import Derived.Lib.SmallJoins
namespace Go.Proofs.Ytpflbdkbbkobbaa
open Go.ChangeShapes Go.WideShapes Go.ChangeAt Go.RowKit Go.Joins
open Go.ChangeMaps (open_string shut_string)
set_option linter.unusedVariables false
set_option linter.unusedSimpArgs false
set_option maxRecDepth 100000

/-- a block of at least n cells of terms -/
def BlockOk (w : World) (g n : Nat) : Prop := ∃ cur, w.heap[g]? = some (.cells cur 51 (0, 0)) ∧ n * 2 ≤ cur.size
theorem heap_set_self {w : World} {g i : Nat} {u : Value} {cur : Array Value} {t : TypeId} (h : w.heap[g]? = some (.cells cur t (0, 0))) : (w.setCell ⟨g, i, none⟩ u).heap[g]? = some (.cells (cur.setIfInBounds i u) t (0, 0)) := by
  simp only [World.setCell, Array.getElem?_modify, h, if_true]
  rfl
theorem heap_set_other {w : World} {g k i : Nat} {u : Value} (h : k ≠ g) : (w.setCell ⟨g, i, none⟩ u).heap[k]? = w.heap[k]? := Below.heap_setCell _ _ _ _ h
theorem heap_set_size (w : World) (p : Addr) (u : Value) : (w.setCell p u).heap.size = w.heap.size := by simp [World.setCell]
theorem BlockOk.set {w : World} {g n : Nat} (h : BlockOk w g n) (g' i : Nat) (u : Value) : BlockOk (w.setCell ⟨g', i, none⟩ u) g n := by
  obtain ⟨cur, h1, h2⟩ := h
  by_cases e : g = g'
  · subst e
    exact ⟨_, heap_set_self h1, by rw [Array.size_setIfInBounds]; exact h2⟩
  · exact ⟨cur, (heap_set_other e).trans h1, h2⟩
theorem BlockOk.at {w : World} {g n j : Nat} (h : BlockOk w g n) (hj : j < n) : (∃ u, w.cell? ⟨g, j * 2, none⟩ = some u) ∧ w.frozen? ⟨g, j * 2, none⟩ = false := by
  obtain ⟨cur, h1, h2⟩ := h
  refine ⟨⟨cur[j * 2]'(by omega), ?_⟩, Lib.frozen_of_heap h1 _⟩
  rw [Lib.cell_of_heap h1]
  simp
theorem own_block {w : World} {B : Nat} {x : Value} {l : List Cl} (h : Owns w B x l) (hl : l ≠ []) : ∃ g cap, x = .slice (some ⟨g, 0, none⟩) l.length cap ∧ B ≤ g ∧ g < w.heap.size ∧ l.length ≤ cap ∧ cap ≤ maxLen ∧ BlockOk w g l.length := by
  rcases h.2 with ⟨_, h0⟩ | ⟨g, cap, cur, hv, hB, hg, h1, h2, h3, _⟩
  · exact absurd (List.eq_nil_of_length_eq_zero h0) hl
  · exact ⟨g, cap, hv, hB, (Array.getElem?_eq_some_iff.1 hg).1, h1, h2, cur, hg, by rw [h3]; exact Nat.mul_le_mul_right 2 h1⟩

theorem row_kept {w w' : World} {B : Nat} {e : TypeId} {size : Nat} {v : Value} {n : Nat} {xs : List Value} (h : w.ownsRow B e size v n xs) (he : ∀ k, B ≤ k → k < w.heap.size → w'.heap[k]? = w.heap[k]?) : w'.ownsRow B e size v n xs := by
  refine ⟨h.1, ?_⟩
  rcases h.2 with hn | ⟨g, cap, cur, hv, hB, hg, rest⟩
  · exact .inl hn
  · exact .inr ⟨g, cap, cur, hv, hB, (he g hB (Array.getElem?_eq_some_iff.1 hg).1).trans hg, rest⟩

/-- while the values of binds are written into: what stays as it was in w0, and where one may write -/
structure Mid (w0 wr : World) (lo hi : Nat) (la : Option Addr) (A : List Bd) : Prop where
  low : Below lo w0 wr
  high : ∀ k : Nat, hi ≤ k → wr.heap[k]? = w0.heap[k]?
  room : ∀ (i : Nat) b, A[i]? = some b → ∃ gr g cap cr, la = some ⟨gr, 0, none⟩ ∧ wr.heap[gr]? = some (.cells cr 53 (0, 0)) ∧ wr.cell? ⟨gr, i * 2 + 1, none⟩ = some (.slice (some ⟨g, 0, none⟩) b.val.length cap) ∧ lo ≤ g ∧ g < hi ∧ b.val.length ≤ cap ∧ cap ≤ maxLen ∧ BlockOk wr g b.val.length
theorem Mid.store {w0 wr : World} {lo hi : Nat} {la : Option Addr} {A : List Bd} (h : Mid w0 wr lo hi la A) {g i n : Nat} (hlo : lo ≤ g) (hhi : g < hi) (hb : BlockOk wr g n) (u : Value) : Mid w0 (wr.setCell ⟨g, i, none⟩ u) lo hi la A := by
  refine ⟨h.low.setCell hlo u, fun k hk => (heap_set_other (by omega)).trans (h.high k hk), fun j l hj => ?_⟩
  obtain ⟨gr, g2, cap, cr, h1, h2, h3, h4, h5, h6, h7, h8⟩ := h.room j l hj
  have hne : gr ≠ g := by
    intro e
    subst e
    obtain ⟨cur, hc, _⟩ := hb
    rw [h2] at hc
    cases hc
  exact ⟨gr, g2, cap, cr, h1, (heap_set_other hne).trans h2, (World.cell?_of_block (a := ⟨gr, j * 2 + 1, none⟩) (heap_set_other hne)).trans h3, h4, h5, h6, h7, h8.set _ _ _⟩
/-- a list of binds that a call made: it may be written into -/
theorem mid_of {w5 w7 : World} {lo hi n kc : Nat} {ka : Option Addr} {A : List Bd} (h : OwnsB w5 lo (.slice ka n kc) A) (hK : ∀ b ∈ A, b.val ≠ []) (hhi : w5.heap.size = hi) (hb : Below hi w5 w7) : Mid w7 w7 lo hi ka A := by
  subst hhi
  refine ⟨Below.refl _ _, fun _ _ => rfl, fun i bd hi => ?_⟩
  obtain ⟨ps, hpl, hrow5, hel5⟩ := h
  obtain ⟨x, hx, ho⟩ := hel5 i bd hi
  obtain ⟨g, cap, rfl, q1, q2, q3, q4, q5⟩ := own_block ho (hK bd (List.mem_of_getElem? hi))
  obtain ⟨a', cap', hv', _, _, hc⟩ := own_cells hrow5
  injection hv' with e1 _ _
  subst e1
  obtain ⟨gr, ha, _, hgl, hcx⟩ := hc (i * 2 + 1) _ (by rw [flatP_odd, hx]; rfl)
  obtain ⟨cr, hcr⟩ : ∃ cr, w5.heap[gr]? = some (.cells cr 53 (0, 0)) := by
    rcases hrow5.2 with ⟨e, _⟩ | ⟨g', cap2, cur, e, _, hg, _⟩
    · injection e with e1 _ _; rw [e1] at ha; cases ha
    · injection e with e1 _ _; rw [ha] at e1; cases e1; exact ⟨cur, hg⟩
  obtain ⟨cur, hcu, hsz⟩ := q5
  exact ⟨gr, g, cap, cr, ha, (hb.block gr hgl).trans hcr, (hb.cell (p := ⟨gr, i * 2 + 1, none⟩) hgl).trans hcx, q1, q2, q3, q4, cur, (hb.block g q2).trans hcu, hsz⟩

/-- while the left sides of rules are written into: what stays as it was in w0, and where one may write -/
structure MidR (w0 wr : World) (lo hi : Nat) (la : Option Addr) (A : List Rl) : Prop where
  low : Below lo w0 wr
  high : ∀ k : Nat, hi ≤ k → wr.heap[k]? = w0.heap[k]?
  room : ∀ (i : Nat) r, A[i]? = some r → ∃ gr g cap cr, la = some ⟨gr, 0, none⟩ ∧ wr.heap[gr]? = some (.cells cr 40 (0, 0)) ∧ wr.cell? ⟨gr, i * 3 + 1, none⟩ = some (.slice (some ⟨g, 0, none⟩) r.l.length cap) ∧ lo ≤ g ∧ g < hi ∧ r.l.length ≤ cap ∧ cap ≤ maxLen ∧ BlockOk wr g r.l.length
theorem MidR.store {w0 wr : World} {lo hi : Nat} {la : Option Addr} {A : List Rl} (h : MidR w0 wr lo hi la A) {g i n : Nat} (hlo : lo ≤ g) (hhi : g < hi) (hb : BlockOk wr g n) (u : Value) : MidR w0 (wr.setCell ⟨g, i, none⟩ u) lo hi la A := by
  refine ⟨h.low.setCell hlo u, fun k hk => (heap_set_other (by omega)).trans (h.high k hk), fun j l hj => ?_⟩
  obtain ⟨gr, g2, cap, cr, h1, h2, h3, h4, h5, h6, h7, h8⟩ := h.room j l hj
  have hne : gr ≠ g := by
    intro e
    subst e
    obtain ⟨cur, hc, _⟩ := hb
    rw [h2] at hc
    cases hc
  exact ⟨gr, g2, cap, cr, h1, (heap_set_other hne).trans h2, (World.cell?_of_block (a := ⟨gr, j * 3 + 1, none⟩) (heap_set_other hne)).trans h3, h4, h5, h6, h7, h8.set _ _ _⟩
/-- rules that a call made: their left sides may be written into -/
theorem midR_of {w5 w7 : World} {lo hi n kc : Nat} {ka : Option Addr} {A : List Rl} (h : OwnsR w5 lo (.slice ka n kc) A) (hK : ∀ r ∈ A, r.l ≠ []) (hhi : w5.heap.size = hi) (hb : Below hi w5 w7) : MidR w7 w7 lo hi ka A := by
  subst hhi
  refine ⟨Below.refl _ _, fun _ _ => rfl, fun i bd hi => ?_⟩
  obtain ⟨ps, hpl, hrow5, hel5⟩ := h
  obtain ⟨x, y, hx, ho, _⟩ := hel5 i bd hi
  obtain ⟨g, cap, rfl, q1, q2, q3, q4, q5⟩ := own_block ho (hK bd (List.mem_of_getElem? hi))
  obtain ⟨a', cap', hv', _, _, hc⟩ := own_cells hrow5
  injection hv' with e1 _ _
  subst e1
  obtain ⟨gr, ha, _, hgl, hcx⟩ := hc (i * 3 + 1) _ (flatR_at ps i _ hx).2.1
  obtain ⟨cr, hcr⟩ : ∃ cr, w5.heap[gr]? = some (.cells cr 40 (0, 0)) := by
    rcases hrow5.2 with ⟨e, _⟩ | ⟨g', cap2, cur, e, _, hg, _⟩
    · injection e with e1 _ _; rw [e1] at ha; cases ha
    · injection e with e1 _ _; rw [ha] at e1; cases e1; exact ⟨cur, hg⟩
  obtain ⟨cur, hcu, hsz⟩ := q5
  exact ⟨gr, g, cap, cr, ha, (hb.block gr hgl).trans hcr, (hb.cell (p := ⟨gr, i * 3 + 1, none⟩) hgl).trans hcx, q1, q2, q3, q4, cur, (hb.block g q2).trans hcu, hsz⟩
theorem check_ne {L : List Cl} (h : check L = 0) : L ≠ [] := fun e => by subst e; revert h; decide
/-- the first cells of a list, as they lie -/
theorem lies_front {w : World} {B : Nat} {a : Option Addr} {c : Nat} {L : List Cl} {k : Cl} (h : Owns w B (.slice a (L.length + 1) c) (L ++ [k])) (hf : Fine L) : Lies w (.slice a L.length c) L := by
  obtain ⟨a', c', hv, h1, h2, h3⟩ := own_cells h
  injection hv with e1 _ e3
  subst e1 e3
  rw [List.length_append] at h1
  refine ⟨a, c, rfl, by omega, h2, hf, fun i x hx => ?_⟩
  have hx2 : (L ++ [k])[i]? = some x := by rw [List.getElem?_append_left (List.getElem?_eq_some_iff.1 hx).1]; exact hx
  obtain ⟨g, ha, _, hg, q1⟩ := h3 (i * 2) (.string x.nm) (by rw [flatC_even, hx2]; rfl)
  obtain ⟨g', ha', _, _, q2⟩ := h3 (i * 2 + 1) (.int .i64 x.ar) (by rw [flatC_odd, hx2]; rfl)
  rw [ha] at ha'
  cases ha'
  exact ⟨g, 0, ha, hg, by rw [Nat.zero_add]; exact q1, by rw [Nat.zero_add]; exact q2⟩
theorem bE_okN {rs : List Rl} (h : bE rs = 0) : RsOk rs ∧ rs.length ≤ 64 := by
  unfold bE at h
  split at h
  · cases h
  · exact ⟨RsOk.of h, by omega⟩
/-- what First answers, whatever it is -/
theorem fstd_any {w : World} {rs : List Rl} {t : List Cl} {e : Ending} {w' : World} (h : Fstd w (fstL t rs) e w') : ∃ id bs ba bc ok, e = .returned (.tuple #[.int .i64 id, .slice ba bs.length bc, .bool ok]) ∧ OwnsB w' w.heap.size (.slice ba bs.length bc) bs ∧ (∀ b ∈ bs, b.val ≠ []) ∧ Below w.heap.size w w' := by
  obtain ⟨hb, ⟨h1, rfl⟩ | ⟨id, bs, bv, h1, rfl, ho⟩⟩ := h
  · exact ⟨0, [], none, 0, false, rfl, OwnsB.nil _ _, (fun b hb => by cases hb), hb⟩
  · obtain ⟨ba, bc, rfl, _⟩ := ho.form
    refine ⟨id, bs, ba, bc, true, rfl, ho, fun b hb' => ?_, hb⟩
    rw [fstL_I] at h1
    cases hi : firstI rs t with
    | none => rw [hi] at h1; cases h1
    | some p =>
      obtain ⟨k, bs'⟩ := p
      obtain ⟨r, hr, hm⟩ := firstI_some hi
      rw [hi] at h1
      simp only [Option.bind_some, hr, Option.map_some, Option.some.injEq, Prod.mk.injEq] at h1
      obtain ⟨_, rfl⟩ := h1
      obtain ⟨_, h2, _⟩ := mt_facts hm
      exact check_ne (h2 b hb').1

theorem lt_cell {w : World} {b i : Nat} {v : Value} (h : w.cell? ⟨b, i, none⟩ = some v) : b < w.heap.size := World.block_lt_of_cell? w _ h
def keepC : Cl := ⟨⟨#[107, 101, 101, 112]⟩, 0⟩
theorem own_keep {w : World} {B : Nat} {v : Value} {T : List Cl} (h : w.ownsRow B 51 2 v (T.length + 1) (flatC T ++ [.string ⟨#[107, 101, 101, 112]⟩, .int .i64 0])) : Owns w B v (T ++ [keepC]) := by
  unfold Owns
  rw [flatC_append, List.length_append]
  exact h
set_option maxHeartbeats 16000000 in
theorem netNil_walk (v0 : Value) (rs : List Rl) (v1 : Value) (T : List Cl) (w : World) (hr : LiesR w v0 rs) (hz : rs.length * 56 ≤ 140737488351232 ∧ ∀ r ∈ rs, r.l.length * 24 ≤ 140737488355328 ∧ r.r.length * 24 ≤ 140737488355328) (hT : Lies w v1 T) (hzT : T.length * 24 ≤ 140737488351232) :
    Calls Try.prog 6 #[v0, v1] w fun e w' => e = .returned (.bool true) ∧ Below w.heap.size w w' := by
  have HR := hid hr
  have HT := hid hT
  have HRF := hid hr.fine
  have hwk := wakes_any w
  have hcp : ∀ w1, Below w.heap.size w w1 → _ := fun w1 hb => copy_any w1 v1 T (HT.out.on hb) (by omega)
  have hfn : ∀ w1 v, Lies w1 v T → _ := fun w1 v h => first_nil w1 v T h
  have han : ∀ w1, Below w.heap.size w w1 → _ := fun w1 hb => all_nil w1 v1 T (HT.out.on hb)
  have hln := len_nil
  have hru : ∀ w1, Below w.heap.size w w1 → _ := fun w1 hb => nrules_any w1 v0 rs (HR.out.on hb) hz.1 hz.2
  have hbu : ∀ w1 v, LiesR w1 v rs → _ := fun w1 v h => build_any w1 v rs h
  have hsr : ∀ w1 v, LiesR w1 v rs → Below w.heap.size w w1 → _ := fun w1 v h hb => sameRules_self w1 v v0 rs h (HR.out.on hb)
  obtain ⟨ra, rc, hrv, hrc1, hrc2, _⟩ := id hr
  subst hrv
  obtain ⟨ta, tc, htv, _, _, hfT, _⟩ := id hT
  subst htv
  have HFT := hid hfT
  have hns := net_some
  have hnn := net_none
  clear hr hT hfT hz
  obtain ⟨q, hq⟩ : ∃ q, bE rs = q := ⟨_, rfl⟩
  have HQ := hid hq
  by_cases hb0 : q = 0
  · subst hb0
    obtain ⟨hok, h64⟩ := bE_okN hq
    have HOK := hid hok
    have hne : ∀ r ∈ rs, r.l ≠ [] := fun r hr => check_ne (chk_zero (hok r hr)).2.1
    have hrm : rs.length ≤ 9223372036854775807 := by omega
    clear hq hok
    go_enter Try.func6, Try.ntmps6
    go_wp2_with (first
      | (go_at_call 7; refine hwk.mono ?_; clear hwk; rintro e w1 ⟨rfl, hb1⟩; have HB1 := hid hb1; clear hb1)
      | (go_at_call 12; refine (hcp _ HB1.out).mono ?_; rintro e w2 ⟨x2, rfl, ho2, hb2⟩; have HB2 := hid (HB1.out.trans (hb2.mono HB1.out.size)); have HL2 := hid (Owns.lies ho2 HFT.out); obtain ⟨xa2, xc2, hxv2, _⟩ := own_cells ho2; subst hxv2; clear ho2 hb2 HB1)
      | (go_at_call 11; refine (hfn _ _ HL2.out).mono ?_; clear hfn; rintro e w3 ⟨rfl, hb3⟩; have HB3 := hid (HB2.out.trans (hb3.mono HB2.out.size)); clear hb3 HB2 HL2)
      | (go_at_call 16; refine (han _ HB3.out).mono ?_; clear han; rintro e w4 ⟨rfl, hb4⟩; have HB4 := hid (HB3.out.trans (hb4.mono HB3.out.size)); clear hb4 HB3)
      | (go_at_call 19; refine (hln _).mono ?_; clear hln; rintro e w4' ⟨rfl, rfl⟩)
      | (go_at_call 9; refine (hru _ HB4.out).mono ?_; clear hru; rintro e w5 ⟨v5, rfl, ho5, hb5⟩; have HB5 := hid (HB4.out.trans (hb5.mono HB4.out.size)); have HL5 := hid (ho5.lies HRF.out); have HO5 := hid ho5; have HS4 := hid HB4.out.size; obtain ⟨oa, oc, hov⟩ := ho5.form; subst hov; clear ho5 hb5 HB4)
      | (go_at_call 8; refine (hbu _ _ HL5.out).mono ?_; clear hbu; rintro e w6 ⟨hb6, h6⟩; obtain ⟨_, nb, h7, hN⟩ := h6.resolve_left (fun h => h.1 HQ.out); subst h7; have HB6 := hid (HB5.out.trans (hb6.mono HB5.out.size)); have HN6 := hid hN; have HM6 := hid (midR_of HO5.out hne rfl hb6); clear hb6 h6 hN HL5 HO5 hsr))
    go_loopw [70] (fun i wr => ∃ j : Nat, j ≤ rs.length ∧ i = .int .i64 (j : Nat) ∧ MidR w6 wr w4.heap.size w5.heap.size oa rs) (fun i _ => rs.length - (intOf i).toNat)
    case atStart => exact ⟨0, Nat.zero_le _, rfl, HM6.out⟩
    case round =>
      obtain ⟨j, hj, rfl, hm⟩ := hrel
      clear HM6
      by_cases hlt : j < rs.length
      · obtain ⟨bd, hbd⟩ : ∃ b, rs[j]? = some b := ⟨rs[j], List.getElem?_eq_getElem hlt⟩
        have HBD := hid hbd
        obtain ⟨gr, g2, cp2, cr, rfl, _, hcx, _, _, hc3, hc4, _⟩ := hm.room j bd hbd
        have hji : (j : Int) < (rs.length : Int) := by omega
        have hlb : bd.l.length ≤ 9223372036854775807 := by unfold maxLen at hc4; omega
        clear hbd
        go_wp2_with fail
        go_loopw [79] (fun i wr => ∃ q : Nat, q ≤ bd.l.length ∧ i = .int .i64 (q : Nat) ∧ MidR w6 wr w4.heap.size w5.heap.size (some ⟨gr, 0, none⟩) rs) (fun i _ => bd.l.length - (intOf i).toNat)
        case atStart => exact ⟨0, Nat.zero_le _, rfl, hm⟩
        case round =>
          obtain ⟨q, hq, rfl, hm2⟩ := hrel
          clear hm hcx
          by_cases hql : q < bd.l.length
          · obtain ⟨gr', g3, cp3, cr3, e3, _, hcx3, hlo, hhi, hc5, hc6, hbk⟩ := hm2.room j bd HBD.out
            cases e3
            obtain ⟨⟨u, hu⟩, hfz⟩ := hbk.at hql
            have hqi : (q : Int) < (bd.l.length : Int) := by omega
            have HM3 := hid (hm2.store (i := q * 2) hlo hhi hbk (.string ⟨#[120]⟩))
            clear hm2 hbk
            go_wp2_with fail
            go_roundw
            case rel => exact ⟨q + 1, by omega, by go_num, HM3.out⟩
            case measure => simp [intOf]; omega
          · have hqi : ¬ (q : Int) < (bd.l.length : Int) := by omega
            have HM3 := hid hm2
            clear hm2
            go_wp2_with fail
            go_roundw
            case rel => exact ⟨j + 1, by omega, by go_num, HM3.out⟩
            case measure => simp [intOf]; omega
      · have hji : ¬ (j : Int) < (rs.length : Int) := by omega
        have HNr : Hid (NetAt wr w5.heap.size nb rs) := HN6.out.hi' fun g hg _ => hm.high g hg
        have HBr : Hid (Below w.heap.size w wr) := HB6.out.trans (hm.low.mono HS4.out)
        have hfi : ∀ w1 B nb v, NetAt w1 B nb rs → Lies w1 v T → Calls Try.prog 11 #[.pointer (some ⟨nb, 0, none⟩), v] w1 fun e w' => Fstd w1 (fstL T rs) e w' := fun w1 B nb v h1 h2 => nfirst_any w1 B nb rs h64 HOK.out h1 v T h2
        have hla : ∀ w1 B nb v, NetAt w1 B nb rs → Lies w1 v T → _ := fun w1 B nb v h1 h2 => nall_any w1 B nb rs h64 HOK.out h1 v T h2
        have hra : ∀ w1, Below w.heap.size w w1 → _ := fun w1 hb => rall_any w1 _ rs (HR.out.on hb) HOK.out h64 _ T (HT.out.on hb)
        obtain ⟨L, hL⟩ : ∃ L, allL T rs = L := ⟨_, rfl⟩
        rw [hL] at hla hra
        obtain ⟨i0, hi0, hz0, hz1, hz2⟩ := info_parts info59
        have hTm : T.length ≤ 5864062014805 := by omega
        clear hm hL HN6 HB6 hne
        go_wp2_with (first
          | (go_at_call 12; refine (hcp _ HBr.out).mono ?_; clear hcp; rintro e w7 ⟨x7, rfl, ho7, hb7⟩; have HO7 := hid ho7; have HE7 := hid hb7; have hs7 := hb7.size; obtain ⟨xa7, xc7, hxv7, _⟩ := own_cells ho7; subst hxv7; clear ho7 hb7)
          | (at_builtin; refine wpList_append_own _ rfl _ _ 24 rfl wr.heap.size 51 i0 (.agg #[.string ⟨#[]⟩, .int .i64 0]) 2 24 Try.underlying24 hi0 hz0 hz1 hz2 rfl (by decide) (.slice xa7 T.length xc7) T.length (flatC T) rfl (World.ownsRow.alloc HO7.out _) ⟨w7.heap.size, 0, none⟩ 1 1 [.string ⟨#[107, 101, 101, 112]⟩, .int .i64 0] rfl rfl (two_cells w7 _ _ _) (by intro u hu; simp at hu; rcases hu with rfl | rfl <;> rfl) (by unfold maxLen; omega) (by omega) (by simp; omega) ?_; intro v8 w8 ho8 hg8 _; have HO8 : Hid (Owns w8 wr.heap.size v8 (T ++ [keepC])) := (own_keep ho8); have HE8 := hid ((HE7.out.alloc HE7.out.size (.cells #[.string ⟨#[107, 101, 101, 112]⟩, .int .i64 0] 51)).grown hg8 (by simp; omega) (fun k hk => (row_at HO7.out hk).1)); have HN8 := hid (HNr.out.on HE8.out); have HB8 := hid (HBr.out.trans (HE8.out.mono HBr.out.size)); obtain ⟨ua, uc, huv, huc, huc2, hucs⟩ := own_cells HO8.out; obtain ⟨gu, hgu, _, _, ck⟩ := hucs (T.length * 2) (.string ⟨#[107, 101, 101, 112]⟩) (by rw [flatC_even, List.getElem?_append_right (Nat.le_refl _), Nat.sub_self]; rfl); subst hgu; rw [List.length_append, List.length_singleton] at huv huc; have HCK := hid ck; have hgul := lt_cell ck; clear ho8 hg8 HO7 HE7 hucs ck; subst huv)
          | (go_at_call 11; refine (hfi _ _ _ _ HN8.out (lies_front HO8.out HFT.out)).mono ?_; clear hfi; rintro e w9 h9; obtain ⟨id9, bs, ba, bc, ok9, h10, ho9, hne9, hb9⟩ := fstd_any h9; subst h10; have HM9 := hid (mid_of ho9 hne9 rfl (Below.refl _ _)); have HB9 := hid hb9; obtain ⟨_, _, _, hbl1, hbl2⟩ := ho9.form; have hbm : bs.length ≤ 9223372036854775807 := (by unfold maxLen at hbl2; omega); clear h9 ho9 hne9 hb9 hbl1 hbl2))
        go_loopw [109] (fun i wr => ∃ j : Nat, j ≤ bs.length ∧ i = .int .i64 (j : Nat) ∧ Mid w9 wr w8.heap.size w9.heap.size ba bs) (fun i _ => bs.length - (intOf i).toNat)
        case atStart => exact ⟨0, Nat.zero_le _, rfl, HM9.out⟩
        case round =>
          obtain ⟨j, hj, rfl, hm⟩ := hrel
          clear HM9
          by_cases hlt : j < bs.length
          · obtain ⟨bd, hbd⟩ : ∃ b, bs[j]? = some b := ⟨bs[j], List.getElem?_eq_getElem hlt⟩
            have HBD := hid hbd
            obtain ⟨gr, g2, cp2, cr, rfl, _, hcx, _, _, hc3, hc4, _⟩ := hm.room j bd hbd
            have hji : (j : Int) < (bs.length : Int) := by omega
            have hlb : bd.val.length ≤ 9223372036854775807 := by unfold maxLen at hc4; omega
            clear hbd
            go_wp2_with fail
            go_loopw [118] (fun i wr => ∃ q : Nat, q ≤ bd.val.length ∧ i = .int .i64 (q : Nat) ∧ Mid w9 wr w8.heap.size w9.heap.size (some ⟨gr, 0, none⟩) bs) (fun i _ => bd.val.length - (intOf i).toNat)
            case atStart => exact ⟨0, Nat.zero_le _, rfl, hm⟩
            case round =>
              obtain ⟨q, hq, rfl, hm2⟩ := hrel
              clear hm hcx
              by_cases hql : q < bd.val.length
              · obtain ⟨gr', g3, cp3, cr3, e3, _, hcx3, hlo, hhi, hc5, hc6, hbk⟩ := hm2.room j bd HBD.out
                cases e3
                obtain ⟨⟨u, hu⟩, hfz⟩ := hbk.at hql
                have hqi : (q : Int) < (bd.val.length : Int) := by omega
                have HM3 := hid (hm2.store (i := q * 2) hlo hhi hbk (.string ⟨#[120]⟩))
                clear hm2 hbk
                go_wp2_with fail
                go_roundw
                case rel => exact ⟨q + 1, by omega, by go_num, HM3.out⟩
                case measure => simp [intOf]; omega
              · have hqi : ¬ (q : Int) < (bd.val.length : Int) := by omega
                have HM3 := hid hm2
                clear hm2
                go_wp2_with fail
                go_roundw
                case rel => exact ⟨j + 1, by omega, by go_num, HM3.out⟩
                case measure => simp [intOf]; omega
          · have hji : ¬ (j : Int) < (bs.length : Int) := by omega
            obtain ⟨W8, hW8⟩ : ∃ W8, W8 = w8 := ⟨_, rfl⟩
            have HEe : Hid (Below w8.heap.size w8 wr) := HB9.out.trans hm.low
            have HBe : Hid (Below w.heap.size w wr) := HB8.out.trans (HEe.out.mono HB8.out.size)
            have HNe : Hid (NetAt wr w5.heap.size nb rs) := HN8.out.on HEe.out
            have HLe : Hid (Lies wr (.slice (some ⟨gu, 0, none⟩) T.length uc) T) := (lies_front HO8.out HFT.out).on HEe.out
            have hsm : ∀ w1, Lies w1 (.slice (some ⟨gu, 0, none⟩) T.length uc) T → Below w.heap.size w w1 → Calls Try.prog 21 #[.slice (some ⟨gu, 0, none⟩) T.length uc, .slice ta T.length tc] w1 fun e w' => e = .returned (.bool true) ∧ Below w1.heap.size w1 w' := fun w1 h1 hb => by
              have := same_any w1 _ _ T T h1 (HT.out.on hb)
              rwa [decide_eq_true rfl] at this
            clear hm HB9 HN8 HB8 HO8 hW8
            go_wp2_with (first
              | (go_at_call 16; refine (hla _ _ _ _ HNe.out HLe.out).mono ?_; clear hla; rintro e wa ⟨va, rfl, hoa, hba⟩; have HBa := hid (HBe.out.trans (hba.mono HBe.out.size)); have HEa := hid (HEe.out.trans (hba.mono HEe.out.size)); have HLa := hid (HLe.out.on hba); have HOa := hid hoa; obtain ⟨pa, pc, hpv, _⟩ := own_cells hoa; subst hpv; clear hoa hba HBe HEe HLe HNe)
              | (go_at_call 18; refine (hra _ HBa.out).mono ?_; clear hra; rintro e wb ⟨vb, rfl, hob, hbb⟩; have HBb := hid (HBa.out.trans (hbb.mono HBa.out.size)); have HEb := hid (HEa.out.trans (hbb.mono HEa.out.size)); have HLb := hid (HLa.out.on hbb); have HOb := hid (own_below HOa.out hbb); have HPb := hid hob; obtain ⟨qa, qc, hqv, _⟩ := own_cells hob; subst hqv; clear hob hbb HBa HEa HLa HOa)
              | (go_at_call 17; refine (sameInts_self _ _ _ _ _ L HOb.out HPb.out).mono ?_; rintro e wc ⟨rfl, hbc⟩; have HBc := hid (HBb.out.trans (hbc.mono HBb.out.size)); have HEc := hid (HEb.out.trans (hbc.mono HEb.out.size)); have HLc := hid (HLb.out.on hbc); clear hbc HBb HEb HLb HOb HPb)
              | (go_at_call 21; refine (hsm _ HLc.out HBc.out).mono ?_; clear hsm; rintro e wd ⟨rfl, hbd⟩; have HBd := hid (HBc.out.trans (hbd.mono HBc.out.size)); have HEd := HEc.out.trans (hbd.mono HEc.out.size); have ckd : wd.cell? ⟨gu, T.length * 2, none⟩ = some (.string ⟨#[107, 101, 101, 112]⟩) := (HEd.cell (p := ⟨gu, T.length * 2, none⟩) hgul).trans HCK.out; clear hbd HBc HEc HLc HEd))
            go_ret
            exact ⟨rfl, HBd.out⟩
  · have hqn : ((q : Int) == 0) = false := by simp only [beq_eq_false_iff_ne]; omega
    have hqn2 : ¬ (q : Int) = 0 := by omega
    have hqb : ((q : Int) != 0) = true := by simp; omega
    clear hq
    go_enter Try.func6, Try.ntmps6
    go_wp2_with (first
      | (go_at_call 7; refine hwk.mono ?_; clear hwk; rintro e w1 ⟨rfl, hb1⟩; have HB1 := hid hb1; clear hb1)
      | (go_at_call 12; refine (hcp _ HB1.out).mono ?_; rintro e w2 ⟨x2, rfl, ho2, hb2⟩; have HB2 := hid (HB1.out.trans (hb2.mono HB1.out.size)); have HL2 := hid (Owns.lies ho2 HFT.out); obtain ⟨xa2, xc2, hxv2, _⟩ := own_cells ho2; subst hxv2; clear ho2 hb2 HB1)
      | (go_at_call 11; refine (hfn _ _ HL2.out).mono ?_; clear hfn; rintro e w3 ⟨rfl, hb3⟩; have HB3 := hid (HB2.out.trans (hb3.mono HB2.out.size)); clear hb3 HB2 HL2)
      | (go_at_call 16; refine (han _ HB3.out).mono ?_; clear han; rintro e w4 ⟨rfl, hb4⟩; have HB4 := hid (HB3.out.trans (hb4.mono HB3.out.size)); clear hb4 HB3)
      | (go_at_call 19; refine (hln _).mono ?_; clear hln; rintro e w4' ⟨rfl, rfl⟩)
      | (go_at_call 9; refine (hru _ HB4.out).mono ?_; clear hru; rintro e w5 ⟨v5, rfl, ho5, hb5⟩; have HB5 := hid (HB4.out.trans (hb5.mono HB4.out.size)); have HL5 := hid (ho5.lies HRF.out); obtain ⟨oa, oc, hov⟩ := ho5.form; subst hov; clear ho5 hb5 HB4)
      | (go_at_call 8; refine (hbu _ _ HL5.out).mono ?_; rintro e w6 ⟨hb6, h6⟩; have h7 := h6.resolve_right (fun h => hb0 (HQ.out.symm.trans h.1)); obtain ⟨_, h8⟩ := h7; rw [HQ.out] at h8; subst h8; have HB6 := hid (HB5.out.trans (hb6.mono HB5.out.size)); have HL6 := hid (HL5.out.on hb6); clear hb6 h6)
      | (go_at_call 20; refine (hsr _ _ HL6.out HB6.out).mono ?_; rintro e w7 ⟨rfl, hb7⟩; have HB7 := hid (HB6.out.trans (hb7.mono HB6.out.size)); clear hb7))
    go_ret
    exact ⟨rfl, HB7.out⟩

theorem netNil_own : ownKnob Try.prog.godebug = none := by kernel_rfl
theorem netNil_laidOut : laidOutB Try.prog = true := by kernel_rfl

set_option maxRecDepth 100000 in
theorem netNil_lifted (os : Os) (started : os.Started) (H : Type) (enc : TypeId × Value → H) :
    ReturnsInHanded {} Try.checked os 6 .any (Rows.netNilSpec.pre6 enc Try.prog Try.f6 Rows.netNilRow.domain false) (Rows.netNilSpec.post enc Try.prog Try.f6 false true false false) := by
  refine returnsInHanded_of_change_sized (C := Try.checked) netNil_own started (by kernel_rfl) Try.func6
    (ChangeSpec.witness6 (enc := enc) (C := Try.checked) false ⟨#[], #[.slice none 0 0, .slice none 0 0], []⟩ 8 (by kernel_rfl) (by kernel_rfl) (by kernel_rfl) (by kernel_rfl)) ?_
  intro W base args ds gs before hval0 hW hcnd hsz0 _
  have hsz : (DataW.weightsEach Try.prog (Try.f6.params.toList ++ Rows.netNilSpec.plain.varTypes Try.prog) (ds ++ gs)).all (· ≤ reachBytes) = true := hsz0
  have hval : ∀ (j : Nat) t v, Try.f6.params[j]? = some t → args[j]? = some v → Value.okWide Try.prog W .any base t v := hval0
  have hW' := hW
  obtain ⟨p, q, hA0, hV, rfl, hfz, hnd⟩ := hW
  have hA : DataW.TrodAll enc Try.prog W 0 (fun _ => true) true Try.f6.params.toList args.toList ds p := hA0
  rw [Try.params6] at hA hval hsz
  obtain ⟨v0, vs0, d0, ds0, p0, q0, hargs, rfl, rfl, h0, r0⟩ := trodAll_cons hA
  obtain ⟨v1, vs1, d1, ds1, p1, q1, rfl, rfl, rfl, h1, r1⟩ := trodAll_cons r0
  obtain ⟨rfl, rfl, rfl⟩ := trodAll_nil r1
  obtain rfl : args = #[v0, v1] := by cases args; simp_all
  obtain ⟨rfl, rfl⟩ := trodVars_none hV
  have k0 := h0
  have lt0 : ∀ x ∈ p0, x.block < W.heap.size := by obtain ⟨m, hm⟩ := k0; exact DataW.trod_lt m _ _ _ hm
  have k1 := h1
  have lt1 : ∀ x ∈ p1, x.block < W.heap.size := by obtain ⟨m, hm⟩ := k1; exact DataW.trod_lt m _ _ _ hm
  obtain ⟨L0, l0, z0⟩ := open_rules (hval 0 22 v0 rfl rfl) h0 (fun n hn => by simpa using List.all_eq_true.1 hsz n (DataW.weights_mem_each (j := 0) (t := 22) rfl rfl n hn))
  obtain ⟨L1, l1, z1⟩ := open_cellsS (hval 1 24 v1 rfl rfl) h1 (fun n hn => by simpa using List.all_eq_true.1 hsz n (DataW.weights_mem_each (j := 1) (t := 24) rfl rfl n hn))
  clear hA0 hval0
  refine (netNil_walk v0 L0 v1 L1 W l0 z0 l1 z1).mono fun e W' ⟨he, bel⟩ => ?_
  subst he
  exact ⟨_, rfl, _, _, _, [], _, [], hW', trodAll_mk1 (shut_bool Try.underlying4 _), (trodAll_cons_mk (Below.trod netNil_laidOut (by kernel_rfl) (of_decide_eq_true (by kernel_rfl)) k0 bel lt0) (trodAll_cons_mk (Below.trod netNil_laidOut (by kernel_rfl) (of_decide_eq_true (by kernel_rfl)) k1 bel lt1) trodAll_mk0)), rfl, bel.frame _, fun h => by cases h⟩

theorem netNil_holds : Rows.NetNilSaid :=
  OpenClaim.holds_of_wide 6 Try.f6 rfl rfl rfl rfl rfl rfl rfl ⟨rfl, rfl, rfl, rfl, rfl⟩ rfl rfl rfl rfl rfl (by kernel_rfl) Try.func6 (by kernel_rfl)
    (of_decide_eq_true (by kernel_rfl)) (by unfold Func.isWrapper; first | (rw [if_pos (by decide +kernel)]; kernel_rfl) | (rw [if_neg (by decide +kernel)]; exact ⟨rfl, rfl⟩))
    (fun os started H enc _ => netNil_lifted os started H enc)

#print axioms netNil_holds

end Go.Proofs.Ytpflbdkbbkobbaa
