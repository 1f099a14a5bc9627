/-
  The plain names X0, X1 and so on, as what variables stand for; what the program's plainBinds answers.
-/
import Derived.Test.YtjpmlnigjbdnnabDoorRp2
import Derived.Test.YtjpmlnigjbdnnabDoorRefB
namespace Go.Proofs.YtjpmlnigjbdnnabDoor
open Go.RowKit
set_option linter.unusedVariables false
set_option linter.unusedSimpArgs false
set_option maxRecDepth 100000

def digs (k : Nat) : ByteArray := ⟨(Lib.decDigits k).toArray⟩
/-- the plain name of a place -/
def xn (k : Nat) : ByteArray := (⟨#[88]⟩ : ByteArray) ++ digs k
/-- a variable's plain name, as what it stands for -/
def pbd (i : Nat) (v : ByteArray) : Bd := ⟨v, [⟨xn i, 0⟩]⟩
def pbs (V : List ByteArray) : List Bd := V.mapIdx pbd

theorem digs_len : ∀ i, i < 64 → (digs i).size ≤ 2 := by decide +kernel
theorem xn_kind : ∀ i, i < 64 → kind (xn i).data.toList = 2 := by decide +kernel
theorem xn_check : ∀ i, i < 64 → check [⟨xn i, 0⟩] = 0 := by decide +kernel

theorem decimal_any (i : Nat) (hi : i < 64) (w : World) : Calls Tryd.prog 43 #[.int .i64 (i : Nat)] w fun e w' => e = .returned (.string (digs i)) ∧ Below w.heap.size w w' := by
  have hf : ∀ w, Calls Tryd.prog 60 #[.int .i64 (i : Nat), .int .i64 10] w fun e w' => e = .returned (.string (digs i)) ∧ w' = w := fun w => Tryd.strconv_FormatInt_10_small i (by omega) w
  have hl := digs_len i hi
  generalize digs i = s at hf hl ⊢
  have hc := fun w => clone_any s w (by omega)
  go_enter Tryd.func43, Tryd.ntmps43
  go_wp2_with (first | (go_at_call 60; refine (hf _).mono ?_; rintro e w1 ⟨rfl, rfl⟩) | (go_at_call 31; refine (hc _).mono ?_; rintro e w2 ⟨rfl, hb⟩))
  go_ret
  exact ⟨rfl, hb⟩

theorem own_one (w : World) (nm : ByteArray) : Owns (w.alloc (.cells #[.string nm, .int .i64 0] 30)) w.heap.size (.slice (some ⟨w.heap.size, 0, none⟩) 1 1) [⟨nm, 0⟩] := own_lit w [⟨nm, 0⟩] (by unfold maxLen; simp)
theorem pbs_next {V : List ByteArray} {k : Nat} {v : ByteArray} (h : V[k]? = some v) : pbs (V.take (k + 1)) = pbs (V.take k) ++ [pbd k v] := by
  unfold pbs
  obtain ⟨hk, _⟩ := List.getElem?_eq_some_iff.1 h
  rw [List.take_add_one, h]
  simp only [Option.toList_some]
  rw [List.mapIdx_append, List.length_take]
  simp [Nat.min_eq_left (Nat.le_of_lt hk)]

set_option maxHeartbeats 4000000 in
theorem plainBinds_any (w : World) (v : Value) (L : List Cl) (hv : Lies w v L) (hL : check L = 0) :
    Calls Tryd.prog 18 #[v] w fun e w' => ∃ v', e = .returned (.tuple #[v', .int .i64 0]) ∧ OwnsB w' w.heap.size v' (pbs (varsOf L)) ∧ Below w.heap.size w w' := by
  obtain ⟨i0, hi, hz0, hz1, hz2⟩ := info_parts info44
  have hvars := vars_ok w v L hv hL
  have h64 := (check_zero hL).1
  have hvl := varsOf_len L L.length
  rw [List.take_length] at hvl
  have hV64 : (varsOf L).length ≤ 64 := by omega
  obtain ⟨V, hV⟩ : ∃ V, varsOf L = V := ⟨_, rfl⟩
  rw [hV] at hvars hV64 ⊢
  obtain ⟨va, vc, rfl, _⟩ := hv
  have HN : Hid (∀ x ∈ V, x.size ≤ 8) := by
    intro x hx
    rw [← hV] at hx
    obtain h | ⟨c, hc, hk, rfl⟩ := vars_mem L [] x hx
    · cases h
    · exact (name_len (cellsErr_zero.1 (check_zero hL).2.1 c hc)).2
  clear hvl hV hL
  go_enter Tryd.func18, Tryd.ntmps18
  go_wp2_with (go_at_call 42; refine hvars.mono ?_; rintro e w1 ⟨v1, rfl, ho1, hb1⟩; have hS1 := ho1.lies; obtain ⟨sa, sc, hsv, hs1, hs2, _⟩ := ho1.lies; subst hsv)
  have HS1 : Hid (LiesS w1 (.slice sa V.length sc) V) := hS1
  have hws := hb1.size
  have HB1 : Hid (Below w.heap.size w w1) := hb1
  clear hS1 ho1 hb1 hvars
  go_loopw [6, 16] (fun mv i wr => ∃ k : Nat, k ≤ V.length ∧ i = .int .i64 (k : Nat) ∧ OwnsB wr w1.heap.size mv (pbs (V.take k)) ∧ Below w1.heap.size w1 wr) (fun _ i _ => V.length - (intOf i).toNat)
  case atStart => exact ⟨0, Nat.zero_le _, rfl, OwnsB.nil _ _, Below.refl _ _⟩
  case round =>
    obtain ⟨k, hk, rfl, hO, hbr⟩ := hrel
    have hbs := hbr.size
    by_cases hlt : k < V.length
    · obtain ⟨nm, hnm⟩ : ∃ b, V[k]? = some b := ⟨V[k], List.getElem?_eq_getElem hlt⟩
      obtain ⟨g, off, hla, hgl, c1⟩ : ∃ g off, sa = some ⟨g, off, none⟩ ∧ g < wr.heap.size ∧ wr.cell? ⟨g, off + k, none⟩ = some (.string nm) := by
        obtain ⟨a', c', hv', _, _, HC'⟩ := HS1.out.on hbr
        cases hv'
        exact HC' k nm hnm
      subst hla
      have hwr := decimal_any k (by omega) wr
      have hdl := digs_len k (by omega)
      have HT2 : Hid (pbs (V.take (k + 1)) = pbs (V.take k) ++ [pbd k nm]) := pbs_next hnm
      have hn8 := HN.out nm (List.mem_of_getElem? hnm)
      have hpl0 : (pbs (V.take k)).length = k := by unfold pbs; rw [List.length_mapIdx, List.length_take]; omega
      obtain ⟨D, hD⟩ : ∃ D, pbs (V.take k) = D := ⟨_, rfl⟩
      rw [hD] at hO HT2 hpl0
      obtain ⟨ps, hpl, hrow, hel⟩ := hO
      have HPL : Hid (ps.length = D.length) := hpl
      have HX : Hid ((⟨#[88]⟩ : ByteArray) ++ digs k = xn k) := rfl
      have hdk : D.length ≤ 64 := by omega
      generalize digs k = s at hwr hdl HX
      have HEL : Hid (∀ (i : Nat) b, D[i]? = some b → ∃ x, ps[i]? = some (b.nm, x) ∧ Owns wr w1.heap.size x b.val) := hel
      obtain ⟨ma, mc, hmv, _⟩ := own_cells hrow
      subst hmv
      have HROW : Hid (wr.ownsRow w1.heap.size 67 2 (.slice ma D.length mc) D.length (flatP ps)) := hrow
      have HBW : Hid (Below w1.heap.size w1 wr) := hbr
      have hki : (k : Int) < (V.length : Int) := by omega
      clear hnm hD hpl0 hpl hel hrow hk
      go_wp2_with (first
        | (go_at_call 43; (refine hwr.mono ?_; rintro e w3 ⟨rfl, hb3⟩; have hrow3 : (w3.alloc (.cells #[.string (⟨#[88]⟩ ++ s), .int .i64 0] 30)).ownsRow w1.heap.size 67 2 (.slice ma D.length mc) D.length (flatP ps) := World.ownsRow.alloc (own_below HROW.out hb3) _; have hbw3 : Below w1.heap.size w1 w3 := HBW.out.trans (hb3.mono HBW.out.size); have hs3 := hbw3.size; have hx4 : Owns (w3.alloc (.cells #[.string (⟨#[88]⟩ ++ s), .int .i64 0] 30)) w1.heap.size (.slice (some ⟨w3.heap.size, 0, none⟩) 1 1) [⟨⟨#[88]⟩ ++ s, 0⟩] := own_base (own_one w3 _) hs3; have HEL3 : Hid (∀ (i : Nat) b, D[i]? = some b → ∃ x, ps[i]? = some (b.nm, x) ∧ Owns (w3.alloc (.cells #[.string (⟨#[88]⟩ ++ s), .int .i64 0] 30)) w1.heap.size x b.val) := (fun i b hi => by { obtain ⟨y, h1, h2⟩ := HEL.out i b hi; exact ⟨y, h1, World.ownsRow.alloc (own_below h2 hb3) _⟩ })))
        | (at_builtin; refine wpList_append_own _ rfl _ _ 43 rfl w1.heap.size 67 i0 (.agg #[.string ⟨#[]⟩, .slice none 0 0]) 2 40 Tryd.underlying43 hi hz0 hz1 hz2 rfl (by decide) _ D.length (flatP ps) rfl (hrow3.alloc _) ⟨(w3.alloc (.cells #[.string (⟨#[88]⟩ ++ s), .int .i64 0] 30)).heap.size, 0, none⟩ 1 1 [.string nm, .slice (some ⟨w3.heap.size, 0, none⟩) 1 1] (by simp [Act.eval, Act.put]) rfl (two_cells _ _ _ _) (by intro y hy; simp at hy; rcases hy with rfl | rfl <;> rfl) ?c3 ?c4 ?c5 ?_))
      case c3 => unfold maxLen; omega
      case c4 => omega
      case c5 => simp; omega
      intro v' w5 hown' hgrow _
      have hOB := more_bind (nm := nm) HPL.out hrow3 HEL3.out hx4 hown' hgrow
      have hb3' := hbr.trans (hb3.mono hbs)
      have hb5 : Below w1.heap.size w1 w5 := ((hb3'.alloc hb3'.size _).alloc (by simp; have := hb3'.size; omega) _).grown hgrow (by simp; have := hb3'.size; omega) (fun j hj => (hrow3.lt j hj).1)
      clear hown' hgrow hrow3 hx4 HEL3
      go_wp2_with fail
      go_roundw
      case rel => exact ⟨k + 1, by omega, by go_num, by rw [HT2.out]; unfold pbd; rw [← HX.out]; exact hOB, hb5⟩
      case measure => simp [intOf]; omega
    · obtain rfl : k = V.length := by omega
      rw [List.take_length] at hO
      have HO : Hid (OwnsB wr w.heap.size _ (pbs V)) := hO.base hws
      obtain ⟨ma, mc, hmv, _⟩ := hO.form
      subst hmv
      have HBW : Hid (Below w.heap.size w wr) := HB1.out.trans (hbr.mono hws)
      clear hO
      go_wp2_with fail
      go_ret2
      exact ⟨_, rfl, HO.out, HBW.out⟩

end Go.Proofs.YtjpmlnigjbdnnabDoor
