/-
  The program's Of, and the document's disk: what its calls answer; two lists alike.
-/
import Derived.Test.YthinhlmefifffaaNew
import Derived.Laws.StructEq
import Derived.Deep.QuietTactic
import Derived.BigQuiet
namespace Go.Proofs.Ythinhlmefifffaa
open Go.RowKit
set_option linter.unusedVariables false
set_option linter.unusedSimpArgs false
set_option maxRecDepth 100000

/-! ## two lists alike -/

theorem row_some {w : World} {B : Nat} {e : TypeId} {size n m c : Nat} {a : Option Addr} {xs : List Value} (h : w.ownsRow B e size (.slice a n c) m xs) (hm : 0 < m) : ∃ g, a = some ⟨g, 0, none⟩ ∧ B ≤ g ∧ g < w.heap.size := by
  obtain ⟨g, cap, e1, _, _, h2, h3⟩ := own_some h hm
  injection e1 with e2 _ _
  exact ⟨g, e2, h2, h3⟩


theorem same_self (w : World) (B B' : Nat) (u v : Value) (L : List ByteArray) (hu : RowS w B u L) (hv : RowS w B' v L) (hl : L.length ≤ 100000) :
    Calls Try.prog 22 #[u, v] w fun e w' => e = .returned (.bool true) ∧ Below w.heap.size w w' := by
  obtain ⟨a, c, e1⟩ := hu.form
  obtain ⟨a', c', e2⟩ := hv.form
  subst e1
  subst e2
  have HU := hid hu
  have HV := hid hv
  obtain ⟨n, hn⟩ : ∃ n, L.length = n := ⟨_, rfl⟩
  have HN := hid hn
  have hl2 := hl
  rw [hn] at hl2
  rw [hn]
  clear hu hv hn hl
  go_enter Try.func22, Try.ntmps22
  go_wp2_with fail
  go_loopw [13] (fun i wr => ∃ k : Nat, k ≤ n ∧ i = .int .i64 (k : Nat) ∧ Below w.heap.size w wr) (fun i _ => n - (intOf i).toNat)
  case atStart => exact ⟨0, Nat.zero_le _, rfl, Below.refl _ _⟩
  case round =>
    obtain ⟨k, hk, rfl, hb⟩ := hrel
    by_cases hlt : k < n
    · have hki : (k : Int) < (n : Int) := by omega
      obtain ⟨s, hs⟩ : ∃ s, L[k]? = some s := ⟨_, List.getElem?_eq_getElem (by rw [HN.out]; exact hlt)⟩
      obtain ⟨g, x1, _, e1⟩ := row_some HU.out (by rw [HN.out]; omega)
      obtain ⟨h, x2, _, e2⟩ := row_some HV.out (by rw [HN.out]; omega)
      subst x1
      subst x2
      have c1 := (HU.out.at hs).1
      have c2 := (HV.out.at hs).1
      have d1 : wr.cell? ⟨g, k, none⟩ = some (.string s) := (hb.cell (p := ⟨g, k, none⟩) e1).trans c1
      have d2 : wr.cell? ⟨h, k, none⟩ = some (.string s) := (hb.cell (p := ⟨h, k, none⟩) e2).trans c2
      clear c1 c2 hs e1 e2
      go_wp2
      go_region
      have hbd := hb.drew
      clear d1 d2
      go_wp2
      go_roundw
      case rel => exact ⟨k + 1, by omega, by go_num, hbd⟩
      case measure => simp [intOf]; omega
    · obtain rfl : k = n := by omega
      go_wp2
      go_ret
      exact ⟨rfl, hb⟩

theorem equal49 (a : ByteArray) (x : Int) (w : World) : (Op.equalIn 10000 54 (.agg #[.int .i64 x, .string a]) (.agg #[.int .i64 x, .string a])).run Try.prog w = .ok true w := by
  have u3 := Try.underlying3
  have u9 := Try.underlying9
  have a3 := Try.isAgg3
  have a9 := Try.isAgg9
  have z3 := Try.sizeOf3
  have z9 := Try.sizeOf9
  have hS : Try.prog.underlying 54 = some (.struct (Try.prog.fieldsOf 54)) := by kernel_rfl
  have hp : Try.prog.stoodInHeld 54 = false := by kernel_rfl
  rw [show (10000 : Nat) = 9999 + 1 from rfl, run_equalIn_agg w 9999 54 _ _ hS hp]
  simp only [Program.fieldsOf, Try.underlying54]
  go_simp
theorem neq49 (a : ByteArray) (x : Int) (w : World) : (binOp .neq 54 (.agg #[.int .i64 x, .string a]) (.agg #[.int .i64 x, .string a])).run Try.prog w = .ok (.bool false) w := by
  rw [run_neq_struct, equal49]; rfl

theorem samePages_self (w : World) (B B' : Nat) (u v : Value) (L : List Pg) (hu : RowP w B u L) (hv : RowP w B' v L) (hl : L.length * 24 ≤ 140737488355328) :
    Calls Try.prog 20 #[u, v] w fun e w' => e = .returned (.bool true) ∧ Below w.heap.size w w' := by
  obtain ⟨a, c, e1⟩ := hu.form
  obtain ⟨a', c', e2⟩ := hv.form
  subst e1
  subst e2
  have HU := hid hu
  have HV := hid hv
  obtain ⟨n, hn⟩ : ∃ n, L.length = n := ⟨_, rfl⟩
  have HN := hid hn
  have hl2 := hl
  rw [hn] at hl2
  rw [hn]
  clear hu hv hn hl
  go_enter Try.func20, Try.ntmps20
  go_wp2_with fail
  go_loopw [13] (fun i wr => ∃ k : Nat, k ≤ n ∧ i = .int .i64 (k : Nat) ∧ Below w.heap.size w wr) (fun i _ => n - (intOf i).toNat)
  case atStart => exact ⟨0, Nat.zero_le _, rfl, Below.refl _ _⟩
  case round =>
    obtain ⟨k, hk, rfl, hb⟩ := hrel
    by_cases hlt : k < n
    · have hki : (k : Int) < (n : Int) := by omega
      obtain ⟨p, hs⟩ : ∃ p, L[k]? = some p := ⟨_, List.getElem?_eq_getElem (by rw [HN.out]; exact hlt)⟩
      obtain ⟨g, x1, _, e1⟩ := row_some HU.out (by rw [HN.out]; omega)
      obtain ⟨h, x2, _, e2⟩ := row_some HV.out (by rw [HN.out]; omega)
      subst x1
      subst x2
      obtain ⟨c1, c2, _⟩ := HU.out.at hs
      obtain ⟨c3, c4, _⟩ := HV.out.at hs
      have d1 : wr.cell? ⟨g, k * 2, none⟩ = some (.int .i64 p.pl) := (hb.cell (p := ⟨g, k * 2, none⟩) e1).trans c1
      have d2 : wr.cell? ⟨g, k * 2 + 1, none⟩ = some (.string p.data) := (hb.cell (p := ⟨g, k * 2 + 1, none⟩) e1).trans c2
      have d3 : wr.cell? ⟨h, k * 2, none⟩ = some (.int .i64 p.pl) := (hb.cell (p := ⟨h, k * 2, none⟩) e2).trans c3
      have d4 : wr.cell? ⟨h, k * 2 + 1, none⟩ = some (.string p.data) := (hb.cell (p := ⟨h, k * 2 + 1, none⟩) e2).trans c4
      have hEq := neq49 p.data p.pl
      have HB0 : Hid (∀ nq, Below w.heap.size w (wr.drewN nq)) := fun nq => hb.trans ((below_drewN wr nq).mono hb.size)
      clear c1 c2 c3 c4 hs e1 e2
      go_wp2_with fail
      go_quiet (fail)
      go_wp2_with fail
      go_roundw
      case rel => exact ⟨k + 1, by omega, by go_num, HB0.out _⟩
      case measure => simp [intOf]; omega
    · obtain rfl : k = n := by omega
      go_wp2
      go_ret
      exact ⟨rfl, hb⟩

/-! ## Of -/

/-- why blocks are no disk -/
def ofE (bs : List ByteArray) : Nat := if ¬ (64 ≤ bs.length ∧ bs.length ≤ 2048) then 1 else if bs.all (fun s => decide (s.size = 256)) then 0 else 3
theorem take_all {bs : List ByteArray} {k : Nat} {s : ByteArray} (h : ∀ t ∈ bs.take k, t.size = 256) (hk : bs[k]? = some s) (hs : s.size = 256) : ∀ t ∈ bs.take (k + 1), t.size = 256 := by
  intro t ht
  rw [List.take_add_one, hk] at ht
  rcases List.mem_append.1 ht with h' | h'
  · exact h t h'
  · simp at h'; rw [h']; exact hs

/-- what Of leaves -/
def OfPost (w : World) (bs : List ByteArray) (e : Ending) (w' : World) : Prop :=
  Below w.heap.size w w' ∧ ((ofE bs ≠ 0 ∧ e = .returned (.tuple #[.pointer none, .int .i64 (ofE bs : Nat)])) ∨ (ofE bs = 0 ∧ ∃ k, e = .returned (.tuple #[.pointer (some ⟨k, 0, none⟩), .int .i64 0]) ∧ Dk w' (Bt w.heap.size w'.heap.size) k ⟨bs, [], -1, false⟩))

set_option maxHeartbeats 2000000 in
theorem of_any (w : World) (B : Nat) (v : Value) (bs : List ByteArray) (hv : RowS w B v bs) (hl : bs.length ≤ 3000) (hs : ∀ s ∈ bs, s.size ≤ 100000) :
    Calls Try.prog 38 #[v] w fun e w' => OfPost w bs e w' := by
  have hm := mayHave_any (bs.length : Int) w
  have hcb := copyBlocks_any w B v bs hv hl hs
  have hbg : ∀ a n c w1, _ := fun a n c w1 => begin_any (.slice a n c) n c a rfl w1
  obtain ⟨va, vc, hvv⟩ := hv.form
  subst hvv
  have HV := hid hv
  obtain ⟨n, hn⟩ : ∃ n, bs.length = n := ⟨_, rfl⟩
  have HN := hid hn
  rw [hn] at hm hl hcb
  have hl2 : (n : Int) ≤ 3000 := by omega
  by_cases hr : 64 ≤ n ∧ n ≤ 2048
  · rw [decide_eq_true (by omega)] at hm
    have HR := hid hr
    rw [hn]
    clear hv hn hs hr
    go_enter Try.func38, Try.ntmps38
    go_wp2_with (go_at_call 52; refine hm.mono ?_; clear hm; rintro e w1 ⟨rfl, rfl⟩)
    go_loopw [12] (fun i wr => ∃ k : Nat, k ≤ n ∧ i = .int .i64 (k : Nat) ∧ Hid (w = wr) ∧ Hid (∀ t ∈ bs.take k, t.size = 256)) (fun i _ => n - (intOf i).toNat)
    case atStart => exact ⟨0, Nat.zero_le _, rfl, (rfl : w = w), (fun t ht => by simp at ht)⟩
    case round =>
      obtain ⟨k, hk, rfl, HW, HT⟩ := hrel
      have hw : w = wr := HW.out
      subst hw
      clear HW
      by_cases hlt : k < n
      · have hki : (k : Int) < (n : Int) := by omega
        obtain ⟨s, hs⟩ : ∃ s, bs[k]? = some s := ⟨_, List.getElem?_eq_getElem (by rw [HN.out]; exact hlt)⟩
        obtain ⟨g, x1, _, e1⟩ := row_some HV.out (by rw [HN.out]; omega)
        subst x1
        have c1 := (HV.out.at hs).1
        have hib := isBlock_any s w
        have HS := hid hs
        clear hs e1
        by_cases h256 : s.size = 256
        · rw [decide_eq_true h256] at hib
          have HT2 := hid (take_all HT.out HS.out h256)
          clear h256 HT
          go_wp2_with (go_at_call 58; refine hib.mono ?_; rintro e w1 ⟨rfl, rfl⟩)
          go_roundw
          case rel => exact ⟨k + 1, by omega, by go_num, (by first | exact trivial | exact (rfl : w = w)), HT2⟩
          case measure => simp [intOf]; omega
        · rw [decide_eq_false h256] at hib
          have HE : Hid (ofE bs = 3) := by
            show _ = _
            unfold ofE
            rw [if_neg (by rw [HN.out]; exact fun h => h HR.out), if_neg]
            intro h
            have := List.all_eq_true.1 h s (List.mem_of_getElem? HS.out)
            exact h256 (by simpa using this)
          clear h256 HT
          go_wp2_with (go_at_call 58; refine hib.mono ?_; rintro e w1 ⟨rfl, rfl⟩)
          go_ret2
          refine ⟨Below.refl _ _, .inl ⟨?_, ?_⟩⟩
          · rw [HE.out]; decide
          · rw [HE.out]; rfl
      · have hki : ¬ (k : Int) < (n : Int) := by omega
        obtain rfl : k = n := by omega
        have HA : Hid (∀ t ∈ bs, t.size = 256) := by
          have := HT.out
          rwa [← HN.out, List.take_length] at this
        have HE : Hid (ofE bs = 0) := by
          show _ = _
          unfold ofE
          rw [if_neg (by rw [HN.out]; exact fun h => h HR.out), if_pos]
          exact List.all_eq_true.2 fun s hs => by simpa using HA.out s hs
        clear HT
        go_wp2_with (first
          | (go_at_call 48; refine hcb.mono ?_; clear hcb; rintro e w2 ⟨v2, rfl, hr2, hb2⟩; have HR2 := hid hr2; have HB2 := hid hb2; obtain ⟨ra, rc, hrv⟩ := hr2.form; subst hrv; clear hr2 hb2)
          | (go_at_call 54; refine (hbg _ _ _ _).mono ?_; clear hbg; rintro e w5 ⟨rfl, rfl⟩))
        go_ret2
        have hbb := (Below.refl w2.heap.size w2).alloc (Nat.le_refl _) (.cells #[.slice ra bs.length rc, .slice none 0 0, .int .i64 (-1), .bool false] 69)
        refine ⟨HB2.out.trans (hbb.mono HB2.out.size), .inr ⟨HE.out, w2.heap.size, rfl, ⟨?_, ?_, HA.out, ?_, ?_⟩, fun j hj => hj.2, ⟨HB2.out.size, by simp⟩, .slice ra bs.length rc, .slice none 0 0, Blk.made _ _ _, ?_, World.ownsRow_nil _ _ _ _, ?_, ?_⟩⟩
        · show 64 ≤ bs.length; rw [HN.out]; exact HR.out.1
        · show bs.length ≤ 2048; rw [HN.out]; exact HR.out.2
        · intro p hp; cases hp
        · simp only; omega
        · exact own_base (HR2.out.on hbb) (Nat.zero_le _)
        · exact In.of_row (HR2.out.on hbb) (Nat.le_refl _)
        · intro g hg; simp [Value.ownBlock] at hg
  · rw [decide_eq_false (by omega)] at hm
    have HE : Hid (ofE bs = 1) := by
      show _ = _
      unfold ofE
      rw [if_pos (by rw [hn]; exact hr)]
    rw [hn]
    clear hv hn hs hr
    go_enter Try.func38, Try.ntmps38
    go_wp2_with (go_at_call 52; refine hm.mono ?_; rintro e w1 ⟨rfl, rfl⟩)
    go_ret2
    refine ⟨Below.refl _ _, .inl ⟨?_, ?_⟩⟩
    · rw [HE.out]; decide
    · rw [HE.out]; rfl

end Go.Proofs.Ythinhlmefifffaa
