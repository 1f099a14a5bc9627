/-
  SlotOwn: what is handed in stays; what is answered is new memory; any bucket. No condition of its own.
-/
import Derived.Test.YthohopbolalpcaaRows
import Derived.Test.YthohopbolalpcaaSz
import Derived.ProofKit
import Derived.OpenShut
import Derived.ShutString
import Derived.ChangeOld
import Derived.Below
import Derived.SizedLaws
import Derived.Lib.SmallJoins
namespace Go.Proofs.Ythohopbolalpcaa
open Go.ChangeShapes Go.WideShapes Go.ChangeAt Go.RowKit Go.Joins
open Go.ChangeMaps (open_string shut_string)
set_option linter.unusedVariables false
set_option linter.unusedSimpArgs false
set_option maxRecDepth 100000

theorem own_set_any {w : World} {B : Nat} {e : TypeId} {v : Value} {n g k : Nat} {ks : List Value} {u : Value} (h : w.ownsRow B e 1 v n ks) : ∃ ks', (w.setCell ⟨g, k, none⟩ u).ownsRow B e 1 v n ks' := by
  by_cases hg : v.ownBlock = some g
  · rcases h.2 with ⟨rfl, _⟩ | ⟨g', cap, cur, rfl, _⟩
    · simp [Value.ownBlock] at hg
    · simp [Value.ownBlock] at hg
      subst hg
      exact ⟨_, own_set h k u⟩
  · exact ⟨_, (Keep.set (S := fun j => j = g) w rfl k u).row h (fun g' hg' e => hg (by rw [← e]; exact hg'))⟩
/-- what is written over: a row of nodes and their kids' rows -/
def XI (w : World) (B : Nat) (v : Value) (n : Nat) (M : List (Nd × Value)) : Prop := ∃ xs, w.ownsRow B 57 6 v n xs ∧ (∀ k y, M[k]? = some y → xs[k * 6 + 2]? = some y.2 ∧ ∃ u, xs[k * 6 + 1]? = some u) ∧ ∀ y ∈ M, ∃ ks, w.ownsRow B 33 1 y.2 y.1.kids.length ks
theorem XI.keep {w w' : World} {B n : Nat} {v : Value} {M : List (Nd × Value)} {S : Nat → Prop} (h : XI w B v n M) (hk : Keep S w w') (h1 : ∀ g, v.ownBlock = some g → ¬ S g) (h2 : ∀ y ∈ M, ∀ g, y.2.ownBlock = some g → ¬ S g) : XI w' B v n M := by
  obtain ⟨xs, r, q, s⟩ := h
  exact ⟨xs, hk.row r h1, q, fun y hy => by obtain ⟨ks, hs⟩ := s y hy; exact ⟨ks, hk.row hs (h2 y hy)⟩⟩
theorem slotOwn_no (b : Bk) (nv : Value) (w : World) (hl : LiesN w nv b.nodes) (hz : b.nodes.length * 72 ≤ 140737488351232) (hk : SmN b.nodes) (h0 : bkE b ≠ 0) :
    Calls Try.prog 8 #[.agg #[.int .i64 b.depth, .int .i64 b.next, nv]] w fun e w' => e = .returned (.bool true) ∧ Below w.heap.size w w' := by
  obtain ⟨na, nc, rfl, _⟩ := hl.form
  have HWK : Hid (∀ w1, _) := fun w1 => wakes_any w1
  have HL : Hid (∀ w1, Below w.heap.size w w1 → LiesN w1 (.slice na b.nodes.length nc) b.nodes) := fun w1 hb => hl.on hb
  have HCP : Hid (∀ w1, Below w.heap.size w w1 → Calls Try.prog 17 #[.agg #[.int .i64 b.depth, .int .i64 b.next, .slice na b.nodes.length nc]] w1 fun e w' => CopL b w1 e w') := fun w1 hb => copy_lies b _ w1 (hl.on hb) hz hk
  have HPK : Hid (∀ w1 v, LiesN w1 v b.nodes → Calls Try.prog 16 #[.agg #[.int .i64 b.depth, .int .i64 b.next, v]] w1 fun e w' => e = .returned (.tuple #[.string ⟨#[]⟩, .int .i64 (bkE b : Nat)]) ∧ Below w1.heap.size w1 w') := fun w1 v h => by
    have := sPack_any b v w1 h
    rw [if_neg h0] at this
    exact this
  have hne : ((bkE b : Nat) : Int) ≠ 0 := by omega
  generalize bkE b = r at *
  have HS1 : Hid (∀ w1 v u, LiesN w1 v b.nodes → LiesN w1 u b.nodes → Calls Try.prog 21 #[.agg #[.int .i64 b.depth, .int .i64 b.next, v], .agg #[.int .i64 b.depth, .int .i64 b.next, u]] w1 fun e w' => e = .returned (.bool true) ∧ Below w1.heap.size w1 w') := fun w1 v u h1 h2 => same_true b v u w1 h1 h2
  have HB1 := hid ((Below.refl w.heap.size w).alloc (Nat.le_refl _) (.cells #[.int .i64 b.depth, .int .i64 b.next, .slice na b.nodes.length nc] 42))
  have HX1 := hid (Blk.made w #[.int .i64 b.depth, .int .i64 b.next, .slice na b.nodes.length nc] 42)
  obtain ⟨p, hp⟩ : ∃ p, w.heap.size = p := ⟨_, rfl⟩
  have HXB : Hid (∀ w1, Below (w.alloc (.cells #[.int .i64 b.depth, .int .i64 b.next, .slice na b.nodes.length nc] 42)).heap.size (w.alloc (.cells #[.int .i64 b.depth, .int .i64 b.next, .slice na b.nodes.length nc] 42)) w1 → Blk w1 p #[.int .i64 b.depth, .int .i64 b.next, .slice na b.nodes.length nc] 42 ∧ Below w.heap.size w w1) := fun w1 hb => ⟨by rw [← hp]; exact HX1.out.on hb HX1.out.lt, HB1.out.trans (hb.mono HB1.out.size)⟩
  clear hl HX1 h0
  go_enter Try.func8, Try.ntmps8
  go_wp2_with (first
    | (go_at_call 9; refine (HWK.out _).mono ?_; clear HWK; rintro e w1 ⟨rfl, hb1⟩; have HD1 := hid hb1; have hx1 := (HXB.out _ hb1).1; have c0 := hx1.cell (i := 0) rfl; have c1 := hx1.cell (i := 1) rfl; have c2 := hx1.cell (i := 2) rfl; have HW1 := hid (HXB.out _ hb1).2; clear hb1 hx1)
    | (go_at_call 17; refine (HCP.out _ HW1.out).mono ?_; clear HCP; rintro e w2 ⟨va, vc, rfl, hL2, hb2⟩; have hw2 := HW1.out.trans (hb2.mono HW1.out.size); have hd2 := HD1.out.trans (hb2.mono HD1.out.size); have hal := (Below.refl w2.heap.size w2).alloc (Nat.le_refl _) (.cells #[.int .i64 b.depth, .int .i64 b.next, .slice va b.nodes.length vc] 42); have HL2 := hid (hL2.on hal); have HW2 := hid (hw2.trans (hal.mono hw2.size)); have HD2 := hid (hd2.trans (hal.mono hd2.size)); have HY2 := hid (Blk.made w2 #[.int .i64 b.depth, .int .i64 b.next, .slice va b.nodes.length vc] 42); clear hL2 hb2 hw2 hd2 hal)
    | (go_at_call 16; refine (HPK.out _ _ HL2.out).mono ?_; clear HPK; rintro e w3 ⟨rfl, hb3⟩; have HW3 := hid (HW2.out.trans (hb3.mono HW2.out.size)); have hd3 := HD2.out.trans (hb3.mono HD2.out.size); have hx3 := (HXB.out _ hd3).1; have e0 := hx3.cell (i := 0) rfl; have e1 := hx3.cell (i := 1) rfl; have e2 := hx3.cell (i := 2) rfl; have hy3 := HY2.out.on hb3 HY2.out.lt; have f0 := hy3.cell (i := 0) rfl; have f1 := hy3.cell (i := 1) rfl; have f2 := hy3.cell (i := 2) rfl; have HL3 := hid (HL2.out.on hb3); clear hb3 hd3 hx3 hy3)
    | (go_at_call 21; refine (HS1.out _ _ _ HL3.out (HL.out _ HW3.out)).mono ?_; clear HS1; rintro e w6 ⟨rfl, hb6⟩; have HW6 := hid (HW3.out.trans (hb6.mono HW3.out.size)); clear hb6))
  go_ret
  exact ⟨rfl, HW6.out⟩
theorem slotOwn_ok (b : Bk) (nv : Value) (w : World) (hl : LiesN w nv b.nodes) (hz : b.nodes.length * 72 ≤ 140737488351232) (hk : SmN b.nodes) (h0 : bkE b = 0) :
    Calls Try.prog 8 #[.agg #[.int .i64 b.depth, .int .i64 b.next, nv]] w fun e w' => e = .returned (.bool true) ∧ Below w.heap.size w w' := by
  obtain ⟨na, nc, rfl, _⟩ := hl.form
  have HWK : Hid (∀ w1, _) := fun w1 => wakes_any w1
  have HL : Hid (∀ w1, Below w.heap.size w w1 → LiesN w1 (.slice na b.nodes.length nc) b.nodes) := fun w1 hb => hl.on hb
  have HCP : Hid (∀ w1, Below w.heap.size w w1 → Calls Try.prog 17 #[.agg #[.int .i64 b.depth, .int .i64 b.next, .slice na b.nodes.length nc]] w1 fun e w' => CopL b w1 e w') := fun w1 hb => copy_lies b _ w1 (hl.on hb) hz hk
  have HPK : Hid (∀ w1 v, LiesN w1 v b.nodes → Calls Try.prog 16 #[.agg #[.int .i64 b.depth, .int .i64 b.next, v]] w1 fun e w' => e = .returned (.tuple #[.string ⟨(pageB b).toArray⟩, .int .i64 0]) ∧ Below w1.heap.size w1 w') := fun w1 v h => pack_ok b v w1 h h0
  have HU1 : Hid (∀ w1, Calls Try.prog 19 #[.string ⟨(pageB b).toArray⟩] w1 fun e w' => UnpB b w1 e w') := fun w1 => unp_ok b h0 w1
  have HU2 := hid HU1.out
  have HH0 := hid h0
  generalize (⟨(pageB b).toArray⟩ : ByteArray) = P at *
  have HS1 : Hid (∀ w1 v u, LiesN w1 v b.nodes → LiesN w1 u b.nodes → Calls Try.prog 21 #[.agg #[.int .i64 b.depth, .int .i64 b.next, v], .agg #[.int .i64 b.depth, .int .i64 b.next, u]] w1 fun e w' => e = .returned (.bool true) ∧ Below w1.heap.size w1 w') := fun w1 v u h1 h2 => same_true b v u w1 h1 h2
  have HS2 := hid HS1.out
  obtain ⟨n, hn⟩ : ∃ n, b.nodes.length = n := ⟨_, rfl⟩
  have HNN := hid hn
  rw [hn] at HL HCP
  have HUN : Hid (∀ (w1 : World) (e : Ending) (w' : World), UnpB b w1 e w' → ∃ va vc M, e = .returned (.tuple #[.agg #[.int .i64 b.depth, .int .i64 b.next, .slice va n vc], .int .i64 0]) ∧ M.length = n ∧ M.map (·.1) = b.nodes ∧ OwnN w' w1.heap.size (.slice va n vc) M ∧ Below w1.heap.size w1 w') := fun w1 e w' h => by
    obtain ⟨va, vc, M, e1, hM, hO, _, hb⟩ := h
    rw [hn] at e1 hO
    exact ⟨va, vc, M, e1, by rw [← hn, ← hM]; simp, hM, hO, hb⟩
  have HCN : Hid (∀ (w1 : World) (e : Ending) (w' : World), CopL b w1 e w' → ∃ va vc, e = .returned (.agg #[.int .i64 b.depth, .int .i64 b.next, .slice va n vc]) ∧ LiesN w' (.slice va n vc) b.nodes ∧ Below w1.heap.size w1 w') := fun w1 e w' h => by
    obtain ⟨va, vc, e1, h2, h3⟩ := h
    rw [hn] at e1 h2
    exact ⟨va, vc, e1, h2, h3⟩
  rw [hn]
  have HB1 := hid ((Below.refl w.heap.size w).alloc (Nat.le_refl _) (.cells #[.int .i64 b.depth, .int .i64 b.next, .slice na n nc] 42))
  have HX1 := hid (Blk.made w #[.int .i64 b.depth, .int .i64 b.next, .slice na n nc] 42)
  obtain ⟨p, hp⟩ : ∃ p, w.heap.size = p := ⟨_, rfl⟩
  have HXB : Hid (∀ w1, Below (w.alloc (.cells #[.int .i64 b.depth, .int .i64 b.next, .slice na n nc] 42)).heap.size (w.alloc (.cells #[.int .i64 b.depth, .int .i64 b.next, .slice na n nc] 42)) w1 → Blk w1 p #[.int .i64 b.depth, .int .i64 b.next, .slice na n nc] 42 ∧ Below w.heap.size w w1) := fun w1 hb => ⟨by rw [← hp]; exact HX1.out.on hb HX1.out.lt, HB1.out.trans (hb.mono HB1.out.size)⟩
  clear hl HX1 h0 hn
  go_enter Try.func8, Try.ntmps8
  go_wp2_with (first
    | (go_at_call 9; refine (HWK.out _).mono ?_; clear HWK; rintro e w1 ⟨rfl, hb1⟩; have HD1 := hid hb1; have hx1 := (HXB.out _ hb1).1; have c0 := hx1.cell (i := 0) rfl; have c1 := hx1.cell (i := 1) rfl; have c2 := hx1.cell (i := 2) rfl; have HW1 := hid (HXB.out _ hb1).2; clear hb1 hx1)
    | (go_at_call 17; refine (HCP.out _ HW1.out).mono ?_; clear HCP; rintro e w2 hcp2; obtain ⟨va, vc, rfl, hL2, hb2⟩ := HCN.out _ _ _ hcp2; have hw2 := HW1.out.trans (hb2.mono HW1.out.size); have hd2 := HD1.out.trans (hb2.mono HD1.out.size); have hal := (Below.refl w2.heap.size w2).alloc (Nat.le_refl _) (.cells #[.int .i64 b.depth, .int .i64 b.next, .slice va n vc] 42); have HL2 := hid (hL2.on hal); have HW2 := hid (hw2.trans (hal.mono hw2.size)); have HD2 := hid (hd2.trans (hal.mono hd2.size)); have HY2 := hid (Blk.made w2 #[.int .i64 b.depth, .int .i64 b.next, .slice va n vc] 42); clear hL2 hb2 hw2 hd2 hal)
    | (go_at_call 16; refine (HPK.out _ _ HL2.out).mono ?_; clear HPK; rintro e w3 ⟨rfl, hb3⟩; have HW3 := hid (HW2.out.trans (hb3.mono HW2.out.size)); have HD3 := hid (HD2.out.trans (hb3.mono HD2.out.size)); have hd3 := HD2.out.trans (hb3.mono HD2.out.size); have hx3 := (HXB.out _ hd3).1; have e0 := hx3.cell (i := 0) rfl; have e1 := hx3.cell (i := 1) rfl; have e2 := hx3.cell (i := 2) rfl; have hy3 := HY2.out.on hb3 HY2.out.lt; have f0 := hy3.cell (i := 0) rfl; have f1 := hy3.cell (i := 1) rfl; have f2 := hy3.cell (i := 2) rfl; have HL3 := hid (HL2.out.on hb3); clear hb3 hd3 hx3 hy3)
    | (go_at_call 21; refine (HS1.out _ _ _ HL3.out (HL.out _ HW3.out)).mono ?_; clear HS1; rintro e w6 ⟨rfl, hb6⟩; have HW6 := hid (HW3.out.trans (hb6.mono HW3.out.size)); have HD6 := hid (HD3.out.trans (hb6.mono HD3.out.size)); clear hb6)
    | (go_at_call 19; first | (refine (HU1.out _).mono ?_; clear HU1; rintro e w7 hu7; obtain ⟨xa, xc, M, rfl, hml, hM, hO7, hb7⟩ := HUN.out _ _ _ hu7; have HML := hid hml; have HO7 := hid hO7; have HB7 := hid hb7; have HAL7 := hid ((Below.refl w7.heap.size w7).alloc (Nat.le_refl _) (.cells #[.int .i64 b.depth, .int .i64 b.next, .slice xa n xc] 42)); have HQ7 := hid (Blk.made w7 #[.int .i64 b.depth, .int .i64 b.next, .slice xa n xc] 42); clear hu7 hO7 hb7 hml hM) | (refine (HU2.out _).mono ?_; clear HU2; rintro e w8 hu8; obtain ⟨ya, yc, M2, rfl, _, hM2, hO8, hb8⟩ := HUN.out _ _ _ hu8; have HM2 := hid hM2; have HO8 := hid hO8; have HB8 := hid hb8; have HAL8 := hid ((Below.refl w8.heap.size w8).alloc (Nat.le_refl _) (.cells #[.int .i64 b.depth, .int .i64 b.next, .slice ya n yc] 42)); have HQ8 := hid (Blk.made w8 #[.int .i64 b.depth, .int .i64 b.next, .slice ya n yc] 42); have hq7 := (HQ7.out.on HB8.out HQ7.out.lt).on HAL8.out (Nat.lt_of_lt_of_le HQ7.out.lt HB8.out.size); have g2 := hq7.cell (i := 2) rfl; clear hu8 hO8 hb8 hq7 hM2)))
  have hb7' := HB7.out.trans (HAL7.out.mono HB7.out.size)
  have hb8' := HB8.out.trans (HAL8.out.mono HB8.out.size)
  have hw9 := (HW6.out.trans (hb7'.mono HW6.out.size))
  have HW9 := hid (hw9.trans (hb8'.mono hw9.size))
  have hd9 := (HD6.out.trans (hb7'.mono HD6.out.size))
  have HP9 := hid (HXB.out _ (hd9.trans (hb8'.mono hd9.size))).1
  have hp6 := (HXB.out _ HD6.out).1.lt
  have ho9 := (HO7.out.on HAL7.out).on hb8'
  have HXI9 : Hid (XI (w8.alloc (.cells #[.int .i64 b.depth, .int .i64 b.next, .slice ya n yc] 42)) w6.heap.size (.slice xa n xc) n M) := ⟨flatN M, by have := ho9.row; rw [HML.out] at this; exact this, fun k y hy => ⟨flatN_at hy 2 y.2 rfl, _, flatN_at hy 1 _ rfl⟩, fun y hy => ⟨_, ho9.kids y hy⟩⟩
  have HQ9 := hid ((HQ7.out.on HB8.out HQ7.out.lt).on HAL8.out (Nat.lt_of_lt_of_le HQ7.out.lt HB8.out.size))
  have HY9 := hid (HO8.out.on HAL8.out)
  have HXO := hid (fun g hg => World.ownsRow.lt HO7.out.row g hg)
  have HKO := hid (fun y hy g hg => World.ownsRow.lt (HO7.out.kids y hy) g hg)
  have hs7 := HAL7.out.size
  have hs7' : (w7.alloc (.cells #[.int .i64 b.depth, .int .i64 b.next, .slice xa n xc] 42)).heap.size = w7.heap.size + 1 := by show (w7.heap.push _).size = _; rw [Array.size_push]
  have hs8 := HB8.out.size
  rw [hs7'] at hs8 HY9
  have hs67 := HB7.out.size
  have HWL := hid HW6.out.size
  clear hb7' hb8' hw9 hd9 ho9 HQ7 HO7 HO8 HB7 HB8 HAL7 HAL8 HD6 HXB HW6 hs7 hs7' g2
  obtain ⟨lo, hlo⟩ : ∃ lo, w6.heap.size = lo := ⟨_, rfl⟩
  obtain ⟨hi, hhi⟩ : ∃ hi, w7.heap.size = hi := ⟨_, rfl⟩
  obtain ⟨q8, hq8⟩ : ∃ q8, w8.heap.size = q8 := ⟨_, rfl⟩
  rw [hlo] at hp6 HXI9 HXO HKO hs67 HWL
  rw [hhi] at HXO HKO HQ9 HY9 hs8 hs67
  rw [hq8] at HQ8 hs8
  have HOR := hid (And.intro hp6 (And.intro hs67 hs8))
  rw [hp] at HWL
  have HPW := hid hp
  clear hp6 hs67 hs8
  try rw [hhi]
  try rw [hq8]
  generalize w8.alloc (Obj.cells #[.int .i64 b.depth, .int .i64 b.next, .slice ya n yc] 42) = w9 at *
  clear hlo hhi hq8 hp
  have HK9 : Hid (Keep (fun j => lo ≤ j ∧ j < hi) w9 w9) := Keep.refl _ _
  have hn9 : n ≤ 1954687338211 := by have := HNN.out; omega
  go_loopw [42] (fun i wr => ∃ j : Nat, j ≤ n ∧ i = .int .i64 (j : Nat) ∧ Hid (XI wr lo (.slice xa n xc) n M) ∧ Hid (Keep (fun j => lo ≤ j ∧ j < hi) w9 wr)) (fun i _ => n - (intOf i).toNat)
  case atStart => exact ⟨0, Nat.zero_le _, rfl, HXI9, HK9⟩
  case round =>
    obtain ⟨j, hj, rfl, HXI, HKR⟩ := hrel
    clear HXI9 HK9
    by_cases hjn : j < n
    · have hji : (j : Int) < (n : Int) := by omega
      obtain ⟨y, hy⟩ : ∃ y, M[j]? = some y := ⟨_, List.getElem?_eq_getElem (by rw [HML.out]; exact hjn)⟩
      have HYM := hid (List.mem_of_getElem? hy)
      have HYJ := hid hy
      have hq6 := HKR.out.blk HQ9.out (by omega)
      have b2 := hq6.cell (i := 2) rfl
      obtain ⟨xs, hr, hq, hs⟩ := HXI.out
      obtain ⟨_, _, e1, _, _, hcc⟩ := own_cells hr
      cases e1
      obtain ⟨g, e2, _, hgl, r2, _⟩ := hcc _ _ (hq j y hy).1
      cases e2
      obtain ⟨ks, hks⟩ := hs y HYM.out
      obtain ⟨ka, kc, hkv⟩ := own_form hks
      have HKV := hid hkv
      rw [hkv] at r2
      have hl64 : y.1.kids.length ≤ 9223372036854775807 := by obtain ⟨_, _, e9, h9, h10, _⟩ := own_cells hks; unfold maxLen at h10; omega
      obtain ⟨m, hm⟩ : ∃ m, y.1.kids.length = m := ⟨_, rfl⟩
      have HMM := hid hm
      rw [hm] at r2 hl64
      clear hq6 hr hq hs hcc hks hkv hy hm xs
      go_wp2_with fail
      go_loopw [52] (fun i w2 => ∃ k : Nat, k ≤ m ∧ i = .int .i64 (k : Nat) ∧ Hid (XI w2 lo (.slice (some ⟨g, 0, none⟩) n xc) n M) ∧ Hid (Keep (fun j => lo ≤ j ∧ j < hi) w9 w2)) (fun i _ => m - (intOf i).toNat)
      case atStart => exact ⟨0, Nat.zero_le _, rfl, HXI, HKR⟩
      case round =>
        obtain ⟨k, hk, rfl, HXI2, HKR2⟩ := hrel
        clear HXI HKR b2 r2
        have hq6 := HKR2.out.blk HQ9.out (by omega)
        have b2 := hq6.cell (i := 2) rfl
        obtain ⟨xs, hr, hq, hs⟩ := HXI2.out
        obtain ⟨_, _, e1, _, _, hcc⟩ := own_cells hr
        cases e1
        obtain ⟨_, e2, _, hgl2, r2, _⟩ := hcc _ _ (hq j y HYJ.out).1
        cases e2
        rw [HKV.out, HMM.out] at r2
        by_cases hkm : k < m
        · have hki : (k : Int) < (m : Int) := by omega
          obtain ⟨ks, hks⟩ := hs y HYM.out
          have hkl : ks.length = m := by have := hks.1; rw [HMM.out] at this; omega
          obtain ⟨u, hu⟩ : ∃ u, ks[k]? = some u := ⟨_, List.getElem?_eq_getElem (by omega)⟩
          obtain ⟨_, _, e3, _, _, hcc3⟩ := own_cells hks
          rw [HKV.out] at e3
          cases e3
          obtain ⟨g3, e4, _, _, u0, uf⟩ := hcc3 k u hu
          cases e4
          have hSg := HKO.out y HYM.out g3 (by rw [HKV.out]; rfl)
          have HK' := hid (HKR2.out.trans (Keep.set (S := fun j => lo ≤ j ∧ j < hi) _ hSg k (.int .u64 0)) (fun _ _ h => h))
          have hrow := (Keep.set (S := fun j => j = g3) _ rfl k (.int .u64 0)).row hr (fun g' hg' e => rows_ne hr hks (by decide) hg' (by rw [HKV.out, e]; rfl))
          have hkids : ∀ z ∈ M, ∃ ks, World.ownsRow _ lo 33 1 z.2 z.1.kids.length ks := fun z hz => by
            obtain ⟨ks2, h2⟩ := hs z hz
            exact own_set_any (g := g3) (k := k) (u := .int .u64 0) h2
          have HX' : Hid (XI _ lo (.slice (some ⟨g, 0, none⟩) n xc) n M) := ⟨xs, hrow, hq, hkids⟩
          clear hrow hkids hcc hcc3 hr hq hs hks hSg hq6 hu xs HXI2 HKR2
          go_wp2_with fail
          go_roundw
          case rel => exact ⟨k + 1, by omega, by go_num, HX', HK'⟩
          case measure => simp [intOf]; omega
        · have hki : ¬ (k : Int) < (m : Int) := by omega
          obtain ⟨u, hu⟩ := (hq j y HYJ.out).2
          obtain ⟨g5, e5, _, _, u0, uf⟩ := hcc _ u hu
          cases e5
          have hSg := HXO.out g rfl
          have HK' := hid (HKR2.out.trans (Keep.set (S := fun j => lo ≤ j ∧ j < hi) _ hSg (j * 6 + 1) (.string ⟨#[120]⟩)) (fun _ _ h => h))
          have hrow := own_set hr (j * 6 + 1) (.string ⟨#[120]⟩)
          have hq' : ∀ k' y', M[k']? = some y' → (xs.set (j * 6 + 1) (.string ⟨#[120]⟩))[k' * 6 + 2]? = some y'.2 ∧ ∃ u, (xs.set (j * 6 + 1) (.string ⟨#[120]⟩))[k' * 6 + 1]? = some u := fun k' y' hy' => by
            obtain ⟨q1, u2, q2⟩ := hq k' y' hy'
            refine ⟨by rw [List.getElem?_set_ne (by omega)]; exact q1, ?_⟩
            by_cases hkj : k' = j
            · subst hkj
              have hlt := (List.getElem?_eq_some_iff.1 q2).1
              exact ⟨_, List.getElem?_set_self hlt⟩
            · exact ⟨u2, by rw [List.getElem?_set_ne (by omega)]; exact q2⟩
          have hkids : ∀ z ∈ M, ∃ ks, World.ownsRow _ lo 33 1 z.2 z.1.kids.length ks := fun z hz => by
            obtain ⟨ks2, h2⟩ := hs z hz
            exact ⟨ks2, (Keep.set (S := fun j => j = g) _ rfl (j * 6 + 1) (.string ⟨#[120]⟩)).row h2 (fun g' hg' e => rows_ne h2 hr (by decide) hg' (by rw [e]; rfl))⟩
          have HX' : Hid (XI _ lo (.slice (some ⟨g, 0, none⟩) n xc) n M) := ⟨_, hrow, hq', hkids⟩
          clear hrow hkids hq' hcc hr hq hs hSg hq6 hu xs HXI2 HKR2
          go_wp2_with fail
          go_roundw
          case rel => exact ⟨j + 1, by omega, by go_num, HX', HK'⟩
          case measure => simp [intOf]; omega
    · have hji : ¬ (j : Int) < (n : Int) := by omega
      obtain rfl : j = n := by omega
      have hq8 := HKR.out.blk HQ8.out (by have := HOR.out.2.2; omega)
      have a0 := hq8.cell (i := 0) rfl
      have a1 := hq8.cell (i := 1) rfl
      have a2 := hq8.cell (i := 2) rfl
      have hp9 := HKR.out.blk HP9.out (by have := HOR.out.1; omega)
      have b0 := hp9.cell (i := 0) rfl
      have b1 := hp9.cell (i := 1) rfl
      have b2 := hp9.cell (i := 2) rfl
      have hyo : OwnN _ (hi + 1) (.slice ya j yc) M2 := ⟨HKR.out.row HY9.out.row (fun g hg h => by have := (World.ownsRow.lt HY9.out.row g hg).1; omega), fun y hy => HKR.out.row (HY9.out.kids y hy) (fun g hg h => by have := (World.ownsRow.lt (HY9.out.kids y hy) g hg).1; omega)⟩
      have HLY := hid (hyo.liesOk HM2.out HH0.out)
      have hbw := HW9.out.trans (HKR.out.below (B := w.heap.size) (fun j hj => by have := HPW.out; have := HOR.out.1; omega) HW9.out.size)
      have HLB := hid (HL.out _ hbw)
      have HBW := hid hbw
      clear hq8 hp9 hyo hbw
      go_wp2_with (go_at_call 21; refine (HS2.out _ _ _ HLY.out HLB.out).mono ?_; rintro e w11 ⟨rfl, hb11⟩)
      go_ret
      exact ⟨rfl, HBW.out.trans (hb11.mono HBW.out.size)⟩
theorem slotOwn_walk (b : Bk) (nv : Value) (w : World) (l0 : LiesN w nv b.nodes ∧ b.nodes.length * 72 ≤ 140737488351232 ∧ SmN b.nodes ∧ (-9223372036854775808 ≤ b.depth ∧ b.depth ≤ 9223372036854775807) ∧ (-9223372036854775808 ≤ b.next ∧ b.next ≤ 9223372036854775807)) :
    Calls Try.prog 8 #[.agg #[.int .i64 b.depth, .int .i64 b.next, nv]] w fun e w' => e = .returned (.bool true) ∧ Below w.heap.size w w' := by
  obtain ⟨hl, hz, hk, _⟩ := l0
  by_cases h0 : bkE b = 0
  · exact slotOwn_ok b nv w hl hz hk h0
  · exact slotOwn_no b nv w hl hz hk h0

theorem slotOwn_own : ownKnob Try.prog.godebug = none := by kernel_rfl
theorem slotOwn_laidOut : laidOutB Try.prog = true := by kernel_rfl

set_option maxRecDepth 100000 in
theorem slotOwn_lifted (os : Os) (started : os.Started) (H : Type) (enc : TypeId × Value → H) :
    ReturnsInHanded {} Try.checked os 8 .any (Rows.slotOwnSpec.pre6 enc Try.prog Try.f8 Rows.slotOwnRow.domain false) (Rows.slotOwnSpec.post enc Try.prog Try.f8 false true false false) := by
  refine returnsInHanded_of_change_sized (C := Try.checked) slotOwn_own started (by kernel_rfl) Try.func8
    (ChangeSpec.witness6 (enc := enc) (C := Try.checked) false ⟨#[], #[.agg #[.int .i64 0, .int .i64 0, .slice none 0 0]], []⟩ 8 (by kernel_rfl) (by kernel_rfl) (by kernel_rfl) (by kernel_rfl)) ?_
  intro W base args ds gs before hval0 hW hcnd hsz0 _
  have hsz : (DataW.weightsEach Try.prog (Try.f8.params.toList ++ Rows.slotOwnSpec.plain.varTypes Try.prog) (ds ++ gs)).all (· ≤ reachBytes) = true := hsz0
  have hval : ∀ (j : Nat) t v, Try.f8.params[j]? = some t → args[j]? = some v → Value.okWide Try.prog W .any base t v := hval0
  have hW' := hW
  obtain ⟨p, q, hA0, hV, rfl, hfz, hnd⟩ := hW
  have hA : DataW.TrodAll enc Try.prog W 0 (fun _ => true) true Try.f8.params.toList args.toList ds p := hA0
  rw [Try.params8] at hA hval hsz
  obtain ⟨v0, vs0, d0, ds0, p0, q0, hargs, rfl, rfl, h0, r0⟩ := trodAll_cons hA
  obtain ⟨rfl, rfl, rfl⟩ := trodAll_nil r0
  obtain rfl : args = #[v0] := by cases args; simp_all
  obtain ⟨rfl, rfl⟩ := trodVars_none hV
  have k0 := h0
  have lt0 : ∀ x ∈ p0, x.block < W.heap.size := by obtain ⟨m, hm⟩ := k0; exact DataW.trod_lt m _ _ _ hm
  obtain ⟨B0, n0, rfl, l0⟩ := open_bucket (hval 0 42 v0 rfl rfl) h0 (fun n hn => by simpa using List.all_eq_true.1 hsz n (DataW.weights_mem_each (j := 0) (t := 42) rfl rfl n hn))
  clear hA0 hval0
  refine (slotOwn_walk B0 n0 W l0).mono fun e W' ⟨he, bel⟩ => ?_
  subst he
  exact ⟨_, rfl, _, _, _, [], _, [], hW', trodAll_mk1 (shut_bool Try.underlying4 _), (trodAll_cons_mk (Below.trod slotOwn_laidOut (by kernel_rfl) (of_decide_eq_true (by kernel_rfl)) k0 bel lt0) trodAll_mk0), rfl, bel.frame _, fun h => by cases h⟩

theorem slotOwn_holds : Rows.SlotOwnSaid :=
  OpenClaim.holds_of_wide 8 Try.f8 rfl rfl rfl rfl rfl rfl rfl ⟨rfl, rfl, rfl, rfl, rfl⟩ rfl rfl rfl rfl rfl (by kernel_rfl) Try.func8 (by kernel_rfl)
    (of_decide_eq_true (by kernel_rfl)) (by unfold Func.isWrapper; first | (rw [if_pos (by decide +kernel)]; kernel_rfl) | (rw [if_neg (by decide +kernel)]; exact ⟨rfl, rfl⟩))
    (fun os started H enc _ => slotOwn_lifted os started H enc)

#print axioms slotOwn_holds

end Go.Proofs.Ythohopbolalpcaa
