/-
  Nodes in memory; why one may not be: the program's checkNode, the document's May.
-/
import Derived.Test.YthohopbolalpcaaSd
namespace Go.Proofs.Ythohopbolalpcaa
open Go.RowKit
set_option linter.unusedVariables false
set_option linter.unusedSimpArgs false
set_option maxRecDepth 100000

structure Nd where
  at' : Nat
  name : ByteArray
  kids : List Nat
  count : Int
  queued : Bool
  next : Nat
/-- a node's cells, its kids' list being kv -/
def cellsN (x : Nd) (kv : Value) : Array Value := #[.int .u64 (x.at' : Nat), .string x.name, kv, .int .i64 x.count, .bool x.queued, .int .u64 (x.next : Nat)]
/-- what a node's fields may be, and its kids as they lie -/
structure NdF (w : World) (kv : Value) (x : Nd) : Prop where
  lies : LiesK w kv x.kids
  atl : x.at' < 18446744073709551616
  nxl : x.next < 18446744073709551616
  nm : x.name.size ≤ 140737488351232
  c0 : -9223372036854775808 ≤ x.count
  c1 : x.count ≤ 9223372036854775807
theorem NdF.on {w w' : World} {kv : Value} {x : Nd} (h : NdF w kv x) (hb : Below w.heap.size w w') : NdF w' kv x := ⟨h.lies.on hb, h.atl, h.nxl, h.nm, h.c0, h.c1⟩
/-- why a node may not be: 0 where it may -/
def ndE (x : Nd) : Nat :=
  if ctE x.name.data.toList x.kids ≠ 0 then ctE x.name.data.toList x.kids
  else if x.count < 0 ∨ 4294967295 < x.count ∨ (x.next ≠ 0 ∧ isA x.next = false) then 1
  else if isA x.at' = false ∨ x.at' / 65536 ≠ hs x.name x.kids then 3 else 0

set_option maxHeartbeats 8000000 in
theorem ckNode_any (x : Nd) (kv : Value) (w : World) (h : NdF w kv x) :
    Calls Try.prog 47 #[.agg (cellsN x kv)] w fun e w' => e = .returned (.int .i64 (ndE x : Nat)) ∧ Below w.heap.size w w' := by
  have HH : Hid (∀ w1, Below w.heap.size w w1 → Calls Try.prog 10 #[.string x.name, kv] w1 fun e w' => e = .returned (.tuple #[.int .u32 (hs x.name x.kids : Nat), .int .i64 (ctE x.name.data.toList x.kids : Nat)]) ∧ Below w1.heap.size w1 w') := fun w1 hb => sHash_any x.name kv x.kids w1 (by have := h.nm; unfold maxLen; omega) (h.lies.on hb)
  have HE : Hid (ndE x = if ctE x.name.data.toList x.kids ≠ 0 then ctE x.name.data.toList x.kids
    else if x.count < 0 ∨ 4294967295 < x.count ∨ (x.next ≠ 0 ∧ isA x.next = false) then 1
    else if isA x.at' = false ∨ x.at' / 65536 ≠ hs x.name x.kids then 3 else 0) := rfl
  obtain ⟨_, ha, hn, _, hc0, hc1⟩ := h
  have HLT := hid (hs_lt x.name x.kids)
  obtain ⟨A, nm, K, c, q, nx⟩ := x
  simp only at *
  generalize ndE _ = r at *
  generalize ctE nm.data.toList K = ce at *
  generalize hs nm K = H at *
  have HPN : Hid (∀ w1, Calls Try.prog 40 #[.int .u64 (nx : Nat)] w1 fun e w' => e = .returned (.bool (isA nx)) ∧ w1 = w') := fun w1 => isAddr_any nx w1 hn
  have HPY : Hid (isA A = true → ∀ w1, Calls Try.prog 14 #[.int .u64 (A : Nat)] w1 fun e w' => e = .returned (.tuple #[.int .u32 (A / 65536 : Nat), .int .i64 (A % 65536 : Nat), .bool true]) ∧ w1 = w') := fun h w1 => parts_yes A w1 h
  have HPZ : Hid (isA A = false → ∀ w1, Calls Try.prog 14 #[.int .u64 (A : Nat)] w1 fun e w' => e = .returned (.tuple #[.int .u32 0, .int .i64 0, .bool false]) ∧ w1 = w') := fun h w1 => parts_no A w1 ha h
  have HB0 : Hid (∀ o, Below w.heap.size w (w.alloc o)) := fun o => (Below.refl _ w).alloc (Nat.le_refl _) o
  have HK0 : Hid (∀ w2, Below (w.alloc (.cells (cellsN ⟨A, nm, K, c, q, nx⟩ kv) 57)).heap.size (w.alloc (.cells (cellsN ⟨A, nm, K, c, q, nx⟩ kv) 57)) w2 → Blk w2 w.heap.size (cellsN ⟨A, nm, K, c, q, nx⟩ kv) 57) := fun w2 hb => (Blk.made w _ 57).on hb (Blk.made w _ 57).lt
  simp only [cellsN] at HK0 ⊢
  by_cases he : ce = 0
  case neg =>
    have e0 : ¬ (ce : Int) = 0 := by omega
    obtain rfl : r = ce := by rw [HE.out, if_pos he]
    clear HE he HPY HPZ HPN
    go_enter Try.func47, Try.ntmps47
    go_wp2_with (go_at_call 10; refine (HH.out _ (HB0.out _)).mono ?_; clear HH; rintro e w2 ⟨rfl, hb2⟩)
    go_ret
    exact ⟨rfl, (HB0.out _).trans (hb2.mono (HB0.out _).size)⟩
  subst he
  by_cases hcc : c < 0 ∨ 4294967295 < c
  · obtain rfl : r = 1 := by rw [HE.out, if_neg (by omega), if_pos (by omega)]
    clear HE HPY HPZ HPN
    rcases (by omega : c < 0 ∨ (¬ c < 0 ∧ 4294967295 < c)) with k1 | ⟨k1, k2⟩
    · go_enter Try.func47, Try.ntmps47
      go_wp2_with (go_at_call 10; refine (HH.out _ (HB0.out _)).mono ?_; clear HH; rintro e w2 ⟨rfl, hb2⟩; have c3 := (HK0.out w2 hb2).cell (i := 3) rfl; have c5 := (HK0.out w2 hb2).cell (i := 5) rfl)
      go_ret
      exact ⟨rfl, (HB0.out _).trans (hb2.mono (HB0.out _).size)⟩
    · have hw : IntKind.u64.wrap c = c := by rw [IntKind.wrap_u64]; omega
      go_enter Try.func47, Try.ntmps47
      go_wp2_with (go_at_call 10; refine (HH.out _ (HB0.out _)).mono ?_; clear HH; rintro e w2 ⟨rfl, hb2⟩; have c3 := (HK0.out w2 hb2).cell (i := 3) rfl; have c5 := (HK0.out w2 hb2).cell (i := 5) rfl)
      go_ret
      exact ⟨rfl, (HB0.out _).trans (hb2.mono (HB0.out _).size)⟩
  have k1 : ¬ c < 0 := by omega
  have k2 : ¬ 4294967295 < c := by omega
  have hw : IntKind.u64.wrap c = c := by rw [IntKind.wrap_u64]; omega
  by_cases hnn : nx ≠ 0 ∧ isA nx = false
  · obtain rfl : r = 1 := by rw [HE.out, if_neg (by omega), if_pos (.inr (.inr hnn))]
    have n0 : ((nx : Int) != 0) = true := by rw [bne_iff_ne]; omega
    rw [hnn.2] at HPN
    clear HE HPY HPZ hnn hcc
    go_enter Try.func47, Try.ntmps47
    go_wp2_with (first
        | (go_at_call 10; refine (HH.out _ (HB0.out _)).mono ?_; clear HH; rintro e w2 ⟨rfl, hb2⟩; have c3 := (HK0.out w2 hb2).cell (i := 3) rfl; have c5 := (HK0.out w2 hb2).cell (i := 5) rfl)
        | (go_at_call 40; refine (HPN.out _).mono ?_; clear HPN; rintro e w3 ⟨rfl, rfl⟩))
    go_ret
    exact ⟨rfl, (HB0.out _).trans (hb2.mono (HB0.out _).size)⟩
  have HR : Hid (r = if isA A = false ∨ A / 65536 ≠ H then 3 else 0) := by show _ = _; rw [HE.out, if_neg (by omega), if_neg (fun h => by rcases h with h | h | h; exact k1 h; exact k2 h; exact hnn h)]
  clear HE
  have hc2 : ((nx : Int) != 0) = false ∨ (((nx : Int) != 0) = true ∧ isA nx = true) := by
    by_cases h0 : nx = 0
    · left; subst h0; rfl
    · right
      refine ⟨by rw [bne_iff_ne]; omega, ?_⟩
      cases h : isA nx
      · exact absurd ⟨h0, h⟩ hnn
      · rfl
  clear hnn hcc
  cases hA : isA A
  · obtain rfl : r = 3 := by rw [HR.out, if_pos (.inl hA)]
    have HZ := HPZ.out hA
    clear HPY HPZ HR
    rcases hc2 with n0 | ⟨n0, n1⟩
    · go_enter Try.func47, Try.ntmps47
      go_wp2_with (first
        | (go_at_call 10; refine (HH.out _ (HB0.out _)).mono ?_; clear HH; rintro e w2 ⟨rfl, hb2⟩; have d0 := (HK0.out w2 hb2).cell (i := 0) rfl; have c3 := (HK0.out w2 hb2).cell (i := 3) rfl; have c5 := (HK0.out w2 hb2).cell (i := 5) rfl)
        | (go_at_call 14; refine (HZ _).mono ?_; clear HZ; rintro e w3 ⟨rfl, rfl⟩))
      go_ret
      exact ⟨rfl, (HB0.out _).trans (hb2.mono (HB0.out _).size)⟩
    · rw [n1] at HPN
      clear n1
      go_enter Try.func47, Try.ntmps47
      go_wp2_with (first
        | (go_at_call 10; refine (HH.out _ (HB0.out _)).mono ?_; clear HH; rintro e w2 ⟨rfl, hb2⟩; have d0 := (HK0.out w2 hb2).cell (i := 0) rfl; have c3 := (HK0.out w2 hb2).cell (i := 3) rfl; have c5 := (HK0.out w2 hb2).cell (i := 5) rfl)
        | (go_at_call 40; refine (HPN.out _).mono ?_; clear HPN; rintro e w3 ⟨rfl, rfl⟩)
        | (go_at_call 14; refine (HZ _).mono ?_; clear HZ; rintro e w3 ⟨rfl, rfl⟩))
      go_ret
      exact ⟨rfl, (HB0.out _).trans (hb2.mono (HB0.out _).size)⟩
  · have HZ := HPY.out hA
    clear HPY HPZ
    have HR2 : Hid (r = if A / 65536 = H then 0 else 3) := by
      show _ = _
      rw [HR.out]
      by_cases h : A / 65536 = H
      · rw [if_pos h, if_neg (by rw [hA]; simp [h])]
      · rw [if_neg h, if_pos (.inr h)]
    generalize A / 65536 = Q at *
    generalize A % 65536 = M at *
    clear HR
    have hh : (((Q : Int) != (H : Int)) = true ∧ r = 3) ∨ (((Q : Int) != (H : Int)) = false ∧ r = 0) := by
      by_cases h : Q = H
      · right
        exact ⟨by rw [h]; simp, by rw [HR2.out, if_pos h]⟩
      · left
        exact ⟨by rw [bne_iff_ne]; omega, by rw [HR2.out, if_neg h]⟩
    clear HR2
    rcases hh with ⟨hq, rfl⟩ | ⟨hq, rfl⟩ <;> rcases hc2 with n0 | ⟨n0, n1⟩
    all_goals
      (try (rw [n1] at HPN; clear n1))
      go_enter Try.func47, Try.ntmps47
      go_wp2_with (first
        | (go_at_call 10; refine (HH.out _ (HB0.out _)).mono ?_; clear HH; rintro e w2 ⟨rfl, hb2⟩; have d0 := (HK0.out w2 hb2).cell (i := 0) rfl; have c3 := (HK0.out w2 hb2).cell (i := 3) rfl; have c5 := (HK0.out w2 hb2).cell (i := 5) rfl)
        | (go_at_call 40; refine (HPN.out _).mono ?_; clear HPN; rintro e w3 ⟨rfl, rfl⟩)
        | (go_at_call 14; refine (HZ _).mono ?_; clear HZ; rintro e w3 ⟨rfl, rfl⟩))
      go_ret
      exact ⟨rfl, (HB0.out _).trans (hb2.mono (HB0.out _).size)⟩
end Go.Proofs.Ythohopbolalpcaa

