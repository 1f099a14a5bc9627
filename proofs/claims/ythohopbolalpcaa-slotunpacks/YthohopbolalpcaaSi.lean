/-
  What each field tells of a node that may be.
-/
import Derived.Test.YthohopbolalpcaaSh
namespace Go.Proofs.Ythohopbolalpcaa
open Go.RowKit
set_option linter.unusedVariables false
set_option linter.unusedSimpArgs false
set_option maxRecDepth 100000

/-- the widths of the fields -/
def wd (i : Nat) : Nat := if i = 0 then 1 else if i = 1 then 1 else if i = 2 then 2 else if i = 3 then 8 else if i = 4 then 1 else if i = 5 then 4 else 6
/-- the number that a field tells -/
def tell (x : Nd) (i : Nat) : Nat :=
  if i = 0 then 1 else if i = 1 then (if x.queued then 1 else 0) else if i = 2 then x.at' % 65536 else if i = 3 then val (padOf x.name 8).data.toList
  else if i = 4 then x.kids.length else if i = 5 then x.count.toNat else if i = 6 then x.next else x.kids.getD (i - 7) 0
/-- the function by which a field tells -/
def tfn (i : Nat) : Nat := if i = 0 then 59 else if i = 1 then 61 else if i = 2 then 63 else if i = 3 then 65 else if i = 4 then 68 else if i = 5 then 69 else if i = 6 then 71 else 73
/-- what a node's fields are where it may be -/
structure NdOk (x : Nd) : Prop where
  at1 : isA x.at' = true
  hash : x.at' / 65536 = hs x.name x.kids
  ct : ctE x.name.data.toList x.kids = 0
  c0 : 0 ≤ x.count
  c1 : x.count ≤ 4294967295
  nx : x.next = 0 ∨ isA x.next = true
theorem NdOk.of {x : Nd} (h : ndE x = 0) : NdOk x := by
  unfold ndE at h
  split at h
  · omega
  · rename_i h1
    split at h
    · omega
    · rename_i h2
      split at h
      · omega
      · rename_i h3
        refine ⟨?_, ?_, by omega, by omega, by omega, ?_⟩
        · cases hA : isA x.at'
          · exact absurd (.inl hA) h3
          · rfl
        · by_cases h4 : x.at' / 65536 = hs x.name x.kids
          · exact h4
          · exact absurd (.inr h4) h3
        · by_cases h0 : x.next = 0
          · exact .inl h0
          · right
            cases hA : isA x.next
            · exact absurd (.inr (.inr ⟨h0, hA⟩)) h2
            · rfl
theorem NdOk.nxl {x : Nd} (h : NdOk x) : x.next < 281474976710656 := by
  rcases h.nx with h | h
  · omega
  · exact isA_lt h
theorem sub_full (s : ByteArray) (n : Nat) (h : s.size = n) : sub s 0 n = s.data.toList := by
  unfold sub
  rw [List.drop_zero, List.take_of_length_le (by rw [← Lib.size_eq]; omega)]

section
variable {x : Nd} {kv : Value} {w : World}
theorem tell0 : Calls Try.prog 59 #[.agg (cellsN x kv)] w fun e w' => e = .returned (.int .u64 (tell x 0 : Nat)) ∧ Below w.heap.size w w' := by
  have hb := (Below.refl w.heap.size w).alloc (Nat.le_refl _) (.cells (cellsN x kv) 57)
  have ht : tell x 0 = 1 := rfl
  rw [ht]
  simp only [cellsN] at *
  clear ht
  go_enter Try.func59, Try.ntmps59
  go_wp2
  go_ret
  exact ⟨rfl, hb⟩
theorem tell1 : Calls Try.prog 61 #[.agg (cellsN x kv)] w fun e w' => e = .returned (.int .u64 (tell x 1 : Nat)) ∧ Below w.heap.size w w' := by
  have hb := (Below.refl w.heap.size w).alloc (Nat.le_refl _) (.cells (cellsN x kv) 57)
  have ht : tell x 1 = if x.queued then 1 else 0 := rfl
  have hc := (Blk.made w (cellsN x kv) 57).cell (i := 4) rfl
  obtain ⟨A, nm, K, c, q, nx⟩ := x
  simp only [cellsN] at *
  rw [ht]
  clear ht
  cases q
  · go_enter Try.func61, Try.ntmps61
    go_wp2
    go_ret
    exact ⟨rfl, hb⟩
  · go_enter Try.func61, Try.ntmps61
    go_wp2
    go_ret
    exact ⟨rfl, hb⟩
theorem tell2 (ho : NdOk x) : Calls Try.prog 63 #[.agg (cellsN x kv)] w fun e w' => e = .returned (.int .u64 (tell x 2 : Nat)) ∧ Below w.heap.size w w' := by
  have hb := (Below.refl w.heap.size w).alloc (Nat.le_refl _) (.cells (cellsN x kv) 57)
  have ht : tell x 2 = x.at' % 65536 := rfl
  have hc := (Blk.made w (cellsN x kv) 57).cell (i := 0) rfl
  have hp := fun w1 => parts_yes x.at' w1 ho.at1
  obtain ⟨A, nm, K, c, q, nx⟩ := x
  simp only [cellsN] at *
  rw [ht]
  have hw : IntKind.u64.wrap ((A % 65536 : Nat) : Int) = ((A % 65536 : Nat) : Int) := by rw [IntKind.wrap_u64]; omega
  clear ht ho
  generalize A % 65536 = M at *
  generalize A / 65536 = Q at *
  go_enter Try.func63, Try.ntmps63
  go_wp2_with (go_at_call 14; refine (hp _).mono ?_; clear hp; rintro e w3 ⟨rfl, rfl⟩)
  go_ret
  exact ⟨rfl, hb⟩
theorem tell3 (ho : NdOk x) : Calls Try.prog 65 #[.agg (cellsN x kv)] w fun e w' => e = .returned (.int .u64 (tell x 3 : Nat)) ∧ Below w.heap.size w w' := by
  have HB := hid ((Below.refl w.heap.size w).alloc (Nat.le_refl _) (.cells (cellsN x kv) 57))
  have ht : tell x 3 = val (padOf x.name 8).data.toList := rfl
  have hc := (Blk.made w (cellsN x kv) 57).cell (i := 1) rfl
  have h8 := (ctE_ok ho.ct).1
  have hp := fun w1 => spad x.name w1 h8
  have hsz := padOf_size x.name 8 h8
  have hg := fun w1 => sget (padOf x.name 8) 0 8 w1 (by omega) (by omega) (by rw [hsz]; unfold maxLen; omega) (by omega)
  rw [sub_full _ 8 hsz] at hg
  obtain ⟨A, nm, K, c, q, nx⟩ := x
  simp only [cellsN] at *
  rw [ht]
  clear ht ho h8 hsz
  generalize val (padOf nm 8).data.toList = V at *
  generalize padOf nm 8 = P at *
  go_enter Try.func65, Try.ntmps65
  go_wp2_with (first
    | (go_at_call 42; refine (hp _).mono ?_; clear hp; rintro e w3 ⟨rfl, hb3⟩)
    | (go_at_call 51; refine (hg _).mono ?_; clear hg; rintro e w4 ⟨rfl, rfl⟩))
  go_ret
  exact ⟨rfl, HB.out.trans (hb3.mono HB.out.size)⟩
theorem tell4 (hl : LiesK w kv x.kids) : Calls Try.prog 68 #[.agg (cellsN x kv)] w fun e w' => e = .returned (.int .u64 (tell x 4 : Nat)) ∧ Below w.heap.size w w' := by
  have hlen := hl.len
  unfold maxLen at hlen
  obtain ⟨a, cp, rfl⟩ := hl.form
  have hb := (Below.refl w.heap.size w).alloc (Nat.le_refl _) (.cells (cellsN x (.slice a x.kids.length cp)) 57)
  have ht : tell x 4 = x.kids.length := rfl
  have hc := (Blk.made w (cellsN x (.slice a x.kids.length cp)) 57).cell (i := 2) rfl
  obtain ⟨A, nm, K, c, q, nx⟩ := x
  simp only [cellsN] at *
  rw [ht]
  have hw : IntKind.u64.wrap (K.length : Int) = (K.length : Int) := by rw [IntKind.wrap_u64]; omega
  clear ht hl
  generalize K.length = M at *
  go_enter Try.func68, Try.ntmps68
  go_wp2
  go_ret
  exact ⟨rfl, hb⟩
theorem tell5 (ho : NdOk x) : Calls Try.prog 69 #[.agg (cellsN x kv)] w fun e w' => e = .returned (.int .u64 (tell x 5 : Nat)) ∧ Below w.heap.size w w' := by
  have hb := (Below.refl w.heap.size w).alloc (Nat.le_refl _) (.cells (cellsN x kv) 57)
  have ht : tell x 5 = x.count.toNat := rfl
  have hc := (Blk.made w (cellsN x kv) 57).cell (i := 3) rfl
  have h0 := ho.c0
  have h1 := ho.c1
  obtain ⟨A, nm, K, c, q, nx⟩ := x
  simp only [cellsN] at *
  rw [ht]
  have hw : IntKind.u64.wrap c = ((c.toNat : Nat) : Int) := by rw [IntKind.wrap_u64]; omega
  clear ht ho
  generalize c.toNat = M at *
  go_enter Try.func69, Try.ntmps69
  go_wp2
  go_ret
  exact ⟨rfl, hb⟩
theorem tell6 : Calls Try.prog 71 #[.agg (cellsN x kv)] w fun e w' => e = .returned (.int .u64 (tell x 6 : Nat)) ∧ Below w.heap.size w w' := by
  have hb := (Below.refl w.heap.size w).alloc (Nat.le_refl _) (.cells (cellsN x kv) 57)
  have ht : tell x 6 = x.next := rfl
  have hc := (Blk.made w (cellsN x kv) 57).cell (i := 5) rfl
  obtain ⟨A, nm, K, c, q, nx⟩ := x
  simp only [cellsN] at *
  rw [ht]
  clear ht
  go_enter Try.func71, Try.ntmps71
  go_wp2
  go_ret
  exact ⟨rfl, hb⟩
theorem kid_any (i : Nat) (hl : LiesK w kv x.kids) : Calls Try.prog 74 #[.agg (cellsN x kv), .int .i64 (i : Nat)] w fun e w' => e = .returned (.int .u64 (x.kids.getD i 0 : Nat)) ∧ Below w.heap.size w w' := by
  have hlen := hl.len
  unfold maxLen at hlen
  obtain ⟨a, cp, rfl⟩ := hl.form
  have hb := (Below.refl w.heap.size w).alloc (Nat.le_refl _) (.cells (cellsN x (.slice a x.kids.length cp)) 57)
  have HL := hid (hl.on hb)
  have hc := (Blk.made w (cellsN x (.slice a x.kids.length cp)) 57).cell (i := 2) rfl
  obtain ⟨A, nm, K, c, q, nx⟩ := x
  simp only [cellsN] at *
  clear hl
  by_cases hi : i < K.length
  · obtain ⟨v, hv⟩ : ∃ v, K[i]? = some v := ⟨_, List.getElem?_eq_getElem hi⟩
    have hg : K.getD i 0 = v := by rw [List.getD_eq_getElem?_getD, hv]; rfl
    rw [hg]
    obtain ⟨b, off, e1, hbl, d1, d2⟩ := HL.out.at hv
    subst e1
    have hi2 : ¬ (K.length : Int) ≤ (i : Int) := by omega
    have hi3 : (i : Int) < (K.length : Int) := by omega
    clear hv hg HL
    generalize K.length = M at *
    go_enter Try.func74, Try.ntmps74
    go_wp2
    go_ret
    exact ⟨rfl, hb⟩
  · have hg : K.getD i 0 = 0 := by rw [List.getD_eq_getElem?_getD, List.getElem?_eq_none (by omega)]; rfl
    rw [hg]
    have hi2 : (K.length : Int) ≤ (i : Int) := by omega
    clear hg HL
    generalize K.length = M at *
    go_enter Try.func74, Try.ntmps74
    go_wp2
    go_ret
    exact ⟨rfl, hb⟩
theorem tell7 (i cb : Nat) (hl : LiesK w kv x.kids) (hc : Blk w cb #[.int .i64 (i : Nat)] 3) : Calls Try.prog 73 #[.agg (cellsN x kv), .pointer (some ⟨cb, 0, none⟩)] w fun e w' => e = .returned (.int .u64 (tell x (7 + i) : Nat)) ∧ Below w.heap.size w w' := by
  have ht : tell x (7 + i) = x.kids.getD i 0 := by
    unfold tell
    iterate 7 rw [if_neg (by omega)]
    rw [show 7 + i - 7 = i by omega]
  rw [ht]
  obtain ⟨a, cp, rfl⟩ := hl.form
  have HB := hid ((Below.refl w.heap.size w).alloc (Nat.le_refl _) (.cells (cellsN x (.slice a x.kids.length cp)) 57))
  have HK : Hid (∀ w1, Below w.heap.size w w1 → Calls Try.prog 74 #[.agg (cellsN x (.slice a x.kids.length cp)), .int .i64 (i : Nat)] w1 fun e w' => e = .returned (.int .u64 (x.kids.getD i 0 : Nat)) ∧ Below w1.heap.size w1 w') := fun w1 hb => kid_any i (hl.on hb)
  have hbk := Blk.made w (cellsN x (.slice a x.kids.length cp)) 57
  have hcb := ((hc.on HB.out hc.lt).cell (i := 0) rfl)
  generalize x.kids.getD i 0 = V at *
  obtain ⟨A, nm, K, c, q, nx⟩ := x
  simp only [cellsN] at *
  generalize K.length = M at *
  have c0 := hbk.cell (i := 0) rfl
  have c1 := hbk.cell (i := 1) rfl
  have c2 := hbk.cell (i := 2) rfl
  have c3 := hbk.cell (i := 3) rfl
  have c4 := hbk.cell (i := 4) rfl
  have c5 := hbk.cell (i := 5) rfl
  clear hbk hl hc ht
  go_enter Try.func73, Try.ntmps73
  go_wp2_with (go_at_call 74; refine (HK.out _ HB.out).mono ?_; clear HK; rintro e w3 ⟨rfl, hb3⟩)
  go_ret
  exact ⟨rfl, HB.out.trans (hb3.mono HB.out.size)⟩
end
end Go.Proofs.Ythohopbolalpcaa

