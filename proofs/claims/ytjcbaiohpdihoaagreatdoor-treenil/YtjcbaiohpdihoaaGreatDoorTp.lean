/-
  The tree's face: New, At.
-/
import Derived.Test.YtjcbaiohpdihoaaGreatDoorTk
import Derived.Test.YtjcbaiohpdihoaaGreatDoorWk2
namespace Go.Proofs.YtjcbaiohpdihoaaGreatDoor
open Go.RowKit Go.Maps Lf
set_option linter.unusedVariables false
set_option linter.unusedSimpArgs false
set_option maxRecDepth 100000

section
variable {w W V : World} {S S' C C' C2 R R' R2 : Nat → Prop} {k q s g m tb : Nat} {uv : Value} {F : Int → Option Value} {d : Ds} {f f' : Int → ByteArray} {N M : Nat} {root : Int} {G G' : Int → Option Pge} {U U' : List Int}
theorem Dn.sn (h : Dn W C R k q s g d f N root G U V) (hb : Below w.heap.size w W) (hC : ∀ j, C j → S j ∨ w.heap.size ≤ j) : Sn w S k q s d f N V := by
  obtain ⟨C', R', ⟨m, uv, S', n, F, h1, h2, _⟩, hs⟩ := h
  refine ⟨⟨S', h1, fun j hj => ?_⟩, (Keep.of_below (S := S) hb).trans hs.keep (fun j hj hc => ?_)⟩
  · rcases hs.gc j ((h2.sets j).2 (.inl hj)) with h | h
    · exact hC j h
    · exact .inr (Nat.le_trans hb.size h)
  · rcases hC j hc with h | h
    · exact h
    · omega
/-- a draft of a tree, nothing is changed yet -/
theorem draft_any (hsv : Sv w S k q s d f N) (ht : Blk w tb #[.pointer (some ⟨s, 0, none⟩), .int .i64 root] 80) (hE : Env w) (h0 : ¬ S 0) :
    Calls Tryz.prog 54 #[.pointer (some ⟨tb, 0, none⟩)] w fun e W => ∃ g, e = .returned (.pointer (some ⟨g, 0, none⟩)) ∧ ∃ C R, Dr W C R k q s g d f N root (fun _ => none) [] ∧ Below w.heap.size w W ∧ (∀ j, C j → S j ∨ w.heap.size ≤ j) := by
  have hslt := hsv.lt
  have HFIN : Hid (Dr ((w.drew.alloc (.map #[] 0)).alloc (.cells #[.pointer (some ⟨s, 0, none⟩), .int .i64 root, .map (some w.heap.size), .slice none 0 0] 145)) (fun j => S j ∨ j = w.heap.size + 1 ∨ j = w.heap.size) (fun j => j < w.heap.size + 2) k q s (w.heap.size + 1) d f N root (fun _ => none) []) := by
    have hsz : (w.drew.alloc (.map #[] 0)).heap.size = w.heap.size + 1 := by simp
    have hsz2 : ((w.drew.alloc (.map #[] 0)).alloc (.cells #[.pointer (some ⟨s, 0, none⟩), .int .i64 root, .map (some w.heap.size), .slice none 0 0] 145)).heap.size = w.heap.size + 2 := by simp
    have hb1 : Below w.heap.size w (w.drew.alloc (.map #[] 0)) := ((Below.refl _ _).drew).alloc (Nat.le_refl _) _
    have hb2 := (Below.refl (w.drew.alloc (.map #[] 0)).heap.size (w.drew.alloc (.map #[] 0))).alloc (Nat.le_refl _) (.cells #[.pointer (some ⟨s, 0, none⟩), .int .i64 root, .map (some w.heap.size), .slice none 0 0] 145)
    have hm := IMap.made w.drew
    have hkb : Blk _ _ _ _ := Blk.made (w.drew.alloc (.map #[] 0)) #[.pointer (some ⟨s, 0, none⟩), .int .i64 root, .map (some w.heap.size), .slice none 0 0] 145
    rw [hsz] at hkb
    refine ⟨w.heap.size, .slice none 0 0, S, 0, fun _ => none, (hsv.on hb1).on hb2, ⟨hkb, ?_, World.ownsRow_nil _ _ _ _, fun j => ?_, fun h => by have := hslt _ h; omega, fun h => by have := hslt _ h; omega, fun j hj => by simp [Value.ownBlock] at hj, fun a ha => rfl, fun j hj => ?_, fun j hj => by rw [hsz2]; exact hj⟩, Nat.zero_le _, (hE.on hE.pos hb1).on (by have := hE.pos; omega) hb2, fun h => ?_⟩
    · exact (Keep.of_below (S := fun _ => False) hb2).imap hm (fun h => h)
    · constructor
      · rintro (h | h | h)
        · exact .inl h
        · exact .inr (.inl h)
        · exact .inr (.inr (.inl h))
      · rintro (h | h | h | h)
        · exact .inl h
        · exact .inr (.inl h)
        · exact .inr (.inr h)
        · simp [Value.ownBlock] at h
    · rcases hj with h | h | h
      · have := hslt _ h; show j < w.heap.size + 2; omega
      · show j < w.heap.size + 2; omega
      · show j < w.heap.size + 2; omega
    · rcases h with h | h | h
      · exact h0 h
      · omega
      · have := hE.pos; omega
  have HBL : Hid (Below w.heap.size w ((w.drew.alloc (.map #[] 0)).alloc (.cells #[.pointer (some ⟨s, 0, none⟩), .int .i64 root, .map (some w.heap.size), .slice none 0 0] 145))) := (((Below.refl _ _).drew).alloc (Nat.le_refl _) _).alloc (by simp) _
  have hS : w.drew.cell? ⟨tb, 0, none⟩ = some (.pointer (some ⟨s, 0, none⟩)) ∧ w.drew.cell? ⟨tb, 1, none⟩ = some (.int .i64 root) := ⟨ht.cell (i := 0) rfl, ht.cell (i := 1) rfl⟩
  have htl := ht.lt
  clear hsv hE h0 ht hslt
  go_enter Tryz.func54, Tryz.ntmps54
  go_wp2_with fail
  refine wp_region_d (fun w' => w'.cell? ⟨tb, 0, none⟩ = some (.pointer (some ⟨s, 0, none⟩)) ∧ w'.cell? ⟨tb, 1, none⟩ = some (.int .i64 root)) (fun _ => true) (by kernel_rfl) ?_
  have hmk : ∀ w1 : World, (Instr.makeMap 143 none).run Tryz.prog w1 = .ok (.map (some w1.heap.size)) (w1.alloc (.map #[] 0)) := fun w1 => by kernel_rfl
  have hd0 : w.drew.heap.size = w.heap.size := rfl
  obtain ⟨wd, hwd⟩ : ∃ wd, w.drew = wd := ⟨_, rfl⟩
  have hb1 := (Below.refl wd.heap.size wd).alloc (Nat.le_refl _) (.map #[] 0)
  rw [hwd] at hS HFIN HBL hd0
  have hS1 : (wd.alloc (.map #[] 0)).cell? ⟨tb, 0, none⟩ = some (.pointer (some ⟨s, 0, none⟩)) ∧ (wd.alloc (.map #[] 0)).cell? ⟨tb, 1, none⟩ = some (.int .i64 root) := ⟨(hb1.cell (p := ⟨tb, 0, none⟩) (by show tb < _; omega)).trans hS.1, (hb1.cell (p := ⟨tb, 1, none⟩) (by show tb < _; omega)).trans hS.2⟩
  have hb2 := (Below.refl (wd.alloc (.map #[] 0)).heap.size (wd.alloc (.map #[] 0))).alloc (Nat.le_refl _) (.cells #[.pointer (some ⟨s, 0, none⟩), .int .i64 root, .map (some w.heap.size), .slice none 0 0] 145)
  have hS2 : ((wd.alloc (.map #[] 0)).alloc (.cells #[.pointer (some ⟨s, 0, none⟩), .int .i64 root, .map (some w.heap.size), .slice none 0 0] 145)).cell? ⟨tb, 0, none⟩ = some (.pointer (some ⟨s, 0, none⟩)) ∧ ((wd.alloc (.map #[] 0)).alloc (.cells #[.pointer (some ⟨s, 0, none⟩), .int .i64 root, .map (some w.heap.size), .slice none 0 0] 145)).cell? ⟨tb, 1, none⟩ = some (.int .i64 root) := ⟨(hb2.cell (p := ⟨tb, 0, none⟩) (by show tb < _; simp; omega)).trans hS1.1, (hb2.cell (p := ⟨tb, 1, none⟩) (by show tb < _; simp; omega)).trans hS1.2⟩
  rw [hwd]
  clear hwd
  refine wpAnyM_pick (i := 0) (some 3) (v := ?vz1) rfl rfl (by kernel_rfl) (by kernel_rfl) (by kernel_rfl) (by kernel_rfl) (fun _ _ _ h => h) (Or.inl ⟨by rfl, ?hz1⟩) hS ?rz1
  case hz1 => intro w hSw; (try have hs1 := hSw.1); (try have hs2 := hSw.2); (try (obtain ⟨ha1, ha2, ha3, ha4⟩ := hSw)); go_simp; try with_reducible rfl
  try simp only [Act.put, List.setIfInBounds_toArray, List.set_cons_zero, List.set_cons_succ]
  refine wpAnyM_pick (i := 1) (some 4) (v := ?vz2) rfl rfl (by kernel_rfl) (by kernel_rfl) (by kernel_rfl) (by kernel_rfl) (fun _ _ _ h => h) (Or.inl ⟨by rfl, ?hz2⟩) hS ?rz2
  case hz2 => intro w hSw; (try have hs1 := hSw.1); (try have hs2 := hSw.2); (try (obtain ⟨ha1, ha2, ha3, ha4⟩ := hSw)); go_simp; try with_reducible rfl
  try simp only [Act.put, List.setIfInBounds_toArray, List.set_cons_zero, List.set_cons_succ]
  refine wpAnyM_pick (i := 2) (some 5) (v := ?vz3) rfl rfl (by kernel_rfl) (by kernel_rfl) (by kernel_rfl) (by kernel_rfl) (fun _ _ _ h => h) (Or.inl ⟨by rfl, ?hz3⟩) hS ?rz3
  case hz3 => intro w hSw; (try have hs1 := hSw.1); (try have hs2 := hSw.2); (try (obtain ⟨ha1, ha2, ha3, ha4⟩ := hSw)); go_simp; try with_reducible rfl
  try simp only [Act.put, List.setIfInBounds_toArray, List.set_cons_zero, List.set_cons_succ]
  refine wpAnyM_pick (i := 3) (some 6) (v := ?vz4) rfl rfl (by kernel_rfl) (by kernel_rfl) (by kernel_rfl) (by kernel_rfl) (fun _ _ _ h => h) (Or.inl ⟨by rfl, ?hz4⟩) hS ?rz4
  case hz4 => intro w hSw; (try have hs1 := hSw.1); (try have hs2 := hSw.2); (try (obtain ⟨ha1, ha2, ha3, ha4⟩ := hSw)); go_simp; try with_reducible rfl
  try simp only [Act.put, List.setIfInBounds_toArray, List.set_cons_zero, List.set_cons_succ]
  refine wpAnyM_pick (i := 4) (some 7) (v := ?vz5) rfl rfl (by kernel_rfl) (by kernel_rfl) (by kernel_rfl) (by kernel_rfl) (fun _ _ _ h => h) (Or.inl ⟨by rfl, ?hz5⟩) hS ?rz5
  case hz5 => intro w hSw; (try have hs1 := hSw.1); (try have hs2 := hSw.2); (try (obtain ⟨ha1, ha2, ha3, ha4⟩ := hSw)); go_simp; try with_reducible rfl
  try simp only [Act.put, List.setIfInBounds_toArray, List.set_cons_zero, List.set_cons_succ]
  refine wpAnyM_pick (i := 5) (some 8) (v := ?vz6) rfl rfl (by kernel_rfl) (by kernel_rfl) (by kernel_rfl) (by kernel_rfl) (fun _ _ _ h => h) (Or.inl ⟨by rfl, ?hz6⟩) hS ?rz6
  case hz6 => intro w hSw; (try have hs1 := hSw.1); (try have hs2 := hSw.2); (try (obtain ⟨ha1, ha2, ha3, ha4⟩ := hSw)); go_simp; try with_reducible rfl
  try simp only [Act.put, List.setIfInBounds_toArray, List.set_cons_zero, List.set_cons_succ]
  refine wpAnyM_pick (i := 6) (some 9) (v := ?vz7) rfl rfl (by kernel_rfl) (by kernel_rfl) (by kernel_rfl) (by kernel_rfl) (fun _ _ _ h => h) (Or.inl ⟨by rfl, ?hz7⟩) hS ?rz7
  case hz7 => intro w hSw; (try have hs1 := hSw.1); (try have hs2 := hSw.2); (try (obtain ⟨ha1, ha2, ha3, ha4⟩ := hSw)); go_simp; try with_reducible rfl
  try simp only [Act.put, List.setIfInBounds_toArray, List.set_cons_zero, List.set_cons_succ]
  refine wpAnyM_pick (i := 7) (some 10) (v := ?vz8) rfl rfl (by kernel_rfl) (by kernel_rfl) (by kernel_rfl) (by kernel_rfl) (fun _ _ _ h => h) (Or.inl ⟨by rfl, ?hz8⟩) hS ?rz8
  case hz8 => intro w hSw; (try have hs1 := hSw.1); (try have hs2 := hSw.2); (try (obtain ⟨ha1, ha2, ha3, ha4⟩ := hSw)); go_simp; try with_reducible rfl
  try simp only [Act.put, List.setIfInBounds_toArray, List.set_cons_zero, List.set_cons_succ]
  refine wpAnyM_one (i := 8) (by kernel_rfl) rfl (fun K1 hK1 => ?_)
  go_simp
  refine hK1 _ _ (fun _ => hS1) ?_
  clear hK1 K1 hS
  refine wpAnyM_pick (i := 9) (some 12) (v := ?vz9) rfl rfl (by kernel_rfl) (by kernel_rfl) (by kernel_rfl) (by kernel_rfl) (fun _ _ _ h => h) (Or.inl ⟨by rfl, ?hz9⟩) hS1 ?rz9
  case hz9 => intro w hSw; (try have hs1 := hSw.1); (try have hs2 := hSw.2); (try (obtain ⟨ha1, ha2, ha3, ha4⟩ := hSw)); go_simp; try with_reducible rfl
  try simp only [Act.put, List.setIfInBounds_toArray, List.set_cons_zero, List.set_cons_succ]
  refine wpAnyM_one (i := 10) (by kernel_rfl) rfl (fun K1 hK1 => ?_)
  go_simp
  refine hK1 _ _ (fun _ => hS2) ?_
  clear hK1 K1 hS1
  refine wpAnyM_pick (i := 11) (some 2) (v := ?vz10) rfl rfl (by kernel_rfl) (by kernel_rfl) (by kernel_rfl) (by kernel_rfl) (fun _ _ _ h => h) (Or.inl ⟨by rfl, ?hz10⟩) hS2 ?rz10
  case hz10 => intro w hSw; (try have hs1 := hSw.1); (try have hs2 := hSw.2); (try (obtain ⟨ha1, ha2, ha3, ha4⟩ := hSw)); go_simp; try with_reducible rfl
  try simp only [Act.put, List.setIfInBounds_toArray, List.set_cons_zero, List.set_cons_succ]
  refine wpAnyM_done (by kernel_rfl) ?_ _
  clear hS2
  go_wp2_with fail
  go_ret
  exact ⟨_, rfl, _, _, HFIN.out, HBL.out, fun j hj => by rcases hj with h | h | h; exact .inl h; exact .inr (by omega); exact .inr (by omega)⟩
set_option maxHeartbeats 1000000 in
/-- Put's closure, by what the draft's put does -/
theorem put1_ok (b3 b4 b5 : Nat) (xk xv : ByteArray) (P : (Int → ByteArray) → Prop) (k3 : w.cell? ⟨b3, 0, none⟩ = some (.pointer (some ⟨tb, 0, none⟩))) (k4 : w.cell? ⟨b4, 0, none⟩ = some (.string xk)) (k5 : w.cell? ⟨b5, 0, none⟩ = some (.string xv)) (l4 : b4 < w.heap.size) (l5 : b5 < w.heap.size) (l3 : b3 < w.heap.size) (n3 : ¬ S b3) (n4 : ¬ S b4) (n5 : ¬ S b5)
    (hsv : Sv w S k q s d f N) (ht : Blk w tb #[.pointer (some ⟨s, 0, none⟩), .int .i64 root] 80) (hE : Env w) (h0 : ¬ S 0)
    (hp : ∀ (w1 : World) (C1 R1 : Nat → Prop) (g : Nat), Dr w1 C1 R1 k q s g d f N root (fun _ => none) [] → Calls Tryz.prog 55 #[.pointer (some ⟨g, 0, none⟩), .agg #[.string xk, .string xv]] w1 fun e w' => e = .returned (.tuple #[]) ∧ ∃ f' G', P f' ∧ Dn w1 C1 R1 k q s g d f' M root G' [] w') :
    Calls Tryz.prog 53 #[.pointer (some ⟨b3, 0, none⟩), .pointer (some ⟨b4, 0, none⟩), .pointer (some ⟨b5, 0, none⟩)] w fun e w' => e = .returned (.tuple #[]) ∧ ∃ f', P f' ∧ Sn w S k q s d f' M w' := by
  have hdr : Below w.heap.size w w.drew := (Below.refl _ _).drew
  have HDA := hid (draft_any (hsv.on hdr) (ht.on hdr ht.lt) (hE.on hE.pos hdr) h0)
  have HP := hid hp
  have HB := hid hdr
  have hS : w.drew.cell? ⟨b3, 0, none⟩ = some (.pointer (some ⟨tb, 0, none⟩)) ∧ w.drew.cell? ⟨b4, 0, none⟩ = some (.string xk) ∧ w.drew.cell? ⟨b5, 0, none⟩ = some (.string xv) := ⟨k3, k4, k5⟩
  have HCS : Hid (∀ w1, Below w.drew.heap.size w.drew w1 → w1.cell? ⟨b3, 0, none⟩ = some (.pointer (some ⟨tb, 0, none⟩)) ∧ w1.cell? ⟨b4, 0, none⟩ = some (.string xk) ∧ w1.cell? ⟨b5, 0, none⟩ = some (.string xv)) := fun w1 hb => ⟨(hb.cell (p := ⟨b3, 0, none⟩) l3).trans k3, (hb.cell (p := ⟨b4, 0, none⟩) l4).trans k4, (hb.cell (p := ⟨b5, 0, none⟩) l5).trans k5⟩
  have HK := hid (And.intro k3 (And.intro k4 k5))
  clear hsv ht hE h0 hp hdr k3 k4 k5
  go_enter Tryz.func53, Tryz.ntmps53
  go_wp2_with fail
  refine wp_region_d (fun w' => w'.cell? ⟨b3, 0, none⟩ = some (.pointer (some ⟨tb, 0, none⟩)) ∧ w'.cell? ⟨b4, 0, none⟩ = some (.string xk) ∧ w'.cell? ⟨b5, 0, none⟩ = some (.string xv)) (fun _ => true) (by kernel_rfl) ?_
  refine wpAnyM_pick (i := 0) (some 3) (v := ?vz11) rfl rfl (by kernel_rfl) (by kernel_rfl) (by kernel_rfl) (by kernel_rfl) (fun _ _ _ h => h) (Or.inl ⟨by rfl, ?hz11⟩) hS ?rz11
  case hz11 => intro w hSw; (try have hs1 := hSw.1); (try have hs2 := hSw.2); (try (obtain ⟨ha1, ha2, ha3, ha4⟩ := hSw)); go_simp; try with_reducible rfl
  try simp only [Act.put, List.setIfInBounds_toArray, List.set_cons_zero, List.set_cons_succ]
  refine wpAnyM_pick (i := 2) (some 5) (v := ?vz12) rfl rfl (by kernel_rfl) (by kernel_rfl) (by kernel_rfl) (by kernel_rfl) (fun _ _ _ h => h) (Or.inl ⟨by rfl, ?hz12⟩) hS ?rz12
  case hz12 => intro w hSw; (try have hs1 := hSw.1); (try have hs2 := hSw.2); (try (obtain ⟨ha1, ha2, ha3, ha4⟩ := hSw)); go_simp; try with_reducible rfl
  try simp only [Act.put, List.setIfInBounds_toArray, List.set_cons_zero, List.set_cons_succ]
  refine wpAnyM_pick (i := 3) (some 6) (v := ?vz13) rfl rfl (by kernel_rfl) (by kernel_rfl) (by kernel_rfl) (by kernel_rfl) (fun _ _ _ h => h) (Or.inl ⟨by rfl, ?hz13⟩) hS ?rz13
  case hz13 => intro w hSw; (try have hs1 := hSw.1); (try have hs2 := hSw.2); (try (obtain ⟨ha1, ha2, ha3, ha4⟩ := hSw)); go_simp; try with_reducible rfl
  try simp only [Act.put, List.setIfInBounds_toArray, List.set_cons_zero, List.set_cons_succ]
  refine wpAnyM_pick (i := 4) (some 7) (v := ?vz14) rfl rfl (by kernel_rfl) (by kernel_rfl) (by kernel_rfl) (by kernel_rfl) (fun _ _ _ h => h) (Or.inl ⟨by rfl, ?hz14⟩) hS ?rz14
  case hz14 => intro w hSw; (try have hs1 := hSw.1); (try have hs2 := hSw.2); (try (obtain ⟨ha1, ha2, ha3, ha4⟩ := hSw)); go_simp; try with_reducible rfl
  try simp only [Act.put, List.setIfInBounds_toArray, List.set_cons_zero, List.set_cons_succ]
  refine wpAnyM_one (i := 1) (by kernel_rfl) rfl (fun K1 hK1 => ?_)
  go_simp
  go_at_call 54
  refine HDA.out.mono ?_
  rintro e w5 ⟨g, rfl, C5, R5, d5, hb5, hc5⟩
  have D5 := hid d5
  have HB5 := hid hb5
  have HC5 := hid hc5
  refine hK1 _ _ (fun _ => HCS.out _ hb5) ?_
  clear hK1 K1 hS d5 hb5 hc5 HCS HDA
  refine wpAnyM_one (i := 5) (by kernel_rfl) rfl (fun K1 hK1 => ?_)
  go_simp
  go_at_call 55
  refine (HP.out _ _ _ _ D5.out).mono ?_
  rintro e w6 ⟨rfl, f', G', hpf, dn⟩
  have HPF := hid hpf
  have HSN := hid (dn.sn (HB.out.trans HB5.out) HC5.out)
  refine hK1 _ _ (fun _ => ⟨(Keep.cell HSN.out.keep l3 n3).trans HK.out.1, (Keep.cell HSN.out.keep l4 n4).trans HK.out.2.1, (Keep.cell HSN.out.keep l5 n5).trans HK.out.2.2⟩) ?_
  clear hK1 K1 hpf dn
  refine wpAnyM_done (by kernel_rfl) ?_ _
  go_wp2_with fail
  exact bodyPost_end (results_none rfl _ _ _) rfl ⟨rfl, f', HPF.out, HSN.out⟩
set_option maxHeartbeats 1000000 in
theorem tput_ok (xk xv : ByteArray) (P : (Int → ByteArray) → Prop) (z1 : 0 < xk.size) (z2 : xk.size ≤ 32) (z3 : xv.size ≤ 64)
    (hsv : Sv w S k q s d f N) (ht : Blk w tb #[.pointer (some ⟨s, 0, none⟩), .int .i64 root] 80) (hE : Env w) (h0 : ¬ S 0)
    (hp : ∀ (w1 : World) (C1 R1 : Nat → Prop) (g : Nat), Dr w1 C1 R1 k q s g d f N root (fun _ => none) [] → Calls Tryz.prog 55 #[.pointer (some ⟨g, 0, none⟩), .agg #[.string xk, .string xv]] w1 fun e w' => e = .returned (.tuple #[]) ∧ ∃ f' G', P f' ∧ Dn w1 C1 R1 k q s g d f' M root G' [] w') :
    Calls Tryz.prog 26 #[.pointer (some ⟨tb, 0, none⟩), .string xk, .string xv] w fun e w' => e = .returned (.int .i64 0) ∧ ∃ f', P f' ∧ Sn w S k q s d f' M w' := by
  have hlt := hsv.lt
  have a1 := (Below.refl w.heap.size w).alloc (Nat.le_refl _) (.cells #[.pointer (some ⟨tb, 0, none⟩)] 29)
  have K3 := Blk.made w #[.pointer (some ⟨tb, 0, none⟩)] 29
  have e1 : (w.alloc (.cells #[.pointer (some ⟨tb, 0, none⟩)] 29)).heap.size = w.heap.size + 1 := by simp
  obtain ⟨W1, hW1⟩ : ∃ W1, w.alloc (.cells #[.pointer (some ⟨tb, 0, none⟩)] 29) = W1 := ⟨_, rfl⟩
  rw [hW1] at a1 K3 e1
  have a2 := (Below.refl W1.heap.size W1).alloc (Nat.le_refl _) (.cells #[.string xk] 9)
  have K4 := Blk.made W1 #[.string xk] 9
  have e2 : (W1.alloc (.cells #[.string xk] 9)).heap.size = w.heap.size + 2 := by simp [e1]
  obtain ⟨W2, hW2⟩ : ∃ W2, W1.alloc (.cells #[.string xk] 9) = W2 := ⟨_, rfl⟩
  rw [hW2] at a2 K4 e2
  have a3 := (Below.refl W2.heap.size W2).alloc (Nat.le_refl _) (.cells #[.string xv] 9)
  have K5 := Blk.made W2 #[.string xv] 9
  have e3 : (W2.alloc (.cells #[.string xv] 9)).heap.size = w.heap.size + 3 := by simp [e2]
  obtain ⟨W3, hW3⟩ : ∃ W3, W2.alloc (.cells #[.string xv] 9) = W3 := ⟨_, rfl⟩
  rw [hW3] at a3 K5 e3
  have a4 := (Below.refl W3.heap.size W3).alloc (Nat.le_refl _) (.cells #[.int .i64 0] 26)
  have K6 := Blk.made W3 #[.int .i64 0] 26
  have e4 : (W3.alloc (.cells #[.int .i64 0] 26)).heap.size = w.heap.size + 4 := by simp [e3]
  have b3 : Below w.heap.size w W3 := (a1.trans (a2.mono (by omega))).trans (a3.mono (by omega))
  have b4 : Below w.heap.size w (W3.alloc (.cells #[.int .i64 0] 26)) := b3.trans (a4.mono (by omega))
  rw [e1] at K4
  rw [e2] at K5
  rw [e3] at K6
  have k3 := (((K3.on a2 (by omega)).on a3 (by omega)).on a4 (by omega))
  have k4 := ((K4.on a3 (by omega)).on a4 (by omega))
  have k5 := (K5.on a4 (by omega))
  have q3 := k3.cell (i := 0) (v := .pointer (some ⟨tb, 0, none⟩)) rfl
  have q4 := k4.cell (i := 0) (v := .string xk) rfl
  have q5 := k5.cell (i := 0) (v := .string xv) rfl
  have nb : ∀ j, w.heap.size ≤ j → ¬ S j := fun j hj hs => absurd (hlt j hs) (by omega)
  have h1 := put1_ok (w := W3.alloc (.cells #[.int .i64 0] 26)) w.heap.size (w.heap.size + 1) (w.heap.size + 2) xk xv P q3 q4 q5 (by omega) (by omega) (by omega) (nb _ (by omega)) (nb _ (by omega)) (nb _ (by omega)) (hsv.on b4) (ht.on b4 ht.lt) (hE.on hE.pos b4) h0 hp
  have HCA := hid (caught_ok 53 #[.pointer (some ⟨w.heap.size, 0, none⟩), .pointer (some ⟨w.heap.size + 1, 0, none⟩), .pointer (some ⟨w.heap.size + 2, 0, none⟩)] W3 (fun V => ∃ f', P f' ∧ Sn (W3.alloc (.cells #[.int .i64 0] 26)) S k q s d f' M V) (fun V => ∃ f', P f' ∧ Sn w S k q s d f' M V) (enters_of Tryz.func53 (by kernel_rfl) rfl)
    (h1.mono fun e V hh => by
      obtain ⟨he, f', hpf, hsn⟩ := hh
      refine ⟨he, ⟨f', hpf, hsn⟩, ?_⟩
      rw [e3]
      exact hsn.keep.blk K6 (nb _ (by omega)))
    (fun V hV _ => by
      obtain ⟨f', hpf, hsn⟩ := hV
      exact ⟨f', hpf, (hsn.own (fun j hj => Nat.lt_of_lt_of_le (hlt j hj) b3.size) (Keep.set (S := fun g => g = W3.heap.size) V rfl 0 _)).base b3⟩))
  have hne : (xk.toList == (⟨#[]⟩ : ByteArray).toList) = false := Lf.other_texts (fun e => by rw [e] at z1; exact absurd z1 (by decide))
  have hie : xk.toList.isEmpty = false := by
    cases hq : xk.toList with
    | nil => rw [hq] at hne; simp at hne
    | cons a r => rfl
  have h32 : ¬ (32 : Int) < (xk.size : Int) := by omega
  have h64 : ¬ (64 : Int) < (xv.size : Int) := by omega
  have hmf : ∀ (fn : Fn) (first cap : Array Value) (w : World), (Instr.makeFunc fn first cap).run Tryz.prog w = .ok (.func fn first cap) w := fun _ _ _ _ => rfl
  have k3' := ((K3.on a2 (by omega)).on a3 (by omega))
  have k4' := K4.on a3 (by omega)
  have r3 := k3'.cell (i := 0) (v := .pointer (some ⟨tb, 0, none⟩)) rfl
  have r4 := k4'.cell (i := 0) (v := .string xk) rfl
  have r5 := K5.cell (i := 0) (v := .string xv) rfl
  clear h1 hp hsv ht hE h0 hlt q3 q4 q5 k3 k4 k5 k3' k4' a1 a2 a3 a4 b3 b4 K3 K4 K5 K6 e4 nb z1 z2 z3
  subst hW1 hW2
  go_enter Tryz.func26, Tryz.ntmps26
  go_wp2_with (go_at_call 37; refine HCA.out.mono ?_; clear HCA; rintro e w9 ⟨rfl, hx9⟩; have HX9 := hid hx9; clear hx9)
  go_ret
  exact ⟨rfl, HX9.out⟩
end
end Go.Proofs.YtjcbaiohpdihoaaGreatDoor

namespace Go.Proofs.YtjcbaiohpdihoaaGreatDoor
open Go.RowKit Go.Maps Lf
set_option linter.unusedVariables false
set_option linter.unusedSimpArgs false
set_option maxRecDepth 100000

section
variable {w Wc W V : World} {S S' C C' C2 R R' R2 : Nat → Prop} {k q s g m tb n : Nat} {uv : Value} {F : Int → Option Value} {d : Ds} {f f' : Int → ByteArray} {N M : Nat} {root : Int} {G G' : Int → Option Pge} {U U' : List Int}
/-- what a call leaves, beside boxes that were made since w, ahead of n -/
def Snb (w : World) (S : Nat → Prop) (k q s : Nat) (d : Ds) (f : Int → ByteArray) (N n : Nat) (V : World) : Prop := ∃ S', Sv V S' k q s d f N ∧ Grows S S' w ∧ Keep S w V ∧ ∀ j, w.heap.size ≤ j → j < n → ¬ S' j
theorem Sn.b (h : Sn Wc S k q s d f N V) (hb : Below w.heap.size w Wc) (hS : ∀ j, S j → j < w.heap.size) : Snb w S k q s d f N Wc.heap.size V := by
  obtain ⟨S', h1, h2⟩ := h.sv
  refine ⟨S', h1, fun j hj => ?_, (Keep.of_below (S := S) hb).trans h.keep (fun _ _ h => h), fun j h3 h4 hs => ?_⟩
  · rcases h2 j hj with h | h
    · exact .inl h
    · exact .inr (Nat.le_trans hb.size h)
  · rcases h2 j hs with h | h
    · have := hS j h; omega
    · omega
theorem Snb.wr (h : Snb w S k q s d f N n V) {b : Nat} (h1 : w.heap.size ≤ b) (h2 : b < n) (i : Nat) (v : Value) : Snb w S k q s d f N n (V.setCell ⟨b, i, none⟩ v) := by
  obtain ⟨S', g1, g2, g3, g4⟩ := h
  have hk : Keep (fun j => j = b) V (V.setCell ⟨b, i, none⟩ v) := Keep.set (S := fun j => j = b) V rfl i v
  exact ⟨S', hk.sv g1 (fun j hj e => by subst e; exact g4 j h1 h2 hj), g2, g3.trans hk (fun j hj e => by subst e; omega), g4⟩
theorem Snb.on (h : Snb w S k q s d f N n V) (hb : Below V.heap.size V W) : Snb w S k q s d f N n W := by
  obtain ⟨S', g1, g2, g3, g4⟩ := h
  exact ⟨S', g1.on hb, g2, g3.trans (Keep.of_below (S := fun _ => False) hb) (fun _ _ h => h.elim), g4⟩
theorem Snb.sn (h : Snb w S k q s d f N n V) : Sn w S k q s d f N V := by
  obtain ⟨S', g1, g2, g3, g4⟩ := h
  exact ⟨⟨S', g1, g2⟩, g3⟩
theorem Snb.less {n' : Nat} (h : Snb w S k q s d f N n V) (hn : n' ≤ n) : Snb w S k q s d f N n' V := by
  obtain ⟨S', g1, g2, g3, g4⟩ := h
  exact ⟨S', g1, g2, g3, fun j h1 h2 => g4 j h1 (by omega)⟩
set_option maxHeartbeats 1000000 in
/-- Delete's closure, by what the draft's take does -/
theorem del1_ok (b3 b4 b5 : Nat) (xk : ByteArray) (r : Bool) (P : (Int → ByteArray) → Prop) (k3 : w.cell? ⟨b3, 0, none⟩ = some (.pointer (some ⟨tb, 0, none⟩))) (k4 : w.cell? ⟨b4, 0, none⟩ = some (.string xk)) (K5 : Blk w b5 #[.bool false] 4) (l4 : b4 < w.heap.size) (l3 : b3 < w.heap.size) (n3 : ¬ S b3) (n4 : ¬ S b4) (n5 : ¬ S b5) (h35 : b3 ≠ b5) (h45 : b4 ≠ b5)
    (hsv : Sv w S k q s d f N) (ht : Blk w tb #[.pointer (some ⟨s, 0, none⟩), .int .i64 root] 80) (hE : Env w) (h0 : ¬ S 0)
    (hp : ∀ (w1 : World) (C1 R1 : Nat → Prop) (g : Nat), Dr w1 C1 R1 k q s g d f N root (fun _ => none) [] → Calls Tryz.prog 57 #[.pointer (some ⟨g, 0, none⟩), .string xk] w1 fun e w' => e = .returned (.bool r) ∧ ∃ f' G', P f' ∧ Dn w1 C1 R1 k q s g d f' M root G' [] w') :
    Calls Tryz.prog 56 #[.pointer (some ⟨b3, 0, none⟩), .pointer (some ⟨b4, 0, none⟩), .pointer (some ⟨b5, 0, none⟩)] w fun e w' => e = .returned (.tuple #[]) ∧ ∃ V0 f', P f' ∧ Sn w S k q s d f' M V0 ∧ V0.setCell ⟨b5, 0, none⟩ (.bool r) = w' := by
  have hdr : Below w.heap.size w w.drew := (Below.refl _ _).drew
  have HDA := hid (draft_any (hsv.on hdr) (ht.on hdr ht.lt) (hE.on hE.pos hdr) h0)
  have HP := hid hp
  have HB := hid hdr
  have hS : w.drew.cell? ⟨b3, 0, none⟩ = some (.pointer (some ⟨tb, 0, none⟩)) ∧ w.drew.cell? ⟨b4, 0, none⟩ = some (.string xk) := ⟨k3, k4⟩
  have HCS : Hid (∀ w1, Below w.drew.heap.size w.drew w1 → w1.cell? ⟨b3, 0, none⟩ = some (.pointer (some ⟨tb, 0, none⟩)) ∧ w1.cell? ⟨b4, 0, none⟩ = some (.string xk)) := fun w1 hb => ⟨(hb.cell (p := ⟨b3, 0, none⟩) l3).trans k3, (hb.cell (p := ⟨b4, 0, none⟩) l4).trans k4⟩
  have HK := hid (And.intro k3 k4)
  have HK5 := hid K5
  clear hsv ht hE h0 hp hdr k3 k4 K5
  go_enter Tryz.func56, Tryz.ntmps56
  go_wp2_with fail
  refine wp_region_d (fun w' => w'.cell? ⟨b3, 0, none⟩ = some (.pointer (some ⟨tb, 0, none⟩)) ∧ w'.cell? ⟨b4, 0, none⟩ = some (.string xk)) (fun _ => true) (by kernel_rfl) ?_
  refine wpAnyM_pick (i := 0) (some 3) (v := ?vz1) rfl rfl (by kernel_rfl) (by kernel_rfl) (by kernel_rfl) (by kernel_rfl) (fun _ _ _ h => h) (Or.inl ⟨by rfl, ?hz1⟩) hS ?rz1
  case hz1 => intro w hSw; (try have hs1 := hSw.1); (try have hs2 := hSw.2); (try (obtain ⟨ha1, ha2, ha3, ha4⟩ := hSw)); go_simp; try with_reducible rfl
  try simp only [Act.put, List.setIfInBounds_toArray, List.set_cons_zero, List.set_cons_succ]
  refine wpAnyM_pick (i := 2) (some 5) (v := ?vz2) rfl rfl (by kernel_rfl) (by kernel_rfl) (by kernel_rfl) (by kernel_rfl) (fun _ _ _ h => h) (Or.inl ⟨by rfl, ?hz2⟩) hS ?rz2
  case hz2 => intro w hSw; (try have hs1 := hSw.1); (try have hs2 := hSw.2); (try (obtain ⟨ha1, ha2, ha3, ha4⟩ := hSw)); go_simp; try with_reducible rfl
  try simp only [Act.put, List.setIfInBounds_toArray, List.set_cons_zero, List.set_cons_succ]
  refine wpAnyM_one (i := 1) (by kernel_rfl) rfl (fun K1 hK1 => ?_)
  go_simp
  go_at_call 54
  refine HDA.out.mono ?_
  rintro e w5 ⟨g, rfl, C5, R5, d5, hb5, hc5⟩
  have D5 := hid d5
  have HB5 := hid hb5
  have HC5 := hid hc5
  refine hK1 _ _ (fun _ => HCS.out _ hb5) ?_
  clear hK1 K1 hS d5 hb5 hc5 HCS HDA
  refine wpAnyM_one (i := 3) (by kernel_rfl) rfl (fun K1 hK1 => ?_)
  go_simp
  go_at_call 57
  refine (HP.out _ _ _ _ D5.out).mono ?_
  rintro e w6 ⟨rfl, f', G', hpf, dn⟩
  have HPF := hid hpf
  have HSN := hid (dn.sn (HB.out.trans HB5.out) HC5.out)
  have K56 := HSN.out.keep.blk HK5.out n5
  have q0 := K56.cell (i := 0) rfl
  have q1 := K56.free 0
  have z3 := (Keep.cell HSN.out.keep (i := 0) l3 n3).trans HK.out.1
  have z4 := (Keep.cell HSN.out.keep (i := 0) l4 n4).trans HK.out.2
  refine hK1 _ _ (fun _ => ⟨z3, z4⟩) ?_
  clear hK1 K1 hpf dn
  refine wpAnyM_one (i := 4) (by kernel_rfl) rfl (fun K1 hK1 => ?_)
  go_simp
  refine hK1 _ _ (fun _ => ?_) ?_
  · have hk : Keep (fun j => j = b5) w6 (w6.setCell ⟨b5, 0, none⟩ (.bool r)) := Keep.set (S := fun j => j = b5) w6 rfl 0 _
    have hs6 := HSN.out.keep.size
    exact ⟨(Keep.cell hk (i := 0) (by omega) h35).trans z3, (Keep.cell hk (i := 0) (by omega) h45).trans z4⟩
  · clear hK1 K1 z3 z4 q0 q1
    refine wpAnyM_done (by kernel_rfl) ?_ _
    go_wp2_with fail
    exact bodyPost_end (results_none rfl _ _ _) rfl ⟨rfl, w6, f', HPF.out, HSN.out, rfl⟩
set_option maxHeartbeats 1000000 in
theorem tdel_ok (xk : ByteArray) (r : Bool) (P : (Int → ByteArray) → Prop)
    (hsv : Sv w S k q s d f N) (ht : Blk w tb #[.pointer (some ⟨s, 0, none⟩), .int .i64 root] 80) (hE : Env w) (h0 : ¬ S 0)
    (hp : ∀ (w1 : World) (C1 R1 : Nat → Prop) (g : Nat), Dr w1 C1 R1 k q s g d f N root (fun _ => none) [] → Calls Tryz.prog 57 #[.pointer (some ⟨g, 0, none⟩), .string xk] w1 fun e w' => e = .returned (.bool r) ∧ ∃ f' G', P f' ∧ Dn w1 C1 R1 k q s g d f' M root G' [] w') :
    Calls Tryz.prog 27 #[.pointer (some ⟨tb, 0, none⟩), .string xk] w fun e w' => e = .returned (.tuple #[.bool r, .int .i64 0]) ∧ ∃ f', P f' ∧ Sn w S k q s d f' M w' := by
  have hlt := hsv.lt
  have a1 := (Below.refl w.heap.size w).alloc (Nat.le_refl _) (.cells #[.pointer (some ⟨tb, 0, none⟩)] 29)
  have K3 := Blk.made w #[.pointer (some ⟨tb, 0, none⟩)] 29
  have e1 : (w.alloc (.cells #[.pointer (some ⟨tb, 0, none⟩)] 29)).heap.size = w.heap.size + 1 := by simp
  obtain ⟨W1, hW1⟩ : ∃ W1, w.alloc (.cells #[.pointer (some ⟨tb, 0, none⟩)] 29) = W1 := ⟨_, rfl⟩
  rw [hW1] at a1 K3 e1
  have a2 := (Below.refl W1.heap.size W1).alloc (Nat.le_refl _) (.cells #[.string xk] 9)
  have K4 := Blk.made W1 #[.string xk] 9
  have e2 : (W1.alloc (.cells #[.string xk] 9)).heap.size = w.heap.size + 2 := by simp [e1]
  obtain ⟨W2, hW2⟩ : ∃ W2, W1.alloc (.cells #[.string xk] 9) = W2 := ⟨_, rfl⟩
  rw [hW2] at a2 K4 e2
  have a3 := (Below.refl W2.heap.size W2).alloc (Nat.le_refl _) (.cells #[.bool false] 4)
  have K5 := Blk.made W2 #[.bool false] 4
  have e3 : (W2.alloc (.cells #[.bool false] 4)).heap.size = w.heap.size + 3 := by simp [e2]
  obtain ⟨W3, hW3⟩ : ∃ W3, W2.alloc (.cells #[.bool false] 4) = W3 := ⟨_, rfl⟩
  rw [hW3] at a3 K5 e3
  have a4 := (Below.refl W3.heap.size W3).alloc (Nat.le_refl _) (.cells #[.int .i64 0] 26)
  have K6 := Blk.made W3 #[.int .i64 0] 26
  have e4 : (W3.alloc (.cells #[.int .i64 0] 26)).heap.size = w.heap.size + 4 := by simp [e3]
  have b3 : Below w.heap.size w W3 := (a1.trans (a2.mono (by omega))).trans (a3.mono (by omega))
  have b4 : Below w.heap.size w (W3.alloc (.cells #[.int .i64 0] 26)) := b3.trans (a4.mono (by omega))
  rw [e1] at K4
  rw [e2] at K5
  rw [e3] at K6
  have k3 := (((K3.on a2 (by omega)).on a3 (by omega)).on a4 (by omega))
  have k4 := ((K4.on a3 (by omega)).on a4 (by omega))
  have k5 := (K5.on a4 (by omega))
  have q3 := k3.cell (i := 0) (v := .pointer (some ⟨tb, 0, none⟩)) rfl
  have q4 := k4.cell (i := 0) (v := .string xk) rfl
  have nb : ∀ j, w.heap.size ≤ j → ¬ S j := fun j hj hs => absurd (hlt j hs) (by omega)
  have h1 := del1_ok (w := W3.alloc (.cells #[.int .i64 0] 26)) w.heap.size (w.heap.size + 1) (w.heap.size + 2) xk r P q3 q4 k5 (by omega) (by omega) (nb _ (by omega)) (nb _ (by omega)) (nb _ (by omega)) (by omega) (by omega) (hsv.on b4) (ht.on b4 ht.lt) (hE.on hE.pos b4) h0 hp
  have HCA := hid (caught_ok 56 #[.pointer (some ⟨w.heap.size, 0, none⟩), .pointer (some ⟨w.heap.size + 1, 0, none⟩), .pointer (some ⟨w.heap.size + 2, 0, none⟩)] W3 (fun V => (∃ f', P f' ∧ Snb w S k q s d f' M (w.heap.size + 4) V) ∧ Blk V (w.heap.size + 2) #[.bool r] 4) (fun V => (∃ f', P f' ∧ Snb w S k q s d f' M (w.heap.size + 4) V) ∧ Blk V (w.heap.size + 2) #[.bool r] 4) (enters_of Tryz.func56 (by kernel_rfl) rfl)
    (h1.mono fun e V hh => by
      obtain ⟨he, V0, f', hpf, hsn, hv⟩ := hh
      subst hv
      have hsb := hsn.b b4 hlt
      rw [e4] at hsb
      refine ⟨he, ⟨⟨f', hpf, hsb.wr (by omega) (by omega) 0 _⟩, ?_⟩, ?_⟩
      · exact (hsn.keep.blk k5 (nb _ (by omega))).set 0 (.bool r)
      · rw [e3]
        exact (hsn.keep.blk K6 (nb _ (by omega))).other (by omega) _)
    (fun V hV hV6 => by
      obtain ⟨⟨f', hpf, hsn⟩, hk⟩ := hV
      rw [e3]
      exact ⟨⟨f', hpf, hsn.wr (by omega) (by omega) 0 _⟩, hk.other (by omega) _⟩))
  have hmf : ∀ (fn : Fn) (first cap : Array Value) (w : World), (Instr.makeFunc fn first cap).run Tryz.prog w = .ok (.func fn first cap) w := fun _ _ _ _ => rfl
  have k3' := ((K3.on a2 (by omega)).on a3 (by omega))
  have r3 := k3'.cell (i := 0) (v := .pointer (some ⟨tb, 0, none⟩)) rfl
  clear h1 hp hsv ht hE h0 hlt q3 q4 k3 k4 k5 k3' a1 a2 a3 a4 b3 b4 K3 K4 K5 K6 e4 nb
  subst hW1 hW2
  go_enter Tryz.func27, Tryz.ntmps27
  go_wp2_with (go_at_call 37; refine HCA.out.mono ?_; clear HCA; rintro e w9 ⟨rfl, ⟨f', hpf, hsb⟩, hk⟩; have c0 := hk.cell (i := 0) (v := .bool r) rfl; have f0 := hk.free 0; have HPF := hid hpf; have HSB := hid hsb; have HKB := hid hk; clear hpf hsb hk)
  have q0 := (HKB.out.set 0 (.bool r)).cell (i := 0) (v := .bool r) (by rfl)
  exact bodyPost_ret (v := .tuple #[.bool r, .int .i64 0]) (by simp [results, Tryz.results27, go_sem, q0]) rfl ⟨rfl, f', HPF.out, (HSB.out.wr (by omega) (by omega) 0 _).sn⟩
end
end Go.Proofs.YtjcbaiohpdihoaaGreatDoor

namespace Go.Proofs.YtjcbaiohpdihoaaGreatDoor
open Go.RowKit Go.Maps Lf
set_option linter.unusedVariables false
set_option linter.unusedSimpArgs false
set_option maxRecDepth 100000

section
variable {w Wc W V : World} {S S' C C' C2 R R' R2 : Nat → Prop} {k q s g m tb n : Nat} {d : Ds} {f f' : Int → ByteArray} {N M : Nat} {root : Int}
theorem at_any (s : Nat) (root : Int) (w : World) : Calls Tryz.prog 12 #[.pointer (some ⟨s, 0, none⟩), .int .i64 root] w fun e w' => e = .returned (.pointer (some ⟨w.heap.size, 0, none⟩)) ∧ w.alloc (.cells #[.pointer (some ⟨s, 0, none⟩), .int .i64 root] 80) = w' := by
  go_enter Tryz.func12, Tryz.ntmps12
  go_wp2
  go_ret
  exact ⟨rfl, rfl⟩
theorem at_nil (root : Int) (w : World) : Calls Tryz.prog 12 #[.pointer none, .int .i64 root] w fun e w' => e = .returned (.pointer none) ∧ w = w' := by
  go_enter Tryz.func12, Tryz.ntmps12
  go_wp2
  go_ret
  exact ⟨rfl, rfl⟩
theorem tkn_al (hg : d.Ok) (hs : (f (mpg d)).size = 256) {a b : Int} (ha : isUs d.bs.length a) (hb : isUs d.bs.length b) : tkn d (alF d f a) b = if b = a then true else tkn d f b := by
  obtain ⟨b1, b2, b3, b4, b5⟩ := frs_small hg.lo hg.hi
  have h1 := ha.1
  have h2 := ha.2
  have h3 := hb.1
  have h4 := hb.2
  unfold tkn alF
  rw [if_pos rfl, hasB_with hs (by unfold mpg; omega)]
  by_cases e : b = a
  · subst e; rw [if_pos rfl, if_pos rfl]
  · rw [if_neg e, if_neg (by unfold mpg; omega)]
theorem gt_al (hg : d.Ok) (hs : (f (mpg d)).size = 256) {a b : Int} (ha : isUs d.bs.length a) : gtE d (alF d f a) b = if b = a then 0 else gtE d f b := by
  unfold gtE
  by_cases hb : isUs d.bs.length b
  · rw [if_neg (not_not_intro hb), if_neg (not_not_intro hb), tkn_al hg hs ha hb]
    by_cases e : b = a
    · simp [e]
    · simp [e]
  · have e : ¬ b = a := fun e => hb (e ▸ ha)
    rw [if_pos hb, if_neg e, if_pos hb]
theorem al_other {a b : Int} (h1 : b ≠ mpg d) (h2 : b ≠ a) : alF d f a b = f b := by
  unfold alF
  rw [if_neg h1, if_neg h2]
/-- New's closure -/
theorem new1_ok (b0 b1 : Nat) (a : Int) (k0 : w.cell? ⟨b0, 0, none⟩ = some (.pointer (some ⟨s, 0, none⟩))) (k1 : w.cell? ⟨b1, 0, none⟩ = some (.int .i64 a)) (ha : gtE d f a = 0) (hN : N < 4611686018427386000)
    (hsv : Sv w S k q s d f N) (hE : Env w) (h0 : ¬ S 0) :
    Calls Tryz.prog 38 #[.pointer (some ⟨b0, 0, none⟩), .pointer (some ⟨b1, 0, none⟩)] w fun e w' => e = .returned (.tuple #[]) ∧ Sn w S k q s d (fun b => if b = a then packS 1 [] else f b) (N + 2) w' := by
  have HWR := hid (twrite_any a (1, []) none 0 ha (by decide) (RowE.nil w 0 |>.lies (fun _ h => by cases h)) hE h0 hN hsv)
  clear hsv hE h0 ha
  go_enter Tryz.func38, Tryz.ntmps38
  go_wp2_with (go_at_call 39; refine HWR.out.mono ?_; clear HWR; rintro e w5 ⟨rfl, hs5⟩; have HS5 := hid hs5; clear hs5)
  exact bodyPost_end (results_none rfl _ _ _) rfl ⟨rfl, HS5.out⟩
set_option maxHeartbeats 1000000 in
theorem tnew_ok {a : Int} {L : List Int} (he : frl d f = a :: L) (hN : N < 4611686018427380000) (hsv : Sv w S k q s d f N) (hE : Env w) (h0 : ¬ S 0) :
    Calls Tryz.prog 11 #[.pointer (some ⟨s, 0, none⟩)] w fun e w' => e = .returned (.tuple #[.int .i64 a, .int .i64 0]) ∧ Sn w S k q s d (fun b => if b = a then packS 1 [] else alF d f a b) (N + 3) w' := by
  have hlt := hsv.lt
  obtain ⟨hgd, hdn, hgs⟩ := hsv.good
  have hus : isUs d.bs.length a := ((usr_mem hgd.lo hgd.hi).1 (by unfold frl at he; rw [he]; exact List.mem_cons_self)).1
  have hga : gtE d (alF d f a) a = 0 := by rw [gt_al hgd (hgs _ (mpg_pg hgd)) hus, if_pos rfl]
  have a1 := (Below.refl w.heap.size w).alloc (Nat.le_refl _) (.cells #[.pointer (some ⟨s, 0, none⟩)] 24)
  have K1 := Blk.made w #[.pointer (some ⟨s, 0, none⟩)] 24
  have e1 : (w.alloc (.cells #[.pointer (some ⟨s, 0, none⟩)] 24)).heap.size = w.heap.size + 1 := by simp
  have HAL := hid (alloc_sp he (by omega : N < 4611686018427387000) (hsv.on a1))
  have HK1 := hid K1
  have HA1 := hid a1
  have HE := hid hE
  have HLT := hid hlt
  have hn0 : ¬ S w.heap.size := fun hs => absurd (hlt _ hs) (Nat.lt_irrefl _)
  have HCA : Hid (∀ w5 W3, Sn (w.alloc (.cells #[.pointer (some ⟨s, 0, none⟩)] 24)) S k q s d (alF d f a) (N + 1) w5 → w5.alloc (.cells #[.int .i64 a] 3) = W3 → Calls Tryz.prog 37 #[.func (.func 38) #[] #[.pointer (some ⟨w.heap.size, 0, none⟩), .pointer (some ⟨w5.heap.size, 0, none⟩)]] W3 fun e V => e = .returned (.int .i64 0) ∧ Sn w S k q s d (fun b => if b = a then packS 1 [] else alF d f a b) (N + 3) V ∧ V.cell? ⟨w5.heap.size, 0, none⟩ = some (.int .i64 a)) := fun w5 W3 h5 hW3 => by
    obtain ⟨S5, g5, gr5⟩ := h5.sv
    have kp5 := h5.keep
    have c3 := (Below.refl w5.heap.size w5).alloc (Nat.le_refl _) (.cells #[.int .i64 a] 3)
    have K3 := Blk.made w5 #[.int .i64 a] 3
    rw [hW3] at c3 K3
    have z3 : W3.heap.size = w5.heap.size + 1 := by rw [← hW3]; simp
    have c4 := (Below.refl W3.heap.size W3).alloc (Nat.le_refl _) (.cells #[.int .i64 0] 26)
    have K4 := Blk.made W3 #[.int .i64 0] 26
    have z4 : (W3.alloc (.cells #[.int .i64 0] 26)).heap.size = w5.heap.size + 2 := by simp [z3]
    have hb5 : Below w5.heap.size w5 (W3.alloc (.cells #[.int .i64 0] 26)) := c3.trans (c4.mono (by omega))
    have kb : Blk w5 w.heap.size #[.pointer (some ⟨s, 0, none⟩)] 24 := kp5.blk HK1.out hn0
    have h5S0 : ¬ S5 0 := fun h => by
      rcases gr5 0 h with h | h
      · exact h0 h
      · have := HE.out.pos; have := HA1.out.size; omega
    have hlt5 := g5.lt
    have hE5 : Env w5 := kp5.env (HE.out.on HE.out.pos HA1.out) h0
    have k0 := (kb.on hb5 kb.lt).cell (i := 0) (v := .pointer (some ⟨s, 0, none⟩)) rfl
    have K34 := K3.on c4 (by omega)
    have k1 := K34.cell (i := 0) (v := .int .i64 a) rfl
    have hn1 := new1_ok (w := W3.alloc (.cells #[.int .i64 0] 26)) w.heap.size w5.heap.size a k0 k1 hga (by omega) (g5.on hb5) (hE5.on hE5.pos hb5) h5S0
    refine caught_ok 38 _ W3 (fun V => Sn (W3.alloc (.cells #[.int .i64 0] 26)) S5 k q s d (fun b => if b = a then packS 1 [] else alF d f a b) (N + 3) V) (fun V => Sn w S k q s d (fun b => if b = a then packS 1 [] else alF d f a b) (N + 3) V ∧ V.cell? ⟨w5.heap.size, 0, none⟩ = some (.int .i64 a)) (enters_of Tryz.func38 (by kernel_rfl) rfl) (hn1.mono fun e V hh => ⟨hh.1, hh.2, ?_⟩) (fun V hV hV6 => ?_)
    · exact hh.2.keep.blk K4 (fun hs => by have := hlt5 _ hs; omega)
    · have hK3 := hV.keep.blk K34 (fun hs => by have := hlt5 _ hs; omega)
      have hV2 := (hV.own (fun j hj => by have := hlt5 j hj; omega) (Keep.set (S := fun g => g = W3.heap.size) V rfl 0 (.int .i64 0))).base c3
      exact ⟨(Sn.trans gr5 kp5 hV2).base HA1.out, (hK3.other (by omega) _).cell (i := 0) rfl⟩
  clear hsv hE h0 he hlt hgd hdn hgs hus hga a1 K1
  go_enter Tryz.func11, Tryz.ntmps11
  have hmf : ∀ (fn : Fn) (first cap : Array Value) (w : World), (Instr.makeFunc fn first cap).run Tryz.prog w = .ok (.func fn first cap) w := fun _ _ _ _ => rfl
  go_wp2_with (first
    | (go_at_call 36; refine HAL.out.mono ?_; clear HAL; rintro e w5 ⟨rfl, hs5⟩; have HS5 := hid hs5; have hc := hid (HCA.out w5 _ hs5 rfl); clear hs5)
    | (go_at_call 37; refine hc.out.mono ?_; rintro e w9 ⟨rfl, hs9, c9⟩; have HS9 := hid hs9; clear hs9))
  go_ret2
  exact ⟨rfl, HS9.out⟩
end
end Go.Proofs.YtjcbaiohpdihoaaGreatDoor
