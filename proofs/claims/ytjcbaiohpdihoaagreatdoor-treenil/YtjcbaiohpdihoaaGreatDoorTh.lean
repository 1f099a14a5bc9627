/-
  An entry is put into a leaf.
-/
import Derived.Test.YtjcbaiohpdihoaaGreatDoorTf
namespace Go.Proofs.YtjcbaiohpdihoaaGreatDoor
open Go.RowKit Go.Maps Lf
set_option linter.unusedVariables false
set_option linter.unusedSimpArgs false
set_option maxRecDepth 100000

theorem PgV.lies {w : World} {R : Nat → Prop} {k : Int} {a : Option Addr} {n c : Nat} {p : Pge} (h : PgV w R (.agg #[.int .i64 k, .slice a n c]) p) : n = p.2.length ∧ LiesE w (.slice a n c) p.2 := by
  obtain ⟨a', c', h1, h2, _⟩ := h
  injection h1 with h1
  have e := congrArg (fun x : Array Value => x[1]?) h1
  simp at e
  obtain ⟨rfl, rfl, rfl⟩ := e
  exact ⟨rfl, h2⟩
section
variable {w W V : World} {S S' C C' C2 R R' R2 : Nat → Prop} {k q s g m : Nat} {uv : Value} {d : Ds} {f f' : Int → ByteArray} {N M : Nat} {root : Int} {G G' : Int → Option Pge} {U U' : List Int}
set_option maxHeartbeats 1000000 in
theorem lay_fits (a : Int) (v : Value) (p : Pge) (ha : I64 a) (hf : 2 + sumE p.2 ≤ 256) (hv : PgV w R v p) (hN : N < 1000000) (h : Dr w C R k q s g d f N root G U) :
    Calls Tryz.prog 148 #[.pointer (some ⟨g, 0, none⟩), .int .i64 a, v] w fun e w' => e = .returned (.tuple #[.agg #[.string ⟨#[]⟩, .string ⟨#[]⟩], .bool false]) ∧ Dn w C R k q s g d f (N + 1) root (upd G a (some p)) U w' := by
  obtain ⟨pa, pc, rfl, pl, pb⟩ := id hv
  obtain ⟨h1, s1, x1⟩ := h.box #[.int .i64 (p.1 : Nat), .slice pa p.2.length pc] 78
  obtain ⟨h2, s2, x2⟩ := h1.box #[.string ⟨#[]⟩, .string ⟨#[]⟩] 59
  have hsz : (w.alloc (.cells #[.int .i64 (p.1 : Nat), .slice pa p.2.length pc] 78)).heap.size = w.heap.size + 1 := by simp
  rw [hsz] at x2 s2 h2
  have hpv := (hv.step h.le s1).step h1.le s2
  have PV := hid hpv
  have S2 := hid (s1.trans s2)
  have X1 := hid (x1.step s2)
  have X2 := hid x2
  obtain ⟨q0, q1, q2, q3⟩ := (x1.step s2).two
  have HFT : Hid (Calls Tryz.prog 211 #[.slice pa p.2.length pc] ((w.alloc (.cells #[.int .i64 (p.1 : Nat), .slice pa p.2.length pc] 78)).alloc (.cells #[.string ⟨#[]⟩, .string ⟨#[]⟩] 59)) fun e w' => e = .returned (.bool true) ∧ Below ((w.alloc (.cells #[.int .i64 (p.1 : Nat), .slice pa p.2.length pc] 78)).alloc (.cells #[.string ⟨#[]⟩, .string ⟨#[]⟩] 59)).heap.size ((w.alloc (.cells #[.int .i64 (p.1 : Nat), .slice pa p.2.length pc] 78)).alloc (.cells #[.string ⟨#[]⟩, .string ⟨#[]⟩] 59)) w') := by
    obtain ⟨a2, c2, e1, e2, _⟩ := hpv
    cases e1
    have := fits_any _ _ p.2 e2 (by omega)
    rw [decide_eq_true hf] at this
    exact this
  have D2 := hid h2
  clear s1 x1 s2 x2 h h1 h2 hv pl pb hf hpv
  obtain ⟨p1, PL⟩ := p
  obtain ⟨n, hn'⟩ : ∃ n, PL.length = n := ⟨_, rfl⟩
  simp only [hn'] at *
  clear hn'
  go_enter Tryz.func148, Tryz.ntmps148
  go_wp2_with (first
    | (go_at_call 211; refine HFT.out.mono ?_; clear HFT q0 q1 q2 q3; rintro e w5 ⟨rfl, hb5⟩; have X15 := X1.out.on hb5; have HX25 := hid (X2.out.on hb5); have PV5 := hid (PV.out.on hb5); obtain ⟨b0, b1, b2, b3⟩ := X15.two; have S5 := hid (S2.out.on hb5); have hdr : Below w5.heap.size w5 w5.drew := (Below.refl _ _).drew; obtain ⟨m5, uv5, hm5⟩ := (D2.out.on hb5).on hdr; have c2 := (hm5.cells).2.2.1; obtain ⟨w6, e6, d6, s6⟩ := hm5.put ha (PV5.out.on hdr) (by omega); have D6 := hid d6.dr; have S6 := hid ((S5.out.on hdr).trans s6); have X26 := hid ((HX25.out.on hdr).step s6); clear X15 hb5 d6 s6 hm5))
  have c2' : w5.cell? ⟨g, 2, none⟩ = some (.map (some m5)) := c2
  go_region
  clear e6 c2 c2' b0 b1 b2 b3 hdr
  obtain ⟨b0, b1, b2, b3⟩ := X26.out.two
  go_wp2_with fail
  obtain ⟨e0, e1, _, _⟩ := Bx.two (u0 := .string ⟨#[]⟩) (u1 := .string ⟨#[]⟩) ((X26.out.wr 0 (.string ⟨#[]⟩)).wr 1 (.string ⟨#[]⟩))
  exact bodyPost_ret (v := .tuple #[.agg #[.string ⟨#[]⟩, .string ⟨#[]⟩], .bool false]) (by simp [results, Tryz.results148, go_sem, e0, e1]) rfl ⟨rfl, _, _, (D6.out.wr X26.out 0 _).wr (X26.out.wr 0 _) 1 _, (S6.out.wr (by omega) 0 _).wr (by omega) 1 _⟩
set_option maxHeartbeats 2000000 in
theorem lay_cut (a : Int) (v : Value) (p : Pge) (ha : I64 a) (hc : ckE none p.2 = 0) (hf : ¬ 2 + sumE p.2 ≤ 256) (hl : p.2.length ≤ 1000) {j : Nat} (hk : cutAt p.2 j) {y : Ent} (hy : p.2[j]? = some y) (hv : PgV w R v p) (hN : N < 100000) (h : Dr w C R k q s g d f N root G U) :
    Calls Tryz.prog 148 #[.pointer (some ⟨g, 0, none⟩), .int .i64 a, v] w fun e w' =>
      (frl d f = [] → e = .panicked [{ v := gvup 16, recovered := false }] ∧ Dn w C R k q s g d f (N + 3) root (upd G a (some (p.1, p.2.take j))) U w') ∧
      (∀ b L, frl d f = b :: L → e = .returned (.tuple #[.agg #[.string y.k, .string (n2 b)], .bool true]) ∧ Dn w C R k q s g d (alF d f b) (N + 3) root (upd (upd G a (some (p.1, p.2.take j))) b (some (p.1, p.2.drop j))) U w') := by
  obtain ⟨pa, pc, rfl, pl, pb⟩ := id hv
  obtain ⟨h1, s1, x1⟩ := h.box #[.int .i64 (p.1 : Nat), .slice pa p.2.length pc] 78
  obtain ⟨h2, s2, x2⟩ := h1.box #[.string ⟨#[]⟩, .string ⟨#[]⟩] 59
  have hsz : (w.alloc (.cells #[.int .i64 (p.1 : Nat), .slice pa p.2.length pc] 78)).heap.size = w.heap.size + 1 := by simp
  rw [hsz] at x2 s2 h2
  have hpv := (hv.step h.le s1).step h1.le s2
  have S2 := hid (s1.trans s2)
  have X1 := hid (x1.step s2)
  have X2 := hid x2
  obtain ⟨q0, q1, q2, q3⟩ := (x1.step s2).two
  have hsm : SmlL p.2 := pl.sml
  have hsum : sumE p.2 ≤ 98000 := by
    have := sum_mul (sz_98 hc)
    have : p.2.length * 98 ≤ 1000 * 98 := Nat.mul_le_mul_right _ hl
    omega
  have HLI : Hid (∀ w1, Below ((w.alloc (.cells #[.int .i64 (p.1 : Nat), .slice pa p.2.length pc] 78)).alloc (.cells #[.string ⟨#[]⟩, .string ⟨#[]⟩] 59)).heap.size ((w.alloc (.cells #[.int .i64 (p.1 : Nat), .slice pa p.2.length pc] 78)).alloc (.cells #[.string ⟨#[]⟩, .string ⟨#[]⟩] 59)) w1 → LiesE w1 (.slice pa p.2.length pc) p.2) := fun w1 hb => by
    obtain ⟨a2, c2, e1, e2, _⟩ := hpv
    cases e1
    exact e2.on hb
  have HFT : Hid (Calls Tryz.prog 211 #[.slice pa p.2.length pc] ((w.alloc (.cells #[.int .i64 (p.1 : Nat), .slice pa p.2.length pc] 78)).alloc (.cells #[.string ⟨#[]⟩, .string ⟨#[]⟩] 59)) fun e w' => e = .returned (.bool false) ∧ Below ((w.alloc (.cells #[.int .i64 (p.1 : Nat), .slice pa p.2.length pc] 78)).alloc (.cells #[.string ⟨#[]⟩, .string ⟨#[]⟩] 59)).heap.size ((w.alloc (.cells #[.int .i64 (p.1 : Nat), .slice pa p.2.length pc] 78)).alloc (.cells #[.string ⟨#[]⟩, .string ⟨#[]⟩] 59)) w') := by
    have := fits_any _ _ p.2 (HLI.out _ (Below.refl _ _)) (by omega)
    rw [decide_eq_false hf] at this
    exact this
  obtain ⟨n1, hn1⟩ : ∃ n, (p.2.take j).length = n := ⟨_, rfl⟩
  obtain ⟨n2', hn2⟩ : ∃ n, (p.2.drop j).length = n := ⟨_, rfl⟩
  have HCT : Hid (∀ w1, Below ((w.alloc (.cells #[.int .i64 (p.1 : Nat), .slice pa p.2.length pc] 78)).alloc (.cells #[.string ⟨#[]⟩, .string ⟨#[]⟩] 59)).heap.size ((w.alloc (.cells #[.int .i64 (p.1 : Nat), .slice pa p.2.length pc] 78)).alloc (.cells #[.string ⟨#[]⟩, .string ⟨#[]⟩] 59)) w1 → Calls Tryz.prog 212 #[.slice pa p.2.length pc] w1 fun e w' => ∃ a c a2 c2, e = .returned (.tuple #[.slice a n1 c, .slice a2 n2' c2]) ∧ RowE w' w1.heap.size (.slice a n1 c) (p.2.take j) ∧ RowE w' w1.heap.size (.slice a2 n2' c2) (p.2.drop j) ∧ Below w1.heap.size w1 w') := fun w1 hb => cut_right w1 _ p.2 j n1 n2' hc (HLI.out w1 hb) (by omega) hk hn1 hn2
  have HPM : Hid (∀ (w1 : World) (B : Nat) (R1 : Nat → Prop) (x : Option Addr) (c : Nat), RowE w1 B (.slice x n1 c) (p.2.take j) → (∀ j, R1 j → j < B) → PgV w1 R1 (.agg #[.int .i64 (p.1 : Nat), .slice x n1 c]) (p.1, p.2.take j)) := fun w1 B R1 x c hr hR => by
    rw [← hn1] at hr ⊢
    exact PgV.made hr (hsm.take j) hR
  have HPM2 : Hid (∀ (w1 : World) (B : Nat) (R1 : Nat → Prop) (x : Option Addr) (c : Nat), RowE w1 B (.slice x n2' c) (p.2.drop j) → (∀ j, R1 j → j < B) → PgV w1 R1 (.agg #[.int .i64 (p.1 : Nat), .slice x n2' c]) (p.1, p.2.drop j)) := fun w1 B R1 x c hr hR => by
    rw [← hn2] at hr ⊢
    exact PgV.made hr (hsm.drop j) hR
  have HHD : Hid ((p.2.drop j)[0]? = some y) := by show _ = _; rw [List.getElem?_drop]; exact hy
  have hnz : 0 < n2' := by
    rw [← hn2, List.length_drop]
    have := (List.getElem?_eq_some_iff.1 hy).1
    omega
  have D2 := hid h2
  have HLE := hid h2.le
  have HLT2 := hid h2.lt
  clear s1 x1 s2 x2 h h1 h2 hv pl pb hf hpv hsum hc hl hk hy hn1 hn2 hsm
  obtain ⟨p1, PL⟩ := p
  obtain ⟨n, hn'⟩ : ∃ n, PL.length = n := ⟨_, rfl⟩
  simp only [hn'] at *
  clear hn'
  generalize PL.take j = L1 at *
  generalize PL.drop j = L2 at *
  obtain ⟨yk, yv⟩ := y
  go_enter Tryz.func148, Tryz.ntmps148
  go_wp2_with (first
    | (go_at_call 211; refine HFT.out.mono ?_; clear HFT q0 q1 q2 q3; rintro e w5 ⟨rfl, hb5⟩; have X15 := X1.out.on hb5; have HB5 := hid hb5; obtain ⟨b0, b1, b2, b3⟩ := X15.two; have HX15 := hid X15; clear X15 hb5)
    | (go_at_call 212; refine (HCT.out _ HB5.out).mono ?_; clear HCT b0 b1 b2 b3; rintro e w6 ⟨a1, c1, a2, c2, rfl, hr1, hr2, hb6⟩; have HB6 := hid (HB5.out.trans (hb6.mono HB5.out.size)); have HB6r := hid hb6; have HR1 := hid hr1; have HR2 := hid hr2; have X16 := HX15.out.on hb6; have HX16 := hid X16; obtain ⟨b0, b1, b2, b3⟩ := X16.two; clear hr1 hr2 hb6))
  have hlt6 : ∀ j, (R j ∨ j = w.heap.size) ∨ j = w.heap.size + 1 → j < w5.heap.size := fun j hj => Nat.lt_of_lt_of_le (HLT2.out j hj) HB5.out.size
  have PV1 := HPM.out w6 w5.heap.size _ a1 c1 HR1.out hlt6
  have PV2 := HPM2.out w6 w5.heap.size _ a2 c2 HR2.out hlt6
  have hdr : Below w6.heap.size w6 w6.drew := (Below.refl _ _).drew
  have d6 := (D2.out.on HB6.out).on hdr
  have hle6 := d6.le
  obtain ⟨m6, uv6, hm6⟩ := d6
  have e2 : w6.cell? ⟨g, 2, none⟩ = some (.map (some m6)) := (hm6.cells).2.2.1
  obtain ⟨w7, e7, d7, s7⟩ := hm6.put ha (PV1.on hdr) (by omega)
  have X17 := (HX16.out.on hdr).step s7
  have X27 := (((X2.out.on HB5.out).on (HB6r.out)).on hdr).step s7
  have PV7 := (PV2.on hdr).step hle6 s7
  have S7 := hid (((S2.out.on HB6.out).on hdr).trans s7)
  have D7 := hid d7.dr
  have HX27 := hid X27
  have HPV7 := hid PV7
  obtain ⟨b0', b1', _, _⟩ := X17.two
  obtain ⟨b2, o2, rfl, _, z0, z1, _⟩ := PV7.lies.2.at HHD.out
  have hdr7 : Below w7.heap.size w7 w7.drew := (Below.refl _ _).drew
  have HX28 := hid (HX27.out.on hdr7)
  have HX18 := hid (X17.on hdr7)
  have HLE8 := hid D7.out.le
  have hdr7' := hdr7
  have S8 := hid (S7.out.on hdr7)
  have hz0 : w7.cell? ⟨b2, o2, none⟩ = some (.string yk) := by simpa using z0
  clear PV1 PV2 hdr hm6 hle6 d7 s7 X17 X27 PV7 z0 z1
  cases hfr : frl d f with
  | nil =>
    have HAD := hid (add_full yk _ _ hfr (HPV7.out.on hdr7) (by omega) (D7.out.on hdr7))
    clear hdr7
    go_region
    go_wp2_with fail
    have HS0 : w7.cell? ⟨b2, o2, none⟩ = some (.string yk) ∧ w7.cell? ⟨w.heap.size, 0, none⟩ = some (.int .i64 (p1 : Nat)) := ⟨hz0, b0'⟩
    refine wp_region_d (fun w' => w'.cell? ⟨b2, o2, none⟩ = some (.string yk) ∧ w'.cell? ⟨w.heap.size, 0, none⟩ = some (.int .i64 (p1 : Nat))) (fun _ => true) (by kernel_rfl) ?_
    have hS : w7.drew.cell? ⟨b2, o2, none⟩ = some (.string yk) ∧ w7.drew.cell? ⟨w.heap.size, 0, none⟩ = some (.int .i64 (p1 : Nat)) := HS0
    refine wpAnyM_pick (i := 0) (some 35) (v := ?vz1) rfl rfl (by kernel_rfl) (by kernel_rfl) (by kernel_rfl) (by kernel_rfl) (fun _ _ _ h => h) (Or.inl ⟨by rfl, ?hz1⟩) hS ?rz1
    case hz1 => intro w hSw; (try have hs1 := hSw.1); (try have hs2 := hSw.2); (try (obtain ⟨ha1, ha2, ha3, ha4⟩ := hSw)); go_simp; try with_reducible rfl
    try simp only [Act.put, List.setIfInBounds_toArray, List.set_cons_zero, List.set_cons_succ]
    refine wpAnyM_pick (i := 1) (some 36) (v := ?vz2) rfl rfl (by kernel_rfl) (by kernel_rfl) (by kernel_rfl) (by kernel_rfl) (fun _ _ _ h => h) (Or.inl ⟨by rfl, ?hz2⟩) hS ?rz2
    case hz2 => intro w hSw; (try have hs1 := hSw.1); (try have hs2 := hSw.2); (try (obtain ⟨ha1, ha2, ha3, ha4⟩ := hSw)); go_simp; try with_reducible rfl
    try simp only [Act.put, List.setIfInBounds_toArray, List.set_cons_zero, List.set_cons_succ]
    refine wpAnyM_pick (i := 2) (some 37) (v := ?vz3) rfl rfl (by kernel_rfl) (by kernel_rfl) (by kernel_rfl) (by kernel_rfl) (fun _ _ _ h => h) (Or.inl ⟨by rfl, ?hz3⟩) hS ?rz3
    case hz3 => intro w hSw; (try have hs1 := hSw.1); (try have hs2 := hSw.2); (try (obtain ⟨ha1, ha2, ha3, ha4⟩ := hSw)); go_simp; try with_reducible rfl
    try simp only [Act.put, List.setIfInBounds_toArray, List.set_cons_zero, List.set_cons_succ]
    refine wpAnyM_pick (i := 3) (some 38) (v := ?vz4) rfl rfl (by kernel_rfl) (by kernel_rfl) (by kernel_rfl) (by kernel_rfl) (fun _ _ _ h => h) (Or.inl ⟨by rfl, ?hz4⟩) hS ?rz4
    case hz4 => intro w hSw; (try have hs1 := hSw.1); (try have hs2 := hSw.2); (try (obtain ⟨ha1, ha2, ha3, ha4⟩ := hSw)); go_simp; try with_reducible rfl
    try simp only [Act.put, List.setIfInBounds_toArray, List.set_cons_zero, List.set_cons_succ]
    refine wpAnyM_pick (i := 4) (some 39) (v := ?vz5) rfl rfl (by kernel_rfl) (by kernel_rfl) (by kernel_rfl) (by kernel_rfl) (fun _ _ _ h => h) (Or.inl ⟨by rfl, ?hz5⟩) hS ?rz5
    case hz5 => intro w hSw; (try have hs1 := hSw.1); (try have hs2 := hSw.2); (try (obtain ⟨ha1, ha2, ha3, ha4⟩ := hSw)); go_simp; try with_reducible rfl
    try simp only [Act.put, List.setIfInBounds_toArray, List.set_cons_zero, List.set_cons_succ]
    refine wpAnyM_pick (i := 5) (some 40) (v := ?vz6) rfl rfl (by kernel_rfl) (by kernel_rfl) (by kernel_rfl) (by kernel_rfl) (fun _ _ _ h => h) (Or.inl ⟨by rfl, ?hz6⟩) hS ?rz6
    case hz6 => intro w hSw; (try have hs1 := hSw.1); (try have hs2 := hSw.2); (try (obtain ⟨ha1, ha2, ha3, ha4⟩ := hSw)); go_simp; try with_reducible rfl
    try simp only [Act.put, List.setIfInBounds_toArray, List.set_cons_zero, List.set_cons_succ]
    refine wpAnyM_pick (i := 6) (some 41) (v := ?vz7) rfl rfl (by kernel_rfl) (by kernel_rfl) (by kernel_rfl) (by kernel_rfl) (fun _ _ _ h => h) (Or.inl ⟨by rfl, ?hz7⟩) hS ?rz7
    case hz7 => intro w hSw; (try have hs1 := hSw.1); (try have hs2 := hSw.2); (try (obtain ⟨ha1, ha2, ha3, ha4⟩ := hSw)); go_simp; try with_reducible rfl
    try simp only [Act.put, List.setIfInBounds_toArray, List.set_cons_zero, List.set_cons_succ]
    refine wpAnyM_pick (i := 7) (some 42) (v := ?vz8) rfl rfl (by kernel_rfl) (by kernel_rfl) (by kernel_rfl) (by kernel_rfl) (fun _ _ _ h => h) (Or.inl ⟨by rfl, ?hz8⟩) hS ?rz8
    case hz8 => intro w hSw; (try have hs1 := hSw.1); (try have hs2 := hSw.2); (try (obtain ⟨ha1, ha2, ha3, ha4⟩ := hSw)); go_simp; try with_reducible rfl
    try simp only [Act.put, List.setIfInBounds_toArray, List.set_cons_zero, List.set_cons_succ]
    refine wpAnyM_pick (i := 8) (some 43) (v := ?vz9) rfl rfl (by kernel_rfl) (by kernel_rfl) (by kernel_rfl) (by kernel_rfl) (fun _ _ _ h => h) (Or.inl ⟨by rfl, ?hz9⟩) hS ?rz9
    case hz9 => intro w hSw; (try have hs1 := hSw.1); (try have hs2 := hSw.2); (try (obtain ⟨ha1, ha2, ha3, ha4⟩ := hSw)); go_simp; try with_reducible rfl
    try simp only [Act.put, List.setIfInBounds_toArray, List.set_cons_zero, List.set_cons_succ]
    refine wpAnyM_one (i := 9) (by kernel_rfl) rfl (fun K hK => ?_)
    go_simp
    go_at_call 94
    refine HAD.out.mono ?_
    rintro e w9 ⟨rfl, C9, R9, d9, s9⟩
    exact ⟨rfl, fun _ => ⟨rfl, _, _, d9, S8.out.trans s9⟩, (fun b L e => by rw [hfr] at e; cases e)⟩
  | cons b L =>
    have HAD := hid (add_any yk _ _ hfr (HPV7.out.on hdr7) (by omega) (D7.out.on hdr7))
    clear hdr7
    go_region
    go_wp2_with fail
    have HS0 : w7.cell? ⟨b2, o2, none⟩ = some (.string yk) ∧ w7.cell? ⟨w.heap.size, 0, none⟩ = some (.int .i64 (p1 : Nat)) := ⟨hz0, b0'⟩
    obtain ⟨tt, htt⟩ : ∃ tt, n2 b = tt := ⟨_, rfl⟩
    have HTT := hid htt
    rw [htt] at HAD
    clear htt
    have HZ : Hid (∀ (w9 : World) (C9 R9 : Nat → Prop), Stp w7.drew C _ w9 C9 R9 → Bx w9 C9 R9 (w.heap.size + 1) #[.string ⟨#[]⟩, .string ⟨#[]⟩] 59 → (w9.cell? ⟨b2, o2, none⟩ = some (.string yk) ∧ w9.cell? ⟨w.heap.size, 0, none⟩ = some (.int .i64 (p1 : Nat))) ∧ (((w9.setCell ⟨w.heap.size + 1, 0, none⟩ (.string yk)).setCell ⟨w.heap.size + 1, 1, none⟩ (.string tt)).cell? ⟨b2, o2, none⟩ = some (.string yk) ∧ ((w9.setCell ⟨w.heap.size + 1, 0, none⟩ (.string yk)).setCell ⟨w.heap.size + 1, 1, none⟩ (.string tt)).cell? ⟨w.heap.size, 0, none⟩ = some (.int .i64 (p1 : Nat)))) := fun w9 C9 R9 s9 x9 => by
      have p9 := (HPV7.out.on hdr7').step HLE8.out s9
      have p10 := (p9.wr x9.2.1 0 (.string yk)).wr x9.2.1 1 (.string tt)
      have y9 := (HX18.out).step s9
      have y10 := (y9.ne (b2 := w.heap.size + 1) (by omega) 0 (.string yk)).ne (b2 := w.heap.size + 1) (by omega) 1 (.string tt)
      obtain ⟨_, _, q1, _, q2, _⟩ := p9.lies.2.at HHD.out
      obtain ⟨_, _, q3, _, q4, _⟩ := p10.lies.2.at HHD.out
      cases q1
      cases q3
      exact ⟨⟨by simpa using q2, y9.two.1⟩, ⟨by simpa using q4, y10.two.1⟩⟩
    go_region_held3 (fun w' => w'.cell? ⟨b2, o2, none⟩ = some (.string yk) ∧ w'.cell? ⟨w.heap.size, 0, none⟩ = some (.int .i64 (p1 : Nat))) (first | exact HS0 | exact HS1 | exact HS2)
      (first | (go_at_call 94; refine HAD.out.mono ?_; clear HAD; rintro e w9 ⟨rfl, C9, R9, d9, s9⟩; have X9 := HX28.out.step s9; have HX9 := hid X9; obtain ⟨y0, y1, y2, y3⟩ := X9.two; have D9 := hid d9; have S9 := hid (S8.out.trans s9); obtain ⟨HS1, HS2⟩ := HZ.out w9 C9 R9 s9 X9; clear d9 s9 X9))
    go_wp2_with fail
    have X10 := (HX9.out.wr 0 (.string yk)).wr 1 (.string tt)
    obtain ⟨e0, e1, _, _⟩ := Bx.two (u0 := .string yk) (u1 := .string tt) X10
    refine bodyPost_ret (v := .tuple #[.agg #[.string yk, .string tt], .bool true]) (by simp [results, Tryz.results148, go_sem, e0, e1]) rfl ⟨(fun e => by rw [hfr] at e; cases e), fun b' L' e => ?_⟩
    rw [hfr] at e
    cases e
    rw [HTT.out]
    exact ⟨rfl, _, _, (D9.out.wr HX9.out 0 _).wr (HX9.out.wr 0 _) 1 _, (S9.out.wr (by omega) 0 _).wr (by omega) 1 _⟩
end
end Go.Proofs.YtjcbaiohpdihoaaGreatDoor

namespace Go.Proofs.YtjcbaiohpdihoaaGreatDoor
open Go.RowKit Go.Maps Lf
set_option linter.unusedVariables false
set_option linter.unusedSimpArgs false
set_option maxRecDepth 100000

section
variable {w W V : World} {S S' C C' C2 R R' R2 : Nat → Prop} {k q s g m : Nat} {uv : Value} {d : Ds} {f f' : Int → ByteArray} {N M : Nat} {root : Int} {G G' : Int → Option Pge} {U U' : List Int} {K c : Nat}
/-- what lay answers: the page as it is, or cut, or no room -/
def LayP (w : World) (C R : Nat → Prop) (k q s g : Nat) (d : Ds) (f : Int → ByteArray) (N : Nat) (root : Int) (G : Int → Option Pge) (U : List Int) (a : Int) (p : Pge) (e : Ending) (w' : World) : Prop :=
  (2 + sumE p.2 ≤ 256 → e = .returned (.tuple #[.agg #[.string ⟨#[]⟩, .string ⟨#[]⟩], .bool false]) ∧ Dn w C R k q s g d f N root (upd G a (some p)) U w') ∧
  (¬ 2 + sumE p.2 ≤ 256 → ∀ (j : Nat) (y : Ent), cutAt p.2 j → p.2[j]? = some y →
    (frl d f = [] → e = .panicked [{ v := gvup 16, recovered := false }] ∧ Dn w C R k q s g d f N root (upd G a (some (p.1, p.2.take j))) U w') ∧
    (∀ b L, frl d f = b :: L → e = .returned (.tuple #[.agg #[.string y.k, .string (n2 b)], .bool true]) ∧ Dn w C R k q s g d (alF d f b) N root (upd (upd G a (some (p.1, p.2.take j))) b (some (p.1, p.2.drop j))) U w'))
theorem Dr.n (h : Dr w C R k q s g d f N root G U) (hs : Stp V C2 R2 w C R) : Dn V C2 R2 k q s g d f N root G U w := ⟨C, R, h, hs⟩
theorem Dn.mono (h : Dn w C R k q s g d f N root G U W) (hm : N ≤ M) : Dn w C R k q s g d f M root G U W := by
  obtain ⟨C', R', h1, h2⟩ := h
  exact ⟨C', R', h1.mono hm, h2⟩
theorem Dn.pre (h : Dn W C' R' k q s g d f N root G U V) (hs : Stp w C R W C' R') : Dn w C R k q s g d f N root G U V := by
  obtain ⟨C2, R2, h1, h2⟩ := h
  exact ⟨C2, R2, h1, hs.trans h2⟩
theorem lay_any (a : Int) (v : Value) (p : Pge) (x : Ent) (ha : I64 a) (hc : ckE none p.2 = 0) (hx : x ∈ p.2) (hi : 2 + sumE p.2 ≤ 256 + x.sz) (hv : PgV w R v p) (hN : N < 90000) (h : Dr w C R k q s g d f N root G U) :
    Calls Tryz.prog 148 #[.pointer (some ⟨g, 0, none⟩), .int .i64 a, v] w fun e w' => LayP w C R k q s g d f (N + 3) root G U a p e w' := by
  by_cases hf : 2 + sumE p.2 ≤ 256
  · exact (lay_fits a v p ha hf hv (by omega) h).mono fun e w' hh => ⟨fun _ => ⟨hh.1, hh.2.mono (by omega)⟩, fun hn => absurd hf hn⟩
  · obtain ⟨j, hj⟩ := cut_ex p.2
    have hx98 := sz_98 hc x hx
    have hlen : p.2.length ≤ 1000 := by
      have := sum_two (L := p.2)
      omega
    obtain ⟨_, h2, _, _⟩ := cut_two hc hj hx hi hf
    obtain ⟨y, hy⟩ : ∃ y, p.2[j]? = some y := ⟨_, List.getElem?_eq_getElem h2⟩
    refine (lay_cut a v p ha hc hf hlen hj hy hv (by omega) h).mono fun e w' hh => ⟨fun hf' => absurd hf' hf, fun _ j' y' hj' hy' => ?_⟩
    obtain rfl := hj.uniq hj'
    rw [hy] at hy'
    cases hy'
    exact hh
set_option maxHeartbeats 1000000 in
theorem putLeaf_ret (a : Int) (L : List Ent) (x : Ent) (ha : gtE d f a = 0) (hu : vw2 G f a = some (1, L)) (hc : ckE none L = 0) (hfit : 2 + sumE L ≤ 256) (hsx : Sml x.k) (hsv : Sml x.v) (hN : N < 80000) (h : Dr w C R k q s g d f N root G U)
    (u0 u1 : ByteArray) (b : Bool) (hl : ∀ (w1 : World) (C1 R1 : Nat → Prop) (v : Value), Dr w1 C1 R1 k q s g d f (N + 2) root G U → PgV w1 R1 v (1, putL L x.k x.v) → Calls Tryz.prog 148 #[.pointer (some ⟨g, 0, none⟩), .int .i64 a, v] w1 fun e w' => e = .returned (.tuple #[.agg #[.string u0, .string u1], .bool b]) ∧ Dn w1 C1 R1 k q s g d f' M root G' U w') :
    Calls Tryz.prog 93 #[.pointer (some ⟨g, 0, none⟩), .int .i64 a, .agg #[.string x.k, .string x.v]] w fun e w' => e = .returned (.tuple #[.agg #[.string u0, .string u1], .bool b]) ∧ Dn w C R k q s g d f' M root G' U w' := by
  have hai := h.i64 ha
  obtain ⟨h1, s1, x1⟩ := h.box #[.string x.k, .string x.v] 59
  obtain ⟨h2, s2, x2⟩ := h1.box #[.string ⟨#[]⟩, .string ⟨#[]⟩] 59
  have hsz : (w.alloc (.cells #[.string x.k, .string x.v] 59)).heap.size = w.heap.size + 1 := by simp
  rw [hsz] at x2 s2 h2
  have HRD := hid (dread_any a (1, L) ha hu (by intro e; cases e) (by omega) h2)
  have S2 := hid (s1.trans s2)
  have X1 := hid (x1.step s2)
  have X2 := hid x2
  have hlen : L.length ≤ 1000 := by
    have := sum_two (L := L)
    omega
  obtain ⟨n, hn⟩ : ∃ n, L.length = n := ⟨_, rfl⟩
  obtain ⟨p, hp⟩ : ∃ p, (putL L x.k x.v).length = p := ⟨_, rfl⟩
  have HPT : Hid (∀ (w1 : World) (ad : Option Addr) (c : Nat), LiesE w1 (.slice ad n c) L → Calls Tryz.prog 149 #[.slice ad n c, .string x.k, .string x.v] w1 fun e w' => ∃ a c, e = .returned (.slice a p c) ∧ RowE w' w1.heap.size (.slice a p c) (putL L x.k x.v) ∧ Below w1.heap.size w1 w') := fun w1 ad c hl => put_right w1 _ L x.k x.v hc hl (by omega) hsx hsv p hp
  have HLY : Hid (∀ (w1 : World) (C1 R1 : Nat → Prop) (ad : Option Addr) (c B : Nat), Dr w1 C1 R1 k q s g d f (N + 2) root G U → RowE w1 B (.slice ad p c) (putL L x.k x.v) → (∀ j, R1 j → j < B) → Calls Tryz.prog 148 #[.pointer (some ⟨g, 0, none⟩), .int .i64 a, .agg #[.int .i64 1, .slice ad p c]] w1 fun e w' => e = .returned (.tuple #[.agg #[.string u0, .string u1], .bool b]) ∧ Dn w1 C1 R1 k q s g d f' M root G' U w') := fun w1 C1 R1 ad c B hd hr hB => by
    have hpv : PgV w1 R1 (.agg #[.int .i64 (1 : Nat), .slice ad p c]) (1, putL L x.k x.v) := by
      rw [← hp] at hr ⊢
      exact PgV.made hr (putL_sml (h := by
        intro y hy
        have := (ck_iff.1 hc).1 y hy
        exact ⟨by unfold Sml; omega, by unfold Sml; omega⟩) hsx hsv) hB
    exact hl w1 C1 R1 _ hd hpv
  clear s1 x1 s2 x2 h h1 h2 hu ha hfit hc hsx hsv hlen hp hl
  obtain ⟨xk, xv⟩ := x
  simp only at *
  rw [hn] at HRD
  generalize putL L xk xv = PL at *
  go_enter Tryz.func93, Tryz.ntmps93
  go_wp2_with (go_at_call 97; refine HRD.out.mono ?_; clear HRD; rintro e w5 ⟨ad, c, rfl, C5, R5, pv5, d5, s5⟩; have X15 := X1.out.step s5; have X25 := X2.out.step s5; have S5 := S2.out.trans s5; have HR5 := hid d5.lt; obtain ⟨d6, s6, x8⟩ := d5.box #[.int .i64 1, .slice ad n c] 78; have X16 := hid (X15.step s6); have X26 := hid (X25.step s6); have X86 := hid x8; have S6 := hid (S5.trans s6); have PV6 := hid (pv5.step d5.le s6); have D6 := hid d6; have hb5 : w.heap.size + 2 ≤ w5.heap.size := (by have := X25.1.lt; omega); clear X15 X25 S5 pv5 d5 s5 d6 s6 x8)
  generalize w5.alloc (.cells #[.int .i64 1, .slice ad n c] 78) = w6 at *
  have hdr : Below w6.heap.size w6 w6.drew := (Below.refl _ _).drew
  have hS : w6.drew.cell? ⟨w5.heap.size, 0, none⟩ = some (.int .i64 1) ∧ w6.drew.cell? ⟨w5.heap.size, 1, none⟩ = some (.slice ad n c) ∧ w6.drew.cell? ⟨w.heap.size, 0, none⟩ = some (.string xk) ∧ w6.drew.cell? ⟨w.heap.size, 1, none⟩ = some (.string xv) := ⟨X86.out.two.1, X86.out.two.2.1, X16.out.two.1, X16.out.two.2.1⟩
  have HX2 := hid (X26.out.on hdr)
  have S7 := hid (S6.out.on hdr)
  have HP7 := hid (PV6.out.on hdr)
  have D7 := hid (D6.out.on hdr)
  have HX1 := hid (X16.out.on hdr)
  have HX8p := hid (X86.out.on hdr)
  clear X16 X26 X86 S6 PV6 D6 hdr
  refine wp_region_d (fun w' => w'.cell? ⟨w5.heap.size, 0, none⟩ = some (.int .i64 1) ∧ w'.cell? ⟨w5.heap.size, 1, none⟩ = some (.slice ad n c) ∧ w'.cell? ⟨w.heap.size, 0, none⟩ = some (.string xk) ∧ w'.cell? ⟨w.heap.size, 1, none⟩ = some (.string xv)) (fun _ => true) (by kernel_rfl) ?_
  generalize w6.drew = w7 at *
  refine wpAnyM_pick (i := 0) (some 36) (v := ?vz1) rfl rfl (by kernel_rfl) (by kernel_rfl) (by kernel_rfl) (by kernel_rfl) (fun _ _ _ h => h) (Or.inl ⟨by rfl, ?hz1⟩) hS ?rz1
  case hz1 => intro w hSw; (try have hs1 := hSw.1); (try have hs2 := hSw.2); (try (obtain ⟨ha1, ha2, ha3, ha4⟩ := hSw)); go_simp; try with_reducible rfl
  try simp only [Act.put, List.setIfInBounds_toArray, List.set_cons_zero, List.set_cons_succ]
  refine wpAnyM_pick (i := 1) (some 37) (v := ?vz2) rfl rfl (by kernel_rfl) (by kernel_rfl) (by kernel_rfl) (by kernel_rfl) (fun _ _ _ h => h) (Or.inl ⟨by rfl, ?hz2⟩) hS ?rz2
  case hz2 => intro w hSw; (try have hs1 := hSw.1); (try have hs2 := hSw.2); (try (obtain ⟨ha1, ha2, ha3, ha4⟩ := hSw)); go_simp; try with_reducible rfl
  try simp only [Act.put, List.setIfInBounds_toArray, List.set_cons_zero, List.set_cons_succ]
  refine wpAnyM_pick (i := 2) (some 38) (v := ?vz3) rfl rfl (by kernel_rfl) (by kernel_rfl) (by kernel_rfl) (by kernel_rfl) (fun _ _ _ h => h) (Or.inl ⟨by rfl, ?hz3⟩) hS ?rz3
  case hz3 => intro w hSw; (try have hs1 := hSw.1); (try have hs2 := hSw.2); (try (obtain ⟨ha1, ha2, ha3, ha4⟩ := hSw)); go_simp; try with_reducible rfl
  try simp only [Act.put, List.setIfInBounds_toArray, List.set_cons_zero, List.set_cons_succ]
  refine wpAnyM_pick (i := 3) (some 39) (v := ?vz4) rfl rfl (by kernel_rfl) (by kernel_rfl) (by kernel_rfl) (by kernel_rfl) (fun _ _ _ h => h) (Or.inl ⟨by rfl, ?hz4⟩) hS ?rz4
  case hz4 => intro w hSw; (try have hs1 := hSw.1); (try have hs2 := hSw.2); (try (obtain ⟨ha1, ha2, ha3, ha4⟩ := hSw)); go_simp; try with_reducible rfl
  try simp only [Act.put, List.setIfInBounds_toArray, List.set_cons_zero, List.set_cons_succ]
  refine wpAnyM_pick (i := 4) (some 40) (v := ?vz5) rfl rfl (by kernel_rfl) (by kernel_rfl) (by kernel_rfl) (by kernel_rfl) (fun _ _ _ h => h) (Or.inl ⟨by rfl, ?hz5⟩) hS ?rz5
  case hz5 => intro w hSw; (try have hs1 := hSw.1); (try have hs2 := hSw.2); (try (obtain ⟨ha1, ha2, ha3, ha4⟩ := hSw)); go_simp; try with_reducible rfl
  try simp only [Act.put, List.setIfInBounds_toArray, List.set_cons_zero, List.set_cons_succ]
  refine wpAnyM_pick (i := 5) (some 41) (v := ?vz6) rfl rfl (by kernel_rfl) (by kernel_rfl) (by kernel_rfl) (by kernel_rfl) (fun _ _ _ h => h) (Or.inl ⟨by rfl, ?hz6⟩) hS ?rz6
  case hz6 => intro w hSw; (try have hs1 := hSw.1); (try have hs2 := hSw.2); (try (obtain ⟨ha1, ha2, ha3, ha4⟩ := hSw)); go_simp; try with_reducible rfl
  try simp only [Act.put, List.setIfInBounds_toArray, List.set_cons_zero, List.set_cons_succ]
  refine wpAnyM_pick (i := 6) (some 42) (v := ?vz7) rfl rfl (by kernel_rfl) (by kernel_rfl) (by kernel_rfl) (by kernel_rfl) (fun _ _ _ h => h) (Or.inl ⟨by rfl, ?hz7⟩) hS ?rz7
  case hz7 => intro w hSw; (try have hs1 := hSw.1); (try have hs2 := hSw.2); (try (obtain ⟨ha1, ha2, ha3, ha4⟩ := hSw)); go_simp; try with_reducible rfl
  try simp only [Act.put, List.setIfInBounds_toArray, List.set_cons_zero, List.set_cons_succ]
  refine wpAnyM_pick (i := 7) (some 43) (v := ?vz8) rfl rfl (by kernel_rfl) (by kernel_rfl) (by kernel_rfl) (by kernel_rfl) (fun _ _ _ h => h) (Or.inl ⟨by rfl, ?hz8⟩) hS ?rz8
  case hz8 => intro w hSw; (try have hs1 := hSw.1); (try have hs2 := hSw.2); (try (obtain ⟨ha1, ha2, ha3, ha4⟩ := hSw)); go_simp; try with_reducible rfl
  try simp only [Act.put, List.setIfInBounds_toArray, List.set_cons_zero, List.set_cons_succ]
  refine wpAnyM_pick (i := 8) (some 44) (v := ?vz9) rfl rfl (by kernel_rfl) (by kernel_rfl) (by kernel_rfl) (by kernel_rfl) (fun _ _ _ h => h) (Or.inl ⟨by rfl, ?hz9⟩) hS ?rz9
  case hz9 => intro w hSw; (try have hs1 := hSw.1); (try have hs2 := hSw.2); (try (obtain ⟨ha1, ha2, ha3, ha4⟩ := hSw)); go_simp; try with_reducible rfl
  try simp only [Act.put, List.setIfInBounds_toArray, List.set_cons_zero, List.set_cons_succ]
  refine wpAnyM_pick (i := 9) (some 45) (v := ?vz10) rfl rfl (by kernel_rfl) (by kernel_rfl) (by kernel_rfl) (by kernel_rfl) (fun _ _ _ h => h) (Or.inl ⟨by rfl, ?hz10⟩) hS ?rz10
  case hz10 => intro w hSw; (try have hs1 := hSw.1); (try have hs2 := hSw.2); (try (obtain ⟨ha1, ha2, ha3, ha4⟩ := hSw)); go_simp; try with_reducible rfl
  try simp only [Act.put, List.setIfInBounds_toArray, List.set_cons_zero, List.set_cons_succ]
  refine wpAnyM_one (i := 10) (by kernel_rfl) rfl (fun K1 hK1 => ?_)
  go_simp
  go_at_call 149
  refine (HPT.out w7 ad c HP7.out.lies.2).mono ?_
  rintro e w8 ⟨a8, c8, rfl, hr8, hb8⟩
  have x18 := HX1.out.on hb8
  have x88 := HX8p.out.on hb8
  clear hS
  have hS : w8.cell? ⟨w5.heap.size, 0, none⟩ = some (.int .i64 1) ∧ w8.cell? ⟨w5.heap.size, 1, none⟩ = some (.slice ad n c) ∧ w8.cell? ⟨w.heap.size, 0, none⟩ = some (.string xk) ∧ w8.cell? ⟨w.heap.size, 1, none⟩ = some (.string xv) := ⟨x88.two.1, x88.two.2.1, x18.two.1, x18.two.2.1⟩
  have HX18 := hid x18
  have HX88 := hid x88
  refine hK1 _ _ (fun _ => hS) ?_
  clear hK1 K1 x18 x88 HX1 HX8p
  try simp only [Act.put, List.setIfInBounds_toArray, List.set_cons_zero, List.set_cons_succ]
  have D8 := D7.out.on hb8
  have HX8 := hid (HX2.out.on hb8)
  have S8 := hid (S7.out.on hb8)
  have HLC := hid (HLY.out w8 _ _ a8 c8 w7.heap.size D8 hr8 D7.out.lt)
  clear D8 hr8 hb8 HP7 D7 S7 HX2
  refine wpAnyM_pick (i := 11) (some 47) (v := ?vz11) rfl rfl (by kernel_rfl) (by kernel_rfl) (by kernel_rfl) (by kernel_rfl) (fun _ _ _ h => h) (Or.inl ⟨by rfl, ?hz11⟩) hS ?rz11
  case hz11 => intro w hSw; (try have hs1 := hSw.1); (try have hs2 := hSw.2); (try (obtain ⟨ha1, ha2, ha3, ha4⟩ := hSw)); go_simp; try with_reducible rfl
  try simp only [Act.put, List.setIfInBounds_toArray, List.set_cons_zero, List.set_cons_succ]
  refine wpAnyM_one (i := 12) (by kernel_rfl) rfl (fun K1 hK1 => ?_)
  go_simp
  go_at_call 148
  refine HLC.out.mono ?_
  clear HLC
  rintro e w9 ⟨rfl, C9, R9, d9, s9⟩
  have x19 := HX18.out.step s9
  have x89 := HX88.out.step s9
  clear hS
  have hS : w9.cell? ⟨w5.heap.size, 0, none⟩ = some (.int .i64 1) ∧ w9.cell? ⟨w5.heap.size, 1, none⟩ = some (.slice ad n c) ∧ w9.cell? ⟨w.heap.size, 0, none⟩ = some (.string xk) ∧ w9.cell? ⟨w.heap.size, 1, none⟩ = some (.string xv) := ⟨x89.two.1, x89.two.2.1, x19.two.1, x19.two.2.1⟩
  have HX19 := hid x19
  have HX89 := hid x89
  refine hK1 _ _ (fun _ => hS) ?_
  clear hK1 K1 x19 x89 HX18 HX88
  try simp only [Act.put, List.setIfInBounds_toArray, List.set_cons_zero, List.set_cons_succ]
  have X9 := HX8.out.step s9
  have HX9 := hid X9
  have D9 := hid d9
  have S9 := hid (S8.out.trans s9)
  obtain ⟨y0, y1, y2, y3⟩ := X9.two
  clear X9 d9 s9 S8 HX8
  refine wpAnyM_pick (i := 13) (some 49) (v := ?vz12) rfl rfl (by kernel_rfl) (by kernel_rfl) (by kernel_rfl) (by kernel_rfl) (fun _ _ _ h => h) (Or.inl ⟨by rfl, ?hz12⟩) hS ?rz12
  case hz12 => intro w hSw; (try have hs1 := hSw.1); (try have hs2 := hSw.2); (try (obtain ⟨ha1, ha2, ha3, ha4⟩ := hSw)); go_simp; try with_reducible rfl
  try simp only [Act.put, List.setIfInBounds_toArray, List.set_cons_zero, List.set_cons_succ]
  refine wpAnyM_pick (i := 14) (some 50) (v := ?vz13) rfl rfl (by kernel_rfl) (by kernel_rfl) (by kernel_rfl) (by kernel_rfl) (fun _ _ _ h => h) (Or.inl ⟨by rfl, ?hz13⟩) hS ?rz13
  case hz13 => intro w hSw; (try have hs1 := hSw.1); (try have hs2 := hSw.2); (try (obtain ⟨ha1, ha2, ha3, ha4⟩ := hSw)); go_simp; try with_reducible rfl
  try simp only [Act.put, List.setIfInBounds_toArray, List.set_cons_zero, List.set_cons_succ]
  refine wpAnyM_one (i := 15) (by kernel_rfl) rfl (fun K1 hK1 => ?_)
  go_simp
  have x10 := (HX9.out.wr 0 (.string u0)).wr 1 (.string u1)
  have x1a := (HX19.out.ne (b2 := w.heap.size + 1) (by omega) 0 (.string u0)).ne (b2 := w.heap.size + 1) (by omega) 1 (.string u1)
  have x8a := (HX89.out.ne (b2 := w.heap.size + 1) (by omega) 0 (.string u0)).ne (b2 := w.heap.size + 1) (by omega) 1 (.string u1)
  refine hK1 _ _ (fun _ => ⟨x8a.two.1, x8a.two.2.1, x1a.two.1, x1a.two.2.1⟩) ?_
  clear hS
  have hS : ((w9.setCell ⟨w.heap.size + 1, 0, none⟩ (.string u0)).setCell ⟨w.heap.size + 1, 1, none⟩ (.string u1)).cell? ⟨w5.heap.size, 0, none⟩ = some (.int .i64 1) ∧ ((w9.setCell ⟨w.heap.size + 1, 0, none⟩ (.string u0)).setCell ⟨w.heap.size + 1, 1, none⟩ (.string u1)).cell? ⟨w5.heap.size, 1, none⟩ = some (.slice ad n c) ∧ ((w9.setCell ⟨w.heap.size + 1, 0, none⟩ (.string u0)).setCell ⟨w.heap.size + 1, 1, none⟩ (.string u1)).cell? ⟨w.heap.size, 0, none⟩ = some (.string xk) ∧ ((w9.setCell ⟨w.heap.size + 1, 0, none⟩ (.string u0)).setCell ⟨w.heap.size + 1, 1, none⟩ (.string u1)).cell? ⟨w.heap.size, 1, none⟩ = some (.string xv) := ⟨x8a.two.1, x8a.two.2.1, x1a.two.1, x1a.two.2.1⟩
  clear hK1 K1
  refine wpAnyM_pick (i := 16) (some 7) (v := ?vz14) rfl rfl (by kernel_rfl) (by kernel_rfl) (by kernel_rfl) (by kernel_rfl) (fun _ _ _ h => h) (Or.inl ⟨by rfl, ?hz14⟩) hS ?rz14
  case hz14 => intro w hSw; (try have hs1 := hSw.1); (try have hs2 := hSw.2); (try (obtain ⟨ha1, ha2, ha3, ha4⟩ := hSw)); go_simp; try with_reducible rfl
  try simp only [Act.put, List.setIfInBounds_toArray, List.set_cons_zero, List.set_cons_succ]
  refine wpAnyM_done (by kernel_rfl) ?_ _
  clear hS
  go_wp2_with fail
  obtain ⟨e0, e1, _, _⟩ := Bx.two (u0 := .string u0) (u1 := .string u1) x10
  refine bodyPost_ret (v := .tuple #[.agg #[.string u0, .string u1], .bool b]) (by simp [results, Tryz.results93, go_sem, e0, e1]) rfl ⟨rfl, _, _, (D9.out.wr HX9.out 0 _).wr (HX9.out.wr 0 _) 1 _, (S9.out.wr (by omega) 0 _).wr (by omega) 1 _⟩
set_option maxHeartbeats 1000000 in
theorem putLeaf_bad (a : Int) (L : List Ent) (x : Ent) (ha : gtE d f a = 0) (hu : vw2 G f a = some (1, L)) (hc : ckE none L = 0) (hfit : 2 + sumE L ≤ 256) (hsx : Sml x.k) (hsv : Sml x.v) (hN : N < 80000) (h : Dr w C R k q s g d f N root G U)
    (hl : ∀ (w1 : World) (C1 R1 : Nat → Prop) (v : Value), Dr w1 C1 R1 k q s g d f (N + 2) root G U → PgV w1 R1 v (1, putL L x.k x.v) → Calls Tryz.prog 148 #[.pointer (some ⟨g, 0, none⟩), .int .i64 a, v] w1 fun e w' => e = .panicked [{ v := gvup 16, recovered := false }] ∧ Dn w1 C1 R1 k q s g d f' M root G' U w') :
    Calls Tryz.prog 93 #[.pointer (some ⟨g, 0, none⟩), .int .i64 a, .agg #[.string x.k, .string x.v]] w fun e w' => e = .panicked [{ v := gvup 16, recovered := false }] ∧ Dn w C R k q s g d f' M root G' U w' := by
  have hai := h.i64 ha
  obtain ⟨h1, s1, x1⟩ := h.box #[.string x.k, .string x.v] 59
  obtain ⟨h2, s2, x2⟩ := h1.box #[.string ⟨#[]⟩, .string ⟨#[]⟩] 59
  have hsz : (w.alloc (.cells #[.string x.k, .string x.v] 59)).heap.size = w.heap.size + 1 := by simp
  rw [hsz] at x2 s2 h2
  have HRD := hid (dread_any a (1, L) ha hu (by intro e; cases e) (by omega) h2)
  have S2 := hid (s1.trans s2)
  have X1 := hid (x1.step s2)
  have X2 := hid x2
  have hlen : L.length ≤ 1000 := by
    have := sum_two (L := L)
    omega
  obtain ⟨n, hn⟩ : ∃ n, L.length = n := ⟨_, rfl⟩
  obtain ⟨p, hp⟩ : ∃ p, (putL L x.k x.v).length = p := ⟨_, rfl⟩
  have HPT : Hid (∀ (w1 : World) (ad : Option Addr) (c : Nat), LiesE w1 (.slice ad n c) L → Calls Tryz.prog 149 #[.slice ad n c, .string x.k, .string x.v] w1 fun e w' => ∃ a c, e = .returned (.slice a p c) ∧ RowE w' w1.heap.size (.slice a p c) (putL L x.k x.v) ∧ Below w1.heap.size w1 w') := fun w1 ad c hl => put_right w1 _ L x.k x.v hc hl (by omega) hsx hsv p hp
  have HLY : Hid (∀ (w1 : World) (C1 R1 : Nat → Prop) (ad : Option Addr) (c B : Nat), Dr w1 C1 R1 k q s g d f (N + 2) root G U → RowE w1 B (.slice ad p c) (putL L x.k x.v) → (∀ j, R1 j → j < B) → Calls Tryz.prog 148 #[.pointer (some ⟨g, 0, none⟩), .int .i64 a, .agg #[.int .i64 1, .slice ad p c]] w1 fun e w' => e = .panicked [{ v := gvup 16, recovered := false }] ∧ Dn w1 C1 R1 k q s g d f' M root G' U w') := fun w1 C1 R1 ad c B hd hr hB => by
    have hpv : PgV w1 R1 (.agg #[.int .i64 (1 : Nat), .slice ad p c]) (1, putL L x.k x.v) := by
      rw [← hp] at hr ⊢
      exact PgV.made hr (putL_sml (h := by
        intro y hy
        have := (ck_iff.1 hc).1 y hy
        exact ⟨by unfold Sml; omega, by unfold Sml; omega⟩) hsx hsv) hB
    exact hl w1 C1 R1 _ hd hpv
  clear s1 x1 s2 x2 h h1 h2 hu ha hfit hc hsx hsv hlen hp hl
  obtain ⟨xk, xv⟩ := x
  simp only at *
  rw [hn] at HRD
  generalize putL L xk xv = PL at *
  go_enter Tryz.func93, Tryz.ntmps93
  go_wp2_with (go_at_call 97; refine HRD.out.mono ?_; clear HRD; rintro e w5 ⟨ad, c, rfl, C5, R5, pv5, d5, s5⟩; have X15 := X1.out.step s5; have X25 := X2.out.step s5; have S5 := S2.out.trans s5; have HR5 := hid d5.lt; obtain ⟨d6, s6, x8⟩ := d5.box #[.int .i64 1, .slice ad n c] 78; have X16 := hid (X15.step s6); have X26 := hid (X25.step s6); have X86 := hid x8; have S6 := hid (S5.trans s6); have PV6 := hid (pv5.step d5.le s6); have D6 := hid d6; have hb5 : w.heap.size + 2 ≤ w5.heap.size := (by have := X25.1.lt; omega); clear X15 X25 S5 pv5 d5 s5 d6 s6 x8)
  generalize w5.alloc (.cells #[.int .i64 1, .slice ad n c] 78) = w6 at *
  have hdr : Below w6.heap.size w6 w6.drew := (Below.refl _ _).drew
  have hS : w6.drew.cell? ⟨w5.heap.size, 0, none⟩ = some (.int .i64 1) ∧ w6.drew.cell? ⟨w5.heap.size, 1, none⟩ = some (.slice ad n c) ∧ w6.drew.cell? ⟨w.heap.size, 0, none⟩ = some (.string xk) ∧ w6.drew.cell? ⟨w.heap.size, 1, none⟩ = some (.string xv) := ⟨X86.out.two.1, X86.out.two.2.1, X16.out.two.1, X16.out.two.2.1⟩
  have HX2 := hid (X26.out.on hdr)
  have S7 := hid (S6.out.on hdr)
  have HP7 := hid (PV6.out.on hdr)
  have D7 := hid (D6.out.on hdr)
  have HX1 := hid (X16.out.on hdr)
  have HX8p := hid (X86.out.on hdr)
  clear X16 X26 X86 S6 PV6 D6 hdr
  refine wp_region_d (fun w' => w'.cell? ⟨w5.heap.size, 0, none⟩ = some (.int .i64 1) ∧ w'.cell? ⟨w5.heap.size, 1, none⟩ = some (.slice ad n c) ∧ w'.cell? ⟨w.heap.size, 0, none⟩ = some (.string xk) ∧ w'.cell? ⟨w.heap.size, 1, none⟩ = some (.string xv)) (fun _ => true) (by kernel_rfl) ?_
  generalize w6.drew = w7 at *
  refine wpAnyM_pick (i := 0) (some 36) (v := ?vz15) rfl rfl (by kernel_rfl) (by kernel_rfl) (by kernel_rfl) (by kernel_rfl) (fun _ _ _ h => h) (Or.inl ⟨by rfl, ?hz15⟩) hS ?rz15
  case hz15 => intro w hSw; (try have hs1 := hSw.1); (try have hs2 := hSw.2); (try (obtain ⟨ha1, ha2, ha3, ha4⟩ := hSw)); go_simp; try with_reducible rfl
  try simp only [Act.put, List.setIfInBounds_toArray, List.set_cons_zero, List.set_cons_succ]
  refine wpAnyM_pick (i := 1) (some 37) (v := ?vz16) rfl rfl (by kernel_rfl) (by kernel_rfl) (by kernel_rfl) (by kernel_rfl) (fun _ _ _ h => h) (Or.inl ⟨by rfl, ?hz16⟩) hS ?rz16
  case hz16 => intro w hSw; (try have hs1 := hSw.1); (try have hs2 := hSw.2); (try (obtain ⟨ha1, ha2, ha3, ha4⟩ := hSw)); go_simp; try with_reducible rfl
  try simp only [Act.put, List.setIfInBounds_toArray, List.set_cons_zero, List.set_cons_succ]
  refine wpAnyM_pick (i := 2) (some 38) (v := ?vz17) rfl rfl (by kernel_rfl) (by kernel_rfl) (by kernel_rfl) (by kernel_rfl) (fun _ _ _ h => h) (Or.inl ⟨by rfl, ?hz17⟩) hS ?rz17
  case hz17 => intro w hSw; (try have hs1 := hSw.1); (try have hs2 := hSw.2); (try (obtain ⟨ha1, ha2, ha3, ha4⟩ := hSw)); go_simp; try with_reducible rfl
  try simp only [Act.put, List.setIfInBounds_toArray, List.set_cons_zero, List.set_cons_succ]
  refine wpAnyM_pick (i := 3) (some 39) (v := ?vz18) rfl rfl (by kernel_rfl) (by kernel_rfl) (by kernel_rfl) (by kernel_rfl) (fun _ _ _ h => h) (Or.inl ⟨by rfl, ?hz18⟩) hS ?rz18
  case hz18 => intro w hSw; (try have hs1 := hSw.1); (try have hs2 := hSw.2); (try (obtain ⟨ha1, ha2, ha3, ha4⟩ := hSw)); go_simp; try with_reducible rfl
  try simp only [Act.put, List.setIfInBounds_toArray, List.set_cons_zero, List.set_cons_succ]
  refine wpAnyM_pick (i := 4) (some 40) (v := ?vz19) rfl rfl (by kernel_rfl) (by kernel_rfl) (by kernel_rfl) (by kernel_rfl) (fun _ _ _ h => h) (Or.inl ⟨by rfl, ?hz19⟩) hS ?rz19
  case hz19 => intro w hSw; (try have hs1 := hSw.1); (try have hs2 := hSw.2); (try (obtain ⟨ha1, ha2, ha3, ha4⟩ := hSw)); go_simp; try with_reducible rfl
  try simp only [Act.put, List.setIfInBounds_toArray, List.set_cons_zero, List.set_cons_succ]
  refine wpAnyM_pick (i := 5) (some 41) (v := ?vz20) rfl rfl (by kernel_rfl) (by kernel_rfl) (by kernel_rfl) (by kernel_rfl) (fun _ _ _ h => h) (Or.inl ⟨by rfl, ?hz20⟩) hS ?rz20
  case hz20 => intro w hSw; (try have hs1 := hSw.1); (try have hs2 := hSw.2); (try (obtain ⟨ha1, ha2, ha3, ha4⟩ := hSw)); go_simp; try with_reducible rfl
  try simp only [Act.put, List.setIfInBounds_toArray, List.set_cons_zero, List.set_cons_succ]
  refine wpAnyM_pick (i := 6) (some 42) (v := ?vz21) rfl rfl (by kernel_rfl) (by kernel_rfl) (by kernel_rfl) (by kernel_rfl) (fun _ _ _ h => h) (Or.inl ⟨by rfl, ?hz21⟩) hS ?rz21
  case hz21 => intro w hSw; (try have hs1 := hSw.1); (try have hs2 := hSw.2); (try (obtain ⟨ha1, ha2, ha3, ha4⟩ := hSw)); go_simp; try with_reducible rfl
  try simp only [Act.put, List.setIfInBounds_toArray, List.set_cons_zero, List.set_cons_succ]
  refine wpAnyM_pick (i := 7) (some 43) (v := ?vz22) rfl rfl (by kernel_rfl) (by kernel_rfl) (by kernel_rfl) (by kernel_rfl) (fun _ _ _ h => h) (Or.inl ⟨by rfl, ?hz22⟩) hS ?rz22
  case hz22 => intro w hSw; (try have hs1 := hSw.1); (try have hs2 := hSw.2); (try (obtain ⟨ha1, ha2, ha3, ha4⟩ := hSw)); go_simp; try with_reducible rfl
  try simp only [Act.put, List.setIfInBounds_toArray, List.set_cons_zero, List.set_cons_succ]
  refine wpAnyM_pick (i := 8) (some 44) (v := ?vz23) rfl rfl (by kernel_rfl) (by kernel_rfl) (by kernel_rfl) (by kernel_rfl) (fun _ _ _ h => h) (Or.inl ⟨by rfl, ?hz23⟩) hS ?rz23
  case hz23 => intro w hSw; (try have hs1 := hSw.1); (try have hs2 := hSw.2); (try (obtain ⟨ha1, ha2, ha3, ha4⟩ := hSw)); go_simp; try with_reducible rfl
  try simp only [Act.put, List.setIfInBounds_toArray, List.set_cons_zero, List.set_cons_succ]
  refine wpAnyM_pick (i := 9) (some 45) (v := ?vz24) rfl rfl (by kernel_rfl) (by kernel_rfl) (by kernel_rfl) (by kernel_rfl) (fun _ _ _ h => h) (Or.inl ⟨by rfl, ?hz24⟩) hS ?rz24
  case hz24 => intro w hSw; (try have hs1 := hSw.1); (try have hs2 := hSw.2); (try (obtain ⟨ha1, ha2, ha3, ha4⟩ := hSw)); go_simp; try with_reducible rfl
  try simp only [Act.put, List.setIfInBounds_toArray, List.set_cons_zero, List.set_cons_succ]
  refine wpAnyM_one (i := 10) (by kernel_rfl) rfl (fun K1 hK1 => ?_)
  go_simp
  go_at_call 149
  refine (HPT.out w7 ad c HP7.out.lies.2).mono ?_
  rintro e w8 ⟨a8, c8, rfl, hr8, hb8⟩
  have x18 := HX1.out.on hb8
  have x88 := HX8p.out.on hb8
  clear hS
  have hS : w8.cell? ⟨w5.heap.size, 0, none⟩ = some (.int .i64 1) ∧ w8.cell? ⟨w5.heap.size, 1, none⟩ = some (.slice ad n c) ∧ w8.cell? ⟨w.heap.size, 0, none⟩ = some (.string xk) ∧ w8.cell? ⟨w.heap.size, 1, none⟩ = some (.string xv) := ⟨x88.two.1, x88.two.2.1, x18.two.1, x18.two.2.1⟩
  have HX18 := hid x18
  have HX88 := hid x88
  refine hK1 _ _ (fun _ => hS) ?_
  clear hK1 K1 x18 x88 HX1 HX8p
  try simp only [Act.put, List.setIfInBounds_toArray, List.set_cons_zero, List.set_cons_succ]
  have D8 := D7.out.on hb8
  have HX8 := hid (HX2.out.on hb8)
  have S8 := hid (S7.out.on hb8)
  have HLC := hid (HLY.out w8 _ _ a8 c8 w7.heap.size D8 hr8 D7.out.lt)
  clear D8 hr8 hb8 HP7 D7 S7 HX2
  refine wpAnyM_pick (i := 11) (some 47) (v := ?vz25) rfl rfl (by kernel_rfl) (by kernel_rfl) (by kernel_rfl) (by kernel_rfl) (fun _ _ _ h => h) (Or.inl ⟨by rfl, ?hz25⟩) hS ?rz25
  case hz25 => intro w hSw; (try have hs1 := hSw.1); (try have hs2 := hSw.2); (try (obtain ⟨ha1, ha2, ha3, ha4⟩ := hSw)); go_simp; try with_reducible rfl
  try simp only [Act.put, List.setIfInBounds_toArray, List.set_cons_zero, List.set_cons_succ]
  refine wpAnyM_one (i := 12) (by kernel_rfl) rfl (fun K1 hK1 => ?_)
  go_simp
  go_at_call 148
  refine HLC.out.mono ?_
  clear HLC
  rintro e w9 ⟨rfl, C9, R9, d9, s9⟩
  exact ⟨rfl, rfl, C9, R9, d9, S8.out.trans s9⟩
end
end Go.Proofs.YtjcbaiohpdihoaaGreatDoor
