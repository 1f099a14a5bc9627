/-
  A nil disk refuses everything; what is handed out is new memory; two disks do not meet.
-/
import Derived.Test.YtjmkhcldcpdmoaaRows
import Derived.Test.YtjmkhcldcpdmoaaDn
import Derived.ProofKit
import Derived.OpenShut
import Derived.ShutString
import Derived.ChangeOld
import Derived.Below
import Derived.SizedLaws
import Derived.Lib.SmallJoins
namespace Go.Proofs.Ytjmkhcldcpdmoaa
open Go.ChangeShapes Go.WideShapes Go.ChangeAt Go.RowKit Go.Joins
open Go.ChangeMaps (open_string shut_string)
set_option linter.unusedVariables false
set_option linter.unusedSimpArgs false
set_option maxRecDepth 100000

set_option maxHeartbeats 16000000 in
theorem diskNil_walk (a : Int) (s : ByteArray) (wf : (Lit.int .i64 a).wf = true) (hs : s.size ≤ reachBytes) (w : World) :
    Calls Try.prog 7 #[.int .i64 a, .string s] w fun e w' => e = .returned (.bool true) ∧ Below w.heap.size w w' := by
  have hwk := wakes_any w
  have hsz : s.size ≤ maxLen := by
    have : reachBytes = 140737488351232 := rfl
    unfold maxLen
    omega
  have hct : ∀ w1, _ := fun w1 => cut_nil a w1
  have hrs : ∀ w1, _ := fun w1 => restore_nil w1
  have hrd : ∀ w1, _ := fun w1 => read_nil a w1
  have hwr : ∀ w1, _ := fun w1 => write_nil a s w1
  have hdn : ∀ w1, _ := fun w1 => down_nil w1
  have hln : ∀ w1, _ := fun w1 => len_nil w1
  have hlg : ∀ w1, _ := fun w1 => log_nil w1
  have him : ∀ w1, _ := fun w1 => image_nil w1
  have hnw : ∀ w1, Calls Try.prog 9 #[.int .i64 64] w1 fun e w' => ∃ k, e = .returned (.tuple #[.pointer (some ⟨k, 0, none⟩), .int .i64 0]) ∧ Dk w' (Bt w1.heap.size w'.heap.size) k (nw 64) ∧ Below w1.heap.size w1 w' := fun w1 => new_any 64 (by omega) (by omega) w1
  have hbk : ∀ w1, _ := fun w1 => block_any s hsz w1
  have hbe : ∀ w1, Calls Try.prog 18 #[.string ⟨#[]⟩] w1 fun e w' => e = .returned (.string Z) ∧ Below w1.heap.size w1 w' := fun w1 => by
    have := block_any ⟨#[]⟩ (by decide) w1
    rwa [blk_empty] at this
  have hw1 : ∀ w1 M k k', D2 w M w1 k k' (nw 64) (nw 64) → M ≤ w1.heap.size → Calls Try.prog 17 #[.pointer (some ⟨k, 0, none⟩), .int .i64 1, .string (blk s)] w1 fun x w' => x = .returned (.int .i64 0) ∧ D2 w w'.heap.size w' k k' ((nw 64).put 1 (blk s)) (nw 64) := fun w1 M k k' h hM => by
    have := write_d2 1 (blk s) w w1 M k k' (nw 64) (nw 64) h hM (by decide)
    rwa [(nil_wr _ (blk_size s)).1, (nil_wr _ (blk_size s)).2] at this
  have hr1 : ∀ w1 M k k', D2 w M w1 k k' ((nw 64).put 1 (blk s)) (nw 64) → Calls Try.prog 25 #[.pointer (some ⟨k, 0, none⟩), .int .i64 1] w1 fun x w' => x = .returned (.tuple #[.string (blk s), .int .i64 0]) ∧ D2 w M w' k k' ((nw 64).put 1 (blk s)) (nw 64) := fun w1 M k k' h => by
    have := read_d2 1 w w1 M k k' _ _ h
    rwa [(nil_rd _).1, (nil_rd _).2] at this
  have hr2 : ∀ w1 M k k', D2 w M w1 k k' ((nw 64).put 1 (blk s)) (nw 64) → Calls Try.prog 25 #[.pointer (some ⟨k', 0, none⟩), .int .i64 1] w1 fun x w' => x = .returned (.tuple #[.string Z, .int .i64 0]) ∧ D2 w M w' k k' ((nw 64).put 1 (blk s)) (nw 64) := fun w1 M k k' h => by
    have := rread_d2 1 w w1 M k k' _ _ h
    rwa [nil_rd2.1, nil_rd2.2] at this
  have hi1 : ∀ w1 M k k', D2 w M w1 k k' ((nw 64).put 1 (blk s)) (nw 64) → Calls Try.prog 15 #[.pointer (some ⟨k, 0, none⟩)] w1 fun x w' => ∃ g c u, x = .returned (.slice (some ⟨g, 0, none⟩) 64 c) ∧ w1.heap.size ≤ g ∧ g < w'.heap.size ∧ w'.cell? ⟨g, 1, none⟩ = some (.string u) ∧ w'.frozen? ⟨g, 1, none⟩ = false ∧ Below w1.heap.size w1 w' := fun w1 M k k' h => (image_d2 w w1 M k k' _ _ h).mono fun x w' ⟨v', hx, hr, hb⟩ => by
    have hl : ((nw 64).put 1 (blk s)).bs.length = 64 := by simp [nw, Ds.put]
    obtain ⟨ga, c, rfl⟩ := hr.form
    obtain ⟨g, hg, hg1, hg2⟩ := row_some hr (by rw [hl]; decide)
    subst hg
    obtain ⟨c1, f1⟩ := hr.at (i := 1) (List.getElem?_eq_getElem (by rw [hl]; decide))
    rw [hl] at hx
    exact ⟨g, c, _, hx, hg1, hg2, c1, f1, hb⟩
  have hl1 : ∀ w1 M k k', D2 w M w1 k k' ((nw 64).put 1 (blk s)) (nw 64) → Calls Try.prog 13 #[.pointer (some ⟨k, 0, none⟩)] w1 fun x w' => ∃ g c, x = .returned (.slice (some ⟨g, 0, none⟩) 1 c) ∧ w1.heap.size ≤ g ∧ g < w'.heap.size ∧ w'.cell? ⟨g, 1, none⟩ = some (.string (blk s)) ∧ w'.frozen? ⟨g, 1, none⟩ = false ∧ Below w1.heap.size w1 w' := fun w1 M k k' h => (log_d2 w w1 M k k' _ _ h (by simp [nw, Ds.put])).mono fun x w' ⟨v', hx, hr, hb⟩ => by
    obtain ⟨ga, c, rfl⟩ := hr.form
    obtain ⟨g, hg, hg1, hg2⟩ := row_some hr (by simp [nw, Ds.put])
    subst hg
    obtain ⟨_, c1, f1⟩ := hr.at (i := 0) (p := ⟨1, blk s⟩) rfl
    exact ⟨g, c, hx, hg1, hg2, c1, f1, hb⟩
  have hl2 : ∀ w1 M k k', D2 w M w1 k k' ((nw 64).put 1 (blk s)) (nw 64) → Calls Try.prog 13 #[.pointer (some ⟨k', 0, none⟩)] w1 fun x w' => ∃ pa c, x = .returned (.slice pa 0 c) ∧ Below w1.heap.size w1 w' := fun w1 M k k' h => (rlog_d2 w w1 M k k' _ _ h (by decide)).mono fun x w' ⟨v', hx, hr, hb⟩ => by
    obtain ⟨ga, c, rfl⟩ := hr.form
    exact ⟨ga, c, hx, hb⟩
  have HBK := hid hbk
  have HL1 := hid hl1
  generalize hdD : (nw 64).put 1 (blk s) = dd at hw1 hr1 hr2 hi1 hl1 hl2 HL1
  generalize hbB : blk s = t at hbk hw1 hr1 hl1 HBK HL1
  clear hdD hbB wf hs hsz
  go_enter Try.func7, Try.ntmps7
  go_upto_region 14 with (first
    | (go_at_call 8; refine hwk.mono ?_; clear hwk; rintro e w1 ⟨rfl, hb1⟩; have HB1 := hid hb1; clear hb1)
    | (go_at_call 16; refine (hct _).mono ?_; clear hct; rintro e w2 ⟨rfl, rfl⟩)
    | (go_at_call 20; refine (hrs _).mono ?_; clear hrs; rintro e w2 ⟨rfl, rfl⟩)
    | (go_at_call 25; refine (hrd _).mono ?_; clear hrd; rintro e w2 ⟨rfl, rfl⟩)
    | (go_at_call 17; refine (hwr _).mono ?_; clear hwr; rintro e w2 ⟨rfl, rfl⟩)
    | (go_at_call 19; refine (hdn _).mono ?_; clear hdn; rintro e w2 ⟨rfl, rfl⟩)
    | (go_at_call 26; refine (hln _).mono ?_; clear hln; rintro e w2 ⟨rfl, rfl⟩)
    | (go_at_call 13; refine (hlg _).mono ?_; clear hlg; rintro e w2 ⟨rfl, rfl⟩)
    | (go_at_call 15; refine (him _).mono ?_; clear him; rintro e w2 ⟨rfl, rfl⟩)
    | (go_at_call 9; refine ((fun (h : Hid (Below w.heap.size w w1)) => hnw _) HB1).mono ?_; rintro e w2 ⟨k, rfl, hd2, hb2⟩; have HD2 := hid hd2; have HB2 := hid hb2; have HB1' := hid HB1.out; clear hd2 hb2 HB1)
    | (go_at_call 9; refine ((fun (h : Hid (Below w1.heap.size w1 w2)) => hnw _) HB2).mono ?_; clear hnw; rintro e w3 ⟨k', rfl, hd3, hb3⟩; have H3 := hid (D2.new HB1'.out HD2.out HB2.out hd3 hb3); clear hd3 hb3 HB1' HD2 HB2)
    | (go_at_call 18; refine ((fun (h : Hid (D2 w w3.heap.size w3 k k' (nw 64) (nw 64))) => hbk _) H3).mono ?_; clear hbk; rintro e w4 ⟨rfl, hb4⟩; have H4 := hid (H3.out.on hb4); have HZ4 := hid hb4.size; clear hb4 H3)
    | (go_at_call 17; refine (hw1 _ _ _ _ H4.out HZ4.out).mono ?_; clear hw1; rintro e w5 ⟨rfl, h5⟩; have H5 := hid h5; have HM5 : Hid (w.heap.size ≤ w5.heap.size) := h5.below.size; clear h5 H4 HZ4)
    | (go_at_call 15; refine (hi1 _ _ _ _ H5.out).mono ?_; clear hi1; rintro e w6 ⟨gx, cx, ux, rfl, hg6, hgl6, c6, f6, hb6⟩; have H6 := hid (H5.out.on hb6); have HG6 := hid hg6; have HZ6 := hid hb6.size; have HX6 := hid (And.intro hgl6 (And.intro c6 f6)); clear hb6 c6 f6 H5 hg6 hgl6)
    | (go_at_call 13; refine (hl1 _ _ _ _ H6.out).mono ?_; clear hl1; rintro e w7 ⟨gl, cl, rfl, hg7, hgl7, c7, f7, hb7⟩; have H7 := hid (H6.out.on hb7); have HG7 := hid (And.intro (Nat.le_trans HZ6.out hg7) (Nat.lt_of_lt_of_le HX6.out.1 hg7)); have HX7 : Hid (w7.cell? ⟨gx, 1, none⟩ = some (.string ux) ∧ w7.frozen? ⟨gx, 1, none⟩ = false) := ⟨(hb7.cell (p := ⟨gx, 1, none⟩) HX6.out.1).trans HX6.out.2.1, (hb7.frozen (p := ⟨gx, 1, none⟩) HX6.out.1).trans HX6.out.2.2⟩; have HY7 := hid (And.intro c7 f7); clear hb7 c7 f7 H6 hg7 hgl7))
  obtain ⟨c1, f1⟩ : w7.cell? ⟨gx, 1, none⟩ = some (.string ux) ∧ w7.frozen? ⟨gx, 1, none⟩ = false := HX7.out
  have hne : gl ≠ gx := by have := HG7.out.2; omega
  have c2 : (w7.setCell ⟨gx, 1, none⟩ (.string ⟨#[120]⟩)).cell? ⟨gl, 1, none⟩ = some (.string t) := (World.cell?_of_block (a := ⟨gl, 1, none⟩) (Below.heap_setCell w7 ⟨gx, 1, none⟩ _ gl hne)).trans HY7.out.1
  have f2 : (w7.setCell ⟨gx, 1, none⟩ (.string ⟨#[120]⟩)).frozen? ⟨gl, 1, none⟩ = false := (World.frozen?_of_block (a := ⟨gl, 1, none⟩) (Below.heap_setCell w7 ⟨gx, 1, none⟩ _ gl hne)).trans HY7.out.2
  have hs5 := H7.out.below
  have H8 := hid ((H7.out.store HG6.out (Nat.le_trans HM5.out HG6.out) 1 (.string ⟨#[120]⟩)).store HG7.out.1 (Nat.le_trans HM5.out HG7.out.1) 1 (.string ⟨#[120]⟩))
  clear H7 HX7 HY7 HG6 HG7 hs5 HX6
  go_upto_region 16 with fail
  clear c1 f1 c2 f2 hne
  generalize (w7.setCell ⟨gx, 1, none⟩ (.string ⟨#[120]⟩)).setCell ⟨gl, 1, none⟩ (.string ⟨#[120]⟩) = w8 at H8 ⊢
  go_upto_region 18 with (first
    | (go_at_call 25; refine (hr1 _ _ _ _ H8.out).mono ?_; clear hr1; rintro e w9 ⟨rfl, h9⟩; have H9 := hid h9; clear h9 H8)
    | (go_at_call 25; refine (hr2 _ _ _ _ H9.out).mono ?_; clear hr2; rintro e w10 ⟨rfl, h10⟩; have H10 := hid h10; clear h10 H9))
  refine wp_region_d (fun _ => True) (fun _ => true) (by kernel_rfl) ?_
  have H11 := hid (H10.out.on (Below.drew (Below.refl _ w10)))
  clear H10
  generalize Z = z at *
  refine wpAnyM_pick (i := 0) (some 105) (v := ?vz1) rfl rfl (by kernel_rfl) (by kernel_rfl) (by kernel_rfl) (by kernel_rfl) (fun _ _ _ h => h) (Or.inl ⟨by rfl, ?hz1⟩) trivial ?rz1
  case hz1 => intro w hSw; go_simp; try with_reducible rfl
  try simp only [Act.put, List.setIfInBounds_toArray, List.set_cons_zero, List.set_cons_succ]
  refine wpAnyM_pick (i := 1) (some 106) (v := ?vz2) rfl rfl (by kernel_rfl) (by kernel_rfl) (by kernel_rfl) (by kernel_rfl) (fun _ _ _ h => h) (Or.inl ⟨by rfl, ?hz2⟩) trivial ?rz2
  case hz2 => intro w hSw; go_simp; try with_reducible rfl
  try simp only [Act.put, List.setIfInBounds_toArray, List.set_cons_zero, List.set_cons_succ]
  refine wpAnyM_pick (i := 2) (some 107) (v := ?vz3) rfl rfl (by kernel_rfl) (by kernel_rfl) (by kernel_rfl) (by kernel_rfl) (fun _ _ _ h => h) (Or.inl ⟨by rfl, ?hz3⟩) trivial ?rz3
  case hz3 => intro w hSw; go_simp; try with_reducible rfl
  try simp only [Act.put, List.setIfInBounds_toArray, List.set_cons_zero, List.set_cons_succ]
  refine wpAnyM_pick (i := 3) (some 108) (v := ?vz4) rfl rfl (by kernel_rfl) (by kernel_rfl) (by kernel_rfl) (by kernel_rfl) (fun _ _ _ h => h) (Or.inl ⟨by rfl, ?hz4⟩) trivial ?rz4
  case hz4 => intro w hSw; go_simp; try with_reducible rfl
  try simp only [Act.put, List.setIfInBounds_toArray, List.set_cons_zero, List.set_cons_succ]
  refine wpAnyM_pick (i := 4) (some 109) (v := ?vz5) rfl rfl (by kernel_rfl) (by kernel_rfl) (by kernel_rfl) (by kernel_rfl) (fun _ _ _ h => h) (Or.inl ⟨by rfl, ?hz5⟩) trivial ?rz5
  case hz5 => intro w hSw; go_simp; try with_reducible rfl
  try simp only [Act.put, List.setIfInBounds_toArray, List.set_cons_zero, List.set_cons_succ]
  refine wpAnyM_pick (i := 5) (some 110) (v := ?vz6) rfl rfl (by kernel_rfl) (by kernel_rfl) (by kernel_rfl) (by kernel_rfl) (fun _ _ _ h => h) (Or.inl ⟨by rfl, ?hz6⟩) trivial ?rz6
  case hz6 => intro w hSw; go_simp; try with_reducible rfl
  try simp only [Act.put, List.setIfInBounds_toArray, List.set_cons_zero, List.set_cons_succ]
  refine wpAnyM_pick (i := 6) (some 111) (v := ?vz7) rfl rfl (by kernel_rfl) (by kernel_rfl) (by kernel_rfl) (by kernel_rfl) (fun _ _ _ h => h) (Or.inl ⟨by rfl, ?hz7⟩) trivial ?rz7
  case hz7 => intro w hSw; go_simp; try with_reducible rfl
  try simp only [Act.put, List.setIfInBounds_toArray, List.set_cons_zero, List.set_cons_succ]
  refine wpAnyM_pick (i := 7) (some 112) (v := ?vz8) rfl rfl (by kernel_rfl) (by kernel_rfl) (by kernel_rfl) (by kernel_rfl) (fun _ _ _ h => h) (Or.inl ⟨by rfl, ?hz8⟩) trivial ?rz8
  case hz8 => intro w hSw; go_simp; try with_reducible rfl
  try simp only [Act.put, List.setIfInBounds_toArray, List.set_cons_zero, List.set_cons_succ]
  refine wpAnyM_pick (i := 8) (some 113) (v := ?vz9) rfl rfl (by kernel_rfl) (by kernel_rfl) (by kernel_rfl) (by kernel_rfl) (fun _ _ _ h => h) (Or.inl ⟨by rfl, ?hz9⟩) trivial ?rz9
  case hz9 => intro w hSw; go_simp; try with_reducible rfl
  try simp only [Act.put, List.setIfInBounds_toArray, List.set_cons_zero, List.set_cons_succ]
  refine wpAnyM_one (i := 9) (by kernel_rfl) rfl (fun K hK => ?_)
  go_simp
  go_at_call 18
  refine (HBK.out _).mono ?_
  rintro e w12 ⟨rfl, hb12⟩
  have H12 := hid (H11.out.on hb12)
  clear hb12 H11
  go_wp2_with fail
  refine hK.out _ _ (fun _ => trivial) ?_
  clear hK K
  try simp only [Act.put, List.setIfInBounds_toArray, List.set_cons_zero, List.set_cons_succ]
  refine wpAnyM_pick (i := 10) (some 115) (v := ?vz10) rfl rfl (by kernel_rfl) (by kernel_rfl) (by kernel_rfl) (by kernel_rfl) (fun _ _ _ h => h) (Or.inl ⟨by rfl, ?hz10⟩) trivial ?rz10
  case hz10 => intro w hSw; go_simp; try with_reducible rfl
  try simp only [Act.put, List.setIfInBounds_toArray, List.set_cons_zero, List.set_cons_succ]
  refine wpAnyM_pick (i := 11) (some 116) (v := ?vz11) rfl rfl (by kernel_rfl) (by kernel_rfl) (by kernel_rfl) (by kernel_rfl) (fun _ _ _ h => h) (Or.inl ⟨by rfl, ?hz11⟩) trivial ?rz11
  case hz11 => intro w hSw; go_simp; try with_reducible rfl
  try simp only [Act.put, List.setIfInBounds_toArray, List.set_cons_zero, List.set_cons_succ]
  refine wpAnyM_pick (i := 12) (some 117) (v := ?vz12) rfl rfl (by kernel_rfl) (by kernel_rfl) (by kernel_rfl) (by kernel_rfl) (fun _ _ _ h => h) (Or.inl ⟨by rfl, ?hz12⟩) trivial ?rz12
  case hz12 => intro w hSw; go_simp; try with_reducible rfl
  try simp only [Act.put, List.setIfInBounds_toArray, List.set_cons_zero, List.set_cons_succ]
  refine wpAnyM_pick (i := 13) (some 118) (v := ?vz13) rfl rfl (by kernel_rfl) (by kernel_rfl) (by kernel_rfl) (by kernel_rfl) (fun _ _ _ h => h) (Or.inl ⟨by rfl, ?hz13⟩) trivial ?rz13
  case hz13 => intro w hSw; go_simp; try with_reducible rfl
  try simp only [Act.put, List.setIfInBounds_toArray, List.set_cons_zero, List.set_cons_succ]
  refine wpAnyM_one (i := 14) (by kernel_rfl) rfl (fun K hK => ?_)
  go_simp
  go_at_call 18
  refine (hbe _).mono ?_
  rintro e w13 ⟨rfl, hb13⟩
  have H13 := hid (H12.out.on hb13)
  clear hb13 H12
  go_wp2_with fail
  refine hK.out _ _ (fun _ => trivial) ?_
  clear hK K
  try simp only [Act.put, List.setIfInBounds_toArray, List.set_cons_zero, List.set_cons_succ]
  refine wpAnyM_pick (i := 15) (some 120) (v := ?vz14) rfl rfl (by kernel_rfl) (by kernel_rfl) (by kernel_rfl) (by kernel_rfl) (fun _ _ _ h => h) (Or.inl ⟨by rfl, ?hz14⟩) trivial ?rz14
  case hz14 => intro w hSw; go_simp; try with_reducible rfl
  try simp only [Act.put, List.setIfInBounds_toArray, List.set_cons_zero, List.set_cons_succ]
  refine wpAnyM_pick (i := 16) (some 121) (v := ?vz15) rfl rfl (by kernel_rfl) (by kernel_rfl) (by kernel_rfl) (by kernel_rfl) (fun _ _ _ h => h) (Or.inl ⟨by rfl, ?hz15⟩) trivial ?rz15
  case hz15 => intro w hSw; go_simp; try with_reducible rfl
  try simp only [Act.put, List.setIfInBounds_toArray, List.set_cons_zero, List.set_cons_succ]
  refine wpAnyM_pick (i := 17) (some 122) (v := ?vz16) rfl rfl (by kernel_rfl) (by kernel_rfl) (by kernel_rfl) (by kernel_rfl) (fun _ _ _ h => h) (Or.inl ⟨by rfl, ?hz16⟩) trivial ?rz16
  case hz16 => intro w hSw; go_simp; try with_reducible rfl
  try simp only [Act.put, List.setIfInBounds_toArray, List.set_cons_zero, List.set_cons_succ]
  refine wpAnyM_pick (i := 18) (some 123) (v := ?vz17) rfl rfl (by kernel_rfl) (by kernel_rfl) (by kernel_rfl) (by kernel_rfl) (fun _ _ _ h => h) (Or.inl ⟨by rfl, ?hz17⟩) trivial ?rz17
  case hz17 => intro w hSw; go_simp; try with_reducible rfl
  try simp only [Act.put, List.setIfInBounds_toArray, List.set_cons_zero, List.set_cons_succ]
  refine wpAnyM_one (i := 19) (by kernel_rfl) rfl (fun K hK => ?_)
  go_simp
  go_at_call 13
  refine (hl2 _ _ _ _ H13.out).mono ?_
  rintro e w14 ⟨pa, pc, rfl, hb14⟩
  have H14 := hid (H13.out.on hb14)
  clear hb14 H13
  go_wp2_with fail
  refine hK.out _ _ (fun _ => trivial) ?_
  clear hK K
  try simp only [Act.put, List.setIfInBounds_toArray, List.set_cons_zero, List.set_cons_succ]
  refine wpAnyM_pick (i := 20) (some 125) (v := ?vz18) rfl rfl (by kernel_rfl) (by kernel_rfl) (by kernel_rfl) (by kernel_rfl) (fun _ _ _ h => h) (Or.inl ⟨by rfl, ?hz18⟩) trivial ?rz18
  case hz18 => intro w hSw; go_simp; try with_reducible rfl
  try simp only [Act.put, List.setIfInBounds_toArray, List.set_cons_zero, List.set_cons_succ]
  refine wpAnyM_pick (i := 21) (some 126) (v := ?vz19) rfl rfl (by kernel_rfl) (by kernel_rfl) (by kernel_rfl) (by kernel_rfl) (fun _ _ _ h => h) (Or.inl ⟨by rfl, ?hz19⟩) trivial ?rz19
  case hz19 => intro w hSw; go_simp; try with_reducible rfl
  try simp only [Act.put, List.setIfInBounds_toArray, List.set_cons_zero, List.set_cons_succ]
  refine wpAnyM_pick (i := 22) (some 127) (v := ?vz20) rfl rfl (by kernel_rfl) (by kernel_rfl) (by kernel_rfl) (by kernel_rfl) (fun _ _ _ h => h) (Or.inl ⟨by rfl, ?hz20⟩) trivial ?rz20
  case hz20 => intro w hSw; go_simp; try with_reducible rfl
  try simp only [Act.put, List.setIfInBounds_toArray, List.set_cons_zero, List.set_cons_succ]
  refine wpAnyM_pick (i := 23) (some 128) (v := ?vz21) rfl rfl (by kernel_rfl) (by kernel_rfl) (by kernel_rfl) (by kernel_rfl) (fun _ _ _ h => h) (Or.inl ⟨by rfl, ?hz21⟩) trivial ?rz21
  case hz21 => intro w hSw; go_simp; try with_reducible rfl
  try simp only [Act.put, List.setIfInBounds_toArray, List.set_cons_zero, List.set_cons_succ]
  refine wpAnyM_pick (i := 24) (some 129) (v := ?vz22) rfl rfl (by kernel_rfl) (by kernel_rfl) (by kernel_rfl) (by kernel_rfl) (fun _ _ _ h => h) (Or.inl ⟨by rfl, ?hz22⟩) trivial ?rz22
  case hz22 => intro w hSw; go_simp; try with_reducible rfl
  try simp only [Act.put, List.setIfInBounds_toArray, List.set_cons_zero, List.set_cons_succ]
  refine wpAnyM_pick (i := 29) (some 134) (v := ?vz23) rfl rfl (by kernel_rfl) (by kernel_rfl) (by kernel_rfl) (by kernel_rfl) (fun _ _ _ h => h) (Or.inl ⟨by rfl, ?hz23⟩) trivial ?rz23
  case hz23 => intro w hSw; go_simp; try with_reducible rfl
  try simp only [Act.put, List.setIfInBounds_toArray, List.set_cons_zero, List.set_cons_succ]
  refine wpAnyM_one (i := 25) (by kernel_rfl) rfl (fun K hK => ?_)
  go_simp
  go_at_call 13
  refine (HL1.out _ _ _ _ H14.out).mono ?_
  rintro e w15 ⟨g15, c15, rfl, _, hg15, hc15, _, hb15⟩
  have H15 := hid (H14.out.on hb15)
  clear hb15 H14
  go_wp2_with fail
  refine hK.out _ _ (fun _ => trivial) ?_
  clear hK K
  try simp only [Act.put, List.setIfInBounds_toArray, List.set_cons_zero, List.set_cons_succ]
  refine wpAnyM_pick (i := 26) (some 131) (v := ?vz24) rfl rfl (by kernel_rfl) (by kernel_rfl) (by kernel_rfl) (by kernel_rfl) (fun _ _ _ h => h) (Or.inl ⟨by rfl, ?hz24⟩) trivial ?rz24
  case hz24 => intro w hSw; go_simp; try with_reducible rfl
  try simp only [Act.put, List.setIfInBounds_toArray, List.set_cons_zero, List.set_cons_succ]
  refine wpAnyM_pick (i := 27) (some 132) (v := ?vz25) rfl rfl (by kernel_rfl) (by kernel_rfl) (by kernel_rfl) (by kernel_rfl) (fun _ _ _ h => h) (Or.inl ⟨by rfl, ?hz25⟩) trivial ?rz25
  case hz25 => intro w hSw; go_simp; try with_reducible rfl
  try simp only [Act.put, List.setIfInBounds_toArray, List.set_cons_zero, List.set_cons_succ]
  refine wpAnyM_two (i := 28) (j := 30) (by kernel_rfl) rfl rfl (fun K hK => ?_) (fun K hK => ?_)
  · skip
    go_simp
    refine hK.out _ _ (fun _ => trivial) ?_
    clear hK K
    try simp only [Act.put, List.setIfInBounds_toArray, List.set_cons_zero, List.set_cons_succ]
    refine wpAnyM_one (i := 30) (by kernel_rfl) rfl (fun K hK => ?_)
    go_simp
    go_at_call 18
    refine (HBK.out _).mono ?_
    rintro e w16 ⟨rfl, hb16⟩
    have H16 := hid (H15.out.on hb16)
    have hc16 : w16.cell? ⟨g15, 1, none⟩ = some (.string t) := (hb16.cell (p := ⟨g15, 1, none⟩) hg15).trans hc15
    clear hb16 H15 hc15
    go_wp2_with fail
    refine hK.out _ _ (fun _ => trivial) ?_
    clear hK K
    try simp only [Act.put, List.setIfInBounds_toArray, List.set_cons_zero, List.set_cons_succ]
    refine wpAnyM_pick (i := 31) (some 136) (v := ?vz26) rfl rfl (by kernel_rfl) (by kernel_rfl) (by kernel_rfl) (by kernel_rfl) (fun _ _ _ h => h) (Or.inl ⟨by rfl, ?hz26⟩) trivial ?rz26
    case hz26 => intro w hSw; go_simp; try with_reducible rfl
    try simp only [Act.put, List.setIfInBounds_toArray, List.set_cons_zero, List.set_cons_succ]
    refine wpAnyM_pick (i := 32) (some 137) (v := ?vz27) rfl rfl (by kernel_rfl) (by kernel_rfl) (by kernel_rfl) (by kernel_rfl) (fun _ _ _ h => h) (Or.inl ⟨by rfl, ?hz27⟩) trivial ?rz27
    case hz27 => intro w hSw; go_simp; try with_reducible rfl
    try simp only [Act.put, List.setIfInBounds_toArray, List.set_cons_zero, List.set_cons_succ]
    refine wpAnyM_pick (i := 33) (some 4) (v := ?vz28) rfl rfl (by kernel_rfl) (by kernel_rfl) (by kernel_rfl) (by kernel_rfl) (fun _ _ _ h => h) (Or.inl ⟨by rfl, ?hz28⟩) trivial ?rz28
    case hz28 => intro w hSw; go_simp; try with_reducible rfl
    try simp only [Act.put, List.setIfInBounds_toArray, List.set_cons_zero, List.set_cons_succ]
    refine wpAnyM_done (by kernel_rfl) ?_ _
    try simp only [Act.put, List.setIfInBounds_toArray, List.set_cons_zero, List.set_cons_succ]
    go_wp2_with fail
    go_ret
    exact ⟨rfl, H16.out.below⟩
  · skip
    go_simp
    go_at_call 18
    refine (HBK.out _).mono ?_
    rintro e w16 ⟨rfl, hb16⟩
    have H16 := hid (H15.out.on hb16)
    have hc16 : w16.cell? ⟨g15, 1, none⟩ = some (.string t) := (hb16.cell (p := ⟨g15, 1, none⟩) hg15).trans hc15
    clear hb16 H15 hc15
    go_wp2_with fail
    refine hK.out _ _ (fun _ => trivial) ?_
    clear hK K
    try simp only [Act.put, List.setIfInBounds_toArray, List.set_cons_zero, List.set_cons_succ]
    refine wpAnyM_one (i := 28) (by kernel_rfl) rfl (fun K hK => ?_)
    go_simp
    refine hK.out _ _ (fun _ => trivial) ?_
    clear hK K
    try simp only [Act.put, List.setIfInBounds_toArray, List.set_cons_zero, List.set_cons_succ]
    refine wpAnyM_pick (i := 31) (some 136) (v := ?vz29) rfl rfl (by kernel_rfl) (by kernel_rfl) (by kernel_rfl) (by kernel_rfl) (fun _ _ _ h => h) (Or.inl ⟨by rfl, ?hz29⟩) trivial ?rz29
    case hz29 => intro w hSw; go_simp; try with_reducible rfl
    try simp only [Act.put, List.setIfInBounds_toArray, List.set_cons_zero, List.set_cons_succ]
    refine wpAnyM_pick (i := 32) (some 137) (v := ?vz30) rfl rfl (by kernel_rfl) (by kernel_rfl) (by kernel_rfl) (by kernel_rfl) (fun _ _ _ h => h) (Or.inl ⟨by rfl, ?hz30⟩) trivial ?rz30
    case hz30 => intro w hSw; go_simp; try with_reducible rfl
    try simp only [Act.put, List.setIfInBounds_toArray, List.set_cons_zero, List.set_cons_succ]
    refine wpAnyM_pick (i := 33) (some 4) (v := ?vz31) rfl rfl (by kernel_rfl) (by kernel_rfl) (by kernel_rfl) (by kernel_rfl) (fun _ _ _ h => h) (Or.inl ⟨by rfl, ?hz31⟩) trivial ?rz31
    case hz31 => intro w hSw; go_simp; try with_reducible rfl
    try simp only [Act.put, List.setIfInBounds_toArray, List.set_cons_zero, List.set_cons_succ]
    refine wpAnyM_done (by kernel_rfl) ?_ _
    try simp only [Act.put, List.setIfInBounds_toArray, List.set_cons_zero, List.set_cons_succ]
    go_wp2_with fail
    go_ret
    exact ⟨rfl, H16.out.below⟩

theorem diskNil_own : ownKnob Try.prog.godebug = none := by kernel_rfl
theorem diskNil_laidOut : laidOutB Try.prog = true := by kernel_rfl

set_option maxRecDepth 100000 in
theorem diskNil_lifted (os : Os) (started : os.Started) (H : Type) (enc : TypeId × Value → H) :
    ReturnsInHanded {} Try.checked os 7 .any (Rows.diskNilSpec.pre6 enc Try.prog Try.f7 Rows.diskNilRow.domain false) (Rows.diskNilSpec.post enc Try.prog Try.f7 false true false false) := by
  refine returnsInHanded_of_change_sized (C := Try.checked) diskNil_own started (by kernel_rfl) Try.func7
    (ChangeSpec.witness6 (enc := enc) (C := Try.checked) false ⟨#[], #[.int .i64 0, .string ByteArray.empty], []⟩ 8 (by kernel_rfl) (by kernel_rfl) (by kernel_rfl) (by kernel_rfl)) ?_
  intro W base args ds gs before hval0 hW hcnd hsz0 _
  have hsz : (DataW.weightsEach Try.prog (Try.f7.params.toList ++ Rows.diskNilSpec.plain.varTypes Try.prog) (ds ++ gs)).all (· ≤ reachBytes) = true := hsz0
  have hval : ∀ (j : Nat) t v, Try.f7.params[j]? = some t → args[j]? = some v → Value.okWide Try.prog W .any base t v := hval0
  have hW' := hW
  obtain ⟨p, q, hA0, hV, rfl, hfz, hnd⟩ := hW
  have hA : DataW.TrodAll enc Try.prog W 0 (fun _ => true) true Try.f7.params.toList args.toList ds p := hA0
  rw [Try.params7] at hA hval hsz
  obtain ⟨v0, vs0, d0, ds0, p0, q0, hargs, rfl, rfl, h0, r0⟩ := trodAll_cons hA
  obtain ⟨v1, vs1, d1, ds1, p1, q1, rfl, rfl, rfl, h1, r1⟩ := trodAll_cons r0
  obtain ⟨rfl, rfl, rfl⟩ := trodAll_nil r1
  obtain rfl : args = #[v0, v1] := by cases args; simp_all
  obtain ⟨rfl, rfl⟩ := trodVars_none hV
  have k0 := h0
  have lt0 : ∀ x ∈ p0, x.block < W.heap.size := by obtain ⟨m, hm⟩ := k0; exact DataW.trod_lt m _ _ _ hm
  have k1 := h1
  have lt1 : ∀ x ∈ p1, x.block < W.heap.size := by obtain ⟨m, hm⟩ := k1; exact DataW.trod_lt m _ _ _ hm
  obtain ⟨a0, rfl, rfl, rfl, w0⟩ := open_int Try.underlying3 (hval 0 3 v0 rfl rfl) h0
  obtain ⟨a1, rfl, rfl, rfl, w1⟩ := open_string Try.underlying9 (hval 1 9 v1 rfl rfl) h1
  have z1 : a1.size ≤ reachBytes := by have := sized_string hsz (j := 1) (t := 9) rfl rfl; simpa using this
  clear hA0 hval0
  refine (diskNil_walk a0 a1 w0 z1 W).mono fun e W' ⟨he, bel⟩ => ?_
  subst he
  exact ⟨_, rfl, _, _, _, [], _, [], hW', trodAll_mk1 (shut_bool Try.underlying4 _), (trodAll_cons_mk (Below.trod diskNil_laidOut (by kernel_rfl) (of_decide_eq_true (by kernel_rfl)) k0 bel lt0) (trodAll_cons_mk (Below.trod diskNil_laidOut (by kernel_rfl) (of_decide_eq_true (by kernel_rfl)) k1 bel lt1) trodAll_mk0)), rfl, bel.frame _, fun h => by cases h⟩

theorem diskNil_holds : Rows.DiskNilSaid :=
  OpenClaim.holds_of_wide 7 Try.f7 rfl rfl rfl rfl rfl rfl rfl ⟨rfl, rfl, rfl, rfl, rfl⟩ rfl rfl rfl rfl rfl (by kernel_rfl) Try.func7 (by kernel_rfl)
    (of_decide_eq_true (by kernel_rfl)) (by unfold Func.isWrapper; first | (rw [if_pos (by decide +kernel)]; kernel_rfl) | (rw [if_neg (by decide +kernel)]; exact ⟨rfl, rfl⟩))
    (fun os started H enc _ => diskNil_lifted os started H enc)

#print axioms diskNil_holds

end Go.Proofs.Ytjmkhcldcpdmoaa
