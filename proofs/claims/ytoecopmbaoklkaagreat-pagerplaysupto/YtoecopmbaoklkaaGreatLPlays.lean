/-
  PagerPlays: any calls, one behind the other, on both pagers, with any room: every answer, what is changed, what is held and in which order, how often the disk was read, and what lies on it, are the same. Condition: the second form (what comes in is of bulk at most 1048576).
-/
import Derived.Test.YtoecopmbaoklkaaGreatRows
import Derived.Test.YtoecopmbaoklkaaGreatQp
import Derived.ProofKit
import Derived.OpenShut
import Derived.ShutString
import Derived.ChangeOld
import Derived.Below
import Derived.SizedLaws
import Derived.Lib.SmallJoins
import Derived.JoinedCond
import Derived.Deep.CondSized
namespace Go.Proofs.YtoecopmbaoklkaaGreat
open Go.ChangeShapes Go.WideShapes Go.ChangeAt Go.RowKit Go.Joins
open Go.ChangeMaps (open_string shut_string)
set_option linter.unusedVariables false
set_option linter.unusedSimpArgs false
set_option maxRecDepth 100000

/-- both pagers are made -/
theorem tz_new {w w1 w2 w3 w4 : World} {k k2 q r : Nat} {S' : Nat → Prop} (hr : 1 ≤ r ∧ r ≤ 1024) (hb1 : Below w.heap.size w w1) (hd : Dk w2 (Bt w1.heap.size w2.heap.size) k (nw 70)) (hb2 : Below w1.heap.size w1 w2) (hr3 : Rk w3 (Bt w2.heap.size w3.heap.size) k2 (nw 70)) (hb3 : Below w2.heap.size w2 w3) (hp : Pk w4 S' k q (pw (nw 70) r)) (hg : Grows (Bt w1.heap.size w2.heap.size) S' w3) (hb4 : Below w3.heap.size w3 w4) :
    Tz w (w4.alloc (.cells #[.pointer (some ⟨k2, 0, none⟩), .int .i64 (r : Nat), .slice none 0 0, .slice none 0 0, .int .i64 0] 37)) k q (pw (nw 70) r) k2 w4.heap.size (pw (nw 70) r) := by
  obtain ⟨W, hW⟩ : ∃ W, w4.alloc (.cells #[.pointer (some ⟨k2, 0, none⟩), .int .i64 (r : Nat), .slice none 0 0, .slice none 0 0, .int .i64 0] 37) = W := ⟨_, rfl⟩
  have hb5 : Below w4.heap.size w4 W := by rw [← hW]; exact (Below.refl _ _).alloc (Nat.le_refl _) _
  have bW : Blk W w4.heap.size #[.pointer (some ⟨k2, 0, none⟩), .int .i64 (r : Nat), .slice none 0 0, .slice none 0 0, .int .i64 0] 37 := by rw [← hW]; exact Blk.made _ _ _
  have hsz : W.heap.size = w4.heap.size + 1 := by rw [← hW]; exact Array.size_push ..
  rw [hW]
  have s1 := hb1.size
  have s2 := hb2.size
  have s3 := hb3.size
  have s4 := hb4.size
  have hr5 : Rk W (Bt w2.heap.size w3.heap.size) k2 (nw 70) := (hr3.on hb4).on hb5
  refine ⟨S', fun j => Bt w2.heap.size w3.heap.size j ∨ j = w4.heap.size, hp.on hb5, ⟨Bt w2.heap.size w3.heap.size, fun j => j = w4.heap.size, fun j => Iff.rfl, fun j hj e => ?_, hr5, ⟨fun j e => ?_, rfl, .slice none 0 0, .slice none 0 0, bW, World.ownsRow_nil _ _ _ _, World.ownsRow_nil _ _ _ _, fun g e => ?_, fun g e => ?_⟩⟩, fun j hj hj2 => ?_, fun j hj => ?_, fun j hj => ?_, ?_⟩
  · have := hj.2; omega
  · subst e; omega
  · simp [Value.ownBlock] at e
  · simp [Value.ownBlock] at e
  · rcases hg j hj with h' | h'
    · rcases hj2 with h2 | h2
      · have := h'.2; have := h2.1; omega
      · have := h'.2; omega
    · rcases hj2 with h2 | h2
      · have := h2.2; omega
      · have := hp.lt j hj; omega
  · rcases hg j hj with h' | h'
    · have := h'.1; omega
    · omega
  · rcases hj with h2 | h2
    · have := h2.1; omega
    · omega
  · exact ((hb1.trans (hb2.mono s1)).trans (hb3.mono (Nat.le_trans s1 s2))).trans ((hb4.trans (hb5.mono s4)).mono (Nat.le_trans (Nat.le_trans s1 s2) s3))

set_option maxHeartbeats 8000000 in
theorem pagerPlays_walk (a0 : Int) (v1 : Value) (L1 : List Ac) (w0' : (Lit.int IntKind.i64 a0).wf = true) (w : World) (hl : LiesA w v1 L1) (hz : L1.length ≤ 1048576) :
    Calls Tryz.prog 3 #[.int .i64 a0, v1] w fun e w' => e = .returned (.bool true) ∧ Below w.heap.size w w' := by
  have hwk := wakes_any w
  have HNE : Hid (∀ w1, Calls Tryz.prog 5 #[.int .i64 70] w1 fun e w' => ∃ k, e = .returned (.tuple #[.pointer (some ⟨k, 0, none⟩), .int .i64 0]) ∧ Dk w' (Bt w1.heap.size w'.heap.size) k (nw 70) ∧ Below w1.heap.size w1 w') := fun w1 => new_any 70 (by decide) (by decide) w1
  have HRN : Hid (∀ w1, Calls Tryz.prog 6 #[.int .i64 70] w1 fun e w' => ∃ k, e = .returned (.pointer (some ⟨k, 0, none⟩)) ∧ Rk w' (Bt w1.heap.size w'.heap.size) k (nw 70) ∧ Below w1.heap.size w1 w') := fun w1 => rNew_any 70 (by decide) (by decide) w1
  obtain ⟨va, vc, e1⟩ := hl.form
  subst e1
  have HL := hid hl
  by_cases hr : 1 ≤ a0 ∧ a0 ≤ 1024
  case neg =>
    have HPN : Hid (∀ w1 k, _) := fun w1 k => pnew_no k a0 hr w1
    have ht : (decide (a0 < 1) || decide (1024 < a0)) = true := by simp; omega
    generalize L1.length = n at *
    rcases (by omega : a0 < 1 ∨ (¬ a0 < 1 ∧ 1024 < a0)) with h1 | ⟨h1, h2⟩
    · clear hr ht HL hl
      go_enter Tryz.func3, Tryz.ntmps3
      go_wp2_with (first
        | (go_at_call 4; refine hwk.mono ?_; clear hwk; rintro e w1 ⟨rfl, hb1⟩; have HB1 := hid hb1; clear hb1)
        | (go_at_call 5; refine (HNE.out _).mono ?_; clear HNE; rintro e w2 ⟨k, rfl, _, hb2⟩; have HB2 := hid hb2; clear hb2)
        | (go_at_call 6; refine (HRN.out _).mono ?_; clear HRN; rintro e w3 ⟨k2, rfl, _, hb3⟩; have HB3 := hid hb3; clear hb3)
        | (go_at_call 7; refine (HPN.out _ _).mono ?_; clear HPN; rintro e w4 ⟨rfl, rfl⟩))
      go_ret
      exact ⟨rfl, (HB1.out.trans (HB2.out.mono HB1.out.size)).trans (HB3.out.mono (Nat.le_trans HB1.out.size HB2.out.size))⟩
    · clear hr ht HL hl
      go_enter Tryz.func3, Tryz.ntmps3
      go_wp2_with (first
        | (go_at_call 4; refine hwk.mono ?_; clear hwk; rintro e w1 ⟨rfl, hb1⟩; have HB1 := hid hb1; clear hb1)
        | (go_at_call 5; refine (HNE.out _).mono ?_; clear HNE; rintro e w2 ⟨k, rfl, _, hb2⟩; have HB2 := hid hb2; clear hb2)
        | (go_at_call 6; refine (HRN.out _).mono ?_; clear HRN; rintro e w3 ⟨k2, rfl, _, hb3⟩; have HB3 := hid hb3; clear hb3)
        | (go_at_call 7; refine (HPN.out _ _).mono ?_; clear HPN; rintro e w4 ⟨rfl, rfl⟩))
      go_ret
      exact ⟨rfl, (HB1.out.trans (HB2.out.mono HB1.out.size)).trans (HB3.out.mono (Nat.le_trans HB1.out.size HB2.out.size))⟩
  obtain ⟨r, rfl⟩ : ∃ r : Nat, a0 = (r : Int) := ⟨a0.toNat, by omega⟩
  have hrr : 1 ≤ r ∧ r ≤ 1024 := by omega
  have HPN : Hid (∀ w1 S k, Dk w1 S k (nw 70) → Calls Tryz.prog 7 #[.pointer (some ⟨k, 0, none⟩), .int .i64 (r : Nat)] w1 fun e w' => ∃ q, e = .returned (.tuple #[.pointer (some ⟨q, 0, none⟩), .int .i64 0]) ∧ (∃ S', Pk w' S' k q (pw (nw 70) r) ∧ Grows S S' w1) ∧ Below w1.heap.size w1 w') := fun w1 S k hd => pnew_any S k (nw 70) r hrr w1 hd
  have HRR := hid hrr
  have HOK0 : Hid ((pw (nw 70) r).Ok 0) := pw_ok (nw_ok (by decide) (by decide)) hrr
  have t1 : ¬ (r : Int) < 1 := by omega
  have t2 : ¬ (1024 : Int) < (r : Int) := by omega
  obtain ⟨n, hn⟩ : ∃ n, L1.length = n := ⟨_, rfl⟩
  have HN := hid hn
  rw [hn] at hz ⊢
  clear hr hrr hl hn
  rw [HN.out] at HL
  go_enter Tryz.func3, Tryz.ntmps3
  go_wp2_with (first
    | (go_at_call 4; refine hwk.mono ?_; clear hwk; rintro e w1 ⟨rfl, hb1⟩; have HB1 := hid hb1; clear hb1)
    | (go_at_call 5; refine (HNE.out _).mono ?_; clear HNE; rintro e w2 ⟨k, rfl, hd2, hb2⟩; have HD2 := hid hd2; have HB2 := hid hb2; clear hb2 hd2)
    | (go_at_call 6; refine (HRN.out _).mono ?_; clear HRN; rintro e w3 ⟨k2, rfl, hd3, hb3⟩; have HD3 := hid hd3; have HB3 := hid hb3; clear hb3 hd3)
    | (go_at_call 7; refine (HPN.out _ _ _ (HD2.out.on HB3.out)).mono ?_; clear HPN; rintro e w4 ⟨q, rfl, ⟨S', hp4, hg4⟩, hb4⟩; have HTZ := hid (tz_new HRR.out HB1.out HD2.out HB2.out HD3.out HB3.out hp4 hg4 hb4); clear hp4 hg4 hb4 HD2 HB2 HD3 HB3 HB1))
  obtain ⟨q2, hq2⟩ : ∃ q2, w4.heap.size = q2 := ⟨_, rfl⟩
  obtain ⟨W, hW⟩ : ∃ W, w4.alloc (.cells #[.pointer (some ⟨k2, 0, none⟩), .int .i64 (r : Nat), .slice none 0 0, .slice none 0 0, .int .i64 0] 37) = W := ⟨_, rfl⟩
  rw [hW, hq2] at HTZ
  try simp only [hq2]
  try rw [hW]
  clear hW hq2 HRR
  have HLN : Hid (∀ w1 p q2, Tz w w1 k q p k2 q2 p → LiesA w1 (.slice va n vc) L1) := fun w1 p q2 h => HL.out.on h.below
  go_loopw [51] (fun i wr => ∃ j : Nat, j ≤ n ∧ i = .int .i64 (j : Nat) ∧ ∃ p, Hid (p.Ok (2 * j)) ∧ Hid (p.d.lg.length ≤ 5000 * j) ∧ Hid (Tz w wr k q p k2 q2 p)) (fun i _ => n - (intOf i).toNat)
  case atStart => exact ⟨0, Nat.zero_le _, rfl, _, HOK0, Nat.le_refl _, HTZ⟩
  case round =>
    obtain ⟨j, hj, rfl, p, HOK, HLG, HT⟩ := hrel
    clear HTZ HOK0
    by_cases hjn : j < n
    · have hji : (j : Int) < (n : Int) := by omega
      obtain ⟨a, ha⟩ : ∃ a, L1[j]? = some a := ⟨_, List.getElem?_eq_getElem (by rw [HN.out]; exact hjn)⟩
      obtain ⟨b, off, hab, _, c0, c1, c2, hap, has⟩ := (HLN.out _ _ _ HT.out).at ha
      subst hab
      have HTd : Hid (Tz w wr.drew k q p k2 q2 p) := HT.out.on ((Below.refl _ _).drew)
      have d0 : wr.drew.cell? ⟨b, off + j * 3, none⟩ = some (.int .i64 a.kd) := c0
      have d1 : wr.drew.cell? ⟨b, off + j * 3 + 1, none⟩ = some (.int .i64 a.pl) := c1
      have d2 : wr.drew.cell? ⟨b, off + j * 3 + 2, none⟩ = some (.string a.tx) := c2
      have HDO : Hid (Calls Tryz.prog 8 #[.pointer (some ⟨k, 0, none⟩), .pointer (some ⟨q, 0, none⟩), .pointer (some ⟨q2, 0, none⟩), .agg #[.int .i64 a.kd, .int .i64 a.pl, .string a.tx]] wr.drew (Did w k q k2 q2 p (2 * j))) := does_any (2 * j) (by omega) a (by unfold I64; omega) has HOK.out (by have := HLG.out; unfold Fit; omega) HTd.out
      have HDI : Hid (∀ w1 p LL nn, p.Ok (2 * (j + 1)) → p.ch.map Pg.pl = LL → LL.length = nn → Tz w w1 k q p k2 q2 p → Calls Tryz.prog 10 #[.pointer (some ⟨q, 0, none⟩)] w1 fun e w' => ∃ a c, e = .returned (.slice a nn c) ∧ RowI w' w1.heap.size (.slice a nn c) LL ∧ Below w1.heap.size w1 w') := fun w1 p LL nn ho h1 h2 h => (dirty_tz ho h).mono fun e w' hh => by
        obtain ⟨v', e1, r, b⟩ := hh
        obtain ⟨a, c, e2⟩ := r.form
        subst e2
        subst h1
        subst h2
        exact ⟨a, c, e1, r, b⟩
      have HDR : Hid (∀ w1 p LL nn, p.Ok (2 * (j + 1)) → p.ch.map Pg.pl = LL → LL.length = nn → Tz w w1 k q p k2 q2 p → Calls Tryz.prog 11 #[.pointer (some ⟨q2, 0, none⟩)] w1 fun e w' => ∃ a c, e = .returned (.slice a nn c) ∧ RowI w' w1.heap.size (.slice a nn c) LL ∧ Below w1.heap.size w1 w') := fun w1 p LL nn ho h1 h2 h => (rDirty_tz ho h).mono fun e w' hh => by
        obtain ⟨v', e1, r, b⟩ := hh
        obtain ⟨a, c, e2⟩ := r.form
        subst e2
        subst h1
        subst h2
        exact ⟨a, c, e1, r, b⟩
      have HHE : Hid (∀ w1 p LL nn, p.Ok (2 * (j + 1)) → p.hs.map Hp.pl = LL → LL.length = nn → Tz w w1 k q p k2 q2 p → Calls Tryz.prog 12 #[.pointer (some ⟨q, 0, none⟩)] w1 fun e w' => ∃ a c, e = .returned (.slice a nn c) ∧ RowI w' w1.heap.size (.slice a nn c) LL ∧ Below w1.heap.size w1 w') := fun w1 p LL nn ho h1 h2 h => (held_tz ho h).mono fun e w' hh => by
        obtain ⟨v', e1, r, b⟩ := hh
        obtain ⟨a, c, e2⟩ := r.form
        subst e2
        subst h1
        subst h2
        exact ⟨a, c, e1, r, b⟩
      have HHR : Hid (∀ w1 p LL nn, p.Ok (2 * (j + 1)) → p.hs.map Hp.pl = LL → LL.length = nn → Tz w w1 k q p k2 q2 p → Calls Tryz.prog 13 #[.pointer (some ⟨q2, 0, none⟩)] w1 fun e w' => ∃ a c, e = .returned (.slice a nn c) ∧ RowI w' w1.heap.size (.slice a nn c) LL ∧ Below w1.heap.size w1 w') := fun w1 p LL nn ho h1 h2 h => (rHeld_tz ho h).mono fun e w' hh => by
        obtain ⟨v', e1, r, b⟩ := hh
        obtain ⟨a, c, e2⟩ := r.form
        subst e2
        subst h1
        subst h2
        exact ⟨a, c, e1, r, b⟩
      have HSI : Hid (∀ (w1 : World) B B' u v L, RowI w1 B u L → RowI w1 B' v L → L.length ≤ 100000 → Calls Tryz.prog 9 #[u, v] w1 fun e w' => e = .returned (.bool true) ∧ Below w1.heap.size w1 w') := fun w1 B B' u v L hu hv hl => sameInts_self w1 B B' u v L hu hv hl
      have HRE : Hid (∀ w1 p, Tz w w1 k q p k2 q2 p → Calls Tryz.prog 14 #[.pointer (some ⟨q, 0, none⟩)] w1 fun e w' => e = .returned (.int .i64 (p.rd : Nat)) ∧ w1 = w') := fun w1 p h => reads_tz h
      obtain ⟨ak, al, atx⟩ := a
      simp only at c0 c1 c2 d0 d1 d2 HDO
      clear ha hap has c0 c1 c2 HT HTd HOK
      go_wp2_with fail
      refine wp_region_d (fun _ => True) (fun _ => false) (by kernel_rfl) ?_
      refine wpAnyM_late (i := 0) (some 54) (v := ?vz1) rfl rfl (by kernel_rfl) (by kernel_rfl) (by kernel_rfl) (by kernel_rfl) (fun _ _ _ h => h) (Or.inl ⟨by rfl, ?hz1⟩) ?rz1
      case hz1 => intro w hSw; go_simp; try with_reducible rfl
      try simp only [Act.put, List.setIfInBounds_toArray, List.set_cons_zero, List.set_cons_succ]
      refine wpAnyM_late (i := 1) (some 55) (v := ?vz2) rfl rfl (by kernel_rfl) (by kernel_rfl) (by kernel_rfl) (by kernel_rfl) (fun _ _ _ h => h) (Or.inl ⟨by rfl, ?hz2⟩) ?rz2
      case hz2 => intro w hSw; go_simp; try with_reducible rfl
      try simp only [Act.put, List.setIfInBounds_toArray, List.set_cons_zero, List.set_cons_succ]
      refine wpAnyM_late (i := 2) (some 56) (v := ?vz3) rfl rfl (by kernel_rfl) (by kernel_rfl) (by kernel_rfl) (by kernel_rfl) (fun _ _ _ h => h) (Or.inl ⟨by rfl, ?hz3⟩) ?rz3
      case hz3 => intro w hSw; go_simp; try with_reducible rfl
      try simp only [Act.put, List.setIfInBounds_toArray, List.set_cons_zero, List.set_cons_succ]
      refine wpAnyM_late (i := 3) (some 57) (v := ?vz4) rfl rfl (by kernel_rfl) (by kernel_rfl) (by kernel_rfl) (by kernel_rfl) (fun _ _ _ h => h) (Or.inl ⟨by rfl, ?hz4⟩) ?rz4
      case hz4 => intro w hSw; go_simp; try with_reducible rfl
      try simp only [Act.put, List.setIfInBounds_toArray, List.set_cons_zero, List.set_cons_succ]
      refine wpAnyM_late (i := 4) (some 58) (v := ?vz5) rfl rfl (by kernel_rfl) (by kernel_rfl) (by kernel_rfl) (by kernel_rfl) (fun _ _ _ h => h) (Or.inl ⟨by rfl, ?hz5⟩) ?rz5
      case hz5 => intro w hSw; go_simp; try with_reducible rfl
      try simp only [Act.put, List.setIfInBounds_toArray, List.set_cons_zero, List.set_cons_succ]
      refine wpAnyM_late (i := 5) (some 59) (v := ?vz6) rfl rfl (by kernel_rfl) (by kernel_rfl) (by kernel_rfl) (by kernel_rfl) (fun _ _ _ h => h) (Or.inl ⟨by rfl, ?hz6⟩) ?rz6
      case hz6 => intro w hSw; go_simp; try with_reducible rfl
      try simp only [Act.put, List.setIfInBounds_toArray, List.set_cons_zero, List.set_cons_succ]
      refine wpAnyM_one (i := 6) (by kernel_rfl) rfl (fun K hK => ?_)
      go_simp
      refine hK.out _ _ (fun h => absurd h (by decide)) ?_
      clear hK K
      try simp only [Act.put, List.setIfInBounds_toArray, List.set_cons_zero, List.set_cons_succ]
      refine wpAnyM_one (i := 7) (by kernel_rfl) rfl (fun K hK => ?_)
      try (rw [if_pos (by rfl)])
      go_simp
      go_at_call 8
      refine HDO.out.mono ?_
      clear HDO
      rintro e x1 ⟨rfl, p', hok8, hlg8, ht8⟩
      have HOK8 : Hid (p'.Ok (2 * (j + 1))) := hok8
      have HLG8 : Hid (p'.d.lg.length ≤ 5000 * (j + 1)) := by have := HLG.out; show _ ≤ _; omega
      have HT8 := hid ht8
      obtain ⟨LC, hLC⟩ : ∃ L, p'.ch.map Pg.pl = L := ⟨_, rfl⟩
      obtain ⟨nc, hnc⟩ : ∃ n, LC.length = n := ⟨_, rfl⟩
      obtain ⟨LH, hLH⟩ : ∃ L, p'.hs.map Hp.pl = L := ⟨_, rfl⟩
      obtain ⟨nh, hnh⟩ : ∃ n, LH.length = n := ⟨_, rfl⟩
      have HCL : Hid (LC.length ≤ 100000) := by show _ ≤ _; rw [← hLC, List.length_map]; exact Nat.le_trans hok8.few (by decide)
      have HHL : Hid (LH.length ≤ 100000) := by show _ ≤ _; rw [← hLH, List.length_map]; exact Nat.le_trans hok8.len (Nat.le_trans hok8.room.2 (by decide))
      have HDI8 := hid (fun w1 => HDI.out w1 p' LC nc HOK8.out hLC hnc)
      have HDR8 := hid (fun w1 => HDR.out w1 p' LC nc HOK8.out hLC hnc)
      have HHE8 := hid (fun w1 => HHE.out w1 p' LH nh HOK8.out hLH hnh)
      have HHR8 := hid (fun w1 => HHR.out w1 p' LH nh HOK8.out hLH hnh)
      clear HDI HDR HHE HHR hLC hnc hLH hnh
      clear ht8 hok8 hlg8 HLG d0 d1 d2
      try go_simp
      refine hK.out _ _ (fun h => absurd h (by decide)) ?_
      clear hK K
      try simp only [Act.put, List.setIfInBounds_toArray, List.set_cons_zero, List.set_cons_succ]
      refine wpAnyM_late (i := 8) (some 62) (v := ?vz7) rfl rfl (by kernel_rfl) (by kernel_rfl) (by kernel_rfl) (by kernel_rfl) (fun _ _ _ h => h) (Or.inl ⟨by rfl, ?hz7⟩) ?rz7
      case hz7 => intro w hSw; go_simp; try with_reducible rfl
      try simp only [Act.put, List.setIfInBounds_toArray, List.set_cons_zero, List.set_cons_succ]
      refine wpAnyM_late (i := 9) (some 63) (v := ?vz8) rfl rfl (by kernel_rfl) (by kernel_rfl) (by kernel_rfl) (by kernel_rfl) (fun _ _ _ h => h) (Or.inl ⟨by rfl, ?hz8⟩) ?rz8
      case hz8 => intro w hSw; go_simp; try with_reducible rfl
      try simp only [Act.put, List.setIfInBounds_toArray, List.set_cons_zero, List.set_cons_succ]
      refine wpAnyM_late (i := 10) (some 64) (v := ?vz9) rfl rfl (by kernel_rfl) (by kernel_rfl) (by kernel_rfl) (by kernel_rfl) (fun _ _ _ h => h) (Or.inl ⟨by rfl, ?hz9⟩) ?rz9
      case hz9 => intro w hSw; go_simp; try with_reducible rfl
      try simp only [Act.put, List.setIfInBounds_toArray, List.set_cons_zero, List.set_cons_succ]
      refine wpAnyM_late (i := 12) (some 66) (v := ?vz10) rfl rfl (by kernel_rfl) (by kernel_rfl) (by kernel_rfl) (by kernel_rfl) (fun _ _ _ h => h) (Or.inl ⟨by rfl, ?hz10⟩) ?rz10
      case hz10 => intro w hSw; go_simp; try with_reducible rfl
      try simp only [Act.put, List.setIfInBounds_toArray, List.set_cons_zero, List.set_cons_succ]
      refine wpAnyM_one (i := 11) (by kernel_rfl) rfl (fun K hK => ?_)
      try (rw [if_pos (by rfl)])
      go_simp
      go_at_call 10
      refine (HDI8.out _ HT8.out).mono ?_
      clear HDI8
      rintro e x2 ⟨ax2, cx2, rfl, hr, hb⟩
      have HRx2 := hid hr
      have HTx2 := hid (HT8.out.on hb)
      clear hr hb
      try go_simp
      refine hK.out _ _ (fun h => absurd h (by decide)) ?_
      clear hK K
      try simp only [Act.put, List.setIfInBounds_toArray, List.set_cons_zero, List.set_cons_succ]
      refine wpAnyM_one (i := 13) (by kernel_rfl) rfl (fun K hK => ?_)
      try (rw [if_pos (by rfl)])
      go_simp
      go_at_call 11
      refine (HDR8.out _ HTx2.out).mono ?_
      clear HDR8
      rintro e x3 ⟨ax3, cx3, rfl, hr, hb⟩
      have HRx3 := hid hr
      have HTx3 := hid (HTx2.out.on hb)
      have HRx22 := hid (HRx2.out.on hb)
      clear hr hb
      try go_simp
      refine hK.out _ _ (fun h => absurd h (by decide)) ?_
      clear hK K
      try simp only [Act.put, List.setIfInBounds_toArray, List.set_cons_zero, List.set_cons_succ]
      refine wpAnyM_one (i := 14) (by kernel_rfl) rfl (fun K hK => ?_)
      try (rw [if_pos (by rfl)])
      go_simp
      go_at_call 9
      refine (HSI.out _ _ _ _ _ _ HRx22.out HRx3.out HCL.out).mono ?_
      rintro e x4 ⟨rfl, hb⟩
      have HTx4 := hid (HTx3.out.on hb)
      clear hb HRx22 HRx3 HRx2 HTx2 HTx3
      try go_simp
      refine hK.out _ _ (fun h => absurd h (by decide)) ?_
      clear hK K
      try simp only [Act.put, List.setIfInBounds_toArray, List.set_cons_zero, List.set_cons_succ]
      refine wpAnyM_late (i := 15) (some 69) (v := ?vz11) rfl rfl (by kernel_rfl) (by kernel_rfl) (by kernel_rfl) (by kernel_rfl) (fun _ _ _ h => h) (Or.inl ⟨by rfl, ?hz11⟩) ?rz11
      case hz11 => intro w hSw; go_simp; try with_reducible rfl
      try simp only [Act.put, List.setIfInBounds_toArray, List.set_cons_zero, List.set_cons_succ]
      refine wpAnyM_late (i := 16) (some 70) (v := ?vz12) rfl rfl (by kernel_rfl) (by kernel_rfl) (by kernel_rfl) (by kernel_rfl) (fun _ _ _ h => h) (Or.inl ⟨by rfl, ?hz12⟩) ?rz12
      case hz12 => intro w hSw; go_simp; try with_reducible rfl
      try simp only [Act.put, List.setIfInBounds_toArray, List.set_cons_zero, List.set_cons_succ]
      refine wpAnyM_late (i := 17) (some 71) (v := ?vz13) rfl rfl (by kernel_rfl) (by kernel_rfl) (by kernel_rfl) (by kernel_rfl) (fun _ _ _ h => h) (Or.inl ⟨by rfl, ?hz13⟩) ?rz13
      case hz13 => intro w hSw; go_simp; try with_reducible rfl
      try simp only [Act.put, List.setIfInBounds_toArray, List.set_cons_zero, List.set_cons_succ]
      refine wpAnyM_late (i := 18) (some 72) (v := ?vz14) rfl rfl (by kernel_rfl) (by kernel_rfl) (by kernel_rfl) (by kernel_rfl) (fun _ _ _ h => h) (Or.inl ⟨by rfl, ?hz14⟩) ?rz14
      case hz14 => intro w hSw; go_simp; try with_reducible rfl
      try simp only [Act.put, List.setIfInBounds_toArray, List.set_cons_zero, List.set_cons_succ]
      refine wpAnyM_late (i := 20) (some 74) (v := ?vz15) rfl rfl (by kernel_rfl) (by kernel_rfl) (by kernel_rfl) (by kernel_rfl) (fun _ _ _ h => h) (Or.inl ⟨by rfl, ?hz15⟩) ?rz15
      case hz15 => intro w hSw; go_simp; try with_reducible rfl
      try simp only [Act.put, List.setIfInBounds_toArray, List.set_cons_zero, List.set_cons_succ]
      refine wpAnyM_one (i := 19) (by kernel_rfl) rfl (fun K hK => ?_)
      try (rw [if_pos (by rfl)])
      go_simp
      go_at_call 12
      refine (HHE8.out _ HTx4.out).mono ?_
      clear HHE8
      rintro e x5 ⟨ax5, cx5, rfl, hr, hb⟩
      have HRx5 := hid hr
      have HTx5 := hid (HTx4.out.on hb)
      clear hr hb
      try go_simp
      refine hK.out _ _ (fun h => absurd h (by decide)) ?_
      clear hK K
      try simp only [Act.put, List.setIfInBounds_toArray, List.set_cons_zero, List.set_cons_succ]
      refine wpAnyM_one (i := 21) (by kernel_rfl) rfl (fun K hK => ?_)
      try (rw [if_pos (by rfl)])
      go_simp
      go_at_call 13
      refine (HHR8.out _ HTx5.out).mono ?_
      clear HHR8
      rintro e x6 ⟨ax6, cx6, rfl, hr, hb⟩
      have HRx6 := hid hr
      have HTx6 := hid (HTx5.out.on hb)
      have HRx52 := hid (HRx5.out.on hb)
      clear hr hb
      try go_simp
      refine hK.out _ _ (fun h => absurd h (by decide)) ?_
      clear hK K
      try simp only [Act.put, List.setIfInBounds_toArray, List.set_cons_zero, List.set_cons_succ]
      refine wpAnyM_one (i := 22) (by kernel_rfl) rfl (fun K hK => ?_)
      try (rw [if_pos (by rfl)])
      go_simp
      go_at_call 9
      refine (HSI.out _ _ _ _ _ _ HRx52.out HRx6.out HHL.out).mono ?_
      rintro e x7 ⟨rfl, hb⟩
      have HT9 := hid (HTx6.out.on hb)
      clear hb HRx52 HRx6 HRx5 HTx5 HTx6 HTx4 HSI
      try go_simp
      refine hK.out _ _ (fun h => absurd h (by decide)) ?_
      clear hK K
      try simp only [Act.put, List.setIfInBounds_toArray, List.set_cons_zero, List.set_cons_succ]
      refine wpAnyM_late (i := 23) (some 77) (v := ?vz16) rfl rfl (by kernel_rfl) (by kernel_rfl) (by kernel_rfl) (by kernel_rfl) (fun _ _ _ h => h) (Or.inl ⟨by rfl, ?hz16⟩) ?rz16
      case hz16 => intro w hSw; go_simp; try with_reducible rfl
      try simp only [Act.put, List.setIfInBounds_toArray, List.set_cons_zero, List.set_cons_succ]
      refine wpAnyM_late (i := 24) (some 78) (v := ?vz17) rfl rfl (by kernel_rfl) (by kernel_rfl) (by kernel_rfl) (by kernel_rfl) (fun _ _ _ h => h) (Or.inl ⟨by rfl, ?hz17⟩) ?rz17
      case hz17 => intro w hSw; go_simp; try with_reducible rfl
      try simp only [Act.put, List.setIfInBounds_toArray, List.set_cons_zero, List.set_cons_succ]
      refine wpAnyM_late (i := 25) (some 79) (v := ?vz18) rfl rfl (by kernel_rfl) (by kernel_rfl) (by kernel_rfl) (by kernel_rfl) (fun _ _ _ h => h) (Or.inl ⟨by rfl, ?hz18⟩) ?rz18
      case hz18 => intro w hSw; go_simp; try with_reducible rfl
      try simp only [Act.put, List.setIfInBounds_toArray, List.set_cons_zero, List.set_cons_succ]
      refine wpAnyM_late (i := 26) (some 80) (v := ?vz19) rfl rfl (by kernel_rfl) (by kernel_rfl) (by kernel_rfl) (by kernel_rfl) (fun _ _ _ h => h) (Or.inl ⟨by rfl, ?hz19⟩) ?rz19
      case hz19 => intro w hSw; go_simp; try with_reducible rfl
      try simp only [Act.put, List.setIfInBounds_toArray, List.set_cons_zero, List.set_cons_succ]
      refine wpAnyM_late (i := 28) (some 82) (v := ?vz20) rfl rfl (by kernel_rfl) (by kernel_rfl) (by kernel_rfl) (by kernel_rfl) (fun _ _ _ h => h) (Or.inl ⟨by rfl, ?hz20⟩) ?rz20
      case hz20 => intro w hSw; go_simp; try with_reducible rfl
      try simp only [Act.put, List.setIfInBounds_toArray, List.set_cons_zero, List.set_cons_succ]
      refine wpAnyM_late (i := 29) (some 83) (v := ?vz21) rfl rfl (by kernel_rfl) (by kernel_rfl) (by kernel_rfl) (by kernel_rfl) (fun _ _ _ h => h) (Or.inl ⟨by rfl, ?hz21⟩) ?rz21
      case hz21 => intro w hSw; go_simp; try with_reducible rfl
      try simp only [Act.put, List.setIfInBounds_toArray, List.set_cons_zero, List.set_cons_succ]
      refine wpAnyM_late (i := 30) (some 84) (v := ?vz22) rfl rfl (by kernel_rfl) (by kernel_rfl) (by kernel_rfl) (by kernel_rfl) (fun _ _ _ h => h) (Or.inl ⟨by rfl, ?hz22⟩) ?rz22
      case hz22 => intro w hSw; go_simp; try with_reducible rfl
      try simp only [Act.put, List.setIfInBounds_toArray, List.set_cons_zero, List.set_cons_succ]
      have drd := HT9.out.rd
      have hnn : ((p'.rd : Int) != (p'.rd : Int)) = false := by simp
      refine wpAnyM_two (i := 27) (j := 31) (by kernel_rfl) rfl rfl (fun K hK => ?_) (fun K hK => ?_)
      · rw [if_pos (by rfl)]
        go_simp
        go_at_call 14
        refine (HRE.out _ _ HT9.out).mono ?_
        clear HRE
        rintro e x8 ⟨rfl, rfl⟩
        try go_simp
        refine hK.out _ _ (fun h => absurd h (by decide)) ?_
        clear hK K
        try simp only [Act.put, List.setIfInBounds_toArray, List.set_cons_zero, List.set_cons_succ]
        refine wpAnyM_one (i := 31) (by kernel_rfl) rfl (fun K hK => ?_)
        try (rw [if_pos (by rfl)])
        go_simp
        refine hK.out _ _ (fun h => absurd h (by decide)) ?_
        clear hK K
        try simp only [Act.put, List.setIfInBounds_toArray, List.set_cons_zero, List.set_cons_succ]
        refine wpAnyM_late (i := 32) (some 86) (v := ?vz23) rfl rfl (by kernel_rfl) (by kernel_rfl) (by kernel_rfl) (by kernel_rfl) (fun _ _ _ h => h) (Or.inl ⟨by rfl, ?hz23⟩) ?rz23
        case hz23 => intro w hSw; go_simp; try with_reducible rfl
        try simp only [Act.put, List.setIfInBounds_toArray, List.set_cons_zero, List.set_cons_succ]
        refine wpAnyM_late (i := 33) (some 87) (v := ?vz24) rfl rfl (by kernel_rfl) (by kernel_rfl) (by kernel_rfl) (by kernel_rfl) (fun _ _ _ h => h) (Or.inl ⟨by rfl, ?hz24⟩) ?rz24
        case hz24 => intro w hSw; go_simp; try with_reducible rfl
        try simp only [Act.put, List.setIfInBounds_toArray, List.set_cons_zero, List.set_cons_succ]
        refine wpAnyM_done (by kernel_rfl) ?_ _
        try simp only [Act.put, List.setIfInBounds_toArray, List.set_cons_zero, List.set_cons_succ]
        skip
        go_wp2_with fail
        go_roundw
        case rel => exact ⟨j + 1, by omega, by go_num, p', HOK8, HLG8, HT9⟩
        case measure => simp [intOf]; omega
      · rw [if_pos (by rfl)]
        go_simp
        refine hK.out _ _ (fun h => absurd h (by decide)) ?_
        clear hK K
        try simp only [Act.put, List.setIfInBounds_toArray, List.set_cons_zero, List.set_cons_succ]
        refine wpAnyM_one (i := 27) (by kernel_rfl) rfl (fun K hK => ?_)
        try (rw [if_pos (by rfl)])
        go_simp
        go_at_call 14
        refine (HRE.out _ _ HT9.out).mono ?_
        clear HRE
        rintro e x8 ⟨rfl, rfl⟩
        try go_simp
        refine hK.out _ _ (fun h => absurd h (by decide)) ?_
        clear hK K
        try simp only [Act.put, List.setIfInBounds_toArray, List.set_cons_zero, List.set_cons_succ]
        refine wpAnyM_late (i := 32) (some 86) (v := ?vz25) rfl rfl (by kernel_rfl) (by kernel_rfl) (by kernel_rfl) (by kernel_rfl) (fun _ _ _ h => h) (Or.inl ⟨by rfl, ?hz25⟩) ?rz25
        case hz25 => intro w hSw; go_simp; try with_reducible rfl
        try simp only [Act.put, List.setIfInBounds_toArray, List.set_cons_zero, List.set_cons_succ]
        refine wpAnyM_late (i := 33) (some 87) (v := ?vz26) rfl rfl (by kernel_rfl) (by kernel_rfl) (by kernel_rfl) (by kernel_rfl) (fun _ _ _ h => h) (Or.inl ⟨by rfl, ?hz26⟩) ?rz26
        case hz26 => intro w hSw; go_simp; try with_reducible rfl
        try simp only [Act.put, List.setIfInBounds_toArray, List.set_cons_zero, List.set_cons_succ]
        refine wpAnyM_done (by kernel_rfl) ?_ _
        try simp only [Act.put, List.setIfInBounds_toArray, List.set_cons_zero, List.set_cons_succ]
        skip
        go_wp2_with fail
        go_roundw
        case rel => exact ⟨j + 1, by omega, by go_num, p', HOK8, HLG8, HT9⟩
        case measure => simp [intOf]; omega
    · obtain rfl : j = n := by omega
      have hji : ¬ (j : Int) < (j : Int) := by omega
      obtain ⟨ba, bc, la, lc, r0, r1, rs, rl, hkl, hbl⟩ := HT.out.rows
      have HIM := hid (image_tz (HT.out.on ((Below.refl _ _).drew)))
      have HFI : Hid (Fit p.d.lg.length) := by have := HLG.out; show _ ≤ _; omega
      have HLO : Hid (∀ w1, Below wr.heap.size wr w1 → Calls Tryz.prog 18 #[.pointer (some ⟨k, 0, none⟩)] w1 fun e w' => ∃ v', e = .returned v' ∧ RowP w' w1.heap.size v' p.d.lg ∧ Below w1.heap.size w1 w') := fun w1 hb => log_tz (HT.out.on hb) HFI.out
      have HRS := hid rs
      have HRL := hid rl
      have HKC : Hid (∀ w1, Below wr.heap.size wr w1 → w1.cell? ⟨k2, 0, none⟩ = some (.slice ba p.d.bs.length bc) ∧ w1.cell? ⟨k2, 1, none⟩ = some (.slice la p.d.lg.length lc)) := fun w1 hb => ⟨(hb.cell (p := ⟨k2, 0, none⟩) hkl).trans r0, (hb.cell (p := ⟨k2, 1, none⟩) hkl).trans r1⟩
      have HBd := hid ((Below.refl wr.heap.size wr).drew)
      have HS0 := HKC.out _ HBd.out
      have HSS : Hid (∀ (w1 : World) B B' u v, RowS w1 B u p.d.bs → RowS w1 B' v p.d.bs → Calls Tryz.prog 15 #[u, v] w1 fun e w' => e = .returned (.bool true) ∧ Below w1.heap.size w1 w') := fun w1 B B' u v hu hv => same_self w1 B B' u v _ hu hv (by omega)
      have HSP : Hid (∀ (w1 : World) B B' u v, RowP w1 B u p.d.lg → RowP w1 B' v p.d.lg → Calls Tryz.prog 17 #[u, v] w1 fun e w' => e = .returned (.bool true) ∧ Below w1.heap.size w1 w') := fun w1 B B' u v hu hv => samePages_self w1 B B' u v _ hu hv HFI.out
      have HBW := hid HT.out.below
      generalize p.d.bs.length = nb at *
      generalize p.d.lg.length = nl at *
      clear rs rl r0 r1 hkl hbl HT HOK HLG
      go_wp2_with fail
      go_region_held3 (fun w' => w'.cell? ⟨k2, 0, none⟩ = some (.slice ba nb bc) ∧ w'.cell? ⟨k2, 1, none⟩ = some (.slice la nl lc)) (first | exact HS0 | exact HS1 | exact HS2 | exact HS3 | exact HS4)
        (first
          | (go_at_call 16; refine HIM.out.mono ?_; clear HIM; rintro e x1 ⟨y1, rfl, ri1, hb1⟩; have HB1 := hid (HBd.out.trans (hb1.mono HBd.out.size)); have HR1 := hid ri1; have HS1 := HKC.out _ HB1.out; obtain ⟨ya, yc, ey⟩ := ri1.form; subst ey; clear ri1 hb1)
          | (go_at_call 15; refine (HSS.out _ _ _ _ _ HR1.out (HRS.out.on HB1.out)).mono ?_; clear HSS; rintro e x2 ⟨rfl, hb2⟩; have HB2 := hid (HB1.out.trans (hb2.mono HB1.out.size)); have HS2 := HKC.out _ HB2.out; clear hb2 HR1)
          | (go_at_call 18; refine (HLO.out _ HB2.out).mono ?_; clear HLO; rintro e x3 ⟨y3, rfl, ri3, hb3⟩; have HB3 := hid (HB2.out.trans (hb3.mono HB2.out.size)); have HR3 := hid ri3; have HS3 := HKC.out _ HB3.out; obtain ⟨za, zc, ez⟩ := ri3.form; subst ez; clear ri3 hb3)
          | (go_at_call 17; refine (HSP.out _ _ _ _ _ HR3.out (HRL.out.on HB3.out)).mono ?_; clear HSP; rintro e x4 ⟨rfl, hb4⟩; have HB4 := hid (HB3.out.trans (hb4.mono HB3.out.size)); have HS4 := HKC.out _ HB4.out; clear hb4 HR3))
      clear HS0 HS1 HS2 HS3 HS4
      go_wp2_with fail
      go_ret
      exact ⟨rfl, HBW.out.trans (HB4.out.mono HBW.out.size)⟩

theorem bulk_one {H : Type} (d : DataW H) : 1 ≤ Rows.uptoBulk d := by
  cases d with
  | lit l => cases l <;> simp [Rows.uptoBulk]
  | nil => simp [Rows.uptoBulk]
  | ptr d => simp [Rows.uptoBulk]
  | slice elems spare => simp [Rows.uptoBulk]
  | agg parts => simp [Rows.uptoBulk]
  | iface t d => simp [Rows.uptoBulk]
  | map entries => simp [Rows.uptoBulk]
  | held h => simp [Rows.uptoBulk]
theorem bulk_len {H : Type} (l : List (DataW H)) : l.length ≤ Rows.uptoBulkAll l := by
  induction l with
  | nil => simp [Rows.uptoBulkAll]
  | cons x r ih => have := bulk_one x; simp only [Rows.uptoBulkAll, List.length_cons]; omega
theorem pagerPlays_own : ownKnob Tryz.prog.godebug = none := by kernel_rfl
theorem pagerPlays_laidOut : laidOutB Tryz.prog = true := by kernel_rfl

set_option maxRecDepth 100000 in
theorem pagerPlays_lifted (os : Os) (started : os.Started) (H : Type) (enc : TypeId × Value → H) (F : Stop.Interp) :
    ReturnsInHanded {} Tryz.checked os 3 .any ((Rows.OpenSpec.upto Rows.pagerPlaysSpec).pre6 enc Tryz.prog Tryz.f3 Rows.pagerPlaysUptoRow.domain false) (((Rows.OpenSpec.upto Rows.pagerPlaysSpec).at F).post enc Tryz.prog Tryz.f3 false true false false) := by
  refine returnsInHanded_of_cond_sized (C := Tryz.checked) (s := (Rows.OpenSpec.upto Rows.pagerPlaysSpec)) (k := Rows.uptoSmall) rfl pagerPlays_own started (by kernel_rfl) Tryz.func3
    (OpenSpec.witness (enc := enc) (C := Tryz.checked) (s := (Rows.OpenSpec.upto Rows.pagerPlaysSpec)) (k := Rows.uptoSmall) rfl false ⟨#[], #[.int .i64 0, .slice none 0 0], []⟩ 8 (by kernel_rfl) (by kernel_rfl) (by kernel_rfl)
      (x := ([.lit (.int .i64 0), .nil], [], [])) (by kernel_rfl) rfl (by kernel_rfl)) ?_
  intro W base args ds gs before hval0 hW hcnd hk hsz0 _
  have hsz : (DataW.weightsEach Tryz.prog (Tryz.f3.params.toList ++ Rows.pagerPlaysSpec.plain.varTypes Tryz.prog) (ds ++ gs)).all (· ≤ reachBytes) = true := hsz0
  have hval : ∀ (j : Nat) t v, Tryz.f3.params[j]? = some t → args[j]? = some v → Value.okWide Tryz.prog W .any base t v := hval0
  have hW' := hW
  obtain ⟨p, q, hA0, hV, rfl, hfz, hnd⟩ := hW
  have hA : DataW.TrodAll enc Tryz.prog W 0 (fun _ => true) true Tryz.f3.params.toList args.toList ds p := hA0
  rw [Tryz.params3] at hA hval hsz
  obtain ⟨v0, vs0, d0, ds0, p0, q0, hargs, rfl, rfl, h0, r0⟩ := trodAll_cons hA
  obtain ⟨v1, vs1, d1, ds1, p1, q1, rfl, rfl, rfl, h1, r1⟩ := trodAll_cons r0
  obtain ⟨rfl, rfl, rfl⟩ := trodAll_nil r1
  obtain rfl : args = #[v0, v1] := by cases args; simp_all
  obtain ⟨rfl, rfl⟩ := trodVars_none hV
  have k0 := h0
  have lt0 : ∀ x ∈ p0, x.block < W.heap.size := by obtain ⟨m, hm⟩ := k0; exact DataW.trod_lt m _ _ _ hm
  have k1 := h1
  have lt1 : ∀ x ∈ p1, x.block < W.heap.size := by obtain ⟨m, hm⟩ := k1; exact DataW.trod_lt m _ _ _ hm
  obtain ⟨a0, rfl, rfl, rfl, w0⟩ := open_int Tryz.underlying3 (hval 0 3 v0 rfl rfl) h0
  obtain ⟨L1, l1, _, z1⟩ := open_acts (hval 1 22 v1 rfl rfl) h1 (fun n hn => by simpa using List.all_eq_true.1 hsz n (DataW.weights_mem_each (j := 1) (t := 22) rfl rfl n hn))
  have u1 : L1.length ≤ 1048576 := by
    have hb := of_decide_eq_true hk
    rcases z1 with z | ⟨E, S, e1, e2⟩
    · omega
    · subst e1
      have h1 := bulk_len E
      simp only [Rows.uptoBulkAll, Rows.uptoBulk, List.append_nil, List.cons_append, List.nil_append] at hb
      omega
  clear hA0 hval0
  refine (pagerPlays_walk a0 v1 L1 w0 W l1 u1).mono fun e W' ⟨he, bel⟩ => ?_
  subst he
  exact ⟨_, rfl, _, _, _, [], _, [], hW', trodAll_mk1 (shut_bool Tryz.underlying4 _), (trodAll_cons_mk (Below.trod pagerPlays_laidOut (by kernel_rfl) (of_decide_eq_true (by kernel_rfl)) k0 bel lt0) (trodAll_cons_mk (Below.trod pagerPlays_laidOut (by kernel_rfl) (of_decide_eq_true (by kernel_rfl)) k1 bel lt1) trodAll_mk0)), rfl, bel.frame _, fun h => by cases h⟩

theorem pagerPlays_holds : Rows.PagerPlaysUptoSaid :=
  OpenClaim.holds_of_cond 3 Tryz.f3 rfl rfl rfl rfl rfl rfl rfl ⟨rfl, rfl, rfl, rfl, rfl⟩ rfl rfl rfl rfl rfl (by kernel_rfl) Tryz.func3 (by kernel_rfl)
    (of_decide_eq_true (by kernel_rfl)) (by unfold Func.isWrapper; first | (rw [if_pos (by decide +kernel)]; kernel_rfl) | (rw [if_neg (by decide +kernel)]; exact ⟨rfl, rfl⟩))
    (fun os started H enc _ F => pagerPlays_lifted os started H enc F)

#print axioms pagerPlays_holds

end Go.Proofs.YtoecopmbaoklkaaGreat
