/-
  Whatever is asked, what is loaded is what was stored last, or else what lies on the disk; at most room pages are held, and none that is changed; no condition.
-/
import Derived.Test.YtoecopmbaoklkaaRows
import Derived.Test.YtoecopmbaoklkaaKd
import Derived.ProofKit
import Derived.OpenShut
import Derived.ShutString
import Derived.ChangeOld
import Derived.Below
import Derived.SizedLaws
import Derived.Lib.SmallJoins
namespace Go.Proofs.Ytoecopmbaoklkaa
open Go.ChangeShapes Go.WideShapes Go.ChangeAt Go.RowKit Go.Joins
open Go.ChangeMaps (open_string shut_string)
set_option linter.unusedVariables false
set_option linter.unusedSimpArgs false
set_option maxRecDepth 100000

/-- what was stored since the last Commit, page by page -/
structure SeeS (most : Nat) (p : Pp) (j : Nat) (L : List ByteArray) : Prop where
  vs : VS p (2 * j)
  room : p.room = most
  len : p.d.bs.length = 70
  sl : L.length = 70
  st : ∀ a : Nat, a < 70 → L[a]? = some (match fndC p.ch (a : Int) with | some c => c.data | none => ⟨#[]⟩)
  lg : p.d.lg.length ≤ 2100 * j
theorem see_nil (a : Nat) (h : a < 70) : (List.replicate 70 (⟨#[]⟩ : ByteArray))[a]? = some ⟨#[]⟩ := by rw [List.getElem?_replicate, if_pos h]
theorem see_start {most : Nat} (h : 1 ≤ most ∧ most ≤ 1024) : SeeS most (pw (nw 70) most) 0 (List.replicate 70 ⟨#[]⟩) :=
  ⟨nw_vs h (by decide) (by decide), rfl, nw_len 70, by simp, fun a ha => see_nil a ha, by show 0 ≤ _; omega⟩
theorem SeeS.ld {most : Nat} {p : Pp} {j : Nat} {L : List ByteArray} (h : SeeS most p j L) (a : Int) : SeeS most (p.ld a) (j + 1) L :=
  ⟨(h.vs.ld a).mono (by omega), by rw [Pp.ld_room]; exact h.room, by rw [Pp.ld_d]; exact h.len, h.sl, by rw [Pp.ld_ch]; exact h.st, by rw [Pp.ld_d]; have := h.lg; omega⟩
theorem SeeS.pi {most : Nat} {p : Pp} {j : Nat} {L : List ByteArray} (h : SeeS most p j L) (a : Int) : SeeS most (p.pi a) (j + 1) L := by
  have h2 := h.ld a
  have e1 : (p.pi a).d = p.d ∧ (p.pi a).ch = p.ch ∧ (p.pi a).room = p.room := by
    unfold Pp.pi
    split
    · exact ⟨Pp.ld_d p a, Pp.ld_ch p a, Pp.ld_room p a⟩
    · exact ⟨rfl, rfl, rfl⟩
  exact ⟨(h.vs.pi a).mono (by omega), by rw [e1.2.2]; exact h.room, by rw [e1.1]; exact h.len, h.sl, by rw [e1.2.1]; exact h.st, by rw [e1.1]; have := h.lg; omega⟩
theorem SeeS.un {most : Nat} {p : Pp} {j : Nat} {L : List ByteArray} (h : SeeS most p j L) (a : Int) : SeeS most (p.un a) (j + 1) L := by
  have e1 : (p.un a).d = p.d ∧ (p.un a).ch = p.ch ∧ (p.un a).room = p.room := by
    unfold Pp.un
    split <;> exact ⟨rfl, rfl, rfl⟩
  exact ⟨(h.vs.un a).mono (by omega), by rw [e1.2.2]; exact h.room, by rw [e1.1]; exact h.len, h.sl, by rw [e1.2.1]; exact h.st, by rw [e1.1]; have := h.lg; omega⟩
theorem SeeS.st0 {most : Nat} {p : Pp} {j : Nat} {L : List ByteArray} (h : SeeS most p j L) {a : Nat} (ha : a < 70) {s : ByteArray} (he : p.stE (a : Int) s = 0) : SeeS most (p.st (a : Int) s) (j + 1) (L.set a s) := by
  have e1 : (p.st (a : Int) s).d = p.d ∧ (p.st (a : Int) s).ch = insC p.ch (a : Int) s ∧ (p.st (a : Int) s).room = p.room := by
    unfold Pp.st
    rw [if_pos he]
    exact ⟨rfl, rfl, rfl⟩
  refine ⟨(h.vs.st _ _).mono (by omega), by rw [e1.2.2]; exact h.room, by rw [e1.1]; exact h.len, by rw [List.length_set]; exact h.sl, fun b hb => ?_, by rw [e1.1]; have := h.lg; omega⟩
  rw [e1.2.1, fndC_ins h.vs.ok.srt, List.getElem?_set]
  by_cases e : a = b
  · subst e
    rw [if_pos rfl, if_pos (by rw [h.sl]; exact hb), if_pos rfl]
  · rw [if_neg e, if_neg (by omega)]
    exact h.st b hb
theorem SeeS.st1 {most : Nat} {p : Pp} {j : Nat} {L : List ByteArray} (h : SeeS most p j L) {a : Int} {s : ByteArray} (he : ¬ p.stE a s = 0) : SeeS most (p.st a s) (j + 1) L := by
  have e1 : p.st a s = p := by unfold Pp.st; rw [if_neg he]
  rw [e1]
  exact ⟨h.vs.mono (by omega), h.room, h.len, h.sl, h.st, by have := h.lg; omega⟩
theorem SeeS.cm {most : Nat} {p : Pp} {j : Nat} {L : List ByteArray} (h : SeeS most p j L) : p.cmE = 0 ∧ p.cm.ch = [] ∧ SeeS most p.cm (j + 1) (List.replicate 70 ⟨#[]⟩) := by
  obtain ⟨m1, m2, m3, m4, m5, _⟩ := h.vs.cm
  refine ⟨m1, m3, m2.mono (by omega), by rw [m4]; exact h.room, by rw [m5]; exact h.len, by simp, fun a ha => ?_, ?_⟩
  · rw [m3]; exact see_nil a ha
  · have h1 := cm_lg p
    have h2 := h.vs.ok.few
    have h3 : lb p.ch.length ≤ 10 := by unfold lb; omega
    have := h.lg
    omega
/-- what Load answers -/
theorem SeeS.sees {most : Nat} {p : Pp} {j : Nat} {L : List ByteArray} (h : SeeS most p j L) {a : Nat} (h1 : 37 ≤ a) (h2 : a < 70) : p.ldE (a : Int) = 0 ∧ ((L[a]? = some (p.ldS (a : Int)) ∧ (p.ldS (a : Int)).size = 256) ∨ (L[a]? = some ⟨#[]⟩ ∧ p.d.bs[a]? = some (p.ldS (a : Int)))) := by
  have hpg : isPg p.d.bs.length (a : Int) := by rw [h.len]; exact pg70 ⟨by omega, by omega⟩
  obtain ⟨q1, q2, q3⟩ := h.vs.sees hpg
  refine ⟨q1, ?_⟩
  have hs := h.st a h2
  cases hc : fndC p.ch (a : Int) with
  | some c =>
    rw [hc] at hs
    rw [q2 c hc]
    exact .inl ⟨hs, (h.vs.ok.cg c (fndC_some hc).1).2⟩
  | none =>
    rw [hc] at hs
    have := q3 hc
    rw [Int.toNat_natCast] at this
    exact .inr ⟨hs, this⟩
/-- a new block stands, whatever the pager does -/
theorem store_pb {w0 wr w1 : World} {k q : Nat} {p : Pp} {v : Value} {L : List ByteArray} (N : Nat) (a : Int) (ha : I64 a) (s : ByteArray) (hs : s.size ≤ maxLen) (hok : p.Ok N) (h : Px w0 wr k q p v L) (hb : Below wr.heap.size wr w1) : Calls Try.prog 13 #[.pointer (some ⟨q, 0, none⟩), .int .i64 a, .string s] w1 fun e w' => e = .returned (.int .i64 (p.stE a s : Nat)) ∧ Px w0 w' k q (p.st a s) v L ∧ ∀ cs t, Blk w1 wr.heap.size cs t → Blk w' wr.heap.size cs t := by
  obtain ⟨S, h1, h2, h3, h4, h5⟩ := h
  have hlt := h1.lt
  refine (store_any N a ha s hs hok (h1.on hb)).mono fun e w' hh => ⟨hh.1, Px.step h2 (h3.trans (hb.mono h3.size)) (h4.on hb) h5 hh.2, fun cs t hbk => hh.2.keep.blk hbk (fun hj => ?_)⟩
  have := hlt _ hj
  omega
theorem full_text {s : ByteArray} (h : s.size = 256) : ¬ s = ⟨#[]⟩ ∧ (s.toList == (⟨#[]⟩ : ByteArray).toList) = false ∧ (s.toList == []) = false := by
  have h1 : ¬ s = ⟨#[]⟩ := fun e => by rw [e] at h; cases h
  have h2 : ¬ s.data.toList = [] := fun e => h1 (by rw [← bt_self s, e]; rfl)
  refine ⟨h1, ?_, ?_⟩
  · rw [ByteArray.toList_eq, ByteArray.toList_eq]; simpa using h2
  · rw [ByteArray.toList_eq]; simpa using h2
theorem zeros_texts (n : Nat) : (madeCells (Value.string ⟨#[]⟩).cells (n * 1)).toList = flatS (List.replicate n ⟨#[]⟩) := by
  simp [Value.cells, toList_madeCells_one, flatS]
set_option maxHeartbeats 8000000 in
theorem pagerSees_walk (r0 : Int) (v1 : Value) (A : List Ac) (wf0 : (Lit.int .u8 r0).wf = true) (w : World) (hl : LiesA w v1 A) (hz : A.length * 32 ≤ 140737488351232) :
    Calls Try.prog 3 #[.int .u8 r0, v1] w fun e w' => e = .returned (.bool true) ∧ Below w.heap.size w w' := by
  obtain ⟨b1, b2⟩ := bounds_u8 wf0
  obtain ⟨va, vc, e1⟩ := hl.form
  subst e1
  have HL := hid hl
  obtain ⟨n, hn⟩ : ∃ n, A.length = n := ⟨_, rfl⟩
  have HN := hid hn
  rw [hn] at hz HL ⊢
  have hnn : n ≤ 4398046510976 := by omega
  clear hl hn hz wf0
  obtain ⟨i9, hi9, hz90, hz91, hz92⟩ := info_parts info9
  obtain ⟨r, hr1, hr2, hr20⟩ : ∃ r : Nat, (1 : Int) + r0 % 20 = (r : Int) ∧ (1 ≤ r ∧ r ≤ 1024) ∧ r ≤ 20 := ⟨(1 + r0 % 20).toNat, by omega, by omega, by omega⟩
  have hr3 : IntKind.i64.wrap (1 + r0 % 20) = (r : Int) := by rw [IntWalk.i64_in _ ⟨by omega, by omega⟩, hr1]
  have hwk := wakes_any w
  have HNEW : Hid (∀ w1, Below w.heap.size w w1 → Calls Try.prog 8 #[.int .i64 70] w1 fun e w' => ∃ k, e = .returned (.tuple #[.pointer (some ⟨k, 0, none⟩), .int .i64 0]) ∧ Dz w w' k (nw 70)) := fun w1 hb => new_dz 70 (by decide) (by decide) w w1 hb
  have HPN : Hid (∀ w1 k, Dz w w1 k (nw 70) → Calls Try.prog 9 #[.pointer (some ⟨k, 0, none⟩), .int .i64 (r : Nat)] w1 fun e w' => ∃ q, e = .returned (.tuple #[.pointer (some ⟨q, 0, none⟩), .int .i64 0]) ∧ Px w w' k q (pw (nw 70) r) (.slice none 0 0) []) := fun w1 k h => pnew_dz r hr2 h
  have HV0 := hid (see_start hr2)
  generalize pw (nw 70) r = p0 at *
  have HCA : Hid (∀ (w1 : World) (j : Nat) (x : Ac), Below w.heap.size w w1 → A[j]? = some x → ∃ b off, va = some ⟨b, off, none⟩ ∧ w1.cell? ⟨b, off + j * 3, none⟩ = some (.int .i64 x.kd) ∧ w1.cell? ⟨b, off + j * 3 + 1, none⟩ = some (.int .i64 x.pl) ∧ w1.cell? ⟨b, off + j * 3 + 2, none⟩ = some (.string x.tx) ∧ x.tx.size ≤ maxLen) := fun w1 j x hb hj => by
    obtain ⟨b, off, h1, h2, h3, h4, h5, _, h7⟩ := HL.out.at hj
    exact ⟨b, off, h1, (hb.cell (p := ⟨b, off + j * 3, none⟩) h2).trans h3, (hb.cell (p := ⟨b, off + j * 3 + 1, none⟩) h2).trans h4, (hb.cell (p := ⟨b, off + j * 3 + 2, none⟩) h2).trans h5, h7⟩
  clear HL hr1
  by_cases hn1 : n ≤ 1000
  case neg =>
    have hn2 : (1000 : Int) < (n : Int) := by omega
    clear HCA
    go_enter Try.func3, Try.ntmps3
    go_wp2_with (first
      | (go_at_call 7; refine hwk.mono ?_; clear hwk; rintro e w1 ⟨rfl, hb1⟩; have HB1 := hid hb1; clear hb1)
      | (go_at_call 8; refine (HNEW.out _ HB1.out).mono ?_; clear HNEW; rintro e w2 ⟨k, rfl, hd2⟩; have HD2 := hid hd2; clear hd2)
      | (go_at_call 9; refine (HPN.out _ _ HD2.out).mono ?_; clear HPN; rintro e w3 ⟨q, rfl, hp3⟩; have HP3 := hid hp3; clear hp3))
    go_ret
    exact ⟨rfl, HP3.out.below⟩
  have hn2 : ¬ (1000 : Int) < (n : Int) := by omega
  go_enter Try.func3, Try.ntmps3
  go_wp2_with (first
    | (go_at_call 7; refine hwk.mono ?_; clear hwk; rintro e w1 ⟨rfl, hb1⟩; have HB1 := hid hb1; clear hb1)
    | (go_at_call 8; refine (HNEW.out _ HB1.out).mono ?_; clear HNEW; rintro e w2 ⟨k, rfl, hd2⟩; have HD2 := hid hd2; clear hd2)
    | (go_at_call 9; refine (HPN.out _ _ HD2.out).mono ?_; clear HPN; rintro e w3 ⟨q, rfl, hp3⟩; have HP3 := hid hp3; clear hp3)
    | (at_make; refine wpList_make_full _ rfl _ _ 31 rfl w3.heap.size 9 i9 (.string ⟨#[]⟩) 1 Try.underlying31 hi9 hz90 hz91 .i64 .i64 _ _ 70 rfl rfl rfl rfl (by rw [hz92]; decide) (by unfold maxLen; decide) (Nat.le_refl _) ?_; intro w4 hown hgrow; have HP4 := hid (HP3.out.take (L := []) (v := .slice none 0 0) (u := .slice (some ⟨w3.heap.size, 0, none⟩) 70 70) (M := List.replicate 70 ⟨#[]⟩) ((Below.refl _ w3).grown hgrow (Nat.le_refl _) (fun k hk => by cases hk)) (by unfold RowS; rw [List.length_replicate, ← zeros_texts]; exact hown)); clear hown hgrow))
  go_loopw [10, 51] (fun y i wr => ∃ (j : Nat) (p : Pp) (g : Nat) (L : List ByteArray), j ≤ n ∧ i = .int .i64 (j : Nat) ∧ y = .slice (some ⟨g, 0, none⟩) 70 70 ∧ Hid (SeeS r p j L) ∧ Hid (Px w wr k q p (.slice (some ⟨g, 0, none⟩) 70 70) L)) (fun _ i _ => n - (intOf i).toNat)
  case atStart => exact ⟨0, p0, _, _, Nat.zero_le _, rfl, rfl, HV0, HP4⟩
  case round =>
    obtain ⟨j, p, g, L, hj, rfl, rfl, HS, HX⟩ := hrel
    clear HP4 HV0 HP3
    by_cases hjn : j < n
    · have hji : (j : Int) < (n : Int) := by omega
      obtain ⟨x, hx⟩ : ∃ x, A[j]? = some x := ⟨_, List.getElem?_eq_getElem (by rw [HN.out]; exact hjn)⟩
      obtain ⟨b, off, e1, c0, c1, c2, htx⟩ := HCA.out wr j x HX.out.below hx
      subst e1
      obtain ⟨kx, hkx⟩ : ∃ kx, kd x.pl 32 = kx := ⟨_, rfl⟩
      have hk1 : 0 ≤ kx := by rw [← hkx]; exact kd_lo _ (by decide)
      have hk2 : kx < 32 := by rw [← hkx]; exact kd_hi _ (by decide)
      obtain ⟨ky, hky⟩ : ∃ ky, kd x.kd 7 = ky := ⟨_, rfl⟩
      have hk3 : 0 ≤ ky := by rw [← hky]; exact kd_lo _ (by decide)
      have hk4 : ky < 7 := by rw [← hky]; exact kd_hi _ (by decide)
      have HK1 : Hid (∀ w1, Calls Try.prog 10 #[.int .i64 x.pl, .int .i64 32] w1 fun e w' => e = .returned (.int .i64 kx) ∧ w1 = w') := fun w1 => by rw [← hkx]; exact kind_any x.pl 32 (by decide) w1
      have HK2 : Hid (∀ w1, Calls Try.prog 10 #[.int .i64 x.kd, .int .i64 7] w1 fun e w' => e = .returned (.int .i64 ky) ∧ w1 = w') := fun w1 => by rw [← hky]; exact kind_any x.kd 7 (by decide) w1
      obtain ⟨a, ha1, ha2, ha3⟩ : ∃ a : Nat, (37 : Int) + kx = (a : Int) ∧ 37 ≤ a ∧ a < 70 := ⟨(37 + kx).toNat, by omega, by omega, by omega⟩
      have hw37 : IntKind.i64.wrap (37 + kx) = (a : Int) := by rw [IntWalk.i64_in _ ⟨by omega, by omega⟩, ha1]
      have HBL : Hid (∀ w1, Calls Try.prog 14 #[.string x.tx] w1 fun e w' => e = .returned (.string (blk x.tx)) ∧ Below w1.heap.size w1 w') := fun w1 => lBlock_any x.tx htx w1
      have hbsz := blk_size x.tx
      obtain ⟨bs, hbs⟩ : ∃ bs, blk x.tx = bs := ⟨_, rfl⟩
      rw [hbs] at HBL hbsz
      have HBZ := hid hbsz
      obtain ⟨W, hW⟩ : ∃ W, wr.alloc (.cells #[.int .i64 x.kd, .int .i64 x.pl, .string x.tx] 33) = W := ⟨_, rfl⟩
      have hbW : Below wr.heap.size wr W := by rw [← hW]; exact (Below.refl _ _).alloc (Nat.le_refl _) _
      have bW : Blk W wr.heap.size #[.int .i64 x.kd, .int .i64 x.pl, .string x.tx] 33 := by rw [← hW]; exact Blk.made _ _ _
      have x0 := bW.cell (i := 0) rfl
      have x1 := bW.cell (i := 1) rfl
      have x2 := bW.cell (i := 2) rfl
      have HBW := hid hbW
      have HBK := hid bW
      clear hkx hky hx hbs hbsz hbW bW htx ha1
      have hai : (a : Int) < 70 := by omega
      have hI : I64 (a : Int) := by unfold I64; omega
      have HR0 := HX.out.row
      have hok0 := HS.out.vs.ok
      have hj1 : 2 * j < 100000 := by omega
      have hlen0 := HS.out.sl
      have HLE := hid hlen0
      clear hlen0 hk1 hk2 hr3
      have hks : ky = 0 ∨ ky = 1 ∨ ky = 2 ∨ ky = 3 ∨ ky = 4 ∨ ky = 5 ∨ ky = 6 := by omega
      rcases hks with rfl | rfl | rfl | rfl | rfl | rfl | rfl
      · obtain ⟨hE, hcs⟩ := HS.out.sees ha2 ha3
        have HLD : Hid (Calls Try.prog 11 #[.pointer (some ⟨q, 0, none⟩), .int .i64 (a : Int)] W fun e w' => e = .returned (.tuple #[.string (p.ldS (a : Int)), .int .i64 0]) ∧ Px w w' k q (p.ld (a : Int)) (.slice (some ⟨g, 0, none⟩) 70 70) L) := by
          have := load_px (2 * j) (by omega) (a : Int) hok0 (HX.out.on HBW.out)
          rw [hE] at this
          exact this
        have HS1 := hid (HS.out.ld (a : Int))
        have HIM : Hid (∀ w1, Px w w1 k q (p.ld (a : Int)) (.slice (some ⟨g, 0, none⟩) 70 70) L → Calls Try.prog 12 #[.pointer (some ⟨k, 0, none⟩)] w1 fun e w' => ∃ v', e = .returned v' ∧ RowS w' w1.heap.size v' p.d.bs ∧ Below w1.heap.size w1 w') := fun w1 h => by
          have := image_px h
          rw [Pp.ld_d] at this
          exact this
        have HB70 := hid HS.out.len
        clear hok0 HR0 hE HBL
        generalize p.ldS (a : Int) = ls at *
        rcases hcs with ⟨hl1, hl2⟩ | ⟨hl1, hl2⟩
        · obtain ⟨n1, n2, n3⟩ := full_text hl2
          have HRC : Hid (∀ w1, Px w w1 k q (p.ld (a : Int)) (.slice (some ⟨g, 0, none⟩) 70 70) L → w1.cell? ⟨g, a, none⟩ = some (.string ls)) := fun w1 h => (h.row.at hl1).1
          clear hl1 hl2 HIM HB70
          go_upto_region 15 with fail
          try rw [hW]
          clear hW c0 c1 c2
          go_upto_region 36 with (first | (go_at_call 10; refine (HK1.out _).mono ?_; clear HK1; rintro e wk ⟨rfl, rfl⟩) | (go_at_call 10; refine (HK2.out _).mono ?_; clear HK2; rintro e wk ⟨rfl, rfl⟩) | (go_at_call 11; refine HLD.out.mono ?_; clear HLD x0 x1 x2; rintro e w5 ⟨rfl, hx5⟩; have HX1 := hid hx5; have c5 := HRC.out w5 hx5; clear hx5 HRC))
          clear c5
          obtain ⟨HH, hHH⟩ : ∃ HH, (p.ld (a : Int)).hs.map Hp.pl = HH := ⟨_, rfl⟩
          obtain ⟨DD, hDD⟩ : ∃ DD, (p.ld (a : Int)).ch.map Pg.pl = DD := ⟨_, rfl⟩
          have HAP : Hid (∀ y ∈ HH, ∀ z ∈ DD, ¬ y = z) := fun y hy z hz => by
            rw [← hHH] at hy
            rw [← hDD] at hz
            obtain ⟨y', hy', rfl⟩ := List.mem_map.1 hy
            obtain ⟨z', hz', rfl⟩ := List.mem_map.1 hz
            exact HS1.out.vs.ok.ap y' hy' z' hz'
          have hHl : HH.length ≤ r := by rw [← hHH, List.length_map]; have := HS1.out.vs.ok.len; rw [HS1.out.room] at this; exact this
          have hDl : DD.length ≤ 1019 := by rw [← hDD, List.length_map]; exact HS1.out.vs.ok.few
          have HHE : Hid (Calls Try.prog 19 #[.pointer (some ⟨q, 0, none⟩)] w5 fun e w' => ∃ v', e = .returned v' ∧ RowI w' w5.heap.size v' HH ∧ Below w5.heap.size w5 w') := by show Calls _ _ _ _ _; rw [← hHH]; exact held_px HS1.out.vs.ok HX1.out
          have HDI : Hid (∀ w1, Below w5.heap.size w5 w1 → Calls Try.prog 18 #[.pointer (some ⟨q, 0, none⟩)] w1 fun e w' => ∃ v', e = .returned v' ∧ RowI w' w1.heap.size v' DD ∧ Below w1.heap.size w1 w') := fun w1 hb => by rw [← hDD]; exact dirty_px HS1.out.vs.ok (HX1.out.on hb)
          clear hHH hDD
          obtain ⟨hl, hhl⟩ : ∃ hl, HH.length = hl := ⟨_, rfl⟩
          obtain ⟨dl, hdl⟩ : ∃ dl, DD.length = dl := ⟨_, rfl⟩
          have HHL := hid hhl
          have HDL := hid hdl
          rw [hhl] at hHl
          rw [hdl] at hDl
          clear hhl hdl
          have hHi : ¬ (r : Int) < (hl : Int) := by omega
          go_wp2_with (first
            | (go_at_call 19; refine HHE.out.mono ?_; clear HHE; rintro e wh ⟨vh, rfl, hrh, hbh⟩; have HRH := hid hrh; have HBH := hid hbh; obtain ⟨pa, pc, eh⟩ := hrh.form; subst eh; rw [HHL.out]; rw [HHL.out] at HRH; clear hrh hbh)
            | (go_at_call 18; refine (HDI.out _ HBH.out).mono ?_; clear HDI; rintro e wd ⟨vd, rfl, hrd, hbd⟩; have HRD := hid hrd; have HRH2 := hid (HRH.out.on hbd); have HBD := hid (HBH.out.trans (hbd.mono HBH.out.size)); obtain ⟨sa, sc, ed⟩ := hrd.form; subst ed; rw [HDL.out]; rw [HDL.out] at HRD; clear hrd hbd HRH))
          go_loopw [138] (fun i wq => ∃ s : Nat, s ≤ hl ∧ i = .int .i64 (s : Nat) ∧ Hid (Below wd.heap.size wd wq)) (fun i _ => hl - (intOf i).toNat)
          case atStart => exact ⟨0, Nat.zero_le _, rfl, Below.refl _ _⟩
          case round =>
            obtain ⟨s, hs, rfl, HQ⟩ := hrel
            by_cases hsl : s < hl
            · have hsi : (s : Int) < (hl : Int) := by omega
              obtain ⟨y, hy⟩ : ∃ y, HH[s]? = some y := ⟨_, List.getElem?_eq_getElem (by rw [HHL.out]; exact hsl)⟩
              obtain ⟨gh, e1, _, hghl, cy, _⟩ := HRH2.out.at hy
              subst e1
              have HY := hid hy
              have HCY : Hid (∀ w1, Below wd.heap.size wd w1 → w1.cell? ⟨gh, s, none⟩ = some (.int .i64 y)) := fun w1 hb => (hb.cell (p := ⟨gh, s, none⟩) hghl).trans cy
              clear hy cy hghl
              obtain ⟨wq2, hwq2⟩ : ∃ wq2, wq2 = wr := ⟨_, rfl⟩
              subst hwq2
              go_wp2_with fail
              go_loopw [143] (fun i wp => ∃ t : Nat, t ≤ dl ∧ i = .int .i64 (t : Nat) ∧ Hid (Below wd.heap.size wd wp)) (fun i _ => dl - (intOf i).toNat)
              case atStart => exact ⟨0, Nat.zero_le _, rfl, HQ⟩
              case round =>
                obtain ⟨t, ht, rfl, HQ2⟩ := hrel
                by_cases htl : t < dl
                · have hti : (t : Int) < (dl : Int) := by omega
                  obtain ⟨z, hz⟩ : ∃ z, DD[t]? = some z := ⟨_, List.getElem?_eq_getElem (by rw [HDL.out]; exact htl)⟩
                  obtain ⟨gd, e1, _, hgdl, cz, _⟩ := HRD.out.at hz
                  subst e1
                  have d1 := HCY.out _ HQ2.out
                  have d2 := (HQ2.out.cell (p := ⟨gd, t, none⟩) hgdl).trans cz
                  have hyz : (y == z) = false := by have := HAP.out y (List.mem_of_getElem? HY.out) z (List.mem_of_getElem? hz); simpa using this
                  have hyz2 : ¬ y = z := HAP.out y (List.mem_of_getElem? HY.out) z (List.mem_of_getElem? hz)
                  have HQ3 := hid (HQ2.out.drew)
                  clear hz cz hgdl
                  go_wp2_with fail
                  go_region
                  clear d1 d2
                  go_wp2_with fail
                  go_roundw
                  case rel => exact ⟨t + 1, by omega, by go_num, HQ3⟩
                  case measure => simp [intOf]; omega
                · obtain rfl : t = dl := by omega
                  go_wp2_with fail
                  go_roundw
                  case rel => exact ⟨s + 1, by omega, by go_num, HQ2⟩
                  case measure => simp [intOf]; omega
            · obtain rfl : s = hl := by omega
              go_wp2_with fail
              go_roundw
              case rel => exact ⟨j + 1, p.ld (a : Int), g, L, by omega, by go_num, rfl, HS1, hid (HX1.out.on (HBD.out.trans (HQ.out.mono HBD.out.size)))⟩
              case measure => simp [intOf]; omega
        · have HRC : Hid (∀ w1, Px w w1 k q (p.ld (a : Int)) (.slice (some ⟨g, 0, none⟩) 70 70) L → w1.cell? ⟨g, a, none⟩ = some (.string ⟨#[]⟩)) := fun w1 h => (h.row.at hl1).1
          have HIC : Hid (∀ w1 B1 (g1 c1 : Nat), RowS w1 B1 (.slice (some ⟨g1, 0, none⟩) 70 c1) p.d.bs → w1.cell? ⟨g1, a, none⟩ = some (.string ls)) := fun w1 B1 g1 c1 h => (h.at hl2).1
          clear hl1 hl2
          go_upto_region 15 with fail
          try rw [hW]
          clear hW c0 c1 c2
          go_upto_region 36 with (first | (go_at_call 10; refine (HK1.out _).mono ?_; clear HK1; rintro e wk ⟨rfl, rfl⟩) | (go_at_call 10; refine (HK2.out _).mono ?_; clear HK2; rintro e wk ⟨rfl, rfl⟩) | (go_at_call 11; refine HLD.out.mono ?_; clear HLD x0 x1 x2; rintro e w5 ⟨rfl, hx5⟩; have HX5 := hid hx5; have c5 := HRC.out w5 hx5; clear hx5 HRC) | (go_at_call 12; refine (HIM.out _ HX5.out).mono ?_; clear HIM c5; rintro e w6 ⟨v6, rfl, hr6, hb6⟩; have HX1 := hid (HX5.out.on hb6); obtain ⟨g6, c6, e6, _, _, _, _⟩ := own_some hr6 (by rw [HB70.out]; decide); subst e6; rw [HB70.out]; rw [HB70.out] at hr6; have c7 := HIC.out _ _ _ _ hr6; clear hr6 hb6 HIC))
          clear c7
          obtain ⟨HH, hHH⟩ : ∃ HH, (p.ld (a : Int)).hs.map Hp.pl = HH := ⟨_, rfl⟩
          obtain ⟨DD, hDD⟩ : ∃ DD, (p.ld (a : Int)).ch.map Pg.pl = DD := ⟨_, rfl⟩
          have HAP : Hid (∀ y ∈ HH, ∀ z ∈ DD, ¬ y = z) := fun y hy z hz => by
            rw [← hHH] at hy
            rw [← hDD] at hz
            obtain ⟨y', hy', rfl⟩ := List.mem_map.1 hy
            obtain ⟨z', hz', rfl⟩ := List.mem_map.1 hz
            exact HS1.out.vs.ok.ap y' hy' z' hz'
          have hHl : HH.length ≤ r := by rw [← hHH, List.length_map]; have := HS1.out.vs.ok.len; rw [HS1.out.room] at this; exact this
          have hDl : DD.length ≤ 1019 := by rw [← hDD, List.length_map]; exact HS1.out.vs.ok.few
          have HHE : Hid (Calls Try.prog 19 #[.pointer (some ⟨q, 0, none⟩)] w6 fun e w' => ∃ v', e = .returned v' ∧ RowI w' w6.heap.size v' HH ∧ Below w6.heap.size w6 w') := by show Calls _ _ _ _ _; rw [← hHH]; exact held_px HS1.out.vs.ok HX1.out
          have HDI : Hid (∀ w1, Below w6.heap.size w6 w1 → Calls Try.prog 18 #[.pointer (some ⟨q, 0, none⟩)] w1 fun e w' => ∃ v', e = .returned v' ∧ RowI w' w1.heap.size v' DD ∧ Below w1.heap.size w1 w') := fun w1 hb => by rw [← hDD]; exact dirty_px HS1.out.vs.ok (HX1.out.on hb)
          clear hHH hDD
          obtain ⟨hl, hhl⟩ : ∃ hl, HH.length = hl := ⟨_, rfl⟩
          obtain ⟨dl, hdl⟩ : ∃ dl, DD.length = dl := ⟨_, rfl⟩
          have HHL := hid hhl
          have HDL := hid hdl
          rw [hhl] at hHl
          rw [hdl] at hDl
          clear hhl hdl
          have hHi : ¬ (r : Int) < (hl : Int) := by omega
          go_wp2_with (first
            | (go_at_call 19; refine HHE.out.mono ?_; clear HHE; rintro e wh ⟨vh, rfl, hrh, hbh⟩; have HRH := hid hrh; have HBH := hid hbh; obtain ⟨pa, pc, eh⟩ := hrh.form; subst eh; rw [HHL.out]; rw [HHL.out] at HRH; clear hrh hbh)
            | (go_at_call 18; refine (HDI.out _ HBH.out).mono ?_; clear HDI; rintro e wd ⟨vd, rfl, hrd, hbd⟩; have HRD := hid hrd; have HRH2 := hid (HRH.out.on hbd); have HBD := hid (HBH.out.trans (hbd.mono HBH.out.size)); obtain ⟨sa, sc, ed⟩ := hrd.form; subst ed; rw [HDL.out]; rw [HDL.out] at HRD; clear hrd hbd HRH))
          go_loopw [138] (fun i wq => ∃ s : Nat, s ≤ hl ∧ i = .int .i64 (s : Nat) ∧ Hid (Below wd.heap.size wd wq)) (fun i _ => hl - (intOf i).toNat)
          case atStart => exact ⟨0, Nat.zero_le _, rfl, Below.refl _ _⟩
          case round =>
            obtain ⟨s, hs, rfl, HQ⟩ := hrel
            by_cases hsl : s < hl
            · have hsi : (s : Int) < (hl : Int) := by omega
              obtain ⟨y, hy⟩ : ∃ y, HH[s]? = some y := ⟨_, List.getElem?_eq_getElem (by rw [HHL.out]; exact hsl)⟩
              obtain ⟨gh, e1, _, hghl, cy, _⟩ := HRH2.out.at hy
              subst e1
              have HY := hid hy
              have HCY : Hid (∀ w1, Below wd.heap.size wd w1 → w1.cell? ⟨gh, s, none⟩ = some (.int .i64 y)) := fun w1 hb => (hb.cell (p := ⟨gh, s, none⟩) hghl).trans cy
              clear hy cy hghl
              obtain ⟨wq2, hwq2⟩ : ∃ wq2, wq2 = wr := ⟨_, rfl⟩
              subst hwq2
              go_wp2_with fail
              go_loopw [143] (fun i wp => ∃ t : Nat, t ≤ dl ∧ i = .int .i64 (t : Nat) ∧ Hid (Below wd.heap.size wd wp)) (fun i _ => dl - (intOf i).toNat)
              case atStart => exact ⟨0, Nat.zero_le _, rfl, HQ⟩
              case round =>
                obtain ⟨t, ht, rfl, HQ2⟩ := hrel
                by_cases htl : t < dl
                · have hti : (t : Int) < (dl : Int) := by omega
                  obtain ⟨z, hz⟩ : ∃ z, DD[t]? = some z := ⟨_, List.getElem?_eq_getElem (by rw [HDL.out]; exact htl)⟩
                  obtain ⟨gd, e1, _, hgdl, cz, _⟩ := HRD.out.at hz
                  subst e1
                  have d1 := HCY.out _ HQ2.out
                  have d2 := (HQ2.out.cell (p := ⟨gd, t, none⟩) hgdl).trans cz
                  have hyz : (y == z) = false := by have := HAP.out y (List.mem_of_getElem? HY.out) z (List.mem_of_getElem? hz); simpa using this
                  have hyz2 : ¬ y = z := HAP.out y (List.mem_of_getElem? HY.out) z (List.mem_of_getElem? hz)
                  have HQ3 := hid (HQ2.out.drew)
                  clear hz cz hgdl
                  go_wp2_with fail
                  go_region
                  clear d1 d2
                  go_wp2_with fail
                  go_roundw
                  case rel => exact ⟨t + 1, by omega, by go_num, HQ3⟩
                  case measure => simp [intOf]; omega
                · obtain rfl : t = dl := by omega
                  go_wp2_with fail
                  go_roundw
                  case rel => exact ⟨s + 1, by omega, by go_num, HQ2⟩
                  case measure => simp [intOf]; omega
            · obtain rfl : s = hl := by omega
              go_wp2_with fail
              go_roundw
              case rel => exact ⟨j + 1, p.ld (a : Int), g, L, by omega, by go_num, rfl, HS1, hid (HX1.out.on (HBD.out.trans (HQ.out.mono HBD.out.size)))⟩
              case measure => simp [intOf]; omega
      · obtain ⟨hE, hcs⟩ := HS.out.sees ha2 ha3
        have HLD : Hid (Calls Try.prog 11 #[.pointer (some ⟨q, 0, none⟩), .int .i64 (a : Int)] W fun e w' => e = .returned (.tuple #[.string (p.ldS (a : Int)), .int .i64 0]) ∧ Px w w' k q (p.ld (a : Int)) (.slice (some ⟨g, 0, none⟩) 70 70) L) := by
          have := load_px (2 * j) (by omega) (a : Int) hok0 (HX.out.on HBW.out)
          rw [hE] at this
          exact this
        have HS1 := hid (HS.out.ld (a : Int))
        have HIM : Hid (∀ w1, Px w w1 k q (p.ld (a : Int)) (.slice (some ⟨g, 0, none⟩) 70 70) L → Calls Try.prog 12 #[.pointer (some ⟨k, 0, none⟩)] w1 fun e w' => ∃ v', e = .returned v' ∧ RowS w' w1.heap.size v' p.d.bs ∧ Below w1.heap.size w1 w') := fun w1 h => by
          have := image_px h
          rw [Pp.ld_d] at this
          exact this
        have HB70 := hid HS.out.len
        clear hok0 HR0 hE HBL
        generalize p.ldS (a : Int) = ls at *
        rcases hcs with ⟨hl1, hl2⟩ | ⟨hl1, hl2⟩
        · obtain ⟨n1, n2, n3⟩ := full_text hl2
          have HRC : Hid (∀ w1, Px w w1 k q (p.ld (a : Int)) (.slice (some ⟨g, 0, none⟩) 70 70) L → w1.cell? ⟨g, a, none⟩ = some (.string ls)) := fun w1 h => (h.row.at hl1).1
          clear hl1 hl2 HIM HB70
          go_upto_region 15 with fail
          try rw [hW]
          clear hW c0 c1 c2
          go_upto_region 36 with (first | (go_at_call 10; refine (HK1.out _).mono ?_; clear HK1; rintro e wk ⟨rfl, rfl⟩) | (go_at_call 10; refine (HK2.out _).mono ?_; clear HK2; rintro e wk ⟨rfl, rfl⟩) | (go_at_call 11; refine HLD.out.mono ?_; clear HLD x0 x1 x2; rintro e w5 ⟨rfl, hx5⟩; have HX1 := hid hx5; have c5 := HRC.out w5 hx5; clear hx5 HRC))
          clear c5
          obtain ⟨HH, hHH⟩ : ∃ HH, (p.ld (a : Int)).hs.map Hp.pl = HH := ⟨_, rfl⟩
          obtain ⟨DD, hDD⟩ : ∃ DD, (p.ld (a : Int)).ch.map Pg.pl = DD := ⟨_, rfl⟩
          have HAP : Hid (∀ y ∈ HH, ∀ z ∈ DD, ¬ y = z) := fun y hy z hz => by
            rw [← hHH] at hy
            rw [← hDD] at hz
            obtain ⟨y', hy', rfl⟩ := List.mem_map.1 hy
            obtain ⟨z', hz', rfl⟩ := List.mem_map.1 hz
            exact HS1.out.vs.ok.ap y' hy' z' hz'
          have hHl : HH.length ≤ r := by rw [← hHH, List.length_map]; have := HS1.out.vs.ok.len; rw [HS1.out.room] at this; exact this
          have hDl : DD.length ≤ 1019 := by rw [← hDD, List.length_map]; exact HS1.out.vs.ok.few
          have HHE : Hid (Calls Try.prog 19 #[.pointer (some ⟨q, 0, none⟩)] w5 fun e w' => ∃ v', e = .returned v' ∧ RowI w' w5.heap.size v' HH ∧ Below w5.heap.size w5 w') := by show Calls _ _ _ _ _; rw [← hHH]; exact held_px HS1.out.vs.ok HX1.out
          have HDI : Hid (∀ w1, Below w5.heap.size w5 w1 → Calls Try.prog 18 #[.pointer (some ⟨q, 0, none⟩)] w1 fun e w' => ∃ v', e = .returned v' ∧ RowI w' w1.heap.size v' DD ∧ Below w1.heap.size w1 w') := fun w1 hb => by rw [← hDD]; exact dirty_px HS1.out.vs.ok (HX1.out.on hb)
          clear hHH hDD
          obtain ⟨hl, hhl⟩ : ∃ hl, HH.length = hl := ⟨_, rfl⟩
          obtain ⟨dl, hdl⟩ : ∃ dl, DD.length = dl := ⟨_, rfl⟩
          have HHL := hid hhl
          have HDL := hid hdl
          rw [hhl] at hHl
          rw [hdl] at hDl
          clear hhl hdl
          have hHi : ¬ (r : Int) < (hl : Int) := by omega
          go_wp2_with (first
            | (go_at_call 19; refine HHE.out.mono ?_; clear HHE; rintro e wh ⟨vh, rfl, hrh, hbh⟩; have HRH := hid hrh; have HBH := hid hbh; obtain ⟨pa, pc, eh⟩ := hrh.form; subst eh; rw [HHL.out]; rw [HHL.out] at HRH; clear hrh hbh)
            | (go_at_call 18; refine (HDI.out _ HBH.out).mono ?_; clear HDI; rintro e wd ⟨vd, rfl, hrd, hbd⟩; have HRD := hid hrd; have HRH2 := hid (HRH.out.on hbd); have HBD := hid (HBH.out.trans (hbd.mono HBH.out.size)); obtain ⟨sa, sc, ed⟩ := hrd.form; subst ed; rw [HDL.out]; rw [HDL.out] at HRD; clear hrd hbd HRH))
          go_loopw [138] (fun i wq => ∃ s : Nat, s ≤ hl ∧ i = .int .i64 (s : Nat) ∧ Hid (Below wd.heap.size wd wq)) (fun i _ => hl - (intOf i).toNat)
          case atStart => exact ⟨0, Nat.zero_le _, rfl, Below.refl _ _⟩
          case round =>
            obtain ⟨s, hs, rfl, HQ⟩ := hrel
            by_cases hsl : s < hl
            · have hsi : (s : Int) < (hl : Int) := by omega
              obtain ⟨y, hy⟩ : ∃ y, HH[s]? = some y := ⟨_, List.getElem?_eq_getElem (by rw [HHL.out]; exact hsl)⟩
              obtain ⟨gh, e1, _, hghl, cy, _⟩ := HRH2.out.at hy
              subst e1
              have HY := hid hy
              have HCY : Hid (∀ w1, Below wd.heap.size wd w1 → w1.cell? ⟨gh, s, none⟩ = some (.int .i64 y)) := fun w1 hb => (hb.cell (p := ⟨gh, s, none⟩) hghl).trans cy
              clear hy cy hghl
              obtain ⟨wq2, hwq2⟩ : ∃ wq2, wq2 = wr := ⟨_, rfl⟩
              subst hwq2
              go_wp2_with fail
              go_loopw [143] (fun i wp => ∃ t : Nat, t ≤ dl ∧ i = .int .i64 (t : Nat) ∧ Hid (Below wd.heap.size wd wp)) (fun i _ => dl - (intOf i).toNat)
              case atStart => exact ⟨0, Nat.zero_le _, rfl, HQ⟩
              case round =>
                obtain ⟨t, ht, rfl, HQ2⟩ := hrel
                by_cases htl : t < dl
                · have hti : (t : Int) < (dl : Int) := by omega
                  obtain ⟨z, hz⟩ : ∃ z, DD[t]? = some z := ⟨_, List.getElem?_eq_getElem (by rw [HDL.out]; exact htl)⟩
                  obtain ⟨gd, e1, _, hgdl, cz, _⟩ := HRD.out.at hz
                  subst e1
                  have d1 := HCY.out _ HQ2.out
                  have d2 := (HQ2.out.cell (p := ⟨gd, t, none⟩) hgdl).trans cz
                  have hyz : (y == z) = false := by have := HAP.out y (List.mem_of_getElem? HY.out) z (List.mem_of_getElem? hz); simpa using this
                  have hyz2 : ¬ y = z := HAP.out y (List.mem_of_getElem? HY.out) z (List.mem_of_getElem? hz)
                  have HQ3 := hid (HQ2.out.drew)
                  clear hz cz hgdl
                  go_wp2_with fail
                  go_region
                  clear d1 d2
                  go_wp2_with fail
                  go_roundw
                  case rel => exact ⟨t + 1, by omega, by go_num, HQ3⟩
                  case measure => simp [intOf]; omega
                · obtain rfl : t = dl := by omega
                  go_wp2_with fail
                  go_roundw
                  case rel => exact ⟨s + 1, by omega, by go_num, HQ2⟩
                  case measure => simp [intOf]; omega
            · obtain rfl : s = hl := by omega
              go_wp2_with fail
              go_roundw
              case rel => exact ⟨j + 1, p.ld (a : Int), g, L, by omega, by go_num, rfl, HS1, hid (HX1.out.on (HBD.out.trans (HQ.out.mono HBD.out.size)))⟩
              case measure => simp [intOf]; omega
        · have HRC : Hid (∀ w1, Px w w1 k q (p.ld (a : Int)) (.slice (some ⟨g, 0, none⟩) 70 70) L → w1.cell? ⟨g, a, none⟩ = some (.string ⟨#[]⟩)) := fun w1 h => (h.row.at hl1).1
          have HIC : Hid (∀ w1 B1 (g1 c1 : Nat), RowS w1 B1 (.slice (some ⟨g1, 0, none⟩) 70 c1) p.d.bs → w1.cell? ⟨g1, a, none⟩ = some (.string ls)) := fun w1 B1 g1 c1 h => (h.at hl2).1
          clear hl1 hl2
          go_upto_region 15 with fail
          try rw [hW]
          clear hW c0 c1 c2
          go_upto_region 36 with (first | (go_at_call 10; refine (HK1.out _).mono ?_; clear HK1; rintro e wk ⟨rfl, rfl⟩) | (go_at_call 10; refine (HK2.out _).mono ?_; clear HK2; rintro e wk ⟨rfl, rfl⟩) | (go_at_call 11; refine HLD.out.mono ?_; clear HLD x0 x1 x2; rintro e w5 ⟨rfl, hx5⟩; have HX5 := hid hx5; have c5 := HRC.out w5 hx5; clear hx5 HRC) | (go_at_call 12; refine (HIM.out _ HX5.out).mono ?_; clear HIM c5; rintro e w6 ⟨v6, rfl, hr6, hb6⟩; have HX1 := hid (HX5.out.on hb6); obtain ⟨g6, c6, e6, _, _, _, _⟩ := own_some hr6 (by rw [HB70.out]; decide); subst e6; rw [HB70.out]; rw [HB70.out] at hr6; have c7 := HIC.out _ _ _ _ hr6; clear hr6 hb6 HIC))
          clear c7
          obtain ⟨HH, hHH⟩ : ∃ HH, (p.ld (a : Int)).hs.map Hp.pl = HH := ⟨_, rfl⟩
          obtain ⟨DD, hDD⟩ : ∃ DD, (p.ld (a : Int)).ch.map Pg.pl = DD := ⟨_, rfl⟩
          have HAP : Hid (∀ y ∈ HH, ∀ z ∈ DD, ¬ y = z) := fun y hy z hz => by
            rw [← hHH] at hy
            rw [← hDD] at hz
            obtain ⟨y', hy', rfl⟩ := List.mem_map.1 hy
            obtain ⟨z', hz', rfl⟩ := List.mem_map.1 hz
            exact HS1.out.vs.ok.ap y' hy' z' hz'
          have hHl : HH.length ≤ r := by rw [← hHH, List.length_map]; have := HS1.out.vs.ok.len; rw [HS1.out.room] at this; exact this
          have hDl : DD.length ≤ 1019 := by rw [← hDD, List.length_map]; exact HS1.out.vs.ok.few
          have HHE : Hid (Calls Try.prog 19 #[.pointer (some ⟨q, 0, none⟩)] w6 fun e w' => ∃ v', e = .returned v' ∧ RowI w' w6.heap.size v' HH ∧ Below w6.heap.size w6 w') := by show Calls _ _ _ _ _; rw [← hHH]; exact held_px HS1.out.vs.ok HX1.out
          have HDI : Hid (∀ w1, Below w6.heap.size w6 w1 → Calls Try.prog 18 #[.pointer (some ⟨q, 0, none⟩)] w1 fun e w' => ∃ v', e = .returned v' ∧ RowI w' w1.heap.size v' DD ∧ Below w1.heap.size w1 w') := fun w1 hb => by rw [← hDD]; exact dirty_px HS1.out.vs.ok (HX1.out.on hb)
          clear hHH hDD
          obtain ⟨hl, hhl⟩ : ∃ hl, HH.length = hl := ⟨_, rfl⟩
          obtain ⟨dl, hdl⟩ : ∃ dl, DD.length = dl := ⟨_, rfl⟩
          have HHL := hid hhl
          have HDL := hid hdl
          rw [hhl] at hHl
          rw [hdl] at hDl
          clear hhl hdl
          have hHi : ¬ (r : Int) < (hl : Int) := by omega
          go_wp2_with (first
            | (go_at_call 19; refine HHE.out.mono ?_; clear HHE; rintro e wh ⟨vh, rfl, hrh, hbh⟩; have HRH := hid hrh; have HBH := hid hbh; obtain ⟨pa, pc, eh⟩ := hrh.form; subst eh; rw [HHL.out]; rw [HHL.out] at HRH; clear hrh hbh)
            | (go_at_call 18; refine (HDI.out _ HBH.out).mono ?_; clear HDI; rintro e wd ⟨vd, rfl, hrd, hbd⟩; have HRD := hid hrd; have HRH2 := hid (HRH.out.on hbd); have HBD := hid (HBH.out.trans (hbd.mono HBH.out.size)); obtain ⟨sa, sc, ed⟩ := hrd.form; subst ed; rw [HDL.out]; rw [HDL.out] at HRD; clear hrd hbd HRH))
          go_loopw [138] (fun i wq => ∃ s : Nat, s ≤ hl ∧ i = .int .i64 (s : Nat) ∧ Hid (Below wd.heap.size wd wq)) (fun i _ => hl - (intOf i).toNat)
          case atStart => exact ⟨0, Nat.zero_le _, rfl, Below.refl _ _⟩
          case round =>
            obtain ⟨s, hs, rfl, HQ⟩ := hrel
            by_cases hsl : s < hl
            · have hsi : (s : Int) < (hl : Int) := by omega
              obtain ⟨y, hy⟩ : ∃ y, HH[s]? = some y := ⟨_, List.getElem?_eq_getElem (by rw [HHL.out]; exact hsl)⟩
              obtain ⟨gh, e1, _, hghl, cy, _⟩ := HRH2.out.at hy
              subst e1
              have HY := hid hy
              have HCY : Hid (∀ w1, Below wd.heap.size wd w1 → w1.cell? ⟨gh, s, none⟩ = some (.int .i64 y)) := fun w1 hb => (hb.cell (p := ⟨gh, s, none⟩) hghl).trans cy
              clear hy cy hghl
              obtain ⟨wq2, hwq2⟩ : ∃ wq2, wq2 = wr := ⟨_, rfl⟩
              subst hwq2
              go_wp2_with fail
              go_loopw [143] (fun i wp => ∃ t : Nat, t ≤ dl ∧ i = .int .i64 (t : Nat) ∧ Hid (Below wd.heap.size wd wp)) (fun i _ => dl - (intOf i).toNat)
              case atStart => exact ⟨0, Nat.zero_le _, rfl, HQ⟩
              case round =>
                obtain ⟨t, ht, rfl, HQ2⟩ := hrel
                by_cases htl : t < dl
                · have hti : (t : Int) < (dl : Int) := by omega
                  obtain ⟨z, hz⟩ : ∃ z, DD[t]? = some z := ⟨_, List.getElem?_eq_getElem (by rw [HDL.out]; exact htl)⟩
                  obtain ⟨gd, e1, _, hgdl, cz, _⟩ := HRD.out.at hz
                  subst e1
                  have d1 := HCY.out _ HQ2.out
                  have d2 := (HQ2.out.cell (p := ⟨gd, t, none⟩) hgdl).trans cz
                  have hyz : (y == z) = false := by have := HAP.out y (List.mem_of_getElem? HY.out) z (List.mem_of_getElem? hz); simpa using this
                  have hyz2 : ¬ y = z := HAP.out y (List.mem_of_getElem? HY.out) z (List.mem_of_getElem? hz)
                  have HQ3 := hid (HQ2.out.drew)
                  clear hz cz hgdl
                  go_wp2_with fail
                  go_region
                  clear d1 d2
                  go_wp2_with fail
                  go_roundw
                  case rel => exact ⟨t + 1, by omega, by go_num, HQ3⟩
                  case measure => simp [intOf]; omega
                · obtain rfl : t = dl := by omega
                  go_wp2_with fail
                  go_roundw
                  case rel => exact ⟨s + 1, by omega, by go_num, HQ2⟩
                  case measure => simp [intOf]; omega
            · obtain rfl : s = hl := by omega
              go_wp2_with fail
              go_roundw
              case rel => exact ⟨j + 1, p.ld (a : Int), g, L, by omega, by go_num, rfl, HS1, hid (HX1.out.on (HBD.out.trans (HQ.out.mono HBD.out.size)))⟩
              case measure => simp [intOf]; omega
      · have HST : Hid (∀ w1, Below W.heap.size W w1 → Calls Try.prog 13 #[.pointer (some ⟨q, 0, none⟩), .int .i64 (a : Int), .string bs] w1 fun e w' => e = .returned (.int .i64 (p.stE (a : Int) bs : Nat)) ∧ Px w w' k q (p.st (a : Int) bs) (.slice (some ⟨g, 0, none⟩) 70 70) L ∧ ∀ cs t, Blk w1 wr.heap.size cs t → Blk w' wr.heap.size cs t) := fun w1 hb => store_pb (2 * j) (a : Int) hI bs (by rw [HBZ.out]; decide) hok0 HX.out (HBW.out.trans (hb.mono HBW.out.size))
        have HBK2 : Hid (∀ w1, Below W.heap.size W w1 → Blk w1 wr.heap.size #[.int .i64 x.kd, .int .i64 x.pl, .string x.tx] 33) := fun w1 hb => HBK.out.on hb HBK.out.lt
        by_cases hE : p.stE (a : Int) bs = 0
        · rw [hE] at HST
          have HS1 := hid (HS.out.st0 ha3 hE)
          have HRC : Hid (∀ w1, Px w w1 k q (p.st (a : Int) bs) (.slice (some ⟨g, 0, none⟩) 70 70) L → (∃ s0, w1.cell? ⟨g, a, none⟩ = some (.string s0)) ∧ w1.frozen? ⟨g, a, none⟩ = false) := fun w1 h => by
            obtain ⟨s0, hs0⟩ : ∃ s0, L[a]? = some s0 := ⟨_, List.getElem?_eq_getElem (by rw [HLE.out]; exact ha3)⟩
            exact ⟨⟨s0, (h.row.at hs0).1⟩, (h.row.at hs0).2⟩
          clear hE hok0 HR0 HS
          go_upto_region 15 with fail
          try rw [hW]
          clear hW c0 c1 c2
          go_upto_region 36 with (first | (go_at_call 10; refine (HK1.out _).mono ?_; clear HK1; rintro e wk ⟨rfl, rfl⟩) | (go_at_call 10; refine (HK2.out _).mono ?_; clear HK2; rintro e wk ⟨rfl, rfl⟩) | (go_at_call 14; refine (HBL.out _).mono ?_; rintro e w5 ⟨rfl, hb5⟩; have HB5 := hid hb5; clear hb5 x0 x1 x2) | (go_at_call 13; refine (HST.out _ HB5.out).mono ?_; clear HST; rintro e w6 ⟨rfl, hx6, hk6⟩; have HX6 := hid hx6; have b6 := hk6 _ _ (HBK2.out _ HB5.out); have x6 := b6.cell (i := 2) rfl; clear hx6 hk6 b6) | (go_at_call 14; refine (HBL.out _).mono ?_; clear HBL x6; rintro e w7 ⟨rfl, hb7⟩; have HX7 := hid (HX6.out.on hb7); obtain ⟨⟨s0, c7⟩, f7⟩ := HRC.out _ HX7.out; clear hb7))
          clear c7 f7
          have HX1 : Hid (Px w (w7.setCell ⟨g, a, none⟩ (.string bs)) k q (p.st (a : Int) bs) (.slice (some ⟨g, 0, none⟩) 70 70) (L.set a bs)) := HX7.out.set HLE.out
          obtain ⟨wz, hwz⟩ : ∃ wz, w7.setCell ⟨g, a, none⟩ (.string bs) = wz := ⟨_, rfl⟩
          rw [hwz] at HX1
          try rw [hwz]
          clear hwz
          obtain ⟨HH, hHH⟩ : ∃ HH, (p.st (a : Int) bs).hs.map Hp.pl = HH := ⟨_, rfl⟩
          obtain ⟨DD, hDD⟩ : ∃ DD, (p.st (a : Int) bs).ch.map Pg.pl = DD := ⟨_, rfl⟩
          have HAP : Hid (∀ y ∈ HH, ∀ z ∈ DD, ¬ y = z) := fun y hy z hz => by
            rw [← hHH] at hy
            rw [← hDD] at hz
            obtain ⟨y', hy', rfl⟩ := List.mem_map.1 hy
            obtain ⟨z', hz', rfl⟩ := List.mem_map.1 hz
            exact HS1.out.vs.ok.ap y' hy' z' hz'
          have hHl : HH.length ≤ r := by rw [← hHH, List.length_map]; have := HS1.out.vs.ok.len; rw [HS1.out.room] at this; exact this
          have hDl : DD.length ≤ 1019 := by rw [← hDD, List.length_map]; exact HS1.out.vs.ok.few
          have HHE : Hid (Calls Try.prog 19 #[.pointer (some ⟨q, 0, none⟩)] wz fun e w' => ∃ v', e = .returned v' ∧ RowI w' wz.heap.size v' HH ∧ Below wz.heap.size wz w') := by show Calls _ _ _ _ _; rw [← hHH]; exact held_px HS1.out.vs.ok HX1.out
          have HDI : Hid (∀ w1, Below wz.heap.size wz w1 → Calls Try.prog 18 #[.pointer (some ⟨q, 0, none⟩)] w1 fun e w' => ∃ v', e = .returned v' ∧ RowI w' w1.heap.size v' DD ∧ Below w1.heap.size w1 w') := fun w1 hb => by rw [← hDD]; exact dirty_px HS1.out.vs.ok (HX1.out.on hb)
          clear hHH hDD
          obtain ⟨hl, hhl⟩ : ∃ hl, HH.length = hl := ⟨_, rfl⟩
          obtain ⟨dl, hdl⟩ : ∃ dl, DD.length = dl := ⟨_, rfl⟩
          have HHL := hid hhl
          have HDL := hid hdl
          rw [hhl] at hHl
          rw [hdl] at hDl
          clear hhl hdl
          have hHi : ¬ (r : Int) < (hl : Int) := by omega
          go_wp2_with (first
            | (go_at_call 19; refine HHE.out.mono ?_; clear HHE; rintro e wh ⟨vh, rfl, hrh, hbh⟩; have HRH := hid hrh; have HBH := hid hbh; obtain ⟨pa, pc, eh⟩ := hrh.form; subst eh; rw [HHL.out]; rw [HHL.out] at HRH; clear hrh hbh)
            | (go_at_call 18; refine (HDI.out _ HBH.out).mono ?_; clear HDI; rintro e wd ⟨vd, rfl, hrd, hbd⟩; have HRD := hid hrd; have HRH2 := hid (HRH.out.on hbd); have HBD := hid (HBH.out.trans (hbd.mono HBH.out.size)); obtain ⟨sa, sc, ed⟩ := hrd.form; subst ed; rw [HDL.out]; rw [HDL.out] at HRD; clear hrd hbd HRH))
          go_loopw [138] (fun i wq => ∃ s : Nat, s ≤ hl ∧ i = .int .i64 (s : Nat) ∧ Hid (Below wd.heap.size wd wq)) (fun i _ => hl - (intOf i).toNat)
          case atStart => exact ⟨0, Nat.zero_le _, rfl, Below.refl _ _⟩
          case round =>
            obtain ⟨s, hs, rfl, HQ⟩ := hrel
            by_cases hsl : s < hl
            · have hsi : (s : Int) < (hl : Int) := by omega
              obtain ⟨y, hy⟩ : ∃ y, HH[s]? = some y := ⟨_, List.getElem?_eq_getElem (by rw [HHL.out]; exact hsl)⟩
              obtain ⟨gh, e1, _, hghl, cy, _⟩ := HRH2.out.at hy
              subst e1
              have HY := hid hy
              have HCY : Hid (∀ w1, Below wd.heap.size wd w1 → w1.cell? ⟨gh, s, none⟩ = some (.int .i64 y)) := fun w1 hb => (hb.cell (p := ⟨gh, s, none⟩) hghl).trans cy
              clear hy cy hghl
              obtain ⟨wq2, hwq2⟩ : ∃ wq2, wq2 = wr := ⟨_, rfl⟩
              subst hwq2
              go_wp2_with fail
              go_loopw [143] (fun i wp => ∃ t : Nat, t ≤ dl ∧ i = .int .i64 (t : Nat) ∧ Hid (Below wd.heap.size wd wp)) (fun i _ => dl - (intOf i).toNat)
              case atStart => exact ⟨0, Nat.zero_le _, rfl, HQ⟩
              case round =>
                obtain ⟨t, ht, rfl, HQ2⟩ := hrel
                by_cases htl : t < dl
                · have hti : (t : Int) < (dl : Int) := by omega
                  obtain ⟨z, hz⟩ : ∃ z, DD[t]? = some z := ⟨_, List.getElem?_eq_getElem (by rw [HDL.out]; exact htl)⟩
                  obtain ⟨gd, e1, _, hgdl, cz, _⟩ := HRD.out.at hz
                  subst e1
                  have d1 := HCY.out _ HQ2.out
                  have d2 := (HQ2.out.cell (p := ⟨gd, t, none⟩) hgdl).trans cz
                  have hyz : (y == z) = false := by have := HAP.out y (List.mem_of_getElem? HY.out) z (List.mem_of_getElem? hz); simpa using this
                  have hyz2 : ¬ y = z := HAP.out y (List.mem_of_getElem? HY.out) z (List.mem_of_getElem? hz)
                  have HQ3 := hid (HQ2.out.drew)
                  clear hz cz hgdl
                  go_wp2_with fail
                  go_region
                  clear d1 d2
                  go_wp2_with fail
                  go_roundw
                  case rel => exact ⟨t + 1, by omega, by go_num, HQ3⟩
                  case measure => simp [intOf]; omega
                · obtain rfl : t = dl := by omega
                  go_wp2_with fail
                  go_roundw
                  case rel => exact ⟨s + 1, by omega, by go_num, HQ2⟩
                  case measure => simp [intOf]; omega
            · obtain rfl : s = hl := by omega
              go_wp2_with fail
              go_roundw
              case rel => exact ⟨j + 1, p.st (a : Int) bs, g, L.set a bs, by omega, by go_num, rfl, HS1, hid (HX1.out.on (HBD.out.trans (HQ.out.mono HBD.out.size)))⟩
              case measure => simp [intOf]; omega
        · have HS1 := hid (HS.out.st1 hE)
          obtain ⟨re, hre⟩ : ∃ re, p.stE (a : Int) bs = re := ⟨_, rfl⟩
          rw [hre] at HST hE
          have hrb : ((re : Int) == 0) = false := by simp; omega
          have hrz : ¬ (re : Int) = 0 := by omega
          clear hre hok0 HR0 HS
          go_upto_region 15 with fail
          try rw [hW]
          clear hW c0 c1 c2
          go_upto_region 36 with (first | (go_at_call 10; refine (HK1.out _).mono ?_; clear HK1; rintro e wk ⟨rfl, rfl⟩) | (go_at_call 10; refine (HK2.out _).mono ?_; clear HK2; rintro e wk ⟨rfl, rfl⟩) | (go_at_call 14; refine (HBL.out _).mono ?_; clear HBL; rintro e w5 ⟨rfl, hb5⟩; have HB5 := hid hb5; clear hb5 x0 x1 x2) | (go_at_call 13; refine (HST.out _ HB5.out).mono ?_; clear HST; rintro e w6 ⟨rfl, hx6, hk6⟩; have HX1 := hid hx6; clear hx6 hk6))
          obtain ⟨HH, hHH⟩ : ∃ HH, (p.st (a : Int) bs).hs.map Hp.pl = HH := ⟨_, rfl⟩
          obtain ⟨DD, hDD⟩ : ∃ DD, (p.st (a : Int) bs).ch.map Pg.pl = DD := ⟨_, rfl⟩
          have HAP : Hid (∀ y ∈ HH, ∀ z ∈ DD, ¬ y = z) := fun y hy z hz => by
            rw [← hHH] at hy
            rw [← hDD] at hz
            obtain ⟨y', hy', rfl⟩ := List.mem_map.1 hy
            obtain ⟨z', hz', rfl⟩ := List.mem_map.1 hz
            exact HS1.out.vs.ok.ap y' hy' z' hz'
          have hHl : HH.length ≤ r := by rw [← hHH, List.length_map]; have := HS1.out.vs.ok.len; rw [HS1.out.room] at this; exact this
          have hDl : DD.length ≤ 1019 := by rw [← hDD, List.length_map]; exact HS1.out.vs.ok.few
          have HHE : Hid (Calls Try.prog 19 #[.pointer (some ⟨q, 0, none⟩)] w6 fun e w' => ∃ v', e = .returned v' ∧ RowI w' w6.heap.size v' HH ∧ Below w6.heap.size w6 w') := by show Calls _ _ _ _ _; rw [← hHH]; exact held_px HS1.out.vs.ok HX1.out
          have HDI : Hid (∀ w1, Below w6.heap.size w6 w1 → Calls Try.prog 18 #[.pointer (some ⟨q, 0, none⟩)] w1 fun e w' => ∃ v', e = .returned v' ∧ RowI w' w1.heap.size v' DD ∧ Below w1.heap.size w1 w') := fun w1 hb => by rw [← hDD]; exact dirty_px HS1.out.vs.ok (HX1.out.on hb)
          clear hHH hDD
          obtain ⟨hl, hhl⟩ : ∃ hl, HH.length = hl := ⟨_, rfl⟩
          obtain ⟨dl, hdl⟩ : ∃ dl, DD.length = dl := ⟨_, rfl⟩
          have HHL := hid hhl
          have HDL := hid hdl
          rw [hhl] at hHl
          rw [hdl] at hDl
          clear hhl hdl
          have hHi : ¬ (r : Int) < (hl : Int) := by omega
          go_wp2_with (first
            | (go_at_call 19; refine HHE.out.mono ?_; clear HHE; rintro e wh ⟨vh, rfl, hrh, hbh⟩; have HRH := hid hrh; have HBH := hid hbh; obtain ⟨pa, pc, eh⟩ := hrh.form; subst eh; rw [HHL.out]; rw [HHL.out] at HRH; clear hrh hbh)
            | (go_at_call 18; refine (HDI.out _ HBH.out).mono ?_; clear HDI; rintro e wd ⟨vd, rfl, hrd, hbd⟩; have HRD := hid hrd; have HRH2 := hid (HRH.out.on hbd); have HBD := hid (HBH.out.trans (hbd.mono HBH.out.size)); obtain ⟨sa, sc, ed⟩ := hrd.form; subst ed; rw [HDL.out]; rw [HDL.out] at HRD; clear hrd hbd HRH))
          go_loopw [138] (fun i wq => ∃ s : Nat, s ≤ hl ∧ i = .int .i64 (s : Nat) ∧ Hid (Below wd.heap.size wd wq)) (fun i _ => hl - (intOf i).toNat)
          case atStart => exact ⟨0, Nat.zero_le _, rfl, Below.refl _ _⟩
          case round =>
            obtain ⟨s, hs, rfl, HQ⟩ := hrel
            by_cases hsl : s < hl
            · have hsi : (s : Int) < (hl : Int) := by omega
              obtain ⟨y, hy⟩ : ∃ y, HH[s]? = some y := ⟨_, List.getElem?_eq_getElem (by rw [HHL.out]; exact hsl)⟩
              obtain ⟨gh, e1, _, hghl, cy, _⟩ := HRH2.out.at hy
              subst e1
              have HY := hid hy
              have HCY : Hid (∀ w1, Below wd.heap.size wd w1 → w1.cell? ⟨gh, s, none⟩ = some (.int .i64 y)) := fun w1 hb => (hb.cell (p := ⟨gh, s, none⟩) hghl).trans cy
              clear hy cy hghl
              obtain ⟨wq2, hwq2⟩ : ∃ wq2, wq2 = wr := ⟨_, rfl⟩
              subst hwq2
              go_wp2_with fail
              go_loopw [143] (fun i wp => ∃ t : Nat, t ≤ dl ∧ i = .int .i64 (t : Nat) ∧ Hid (Below wd.heap.size wd wp)) (fun i _ => dl - (intOf i).toNat)
              case atStart => exact ⟨0, Nat.zero_le _, rfl, HQ⟩
              case round =>
                obtain ⟨t, ht, rfl, HQ2⟩ := hrel
                by_cases htl : t < dl
                · have hti : (t : Int) < (dl : Int) := by omega
                  obtain ⟨z, hz⟩ : ∃ z, DD[t]? = some z := ⟨_, List.getElem?_eq_getElem (by rw [HDL.out]; exact htl)⟩
                  obtain ⟨gd, e1, _, hgdl, cz, _⟩ := HRD.out.at hz
                  subst e1
                  have d1 := HCY.out _ HQ2.out
                  have d2 := (HQ2.out.cell (p := ⟨gd, t, none⟩) hgdl).trans cz
                  have hyz : (y == z) = false := by have := HAP.out y (List.mem_of_getElem? HY.out) z (List.mem_of_getElem? hz); simpa using this
                  have hyz2 : ¬ y = z := HAP.out y (List.mem_of_getElem? HY.out) z (List.mem_of_getElem? hz)
                  have HQ3 := hid (HQ2.out.drew)
                  clear hz cz hgdl
                  go_wp2_with fail
                  go_region
                  clear d1 d2
                  go_wp2_with fail
                  go_roundw
                  case rel => exact ⟨t + 1, by omega, by go_num, HQ3⟩
                  case measure => simp [intOf]; omega
                · obtain rfl : t = dl := by omega
                  go_wp2_with fail
                  go_roundw
                  case rel => exact ⟨s + 1, by omega, by go_num, HQ2⟩
                  case measure => simp [intOf]; omega
            · obtain rfl : s = hl := by omega
              go_wp2_with fail
              go_roundw
              case rel => exact ⟨j + 1, p.st (a : Int) bs, g, L, by omega, by go_num, rfl, HS1, hid (HX1.out.on (HBD.out.trans (HQ.out.mono HBD.out.size)))⟩
              case measure => simp [intOf]; omega
      · have HST : Hid (∀ w1, Below W.heap.size W w1 → Calls Try.prog 13 #[.pointer (some ⟨q, 0, none⟩), .int .i64 (a : Int), .string bs] w1 fun e w' => e = .returned (.int .i64 (p.stE (a : Int) bs : Nat)) ∧ Px w w' k q (p.st (a : Int) bs) (.slice (some ⟨g, 0, none⟩) 70 70) L ∧ ∀ cs t, Blk w1 wr.heap.size cs t → Blk w' wr.heap.size cs t) := fun w1 hb => store_pb (2 * j) (a : Int) hI bs (by rw [HBZ.out]; decide) hok0 HX.out (HBW.out.trans (hb.mono HBW.out.size))
        have HBK2 : Hid (∀ w1, Below W.heap.size W w1 → Blk w1 wr.heap.size #[.int .i64 x.kd, .int .i64 x.pl, .string x.tx] 33) := fun w1 hb => HBK.out.on hb HBK.out.lt
        by_cases hE : p.stE (a : Int) bs = 0
        · rw [hE] at HST
          have HS1 := hid (HS.out.st0 ha3 hE)
          have HRC : Hid (∀ w1, Px w w1 k q (p.st (a : Int) bs) (.slice (some ⟨g, 0, none⟩) 70 70) L → (∃ s0, w1.cell? ⟨g, a, none⟩ = some (.string s0)) ∧ w1.frozen? ⟨g, a, none⟩ = false) := fun w1 h => by
            obtain ⟨s0, hs0⟩ : ∃ s0, L[a]? = some s0 := ⟨_, List.getElem?_eq_getElem (by rw [HLE.out]; exact ha3)⟩
            exact ⟨⟨s0, (h.row.at hs0).1⟩, (h.row.at hs0).2⟩
          clear hE hok0 HR0 HS
          go_upto_region 15 with fail
          try rw [hW]
          clear hW c0 c1 c2
          go_upto_region 36 with (first | (go_at_call 10; refine (HK1.out _).mono ?_; clear HK1; rintro e wk ⟨rfl, rfl⟩) | (go_at_call 10; refine (HK2.out _).mono ?_; clear HK2; rintro e wk ⟨rfl, rfl⟩) | (go_at_call 14; refine (HBL.out _).mono ?_; rintro e w5 ⟨rfl, hb5⟩; have HB5 := hid hb5; clear hb5 x0 x1 x2) | (go_at_call 13; refine (HST.out _ HB5.out).mono ?_; clear HST; rintro e w6 ⟨rfl, hx6, hk6⟩; have HX6 := hid hx6; have b6 := hk6 _ _ (HBK2.out _ HB5.out); have x6 := b6.cell (i := 2) rfl; clear hx6 hk6 b6) | (go_at_call 14; refine (HBL.out _).mono ?_; clear HBL x6; rintro e w7 ⟨rfl, hb7⟩; have HX7 := hid (HX6.out.on hb7); obtain ⟨⟨s0, c7⟩, f7⟩ := HRC.out _ HX7.out; clear hb7))
          clear c7 f7
          have HX1 : Hid (Px w (w7.setCell ⟨g, a, none⟩ (.string bs)) k q (p.st (a : Int) bs) (.slice (some ⟨g, 0, none⟩) 70 70) (L.set a bs)) := HX7.out.set HLE.out
          obtain ⟨wz, hwz⟩ : ∃ wz, w7.setCell ⟨g, a, none⟩ (.string bs) = wz := ⟨_, rfl⟩
          rw [hwz] at HX1
          try rw [hwz]
          clear hwz
          obtain ⟨HH, hHH⟩ : ∃ HH, (p.st (a : Int) bs).hs.map Hp.pl = HH := ⟨_, rfl⟩
          obtain ⟨DD, hDD⟩ : ∃ DD, (p.st (a : Int) bs).ch.map Pg.pl = DD := ⟨_, rfl⟩
          have HAP : Hid (∀ y ∈ HH, ∀ z ∈ DD, ¬ y = z) := fun y hy z hz => by
            rw [← hHH] at hy
            rw [← hDD] at hz
            obtain ⟨y', hy', rfl⟩ := List.mem_map.1 hy
            obtain ⟨z', hz', rfl⟩ := List.mem_map.1 hz
            exact HS1.out.vs.ok.ap y' hy' z' hz'
          have hHl : HH.length ≤ r := by rw [← hHH, List.length_map]; have := HS1.out.vs.ok.len; rw [HS1.out.room] at this; exact this
          have hDl : DD.length ≤ 1019 := by rw [← hDD, List.length_map]; exact HS1.out.vs.ok.few
          have HHE : Hid (Calls Try.prog 19 #[.pointer (some ⟨q, 0, none⟩)] wz fun e w' => ∃ v', e = .returned v' ∧ RowI w' wz.heap.size v' HH ∧ Below wz.heap.size wz w') := by show Calls _ _ _ _ _; rw [← hHH]; exact held_px HS1.out.vs.ok HX1.out
          have HDI : Hid (∀ w1, Below wz.heap.size wz w1 → Calls Try.prog 18 #[.pointer (some ⟨q, 0, none⟩)] w1 fun e w' => ∃ v', e = .returned v' ∧ RowI w' w1.heap.size v' DD ∧ Below w1.heap.size w1 w') := fun w1 hb => by rw [← hDD]; exact dirty_px HS1.out.vs.ok (HX1.out.on hb)
          clear hHH hDD
          obtain ⟨hl, hhl⟩ : ∃ hl, HH.length = hl := ⟨_, rfl⟩
          obtain ⟨dl, hdl⟩ : ∃ dl, DD.length = dl := ⟨_, rfl⟩
          have HHL := hid hhl
          have HDL := hid hdl
          rw [hhl] at hHl
          rw [hdl] at hDl
          clear hhl hdl
          have hHi : ¬ (r : Int) < (hl : Int) := by omega
          go_wp2_with (first
            | (go_at_call 19; refine HHE.out.mono ?_; clear HHE; rintro e wh ⟨vh, rfl, hrh, hbh⟩; have HRH := hid hrh; have HBH := hid hbh; obtain ⟨pa, pc, eh⟩ := hrh.form; subst eh; rw [HHL.out]; rw [HHL.out] at HRH; clear hrh hbh)
            | (go_at_call 18; refine (HDI.out _ HBH.out).mono ?_; clear HDI; rintro e wd ⟨vd, rfl, hrd, hbd⟩; have HRD := hid hrd; have HRH2 := hid (HRH.out.on hbd); have HBD := hid (HBH.out.trans (hbd.mono HBH.out.size)); obtain ⟨sa, sc, ed⟩ := hrd.form; subst ed; rw [HDL.out]; rw [HDL.out] at HRD; clear hrd hbd HRH))
          go_loopw [138] (fun i wq => ∃ s : Nat, s ≤ hl ∧ i = .int .i64 (s : Nat) ∧ Hid (Below wd.heap.size wd wq)) (fun i _ => hl - (intOf i).toNat)
          case atStart => exact ⟨0, Nat.zero_le _, rfl, Below.refl _ _⟩
          case round =>
            obtain ⟨s, hs, rfl, HQ⟩ := hrel
            by_cases hsl : s < hl
            · have hsi : (s : Int) < (hl : Int) := by omega
              obtain ⟨y, hy⟩ : ∃ y, HH[s]? = some y := ⟨_, List.getElem?_eq_getElem (by rw [HHL.out]; exact hsl)⟩
              obtain ⟨gh, e1, _, hghl, cy, _⟩ := HRH2.out.at hy
              subst e1
              have HY := hid hy
              have HCY : Hid (∀ w1, Below wd.heap.size wd w1 → w1.cell? ⟨gh, s, none⟩ = some (.int .i64 y)) := fun w1 hb => (hb.cell (p := ⟨gh, s, none⟩) hghl).trans cy
              clear hy cy hghl
              obtain ⟨wq2, hwq2⟩ : ∃ wq2, wq2 = wr := ⟨_, rfl⟩
              subst hwq2
              go_wp2_with fail
              go_loopw [143] (fun i wp => ∃ t : Nat, t ≤ dl ∧ i = .int .i64 (t : Nat) ∧ Hid (Below wd.heap.size wd wp)) (fun i _ => dl - (intOf i).toNat)
              case atStart => exact ⟨0, Nat.zero_le _, rfl, HQ⟩
              case round =>
                obtain ⟨t, ht, rfl, HQ2⟩ := hrel
                by_cases htl : t < dl
                · have hti : (t : Int) < (dl : Int) := by omega
                  obtain ⟨z, hz⟩ : ∃ z, DD[t]? = some z := ⟨_, List.getElem?_eq_getElem (by rw [HDL.out]; exact htl)⟩
                  obtain ⟨gd, e1, _, hgdl, cz, _⟩ := HRD.out.at hz
                  subst e1
                  have d1 := HCY.out _ HQ2.out
                  have d2 := (HQ2.out.cell (p := ⟨gd, t, none⟩) hgdl).trans cz
                  have hyz : (y == z) = false := by have := HAP.out y (List.mem_of_getElem? HY.out) z (List.mem_of_getElem? hz); simpa using this
                  have hyz2 : ¬ y = z := HAP.out y (List.mem_of_getElem? HY.out) z (List.mem_of_getElem? hz)
                  have HQ3 := hid (HQ2.out.drew)
                  clear hz cz hgdl
                  go_wp2_with fail
                  go_region
                  clear d1 d2
                  go_wp2_with fail
                  go_roundw
                  case rel => exact ⟨t + 1, by omega, by go_num, HQ3⟩
                  case measure => simp [intOf]; omega
                · obtain rfl : t = dl := by omega
                  go_wp2_with fail
                  go_roundw
                  case rel => exact ⟨s + 1, by omega, by go_num, HQ2⟩
                  case measure => simp [intOf]; omega
            · obtain rfl : s = hl := by omega
              go_wp2_with fail
              go_roundw
              case rel => exact ⟨j + 1, p.st (a : Int) bs, g, L.set a bs, by omega, by go_num, rfl, HS1, hid (HX1.out.on (HBD.out.trans (HQ.out.mono HBD.out.size)))⟩
              case measure => simp [intOf]; omega
        · have HS1 := hid (HS.out.st1 hE)
          obtain ⟨re, hre⟩ : ∃ re, p.stE (a : Int) bs = re := ⟨_, rfl⟩
          rw [hre] at HST hE
          have hrb : ((re : Int) == 0) = false := by simp; omega
          have hrz : ¬ (re : Int) = 0 := by omega
          clear hre hok0 HR0 HS
          go_upto_region 15 with fail
          try rw [hW]
          clear hW c0 c1 c2
          go_upto_region 36 with (first | (go_at_call 10; refine (HK1.out _).mono ?_; clear HK1; rintro e wk ⟨rfl, rfl⟩) | (go_at_call 10; refine (HK2.out _).mono ?_; clear HK2; rintro e wk ⟨rfl, rfl⟩) | (go_at_call 14; refine (HBL.out _).mono ?_; clear HBL; rintro e w5 ⟨rfl, hb5⟩; have HB5 := hid hb5; clear hb5 x0 x1 x2) | (go_at_call 13; refine (HST.out _ HB5.out).mono ?_; clear HST; rintro e w6 ⟨rfl, hx6, hk6⟩; have HX1 := hid hx6; clear hx6 hk6))
          obtain ⟨HH, hHH⟩ : ∃ HH, (p.st (a : Int) bs).hs.map Hp.pl = HH := ⟨_, rfl⟩
          obtain ⟨DD, hDD⟩ : ∃ DD, (p.st (a : Int) bs).ch.map Pg.pl = DD := ⟨_, rfl⟩
          have HAP : Hid (∀ y ∈ HH, ∀ z ∈ DD, ¬ y = z) := fun y hy z hz => by
            rw [← hHH] at hy
            rw [← hDD] at hz
            obtain ⟨y', hy', rfl⟩ := List.mem_map.1 hy
            obtain ⟨z', hz', rfl⟩ := List.mem_map.1 hz
            exact HS1.out.vs.ok.ap y' hy' z' hz'
          have hHl : HH.length ≤ r := by rw [← hHH, List.length_map]; have := HS1.out.vs.ok.len; rw [HS1.out.room] at this; exact this
          have hDl : DD.length ≤ 1019 := by rw [← hDD, List.length_map]; exact HS1.out.vs.ok.few
          have HHE : Hid (Calls Try.prog 19 #[.pointer (some ⟨q, 0, none⟩)] w6 fun e w' => ∃ v', e = .returned v' ∧ RowI w' w6.heap.size v' HH ∧ Below w6.heap.size w6 w') := by show Calls _ _ _ _ _; rw [← hHH]; exact held_px HS1.out.vs.ok HX1.out
          have HDI : Hid (∀ w1, Below w6.heap.size w6 w1 → Calls Try.prog 18 #[.pointer (some ⟨q, 0, none⟩)] w1 fun e w' => ∃ v', e = .returned v' ∧ RowI w' w1.heap.size v' DD ∧ Below w1.heap.size w1 w') := fun w1 hb => by rw [← hDD]; exact dirty_px HS1.out.vs.ok (HX1.out.on hb)
          clear hHH hDD
          obtain ⟨hl, hhl⟩ : ∃ hl, HH.length = hl := ⟨_, rfl⟩
          obtain ⟨dl, hdl⟩ : ∃ dl, DD.length = dl := ⟨_, rfl⟩
          have HHL := hid hhl
          have HDL := hid hdl
          rw [hhl] at hHl
          rw [hdl] at hDl
          clear hhl hdl
          have hHi : ¬ (r : Int) < (hl : Int) := by omega
          go_wp2_with (first
            | (go_at_call 19; refine HHE.out.mono ?_; clear HHE; rintro e wh ⟨vh, rfl, hrh, hbh⟩; have HRH := hid hrh; have HBH := hid hbh; obtain ⟨pa, pc, eh⟩ := hrh.form; subst eh; rw [HHL.out]; rw [HHL.out] at HRH; clear hrh hbh)
            | (go_at_call 18; refine (HDI.out _ HBH.out).mono ?_; clear HDI; rintro e wd ⟨vd, rfl, hrd, hbd⟩; have HRD := hid hrd; have HRH2 := hid (HRH.out.on hbd); have HBD := hid (HBH.out.trans (hbd.mono HBH.out.size)); obtain ⟨sa, sc, ed⟩ := hrd.form; subst ed; rw [HDL.out]; rw [HDL.out] at HRD; clear hrd hbd HRH))
          go_loopw [138] (fun i wq => ∃ s : Nat, s ≤ hl ∧ i = .int .i64 (s : Nat) ∧ Hid (Below wd.heap.size wd wq)) (fun i _ => hl - (intOf i).toNat)
          case atStart => exact ⟨0, Nat.zero_le _, rfl, Below.refl _ _⟩
          case round =>
            obtain ⟨s, hs, rfl, HQ⟩ := hrel
            by_cases hsl : s < hl
            · have hsi : (s : Int) < (hl : Int) := by omega
              obtain ⟨y, hy⟩ : ∃ y, HH[s]? = some y := ⟨_, List.getElem?_eq_getElem (by rw [HHL.out]; exact hsl)⟩
              obtain ⟨gh, e1, _, hghl, cy, _⟩ := HRH2.out.at hy
              subst e1
              have HY := hid hy
              have HCY : Hid (∀ w1, Below wd.heap.size wd w1 → w1.cell? ⟨gh, s, none⟩ = some (.int .i64 y)) := fun w1 hb => (hb.cell (p := ⟨gh, s, none⟩) hghl).trans cy
              clear hy cy hghl
              obtain ⟨wq2, hwq2⟩ : ∃ wq2, wq2 = wr := ⟨_, rfl⟩
              subst hwq2
              go_wp2_with fail
              go_loopw [143] (fun i wp => ∃ t : Nat, t ≤ dl ∧ i = .int .i64 (t : Nat) ∧ Hid (Below wd.heap.size wd wp)) (fun i _ => dl - (intOf i).toNat)
              case atStart => exact ⟨0, Nat.zero_le _, rfl, HQ⟩
              case round =>
                obtain ⟨t, ht, rfl, HQ2⟩ := hrel
                by_cases htl : t < dl
                · have hti : (t : Int) < (dl : Int) := by omega
                  obtain ⟨z, hz⟩ : ∃ z, DD[t]? = some z := ⟨_, List.getElem?_eq_getElem (by rw [HDL.out]; exact htl)⟩
                  obtain ⟨gd, e1, _, hgdl, cz, _⟩ := HRD.out.at hz
                  subst e1
                  have d1 := HCY.out _ HQ2.out
                  have d2 := (HQ2.out.cell (p := ⟨gd, t, none⟩) hgdl).trans cz
                  have hyz : (y == z) = false := by have := HAP.out y (List.mem_of_getElem? HY.out) z (List.mem_of_getElem? hz); simpa using this
                  have hyz2 : ¬ y = z := HAP.out y (List.mem_of_getElem? HY.out) z (List.mem_of_getElem? hz)
                  have HQ3 := hid (HQ2.out.drew)
                  clear hz cz hgdl
                  go_wp2_with fail
                  go_region
                  clear d1 d2
                  go_wp2_with fail
                  go_roundw
                  case rel => exact ⟨t + 1, by omega, by go_num, HQ3⟩
                  case measure => simp [intOf]; omega
                · obtain rfl : t = dl := by omega
                  go_wp2_with fail
                  go_roundw
                  case rel => exact ⟨s + 1, by omega, by go_num, HQ2⟩
                  case measure => simp [intOf]; omega
            · obtain rfl : s = hl := by omega
              go_wp2_with fail
              go_roundw
              case rel => exact ⟨j + 1, p.st (a : Int) bs, g, L, by omega, by go_num, rfl, HS1, hid (HX1.out.on (HBD.out.trans (HQ.out.mono HBD.out.size)))⟩
              case measure => simp [intOf]; omega
      · have HPI : Hid (Calls Try.prog 15 #[.pointer (some ⟨q, 0, none⟩), .int .i64 (a : Int)] W fun e w' => e = .returned (.int .i64 (p.piE (a : Int) : Nat)) ∧ Px w w' k q (p.pi (a : Int)) (.slice (some ⟨g, 0, none⟩) 70 70) L) := pin_px (2 * j) (by omega) (a : Int) hok0 (HX.out.on HBW.out)
        have HS1 := hid (HS.out.pi (a : Int))
        clear hok0 HR0 HS HBL
        generalize p.piE (a : Int) = re at *
        go_upto_region 15 with fail
        try rw [hW]
        clear hW c0 c1 c2
        go_upto_region 36 with (first | (go_at_call 10; refine (HK1.out _).mono ?_; clear HK1; rintro e wk ⟨rfl, rfl⟩) | (go_at_call 10; refine (HK2.out _).mono ?_; clear HK2; rintro e wk ⟨rfl, rfl⟩) | (go_at_call 15; refine HPI.out.mono ?_; clear HPI x0 x1 x2; rintro e w6 ⟨rfl, hx6⟩; have HX1 := hid hx6; clear hx6))
        obtain ⟨HH, hHH⟩ : ∃ HH, (p.pi (a : Int)).hs.map Hp.pl = HH := ⟨_, rfl⟩
        obtain ⟨DD, hDD⟩ : ∃ DD, (p.pi (a : Int)).ch.map Pg.pl = DD := ⟨_, rfl⟩
        have HAP : Hid (∀ y ∈ HH, ∀ z ∈ DD, ¬ y = z) := fun y hy z hz => by
          rw [← hHH] at hy
          rw [← hDD] at hz
          obtain ⟨y', hy', rfl⟩ := List.mem_map.1 hy
          obtain ⟨z', hz', rfl⟩ := List.mem_map.1 hz
          exact HS1.out.vs.ok.ap y' hy' z' hz'
        have hHl : HH.length ≤ r := by rw [← hHH, List.length_map]; have := HS1.out.vs.ok.len; rw [HS1.out.room] at this; exact this
        have hDl : DD.length ≤ 1019 := by rw [← hDD, List.length_map]; exact HS1.out.vs.ok.few
        have HHE : Hid (Calls Try.prog 19 #[.pointer (some ⟨q, 0, none⟩)] w6 fun e w' => ∃ v', e = .returned v' ∧ RowI w' w6.heap.size v' HH ∧ Below w6.heap.size w6 w') := by show Calls _ _ _ _ _; rw [← hHH]; exact held_px HS1.out.vs.ok HX1.out
        have HDI : Hid (∀ w1, Below w6.heap.size w6 w1 → Calls Try.prog 18 #[.pointer (some ⟨q, 0, none⟩)] w1 fun e w' => ∃ v', e = .returned v' ∧ RowI w' w1.heap.size v' DD ∧ Below w1.heap.size w1 w') := fun w1 hb => by rw [← hDD]; exact dirty_px HS1.out.vs.ok (HX1.out.on hb)
        clear hHH hDD
        obtain ⟨hl, hhl⟩ : ∃ hl, HH.length = hl := ⟨_, rfl⟩
        obtain ⟨dl, hdl⟩ : ∃ dl, DD.length = dl := ⟨_, rfl⟩
        have HHL := hid hhl
        have HDL := hid hdl
        rw [hhl] at hHl
        rw [hdl] at hDl
        clear hhl hdl
        have hHi : ¬ (r : Int) < (hl : Int) := by omega
        go_wp2_with (first
          | (go_at_call 19; refine HHE.out.mono ?_; clear HHE; rintro e wh ⟨vh, rfl, hrh, hbh⟩; have HRH := hid hrh; have HBH := hid hbh; obtain ⟨pa, pc, eh⟩ := hrh.form; subst eh; rw [HHL.out]; rw [HHL.out] at HRH; clear hrh hbh)
          | (go_at_call 18; refine (HDI.out _ HBH.out).mono ?_; clear HDI; rintro e wd ⟨vd, rfl, hrd, hbd⟩; have HRD := hid hrd; have HRH2 := hid (HRH.out.on hbd); have HBD := hid (HBH.out.trans (hbd.mono HBH.out.size)); obtain ⟨sa, sc, ed⟩ := hrd.form; subst ed; rw [HDL.out]; rw [HDL.out] at HRD; clear hrd hbd HRH))
        go_loopw [138] (fun i wq => ∃ s : Nat, s ≤ hl ∧ i = .int .i64 (s : Nat) ∧ Hid (Below wd.heap.size wd wq)) (fun i _ => hl - (intOf i).toNat)
        case atStart => exact ⟨0, Nat.zero_le _, rfl, Below.refl _ _⟩
        case round =>
          obtain ⟨s, hs, rfl, HQ⟩ := hrel
          by_cases hsl : s < hl
          · have hsi : (s : Int) < (hl : Int) := by omega
            obtain ⟨y, hy⟩ : ∃ y, HH[s]? = some y := ⟨_, List.getElem?_eq_getElem (by rw [HHL.out]; exact hsl)⟩
            obtain ⟨gh, e1, _, hghl, cy, _⟩ := HRH2.out.at hy
            subst e1
            have HY := hid hy
            have HCY : Hid (∀ w1, Below wd.heap.size wd w1 → w1.cell? ⟨gh, s, none⟩ = some (.int .i64 y)) := fun w1 hb => (hb.cell (p := ⟨gh, s, none⟩) hghl).trans cy
            clear hy cy hghl
            obtain ⟨wq2, hwq2⟩ : ∃ wq2, wq2 = wr := ⟨_, rfl⟩
            subst hwq2
            go_wp2_with fail
            go_loopw [143] (fun i wp => ∃ t : Nat, t ≤ dl ∧ i = .int .i64 (t : Nat) ∧ Hid (Below wd.heap.size wd wp)) (fun i _ => dl - (intOf i).toNat)
            case atStart => exact ⟨0, Nat.zero_le _, rfl, HQ⟩
            case round =>
              obtain ⟨t, ht, rfl, HQ2⟩ := hrel
              by_cases htl : t < dl
              · have hti : (t : Int) < (dl : Int) := by omega
                obtain ⟨z, hz⟩ : ∃ z, DD[t]? = some z := ⟨_, List.getElem?_eq_getElem (by rw [HDL.out]; exact htl)⟩
                obtain ⟨gd, e1, _, hgdl, cz, _⟩ := HRD.out.at hz
                subst e1
                have d1 := HCY.out _ HQ2.out
                have d2 := (HQ2.out.cell (p := ⟨gd, t, none⟩) hgdl).trans cz
                have hyz : (y == z) = false := by have := HAP.out y (List.mem_of_getElem? HY.out) z (List.mem_of_getElem? hz); simpa using this
                have hyz2 : ¬ y = z := HAP.out y (List.mem_of_getElem? HY.out) z (List.mem_of_getElem? hz)
                have HQ3 := hid (HQ2.out.drew)
                clear hz cz hgdl
                go_wp2_with fail
                go_region
                clear d1 d2
                go_wp2_with fail
                go_roundw
                case rel => exact ⟨t + 1, by omega, by go_num, HQ3⟩
                case measure => simp [intOf]; omega
              · obtain rfl : t = dl := by omega
                go_wp2_with fail
                go_roundw
                case rel => exact ⟨s + 1, by omega, by go_num, HQ2⟩
                case measure => simp [intOf]; omega
          · obtain rfl : s = hl := by omega
            go_wp2_with fail
            go_roundw
            case rel => exact ⟨j + 1, p.pi (a : Int), g, L, by omega, by go_num, rfl, HS1, hid (HX1.out.on (HBD.out.trans (HQ.out.mono HBD.out.size)))⟩
            case measure => simp [intOf]; omega
      · have HPI : Hid (Calls Try.prog 16 #[.pointer (some ⟨q, 0, none⟩), .int .i64 (a : Int)] W fun e w' => e = .returned (.int .i64 (p.unE (a : Int) : Nat)) ∧ Px w w' k q (p.un (a : Int)) (.slice (some ⟨g, 0, none⟩) 70 70) L) := unpin_px (2 * j) (by omega) (a : Int) hI hok0 (HX.out.on HBW.out)
        have HS1 := hid (HS.out.un (a : Int))
        clear hok0 HR0 HS HBL
        generalize p.unE (a : Int) = re at *
        go_upto_region 15 with fail
        try rw [hW]
        clear hW c0 c1 c2
        go_upto_region 36 with (first | (go_at_call 10; refine (HK1.out _).mono ?_; clear HK1; rintro e wk ⟨rfl, rfl⟩) | (go_at_call 10; refine (HK2.out _).mono ?_; clear HK2; rintro e wk ⟨rfl, rfl⟩) | (go_at_call 16; refine HPI.out.mono ?_; clear HPI x0 x1 x2; rintro e w6 ⟨rfl, hx6⟩; have HX1 := hid hx6; clear hx6))
        obtain ⟨HH, hHH⟩ : ∃ HH, (p.un (a : Int)).hs.map Hp.pl = HH := ⟨_, rfl⟩
        obtain ⟨DD, hDD⟩ : ∃ DD, (p.un (a : Int)).ch.map Pg.pl = DD := ⟨_, rfl⟩
        have HAP : Hid (∀ y ∈ HH, ∀ z ∈ DD, ¬ y = z) := fun y hy z hz => by
          rw [← hHH] at hy
          rw [← hDD] at hz
          obtain ⟨y', hy', rfl⟩ := List.mem_map.1 hy
          obtain ⟨z', hz', rfl⟩ := List.mem_map.1 hz
          exact HS1.out.vs.ok.ap y' hy' z' hz'
        have hHl : HH.length ≤ r := by rw [← hHH, List.length_map]; have := HS1.out.vs.ok.len; rw [HS1.out.room] at this; exact this
        have hDl : DD.length ≤ 1019 := by rw [← hDD, List.length_map]; exact HS1.out.vs.ok.few
        have HHE : Hid (Calls Try.prog 19 #[.pointer (some ⟨q, 0, none⟩)] w6 fun e w' => ∃ v', e = .returned v' ∧ RowI w' w6.heap.size v' HH ∧ Below w6.heap.size w6 w') := by show Calls _ _ _ _ _; rw [← hHH]; exact held_px HS1.out.vs.ok HX1.out
        have HDI : Hid (∀ w1, Below w6.heap.size w6 w1 → Calls Try.prog 18 #[.pointer (some ⟨q, 0, none⟩)] w1 fun e w' => ∃ v', e = .returned v' ∧ RowI w' w1.heap.size v' DD ∧ Below w1.heap.size w1 w') := fun w1 hb => by rw [← hDD]; exact dirty_px HS1.out.vs.ok (HX1.out.on hb)
        clear hHH hDD
        obtain ⟨hl, hhl⟩ : ∃ hl, HH.length = hl := ⟨_, rfl⟩
        obtain ⟨dl, hdl⟩ : ∃ dl, DD.length = dl := ⟨_, rfl⟩
        have HHL := hid hhl
        have HDL := hid hdl
        rw [hhl] at hHl
        rw [hdl] at hDl
        clear hhl hdl
        have hHi : ¬ (r : Int) < (hl : Int) := by omega
        go_wp2_with (first
          | (go_at_call 19; refine HHE.out.mono ?_; clear HHE; rintro e wh ⟨vh, rfl, hrh, hbh⟩; have HRH := hid hrh; have HBH := hid hbh; obtain ⟨pa, pc, eh⟩ := hrh.form; subst eh; rw [HHL.out]; rw [HHL.out] at HRH; clear hrh hbh)
          | (go_at_call 18; refine (HDI.out _ HBH.out).mono ?_; clear HDI; rintro e wd ⟨vd, rfl, hrd, hbd⟩; have HRD := hid hrd; have HRH2 := hid (HRH.out.on hbd); have HBD := hid (HBH.out.trans (hbd.mono HBH.out.size)); obtain ⟨sa, sc, ed⟩ := hrd.form; subst ed; rw [HDL.out]; rw [HDL.out] at HRD; clear hrd hbd HRH))
        go_loopw [138] (fun i wq => ∃ s : Nat, s ≤ hl ∧ i = .int .i64 (s : Nat) ∧ Hid (Below wd.heap.size wd wq)) (fun i _ => hl - (intOf i).toNat)
        case atStart => exact ⟨0, Nat.zero_le _, rfl, Below.refl _ _⟩
        case round =>
          obtain ⟨s, hs, rfl, HQ⟩ := hrel
          by_cases hsl : s < hl
          · have hsi : (s : Int) < (hl : Int) := by omega
            obtain ⟨y, hy⟩ : ∃ y, HH[s]? = some y := ⟨_, List.getElem?_eq_getElem (by rw [HHL.out]; exact hsl)⟩
            obtain ⟨gh, e1, _, hghl, cy, _⟩ := HRH2.out.at hy
            subst e1
            have HY := hid hy
            have HCY : Hid (∀ w1, Below wd.heap.size wd w1 → w1.cell? ⟨gh, s, none⟩ = some (.int .i64 y)) := fun w1 hb => (hb.cell (p := ⟨gh, s, none⟩) hghl).trans cy
            clear hy cy hghl
            obtain ⟨wq2, hwq2⟩ : ∃ wq2, wq2 = wr := ⟨_, rfl⟩
            subst hwq2
            go_wp2_with fail
            go_loopw [143] (fun i wp => ∃ t : Nat, t ≤ dl ∧ i = .int .i64 (t : Nat) ∧ Hid (Below wd.heap.size wd wp)) (fun i _ => dl - (intOf i).toNat)
            case atStart => exact ⟨0, Nat.zero_le _, rfl, HQ⟩
            case round =>
              obtain ⟨t, ht, rfl, HQ2⟩ := hrel
              by_cases htl : t < dl
              · have hti : (t : Int) < (dl : Int) := by omega
                obtain ⟨z, hz⟩ : ∃ z, DD[t]? = some z := ⟨_, List.getElem?_eq_getElem (by rw [HDL.out]; exact htl)⟩
                obtain ⟨gd, e1, _, hgdl, cz, _⟩ := HRD.out.at hz
                subst e1
                have d1 := HCY.out _ HQ2.out
                have d2 := (HQ2.out.cell (p := ⟨gd, t, none⟩) hgdl).trans cz
                have hyz : (y == z) = false := by have := HAP.out y (List.mem_of_getElem? HY.out) z (List.mem_of_getElem? hz); simpa using this
                have hyz2 : ¬ y = z := HAP.out y (List.mem_of_getElem? HY.out) z (List.mem_of_getElem? hz)
                have HQ3 := hid (HQ2.out.drew)
                clear hz cz hgdl
                go_wp2_with fail
                go_region
                clear d1 d2
                go_wp2_with fail
                go_roundw
                case rel => exact ⟨t + 1, by omega, by go_num, HQ3⟩
                case measure => simp [intOf]; omega
              · obtain rfl : t = dl := by omega
                go_wp2_with fail
                go_roundw
                case rel => exact ⟨s + 1, by omega, by go_num, HQ2⟩
                case measure => simp [intOf]; omega
          · obtain rfl : s = hl := by omega
            go_wp2_with fail
            go_roundw
            case rel => exact ⟨j + 1, p.un (a : Int), g, L, by omega, by go_num, rfl, HS1, hid (HX1.out.on (HBD.out.trans (HQ.out.mono HBD.out.size)))⟩
            case measure => simp [intOf]; omega
      · obtain ⟨m1, m2, m3⟩ := HS.out.cm
        have HCO : Hid (Calls Try.prog 17 #[.pointer (some ⟨q, 0, none⟩)] W fun e w' => e = .returned (.int .i64 0) ∧ Px w w' k q p.cm (.slice (some ⟨g, 0, none⟩) 70 70) L) := by
          have := commit_px (2 * j) hok0 ((show Fit 3000000 by unfold Fit; decide).le (by have := HS.out.lg; omega)) (HX.out.on HBW.out)
          rw [m1] at this
          exact this
        have HDI0 : Hid (∀ w1, Px w w1 k q p.cm (.slice (some ⟨g, 0, none⟩) 70 70) L → Calls Try.prog 18 #[.pointer (some ⟨q, 0, none⟩)] w1 fun e w' => (∃ a c, e = .returned (.slice a 0 c)) ∧ Below w1.heap.size w1 w') := fun w1 h => (dirty_px m3.vs.ok h).mono fun e w' hh => by
          obtain ⟨v', e1, r1, b1⟩ := hh
          obtain ⟨a1, c1, e2⟩ := r1.form
          rw [m2] at e2
          exact ⟨⟨a1, c1, by rw [e1, e2]; rfl⟩, b1⟩
        have HS1 := hid m3
        clear m1 m2 m3 hok0 HR0 HS HBL
        go_upto_region 15 with fail
        try rw [hW]
        clear hW c0 c1 c2
        go_upto_region 36 with (first | (go_at_call 10; refine (HK1.out _).mono ?_; clear HK1; rintro e wk ⟨rfl, rfl⟩) | (go_at_call 10; refine (HK2.out _).mono ?_; clear HK2; rintro e wk ⟨rfl, rfl⟩) | (go_at_call 17; refine HCO.out.mono ?_; clear HCO x0 x1 x2; rintro e w6 ⟨rfl, hx6⟩; have HX6 := hid hx6; clear hx6) | (go_at_call 18; refine (HDI0.out _ HX6.out).mono ?_; clear HDI0; rintro e w7 ⟨⟨da, dc, rfl⟩, hb7⟩; have HX7 := hid (HX6.out.on hb7); clear hb7) | (at_make; refine wpList_make_full _ rfl _ _ 31 rfl w7.heap.size 9 i9 (.string ⟨#[]⟩) 1 Try.underlying31 hi9 hz90 hz91 .i64 .i64 _ _ 70 rfl rfl rfl rfl (by rw [hz92]; decide) (by unfold maxLen; decide) (Nat.le_refl _) ?_; intro w8 hown hgrow; have HX1 := hid (HX7.out.take (u := .slice (some ⟨w7.heap.size, 0, none⟩) 70 70) (M := List.replicate 70 ⟨#[]⟩) ((Below.refl _ w7).grown hgrow (Nat.le_refl _) (fun k hk => by cases hk)) (by unfold RowS; rw [List.length_replicate, ← zeros_texts]; exact hown)); clear hown hgrow))
        obtain ⟨HH, hHH⟩ : ∃ HH, (p.cm).hs.map Hp.pl = HH := ⟨_, rfl⟩
        obtain ⟨DD, hDD⟩ : ∃ DD, (p.cm).ch.map Pg.pl = DD := ⟨_, rfl⟩
        have HAP : Hid (∀ y ∈ HH, ∀ z ∈ DD, ¬ y = z) := fun y hy z hz => by
          rw [← hHH] at hy
          rw [← hDD] at hz
          obtain ⟨y', hy', rfl⟩ := List.mem_map.1 hy
          obtain ⟨z', hz', rfl⟩ := List.mem_map.1 hz
          exact HS1.out.vs.ok.ap y' hy' z' hz'
        have hHl : HH.length ≤ r := by rw [← hHH, List.length_map]; have := HS1.out.vs.ok.len; rw [HS1.out.room] at this; exact this
        have hDl : DD.length ≤ 1019 := by rw [← hDD, List.length_map]; exact HS1.out.vs.ok.few
        have HHE : Hid (Calls Try.prog 19 #[.pointer (some ⟨q, 0, none⟩)] w8 fun e w' => ∃ v', e = .returned v' ∧ RowI w' w8.heap.size v' HH ∧ Below w8.heap.size w8 w') := by show Calls _ _ _ _ _; rw [← hHH]; exact held_px HS1.out.vs.ok HX1.out
        have HDI : Hid (∀ w1, Below w8.heap.size w8 w1 → Calls Try.prog 18 #[.pointer (some ⟨q, 0, none⟩)] w1 fun e w' => ∃ v', e = .returned v' ∧ RowI w' w1.heap.size v' DD ∧ Below w1.heap.size w1 w') := fun w1 hb => by rw [← hDD]; exact dirty_px HS1.out.vs.ok (HX1.out.on hb)
        clear hHH hDD
        obtain ⟨hl, hhl⟩ : ∃ hl, HH.length = hl := ⟨_, rfl⟩
        obtain ⟨dl, hdl⟩ : ∃ dl, DD.length = dl := ⟨_, rfl⟩
        have HHL := hid hhl
        have HDL := hid hdl
        rw [hhl] at hHl
        rw [hdl] at hDl
        clear hhl hdl
        have hHi : ¬ (r : Int) < (hl : Int) := by omega
        go_wp2_with (first
          | (go_at_call 19; refine HHE.out.mono ?_; clear HHE; rintro e wh ⟨vh, rfl, hrh, hbh⟩; have HRH := hid hrh; have HBH := hid hbh; obtain ⟨pa, pc, eh⟩ := hrh.form; subst eh; rw [HHL.out]; rw [HHL.out] at HRH; clear hrh hbh)
          | (go_at_call 18; refine (HDI.out _ HBH.out).mono ?_; clear HDI; rintro e wd ⟨vd, rfl, hrd, hbd⟩; have HRD := hid hrd; have HRH2 := hid (HRH.out.on hbd); have HBD := hid (HBH.out.trans (hbd.mono HBH.out.size)); obtain ⟨sa, sc, ed⟩ := hrd.form; subst ed; rw [HDL.out]; rw [HDL.out] at HRD; clear hrd hbd HRH))
        go_loopw [138] (fun i wq => ∃ s : Nat, s ≤ hl ∧ i = .int .i64 (s : Nat) ∧ Hid (Below wd.heap.size wd wq)) (fun i _ => hl - (intOf i).toNat)
        case atStart => exact ⟨0, Nat.zero_le _, rfl, Below.refl _ _⟩
        case round =>
          obtain ⟨s, hs, rfl, HQ⟩ := hrel
          by_cases hsl : s < hl
          · have hsi : (s : Int) < (hl : Int) := by omega
            obtain ⟨y, hy⟩ : ∃ y, HH[s]? = some y := ⟨_, List.getElem?_eq_getElem (by rw [HHL.out]; exact hsl)⟩
            obtain ⟨gh, e1, _, hghl, cy, _⟩ := HRH2.out.at hy
            subst e1
            have HY := hid hy
            have HCY : Hid (∀ w1, Below wd.heap.size wd w1 → w1.cell? ⟨gh, s, none⟩ = some (.int .i64 y)) := fun w1 hb => (hb.cell (p := ⟨gh, s, none⟩) hghl).trans cy
            clear hy cy hghl
            obtain ⟨wq2, hwq2⟩ : ∃ wq2, wq2 = wr := ⟨_, rfl⟩
            subst hwq2
            go_wp2_with fail
            go_loopw [143] (fun i wp => ∃ t : Nat, t ≤ dl ∧ i = .int .i64 (t : Nat) ∧ Hid (Below wd.heap.size wd wp)) (fun i _ => dl - (intOf i).toNat)
            case atStart => exact ⟨0, Nat.zero_le _, rfl, HQ⟩
            case round =>
              obtain ⟨t, ht, rfl, HQ2⟩ := hrel
              by_cases htl : t < dl
              · have hti : (t : Int) < (dl : Int) := by omega
                obtain ⟨z, hz⟩ : ∃ z, DD[t]? = some z := ⟨_, List.getElem?_eq_getElem (by rw [HDL.out]; exact htl)⟩
                obtain ⟨gd, e1, _, hgdl, cz, _⟩ := HRD.out.at hz
                subst e1
                have d1 := HCY.out _ HQ2.out
                have d2 := (HQ2.out.cell (p := ⟨gd, t, none⟩) hgdl).trans cz
                have hyz : (y == z) = false := by have := HAP.out y (List.mem_of_getElem? HY.out) z (List.mem_of_getElem? hz); simpa using this
                have hyz2 : ¬ y = z := HAP.out y (List.mem_of_getElem? HY.out) z (List.mem_of_getElem? hz)
                have HQ3 := hid (HQ2.out.drew)
                clear hz cz hgdl
                go_wp2_with fail
                go_region
                clear d1 d2
                go_wp2_with fail
                go_roundw
                case rel => exact ⟨t + 1, by omega, by go_num, HQ3⟩
                case measure => simp [intOf]; omega
              · obtain rfl : t = dl := by omega
                go_wp2_with fail
                go_roundw
                case rel => exact ⟨s + 1, by omega, by go_num, HQ2⟩
                case measure => simp [intOf]; omega
          · obtain rfl : s = hl := by omega
            go_wp2_with fail
            go_roundw
            case rel => exact ⟨j + 1, p.cm, w7.heap.size, List.replicate 70 ⟨#[]⟩, by omega, by go_num, rfl, HS1, hid (HX1.out.on (HBD.out.trans (HQ.out.mono HBD.out.size)))⟩
            case measure => simp [intOf]; omega
    · obtain rfl : j = n := by omega
      go_wp2_with fail
      go_ret
      exact ⟨rfl, HX.out.below⟩

theorem pagerSees_own : ownKnob Try.prog.godebug = none := by kernel_rfl
theorem pagerSees_laidOut : laidOutB Try.prog = true := by kernel_rfl

set_option maxRecDepth 100000 in
theorem pagerSees_lifted (os : Os) (started : os.Started) (H : Type) (enc : TypeId × Value → H) :
    ReturnsInHanded {} Try.checked os 3 .any (Rows.pagerSeesSpec.pre6 enc Try.prog Try.f3 Rows.pagerSeesRow.domain false) (Rows.pagerSeesSpec.post enc Try.prog Try.f3 false true false false) := by
  refine returnsInHanded_of_change_sized (C := Try.checked) pagerSees_own started (by kernel_rfl) Try.func3
    (ChangeSpec.witness6 (enc := enc) (C := Try.checked) false ⟨#[], #[.int .u8 0, .slice none 0 0], []⟩ 8 (by kernel_rfl) (by kernel_rfl) (by kernel_rfl) (by kernel_rfl)) ?_
  intro W base args ds gs before hval0 hW hcnd hsz0 _
  have hsz : (DataW.weightsEach Try.prog (Try.f3.params.toList ++ Rows.pagerSeesSpec.plain.varTypes Try.prog) (ds ++ gs)).all (· ≤ reachBytes) = true := hsz0
  have hval : ∀ (j : Nat) t v, Try.f3.params[j]? = some t → args[j]? = some v → Value.okWide Try.prog W .any base t v := hval0
  have hW' := hW
  obtain ⟨p, q, hA0, hV, rfl, hfz, hnd⟩ := hW
  have hA : DataW.TrodAll enc Try.prog W 0 (fun _ => true) true Try.f3.params.toList args.toList ds p := hA0
  rw [Try.params3] at hA hval hsz
  obtain ⟨v0, vs0, d0, ds0, p0, q0, hargs, rfl, rfl, h0, r0⟩ := trodAll_cons hA
  obtain ⟨v1, vs1, d1, ds1, p1, q1, rfl, rfl, rfl, h1, r1⟩ := trodAll_cons r0
  obtain ⟨rfl, rfl, rfl⟩ := trodAll_nil r1
  obtain rfl : args = #[v0, v1] := by cases args; simp_all
  obtain ⟨rfl, rfl⟩ := trodVars_none hV
  have k0 := h0
  have lt0 : ∀ x ∈ p0, x.block < W.heap.size := by obtain ⟨m, hm⟩ := k0; exact DataW.trod_lt m _ _ _ hm
  have k1 := h1
  have lt1 : ∀ x ∈ p1, x.block < W.heap.size := by obtain ⟨m, hm⟩ := k1; exact DataW.trod_lt m _ _ _ hm
  obtain ⟨a0, rfl, rfl, rfl, w0⟩ := open_int Try.underlying5 (hval 0 5 v0 rfl rfl) h0
  obtain ⟨L1, l1, z1⟩ := open_acts (hval 1 22 v1 rfl rfl) h1 (fun n hn => by simpa using List.all_eq_true.1 hsz n (DataW.weights_mem_each (j := 1) (t := 22) rfl rfl n hn))
  clear hA0 hval0
  refine (pagerSees_walk a0 v1 L1 w0 W l1 z1).mono fun e W' ⟨he, bel⟩ => ?_
  subst he
  exact ⟨_, rfl, _, _, _, [], _, [], hW', trodAll_mk1 (shut_bool Try.underlying4 _), (trodAll_cons_mk (Below.trod pagerSees_laidOut (by kernel_rfl) (of_decide_eq_true (by kernel_rfl)) k0 bel lt0) (trodAll_cons_mk (Below.trod pagerSees_laidOut (by kernel_rfl) (of_decide_eq_true (by kernel_rfl)) k1 bel lt1) trodAll_mk0)), rfl, bel.frame _, fun h => by cases h⟩

theorem pagerSees_holds : Rows.PagerSeesSaid :=
  OpenClaim.holds_of_wide 3 Try.f3 rfl rfl rfl rfl rfl rfl rfl ⟨rfl, rfl, rfl, rfl, rfl⟩ rfl rfl rfl rfl rfl (by kernel_rfl) Try.func3 (by kernel_rfl)
    (of_decide_eq_true (by kernel_rfl)) (by unfold Func.isWrapper; first | (rw [if_pos (by decide +kernel)]; kernel_rfl) | (rw [if_neg (by decide +kernel)]; exact ⟨rfl, rfl⟩))
    (fun os started H enc _ => pagerSees_lifted os started H enc)

#print axioms pagerSees_holds

end Go.Proofs.Ytoecopmbaoklkaa
