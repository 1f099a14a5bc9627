/-
  What the program's write and Print do.
-/
import Derived.Test.YtjpmlnigjbdnnaaDoorBld
import Derived.Deep.LoopGhost
import Derived.Deep.RegionWith
namespace Go.Proofs.YtjpmlnigjbdnnaaDoor
open Go.RowKit
set_option linter.unusedVariables false
set_option maxRecDepth 100000
set_option linter.unusedSimpArgs false

theorem Fo.text_cons (nm : ByteArray) (k r : Fo) : (Fo.cons nm k r).text = (Fo.cons nm k .nil).text ++ moreC r.len r.text := by
  simp [Fo.text, Fo.len, moreC]
theorem Fo.text_one (nm : ByteArray) (k : Fo) : (Fo.cons nm k .nil).text = nm.data.toList ++ wrapP k.len k.text := by
  simp [Fo.text, Fo.len, moreC]
theorem Fo.flat_cons (nm : ByteArray) (k r : Fo) : (Fo.cons nm k r).flat = (Fo.cons nm k .nil).flat ++ r.flat := by
  simp [Fo.flat]
/-- what is still to be written of arguments of which j are written -/
def still (j : Nat) (k : Fo) : List UInt8 := if j = 0 then 40 :: k.text else moreC k.len k.text

/-- cells of a list in old memory, in a world in which that memory is as it was -/
theorem cell_at {w0 w : World} {a : Option Addr} {L : List Cl} (hc : CellsAt w0 a L) (hb : Below w0.heap.size w0 w) {k : Nat} {c : Cl} (h : L[k]? = some c) :
    ∃ b off, a = some ⟨b, off, none⟩ ∧ w.cell? ⟨b, off + k * 2, none⟩ = some (.string c.nm) ∧ w.cell? ⟨b, off + k * 2 + 1, none⟩ = some (.int .i64 c.ar) := by
  obtain ⟨b, off, ha, hlt, c1, c2⟩ := hc k c h
  exact ⟨b, off, ha, (hb.cell (p := ⟨b, off + k * 2, none⟩) hlt).trans c1, (hb.cell (p := ⟨b, off + k * 2 + 1, none⟩) hlt).trans c2⟩
theorem get_drop {L M : List Cl} {c : Cl} {k : Nat} (h : L.drop k = c :: M) : L[k]? = some c ∧ L.drop (k + 1) = M ∧ k < L.length := by
  have h1 : (L.drop k)[0]? = some c := by rw [h]; rfl
  rw [List.getElem?_drop, Nat.add_zero] at h1
  refine ⟨h1, ?_, (List.getElem?_eq_some_iff.1 h1).1⟩
  rw [← List.drop_drop, h]; rfl

set_option maxHeartbeats 2000000 in
theorem write_any (w0 : World) (a : Option Addr) (L : List Cl) (cap b : Nat) (hL : L.length ≤ 64) (hcap : L.length ≤ cap) (hc : CellsAt w0 a L) (hB : w0.heap.size ≤ b) :
    ∀ (n : Nat) (nm : ByteArray) (kd : Fo) (R : List Cl) (k : Nat) (l : List UInt8) (w : World), kd.size < n → L.drop k = (Fo.cons nm kd .nil).flat ++ R → Below w0.heap.size w0 w → Bld w w0.heap.size b l → l.length + (Fo.cons nm kd .nil).text.length ≤ 50000 →
      Calls Tryd.prog 75 #[.pointer (some ⟨b, 0, none⟩), .slice a L.length cap, .int .i64 (k : Nat)] w fun e w' => e = .returned (.int .i64 ((k + kd.size + 1 : Nat) : Int)) ∧ Bld w' w0.heap.size b (l ++ (Fo.cons nm kd .nil).text) ∧ Below w0.heap.size w0 w' := by
  have HC : Hid (CellsAt w0 a L) := hc
  clear hc
  intro n
  induction n with
  | zero => intro nm kd R k l w h; omega
  | succ n ih =>
    intro nm kd R k l w hn hd hb hbl hlen
    have hflat : (Fo.cons nm kd .nil).flat = ⟨nm, (kd.len : Nat)⟩ :: kd.flat := by simp [Fo.flat]
    rw [hflat, List.cons_append] at hd
    obtain ⟨hk, hd2, hkl⟩ := get_drop hd
    obtain ⟨ob, off, ha, c1, c2⟩ := cell_at HC.out hb hk
    subst ha
    have hki : (k : Int) < (L.length : Int) := by omega
    rw [Fo.text_one] at hlen ⊢
    rw [List.length_append, size_list] at hlen
    have hws := writeString_bld w0.heap.size b l nm w hbl (by omega) hb.size
    have HIH : Hid (∀ (nm : ByteArray) (kd : Fo) (R : List Cl) (k : Nat) (l : List UInt8) (w : World), kd.size < n → L.drop k = (Fo.cons nm kd .nil).flat ++ R → Below w0.heap.size w0 w → Bld w w0.heap.size b l → l.length + (Fo.cons nm kd .nil).text.length ≤ 50000 →
      Calls Tryd.prog 75 #[.pointer (some ⟨b, 0, none⟩), .slice (some ⟨ob, off, none⟩) L.length cap, .int .i64 (k : Nat)] w fun e w' => e = .returned (.int .i64 ((k + kd.size + 1 : Nat) : Int)) ∧ Bld w' w0.heap.size b (l ++ (Fo.cons nm kd .nil).text) ∧ Below w0.heap.size w0 w') := ih
    have HD : Hid (L.drop (k + 1) = kd.flat ++ R) := hd2
    clear ih hd hd2 hflat hbl
    by_cases h0 : kd.len = 0
    · have := Fo.len_zero h0
      subst this
      have z1 : ((Fo.nil.len : Nat) : Int) = 0 := rfl
      rw [z1] at c2
      have HK : Hid (L[k]? = some ⟨nm, 0⟩) := hk
      clear hk
      go_enter Tryd.func75, Tryd.ntmps75
      go_wp2_with (go_at_call 94; refine hws.mono ?_; rintro e w1 ⟨rfl, hB1, hb1⟩; replace hb1 := hb.trans hb1; obtain ⟨ob', off', ha', d1, d2⟩ := cell_at HC.out hb1 HK.out; obtain ⟨rfl, rfl⟩ : ob' = ob ∧ off' = off := by { cases ha'; exact ⟨rfl, rfl⟩ })
      go_ret
      exact ⟨by simp [Fo.size], by simpa [wrapP, Fo.len] using hB1, hb1⟩
    · have HK : Hid (L[k]? = some ⟨nm, (kd.len : Nat)⟩) := hk
      have hkz : (((kd.len : Nat) : Int) == 0) = false := by simp only [beq_eq_false_iff_ne]; omega
      have hkn : ¬ ((kd.len : Nat) : Int) = 0 := by omega
      have hsz := Fo.len_le kd
      have hdl : kd.size + R.length + k + 1 = L.length := by
        have := congrArg List.length HD.out
        rw [List.length_drop, List.length_append, Fo.flat_length] at this
        omega
      have HW : Hid (wrapP kd.len kd.text = 40 :: (kd.text ++ [41])) := by show _ = _; unfold wrapP; rw [if_neg h0]
      have hlen2 : l.length + nm.size + kd.text.length + 2 ≤ 50000 := by rw [HW.out] at hlen; simp at hlen; omega
      rw [HW.out]
      clear hk hlen
      go_enter Tryd.func75, Tryd.ntmps75
      go_wp2_with (go_at_call 94; refine hws.mono ?_; rintro e w1 ⟨rfl, hB1, hb1⟩; replace hb1 := hb.trans hb1; obtain ⟨ob', off', ha', d1, d2⟩ := cell_at HC.out hb1 HK.out; obtain ⟨rfl, rfl⟩ : ob' = ob ∧ off' = off := by { cases ha'; exact ⟨rfl, rfl⟩ })
      have HB1 : Hid (Bld w1 w0.heap.size b (l ++ nm.data.toList)) := hB1
      clear hB1 hws d1 d2 c1 c2 hb ha'
      go_loopw [7, 8, 30] (fun e c i wr => ∃ (j en : Nat) (ch : UInt8) (k' : Fo) (acc : List UInt8), j + k'.len = kd.len ∧ Hid (L.drop en = k'.flat ++ R) ∧ Hid (ch = if j = 0 then 40 else 44) ∧ Hid (acc ++ still j k' = 40 :: kd.text) ∧ en + k'.size = k + 1 + kd.size ∧ k'.size ≤ kd.size ∧
          Hid (Bld wr w0.heap.size b (l ++ nm.data.toList ++ acc)) ∧ Below w0.heap.size w0 wr ∧ e = .int .i64 (en : Nat) ∧ c = .int .u8 (ch.toNat : Int) ∧ i = .int .i64 (j : Nat)) (fun _ _ i _ => kd.len - (intOf i).toNat)
      case atStart => exact ⟨0, k + 1, 40, kd, [], by omega, HD, rfl, rfl, rfl, Nat.le_refl _, by show Bld _ _ _ _; rw [List.append_nil]; exact HB1.out, hb1, rfl, rfl, rfl⟩
      case round =>
        obtain ⟨j, en, ch, k', acc, hj, HDE, HCH, HACC, hen, hks, HBL, hbw, rfl, rfl, rfl⟩ := hrel
        cases k' with
        | nil =>
          have hjl : j = kd.len := by simp [Fo.len] at hj; omega
          subst hjl
          have HACC2 : Hid (acc = 40 :: kd.text) := by
            show _ = _
            have := HACC.out
            unfold still at this
            rw [if_neg h0] at this
            simpa [moreC, Fo.len] using this
          have hacl : acc.length = kd.text.length + 1 := by rw [HACC2.out]; simp
          have hwb := writeByte_bld w0.heap.size b _ 41 wr HBL.out (by simp [size_list]; omega) hbw.size
          have e41 : ((41 : UInt8).toNat : Int) = 41 := rfl
          simp only [e41] at hwb
          have hen2 : en = k + 1 + kd.size := by simp [Fo.size] at hen; omega
          subst hen2
          go_wp2_with (go_at_call 95; refine hwb.mono ?_; rintro e w2 ⟨rfl, hB2, hb2⟩)
          go_ret
          refine ⟨by rw [show k + kd.size + 1 = k + 1 + kd.size by omega]; rfl, ?_, hbw.trans hb2⟩
          rw [HACC2.out] at hB2
          simpa [List.append_assoc] using hB2
        | cons n1 k1 r1 =>
          have hlt : j < kd.len := by simp [Fo.len] at hj; omega
          have hlti : (j : Int) < ((kd.len : Nat) : Int) := by omega
          have hks1 : k1.size < n := by simp [Fo.size] at hks; omega
          have hDE := HDE.out
          rw [Fo.flat_cons, List.append_assoc] at hDE
          have htxt : still j (.cons n1 k1 r1) = (if j = 0 then (40 : UInt8) else 44) :: ((Fo.cons n1 k1 .nil).text ++ moreC r1.len r1.text) := by
            unfold still
            rw [← Fo.text_cons]
            split
            · rfl
            · simp [moreC, Fo.len]
          have hA := HACC.out
          rw [htxt, ← HCH.out] at hA
          have hal := congrArg List.length hA
          simp only [List.length_append, List.length_cons] at hal
          have hwb := writeByte_bld w0.heap.size b _ ch wr HBL.out (by simp [size_list]; omega) hbw.size
          have hih := fun w2 h1 h2 => HIH.out n1 k1 (r1.flat ++ R) en (l ++ nm.data.toList ++ acc ++ [ch]) w2 hks1 hDE h1 h2 (by simp [size_list]; omega)
          have HA : Hid (acc ++ ch :: ((Fo.cons n1 k1 .nil).text ++ moreC r1.len r1.text) = 40 :: kd.text) := hA
          have hnx : en + k1.size + 1 + r1.size = k + 1 + kd.size := by simp [Fo.size] at hen; omega
          have HDN : Hid (L.drop (en + k1.size + 1) = r1.flat ++ R) := by
            show _ = _
            rw [show en + k1.size + 1 = en + (Fo.cons n1 k1 .nil).flat.length by rw [Fo.flat_length]; simp [Fo.size]; omega, ← List.drop_drop, hDE, List.drop_left]
          clear hA HACC hDE htxt HDE HBL
          go_wp2_with (first | (go_at_call 95; refine hwb.mono ?_; rintro e w2 ⟨rfl, hB2, hb2⟩; replace hb2 := hbw.trans hb2) | (go_at_call 75; refine (hih _ hb2 hB2).mono ?_; rintro e w3 ⟨rfl, hB3, hb3⟩))
          have HB3 : Hid (Bld w3 w0.heap.size b (l ++ nm.data.toList ++ (acc ++ [ch] ++ (Fo.cons n1 k1 .nil).text))) := by show Bld _ _ _ _; simpa [List.append_assoc] using hB3
          clear hB3 hB2 hih hwb
          go_wp2_with fail
          go_roundw
          case rel =>
            refine ⟨j + 1, en + k1.size + 1, 44, r1, acc ++ [ch] ++ (Fo.cons n1 k1 .nil).text, by simp [Fo.len] at hj; omega, HDN, by show _ = _; simp, ?_, by omega, by simp [Fo.size] at hks; omega, HB3, hb3, rfl, rfl, by go_num⟩
            show _ = _
            rw [← HA.out]
            simp [still]
          case measure => simp [intOf]; omega

theorem name_len {c : Cl} (h : cellErr c = 0) : 0 < c.nm.size ∧ c.nm.size ≤ 8 := by
  have hk := cellErr_kind h
  rcases Nat.lt_or_ge c.nm.data.toList.length 1 with h1 | h1
  · exact absurd (kind_out (.inl h1)) hk
  · rcases Nat.lt_or_ge 8 c.nm.data.toList.length with h2 | h2
    · exact absurd (kind_out (.inr h2)) hk
    · rw [size_list] at h1 h2; omega
theorem text_len : ∀ f : Fo, (∀ c ∈ f.flat, cellErr c = 0) → f.text.length ≤ 11 * f.size
  | .nil, _ => by simp [Fo.text, Fo.size]
  | .cons nm k r, h => by
    have h1 := text_len k (fun c hc => h c (by simp [Fo.flat, hc]))
    have h2 := text_len r (fun c hc => h c (by simp [Fo.flat, hc]))
    have h3 := (name_len (c := ⟨nm, (k.len : Nat)⟩) (h _ (by simp [Fo.flat]))).2
    simp only at h3
    simp only [Fo.text, Fo.size, List.length_append, size_list]
    have h4 : (wrapP k.len k.text).length ≤ k.text.length + 2 := by unfold wrapP; split <;> simp
    have h5 : (moreC r.len r.text).length ≤ r.text.length + 1 := by unfold moreC; split <;> simp
    omega
theorem text_ne {nm : ByteArray} {k : Fo} (h : ∀ c ∈ (Fo.cons nm k .nil).flat, cellErr c = 0) : (Fo.cons nm k .nil).text ≠ [] := by
  have h3 := (name_len (c := ⟨nm, (k.len : Nat)⟩) (h _ (by simp [Fo.flat]))).1
  intro e
  rw [Fo.text_one] at e
  have := (List.append_eq_nil_iff.1 e).1
  have h4 := size_list nm
  rw [this] at h4
  simp at h4 h3; omega

/-- the text of a right term -/
def textOf (t : List UInt8) (L : List Cl) : Prop := ∃ nm k, L = (Fo.cons nm k .nil).flat ∧ t = (Fo.cons nm k .nil).text

theorem print_bad (w : World) (v : Value) (L : List Cl) (hv : Lies w v L) (hE : check L ≠ 0) :
    Calls Tryd.prog 48 #[v] w fun e w' => e = .returned (.tuple #[.string ⟨#[]⟩, .int .i64 (check L : Nat)]) ∧ Below w.heap.size w w' := by
  have hc := check_any w v L hv
  obtain ⟨a, cap, rfl, _⟩ := hv
  generalize check L = q at hc hE
  have q1 : ((q : Int) == 0) = false := by simp only [beq_eq_false_iff_ne]; omega
  have q2 : ¬ (q : Int) = 0 := by omega
  go_enter Tryd.func48, Tryd.ntmps48
  go_wp2_with (go_at_call 29; refine hc.mono ?_; rintro e w1 ⟨rfl, hb1⟩)
  go_ret2
  exact ⟨rfl, hb1⟩

theorem print_ok (w : World) (v : Value) (L : List Cl) (hv : Lies w v L) (hE : check L = 0) (nm : ByteArray) (kd : Fo) (hL : L = (Fo.cons nm kd .nil).flat) :
    Calls Tryd.prog 48 #[v] w fun e w' => e = .returned (.tuple #[.string ⟨(Fo.cons nm kd .nil).text.toArray⟩, .int .i64 0]) ∧ Below w.heap.size w w' := by
  have hc := check_any w v L hv
  obtain ⟨h64, hcs, _⟩ := check_zero hE
  rw [hE] at hc
  have hce := cellsErr_zero.1 hcs
  obtain ⟨a, cap, rfl, hcap, _, _, hcells⟩ := hv
  have hsz : (Fo.cons nm kd .nil).size ≤ 64 := by rw [← Fo.flat_length, ← hL]; exact h64
  have htl := text_len (.cons nm kd .nil) (by rw [← hL]; exact hce)
  have hne := text_ne (nm := nm) (k := kd) (by rw [← hL]; exact hce)
  have HWR : Hid (∀ w1 b, w.heap.size ≤ b → Below w.heap.size w w1 → Bld w1 w.heap.size b [] → Calls Tryd.prog 75 #[.pointer (some ⟨b, 0, none⟩), .slice a L.length cap, .int .i64 0] w1 fun e w' => e = .returned (.int .i64 ((0 + kd.size + 1 : Nat) : Int)) ∧ Bld w' w.heap.size b (Fo.cons nm kd .nil).text ∧ Below w.heap.size w w') :=
    fun w1 b hb h1 h2 => write_any w a L cap b h64 hcap hcells hb (kd.size + 1) nm kd [] 0 [] w1 (by omega) (by rw [List.drop_zero, List.append_nil]; exact hL) h1 h2 (by simp; omega)
  generalize (Fo.cons nm kd .nil).text = t at HWR hne htl ⊢
  clear hL hcells hE hcs hce
  go_enter Tryd.func48, Tryd.ntmps48
  go_wp2_with (first
    | (go_at_call 29; refine hc.mono ?_; rintro e w1 ⟨rfl, hb1⟩; have hB1 : Bld (w1.alloc (.cells #[.pointer none, .slice none 0 0] 97)) w.heap.size w1.heap.size [] := .inl ⟨hb1.size, .slice none 0 0, by { show (w1.heap.push _)[w1.heap.size]? = _; simp }, World.ownsRow_nil _ _ _ _, by simp [Value.ownBlock]⟩; have hcall := HWR.out _ w1.heap.size hb1.size (hb1.alloc hb1.size _) hB1)
    | (go_at_call 75; refine hcall.mono ?_; rintro e w2 ⟨rfl, hB2, hb2⟩; have hstr := string_bld w.heap.size w1.heap.size t w2 hB2 hne)
    | (go_at_call 76; refine hstr.mono ?_; rintro e w3 ⟨rfl, hb3⟩))
  go_ret2
  exact ⟨rfl, hb2.trans hb3⟩

end Go.Proofs.YtjpmlnigjbdnnaaDoor
