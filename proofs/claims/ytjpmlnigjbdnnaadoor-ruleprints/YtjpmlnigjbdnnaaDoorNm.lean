/-
  What the document's Write answers of small numbers, and its named: a side called anew.
-/
import Derived.Test.YtjpmlnigjbdnnaaDoorPn
import Derived.Deep.QuietTactic
import Derived.BigQuiet
namespace Go.Proofs.YtjpmlnigjbdnnaaDoor
open Go.RowKit
set_option linter.unusedVariables false
set_option linter.unusedSimpArgs false
set_option maxRecDepth 100000

theorem add_zero_off (b k : Nat) : ((⟨b, 0, none⟩ : Addr).add k) = ⟨b, k, none⟩ := by
  cases k <;> simp [Addr.add]
theorem conv_one (W : World) (c : UInt8) (z : Int) (hz : z = (c.toNat : Int)) :
    (convert 95 9 (.slice (some ⟨W.heap.size, 0, none⟩) 1 1)).run Tryd.prog (W.alloc (.cells #[.int .u8 z] 5)) = .ok (.string ⟨#[c]⟩) (W.alloc (.cells #[.int .u8 z] 5)) := by
  subst hz
  have h := run_convert_bytes_back (P := Tryd.prog) (W.alloc (.cells #[.int .u8 (c.toNat : Int)] 5)) 95 9 5 ⟨W.heap.size, 0, none⟩ 1 [c] Tryd.underlying95 Tryd.underlying5 Tryd.underlying9 (fun j hj => by
    have hj0 : j = 0 := by simpa using hj
    subst hj0
    rw [add_zero_off, World.cell?_alloc_mark]
    simp)
  simpa using h
/-- the sign of a digit -/
def dig (d : Nat) : UInt8 := UInt8.ofNat (48 + d)
theorem dig_nat {d : Nat} (h : d < 10) : (dig d).toNat = 48 + d := by
  unfold dig; rw [UInt8.toNat_ofNat']; exact Nat.mod_eq_of_lt (by omega)
theorem dig_digs : ∀ k, k < 8 → (⟨#[dig k]⟩ : ByteArray) ++ ⟨#[]⟩ = digs k := by decide +kernel

theorem rDecimal_any (k : Nat) (hk : k < 8) (w : World) :
    Calls Tryd.prog 81 #[.int .i64 (k : Nat)] w fun e w' => e = .returned (.string (digs k)) ∧ Below w.heap.size w w' := by
  have h1 : ((k : Int) == -9223372036854775808) = false := beq_eq_false_iff_ne.2 (by omega)
  have h2 : decide ((k : Int) < 0) = false := decide_eq_false (by omega)
  have h9 : (k : Int) ≤ 9 := by omega
  have hcv := conv_one w (dig k) (48 + (k : Int)) (by rw [dig_nat (by omega)]; omega)
  have HE : Hid ((⟨#[dig k]⟩ : ByteArray) ++ ⟨#[]⟩ = digs k) := dig_digs k hk
  have hb1 := (Below.refl w.heap.size w).alloc (Nat.le_refl _) (.cells #[.int .u8 (48 + (k : Int))] 5)
  go_enter Tryd.func81, Tryd.ntmps81
  go_wp2
  go_loopw [0, 3] (fun x y wr => x = .int .i64 (k : Nat) ∧ y = .string ⟨#[]⟩ ∧ wr = w) (fun x _ _ => 0)
  case atStart => exact ⟨rfl, rfl, rfl⟩
  case round =>
    obtain ⟨rfl, rfl, rfl⟩ := hrel
    go_wp2
    go_ret
    exact ⟨by rw [← HE.out]; rfl, hb1⟩

/-- a name, behind some of the names that it is held against -/
def cur (V : List ByteArray) (nm : ByteArray) (k : Nat) : ByteArray := match ix V nm with | some j => if j < k then xn j else nm | none => nm
theorem cur_zero (V : List ByteArray) (nm : ByteArray) : cur V nm 0 = nm := by
  unfold cur
  cases ix V nm with
  | none => rfl
  | some j => simp
theorem cur_all (V : List ByteArray) (nm : ByteArray) : cur V nm V.length = rn V nm := by
  unfold cur rn
  cases h : ix V nm with
  | none => rfl
  | some j => simp only; rw [if_pos (ix_lt h)]
theorem cur_hit {V : List ByteArray} {nm : ByteArray} {k : Nat} (h : V.Nodup) (hk : V[k]? = some nm) : cur V nm (k + 1) = xn k := by
  unfold cur
  rw [ix_at h hk]
  simp
theorem cur_miss {V : List ByteArray} {nm x : ByteArray} {k : Nat} (hk : V[k]? = some x) (hx : nm ≠ x) : cur V nm (k + 1) = cur V nm k := by
  unfold cur
  cases h : ix V nm with
  | none => rfl
  | some j =>
    have : j ≠ k := fun e => by subst e; rw [ix_some h] at hk; exact hx (Option.some.inj hk)
    simp only
    by_cases hj : j < k
    · rw [if_pos hj, if_pos (by omega)]
    · rw [if_neg hj, if_neg (by omega)]

set_option maxHeartbeats 4000000 in
theorem named_any (w : World) (u v : Value) (P : List Cl) (V : List ByteArray) (hu : Lies w u P) (hv : LiesS w v V) (hP : P.length ≤ 64) (hV : Vs V) :
    Calls Tryd.prog 57 #[u, v] w fun e w' => ∃ v', e = .returned v' ∧ Owns w' w.heap.size v' (P.map (ren V)) ∧ Below w.heap.size w w' := by
  obtain ⟨i0, hi, hz0, hz1, hz2⟩ := info_parts info59
  have HU : Hid (Lies w u P) := hu
  have HV : Hid (LiesS w v V) := hv
  have HVS : Hid (Vs V) := hV
  have h8 := hV.few
  obtain ⟨pa, pc, rfl, _⟩ := hu
  obtain ⟨sa, sc, rfl, _⟩ := hv
  clear hV
  go_enter Tryd.func57, Tryd.ntmps57
  go_wp2_with fail
  go_loopw [5, 11] (fun mv i wr => ∃ k : Nat, k ≤ P.length ∧ i = .int .i64 (k : Nat) ∧ Owns wr w.heap.size mv ((P.take k).map (ren V)) ∧ Below w.heap.size w wr) (fun _ i _ => P.length - (intOf i).toNat)
  case atStart => exact ⟨0, Nat.zero_le _, rfl, World.ownsRow_nil _ _ _ _, Below.refl _ _⟩
  case round =>
    revert wr
    intro wo hrel
    obtain ⟨k, hk, rfl, hO, hbr⟩ := hrel
    have hbs := hbr.size
    by_cases hlt : k < P.length
    · obtain ⟨c, hc⟩ : ∃ c, P[k]? = some c := ⟨P[k], List.getElem?_eq_getElem hlt⟩
      obtain ⟨nm, ar⟩ := c
      obtain ⟨g, off, hpa, hgl, d1, d2⟩ : ∃ g off, pa = some ⟨g, off, none⟩ ∧ g < w.heap.size ∧ w.cell? ⟨g, off + k * 2, none⟩ = some (.string nm) ∧ w.cell? ⟨g, off + k * 2 + 1, none⟩ = some (.int .i64 ar) := by
        obtain ⟨a', c', h1, _, _, _, HC⟩ := HU.out
        cases h1
        obtain ⟨g, off, h2, h3, h4, h5⟩ := HC k _ hc
        exact ⟨g, off, h2, h3, h4, h5⟩
      subst hpa
      have e1 := (hbr.cell (p := ⟨g, off + k * 2, none⟩) hgl).trans d1
      have e2 := (hbr.cell (p := ⟨g, off + k * 2 + 1, none⟩) hgl).trans d2
      have HT2 : Hid ((P.take (k + 1)).map (ren V) = (P.take k).map (ren V) ++ [⟨rn V nm, ar⟩]) := by
        show _ = _
        rw [List.take_add_one, hc, List.map_append]; rfl
      have hpl : ((P.take k).map (ren V)).length = k := by rw [List.length_map, List.length_take]; omega
      obtain ⟨Dn, hD⟩ : ∃ Dn, (P.take k).map (ren V) = Dn := ⟨_, rfl⟩
      rw [hD] at hO HT2 hpl
      have HDL : Hid (Dn.length = k) := hpl
      have hdl : Dn.length ≤ 64 := by omega
      obtain ⟨ma, mc, hmv, _⟩ := own_cells hO
      subst hmv
      have HO : Hid (Owns wo w.heap.size (.slice ma Dn.length mc) Dn) := hO
      have hki : (k : Int) < (P.length : Int) := by omega
      have hgr : g < wo.heap.size := Nat.lt_of_lt_of_le hgl hbs
      have HBR : Hid (Below w.heap.size w wo) := hbr
      have HE1 : Hid (wo.cell? ⟨g, off + k * 2, none⟩ = some (.string nm)) := e1
      have HB0 : Hid (Blk (wo.alloc (.cells #[.string nm, .int .i64 ar] 33)) wo.heap.size #[.string nm, .int .i64 ar] 33) := Blk.made wo _ 33
      have HA0 : Hid (Below wo.heap.size wo (wo.alloc (.cells #[.string nm, .int .i64 ar] 33))) := (Below.refl _ wo).alloc (Nat.le_refl _) _
      clear hO hc hD hpl d1 d2 hbr
      go_wp2_with fail
      clear e1 e2
      go_loopw [20] (fun i wr => ∃ j : Nat, j ≤ V.length ∧ i = .int .i64 (j : Nat) ∧ Blk wr wo.heap.size #[.string (cur V nm j), .int .i64 ar] 33 ∧ Below wo.heap.size wo wr) (fun i _ => V.length - (intOf i).toNat)
      case atStart => exact ⟨0, Nat.zero_le _, rfl, by rw [cur_zero]; exact HB0.out, HA0.out⟩
      case round =>
        obtain ⟨j, hj, rfl, hB, hbi⟩ := hrel
        clear HB0 HA0
        by_cases hjl : j < V.length
        · obtain ⟨x, hx⟩ : ∃ x, V[j]? = some x := ⟨V[j], List.getElem?_eq_getElem hjl⟩
          obtain ⟨g2, off2, hsa, hgl2, f1⟩ : ∃ g2 off2, sa = some ⟨g2, off2, none⟩ ∧ g2 < w.heap.size ∧ w.cell? ⟨g2, off2 + j, none⟩ = some (.string x) := by
            obtain ⟨a', c', h1, _, _, HC⟩ := HV.out
            cases h1
            exact HC j x hx
          subst hsa
          have q1 := (hbi.cell (p := ⟨g, off + k * 2, none⟩) hgr).trans HE1.out
          have q2 := (hbi.cell (p := ⟨g2, off2 + j, none⟩) (Nat.lt_of_lt_of_le hgl2 hbs)).trans ((HBR.out.cell (p := ⟨g2, off2 + j, none⟩) hgl2).trans f1)
          have hji : (j : Int) < (V.length : Int) := by omega
          have hj8 : j < 8 := by omega
          have HD : Hid (∀ nq, Below wo.heap.size wo (wr.drewN nq)) := fun nq => hbi.trans ((below_drewN wr nq).mono hbi.size)
          have HBD : Hid (∀ nq, Blk (wr.drewN nq) wo.heap.size #[.string (cur V nm j), .int .i64 ar] 33) := fun nq => hB.on (below_drewN wr nq) hB.lt
          by_cases hxy : nm = x
          · have HN : Hid (cur V nm (j + 1) = xn j) := cur_hit HVS.out.once (by rw [hxy]; exact hx)
            subst hxy
            have hst : (nm.toList == nm.toList) = true := by simp
            have hwr := fun w => rDecimal_any j hj8 w
            have hdl2 := digs_len j (by omega)
            have HX : Hid ((⟨#[88]⟩ : ByteArray) ++ digs j = xn j) := rfl
            generalize digs j = s at hwr hdl2 HX
            clear f1 hx hB hbi
            go_wp2_with fail
            go_quiet (fail)
            go_wp2_with (first | (go_at_call 81; refine (hwr _).mono ?_; rintro e w8 ⟨rfl, b8⟩; have B8 := (HBD.out _).on b8 (HBD.out _).lt; have c8 := B8.cell (i := 0) rfl; have z8 := B8.free 0; have D8 := (HD.out _).trans (b8.mono (HD.out _).size)))
            go_roundw
            case rel => exact ⟨j + 1, by omega, by go_num, by rw [HN.out, ← HX.out]; exact B8.set 0 _, D8.setCell (Nat.le_refl _) _⟩
            case measure => simp [intOf]; omega
          · have HN : Hid (cur V nm (j + 1) = cur V nm j) := cur_miss hx hxy
            have hst := bytes_ne hxy
            clear f1 hx hB hbi hxy
            go_wp2_with fail
            go_quiet (fail)
            go_wp2_with fail
            go_roundw
            case rel => exact ⟨j + 1, by omega, by go_num, by rw [HN.out]; exact HBD.out _, HD.out _⟩
            case measure => simp [intOf]; omega
        · obtain rfl : j = V.length := by omega
          rw [cur_all] at hB
          have hji : ¬ (V.length : Int) < (V.length : Int) := by omega
          have c0 := hB.cell (i := 0) rfl
          have c1 := hB.cell (i := 1) rfl
          have hrow : wr.ownsRow w.heap.size 33 2 (.slice ma Dn.length mc) Dn.length (flatC Dn) := own_below HO.out hbi
          have hbw : Below w.heap.size w wr := HBR.out.trans (hbi.mono hbs)
          have hws := hbw.size
          generalize rn V nm = nn at *
          go_wp2_with (first | (at_builtin; refine wpList_append_own _ rfl _ _ 23 rfl w.heap.size 33 i0 (.agg #[.string ⟨#[]⟩, .int .i64 0]) 2 24 Tryd.underlying23 hi hz0 hz1 hz2 rfl (by decide) _ Dn.length (flatC Dn) rfl (hrow.alloc _) ⟨wr.heap.size, 0, none⟩ 1 1 [.string nn, .int .i64 ar] (by simp [Act.eval, Act.put]) rfl (two_cells _ _ _ _) (by intro y hy; simp at hy; rcases hy with rfl | rfl <;> rfl) ?c3 ?c4 ?c5 ?_))
          case c3 => unfold maxLen; omega
          case c4 => omega
          case c5 => first | omega | (simp; omega)
          intro v' w5 hown' hgrow _
          have hO5 : Owns w5 w.heap.size v' (Dn ++ [⟨nn, ar⟩]) := by
            show World.ownsRow _ _ _ _ _ _ _
            rw [flatC_append, List.length_append]
            exact hown'
          have hb5 : Below w.heap.size w w5 := (hbw.alloc hws _).grown hgrow (by simp; omega) (fun j hj => (World.ownsRow.lt HO.out j hj).1)
          clear hown' hgrow hrow c0 c1
          go_wp2_with fail
          go_roundw
          case rel => exact ⟨k + 1, by omega, by go_num, by rw [HT2.out]; exact hO5, hb5⟩
          case measure => simp [intOf]; omega
    · obtain rfl : k = P.length := by omega
      rw [List.take_length] at hO
      have HO : Hid (Owns wo w.heap.size _ (P.map (ren V))) := hO
      obtain ⟨ma, mc, hmv, _⟩ := own_cells hO
      subst hmv
      have hki : ¬ (P.length : Int) < (P.length : Int) := by omega
      clear hO
      go_wp2_with fail
      go_ret
      have hO2 := HO.out
      rw [List.length_map] at hO2
      exact ⟨_, rfl, hO2, hbr⟩

end Go.Proofs.YtjpmlnigjbdnnaaDoor
