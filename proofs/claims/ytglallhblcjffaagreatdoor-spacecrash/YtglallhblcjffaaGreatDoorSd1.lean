/-
  A space's Get, Put, Release, Head, SetHead, Undo.
-/
import Derived.Test.YtglallhblcjffaaGreatDoorSb
namespace Go.Proofs.YtglallhblcjffaaGreatDoor
open Go.RowKit
set_option linter.unusedVariables false
set_option linter.unusedSimpArgs false
set_option maxRecDepth 100000

/-- the first c of the user's pages whose bit is t -/
def usrL (F c : Nat) (b : ByteArray) (t : Bool) : List Int := ((List.range c).filter fun (j : Nat) => hasB b (j + 1) == t).map fun (j : Nat) => (F : Int) + 1 + (j : Int)
/-- the user's pages whose bit is t -/
def usr (n : Nat) (b : ByteArray) (t : Bool) : List Int := usrL (frs n) (pgs n - 2) b t
theorem usrL_succ (F c : Nat) (b : ByteArray) (t : Bool) : usrL F (c + 1) b t = usrL F c b t ++ if hasB b (c + 1) = t then [(F : Int) + 1 + (c : Int)] else [] := by
  unfold usrL
  rw [List.range_succ, List.filter_append, List.map_append]
  congr 1
  by_cases h : hasB b (c + 1) = t
  · simp [h]
  · simp [h]
theorem usrL_len (F c : Nat) (b : ByteArray) (t : Bool) : (usrL F c b t).length ≤ c := by
  unfold usrL
  rw [List.length_map]
  exact Nat.le_trans (List.length_filter_le _ _) (by simp)
theorem wpList_intB {ops : Array Oper} {rest : List Oper} {o : Oper} {a : Act} {Q : Exit → Act → World → Prop} (W : World) (B : Nat) (hB : B ≤ W.heap.size) (hgd : o.guard = none) (s x : Operand)
    (ho : o.op = .call { callee := .builtin .append, args := #[s, x], argTypes := #[60, 60] }) (v : Value) (M : List Int) (m : Nat) (hm : M.length = m) (hs : a.eval s = v) (hown : RowI W B v M)
    (ad : Nat) (z : Int) (hx : a.eval x = .slice (some ⟨ad, 0, none⟩) 1 1) (hc : W.cell? ⟨ad, 0, none⟩ = some (.int .i64 z)) (hlen : m ≤ 100000)
    (h : ∀ va vc w', RowI w' B (.slice va (m + 1) vc) (M ++ [z]) → W.grownBy w' v.ownBlock → wpList Tryz.prog ops Q rest (a.put o.dst (.slice va (m + 1) vc)) w') : wpList Tryz.prog ops Q (o :: rest) a W := by
  obtain ⟨i0, hi, hz0, hz1, hz2⟩ := info_parts info3
  subst hm
  refine wpList_append_blk W hgd s x 60 ho B 3 i0 (.int .i64 0) 1 8 Tryz.underlying60 hi hz0 hz1 hz2 rfl (by decide) v M.length (M.map (Value.int .i64)) hs hown ⟨ad, 0, none⟩ 1 1 [.int .i64 z] hx rfl (fun j u hj => ?_) (fun u hu => by simp at hu; subst hu; rfl) (by decide) (by unfold maxLen; omega) (by omega) hB ?_
  · match j, hj with
    | 0, hj => simp at hj; subst hj; simpa [Addr.add] using hc
  · intro v' w' hown' hgrow hmv
    obtain ⟨va, vc, hv'⟩ := own_form hown'
    subst hv'
    refine h va vc w' ?_ hgrow
    unfold RowI
    rw [List.length_append, List.map_append]
    exact hown'

section
variable {w W V : World} {S S' P R : Nat → Prop} {k q s : Nat} {p : Pp} {d : Ds} {f g : Int → ByteArray} {N M : Nat}
set_option maxHeartbeats 1000000 in
theorem users_any (b : ByteArray) (hb : b.size = 256) (t : Bool) (h : Sv w S k q s d f N) :
    Calls Tryz.prog 51 #[.pointer (some ⟨s, 0, none⟩), .string b, .bool t] w fun e w' => ∃ a c, e = .returned (.slice a (usr d.bs.length b t).length c) ∧ RowI w' w.heap.size (.slice a (usr d.bs.length b t).length c) (usr d.bs.length b t) ∧ Below w.heap.size w w' := by
  obtain ⟨c0, _, _, _, _⟩ := h.cells
  obtain ⟨hd, _, _⟩ := h.good
  obtain ⟨b1, b2, b3, b4, b5⟩ := frs_small hd.lo hd.hi
  have HBd := hid ((Below.refl w.heap.size w).drew)
  have HLN := hid (slen_any (h.on HBd.out))
  have hmp := fun w1 => mapAt_any d.bs.length hd.lo hd.hi w1
  have hen := fun w1 => endOf_any d.bs.length hd.lo hd.hi w1
  have HHA : Hid (∀ (j : Nat) (w1 : World), j < pgs d.bs.length - 2 → Calls Tryz.prog 83 #[.string b, .int .i64 ((frs d.bs.length : Int) + 1 + (j : Int) - (frs d.bs.length : Int))] w1 fun e w' => e = .returned (.bool (hasB b (j + 1))) ∧ w1 = w') := fun j w1 hj => by
    have := bhas_any b (j + 1) hb (by omega) w1
    rw [show ((j + 1 : Nat) : Int) = (frs d.bs.length : Int) + 1 + (j : Int) - (frs d.bs.length : Int) by omega] at this
    exact this
  unfold usr
  obtain ⟨c, hc⟩ : ∃ c, pgs d.bs.length - 2 = c := ⟨_, rfl⟩
  have hE : ((frs d.bs.length + pgs d.bs.length - 1 : Nat) : Int) = (frs d.bs.length : Int) + 1 + (c : Int) := by omega
  rw [hE] at hen
  rw [hc] at HHA ⊢
  have hc2 : c ≤ 1017 := by omega
  clear hE hc b2 b3 b4 b5
  have HS0 : w.drew.cell? ⟨s, 0, none⟩ = some (.pointer (some ⟨k, 0, none⟩)) := c0
  generalize frs d.bs.length = F at *
  generalize d.bs.length = n at *
  clear h hd c0
  go_enter Tryz.func51, Tryz.ntmps51
  go_wp2_with fail
  go_region_held3 (fun w' => w'.cell? ⟨s, 0, none⟩ = some (.pointer (some ⟨k, 0, none⟩))) (first | exact HS0)
    (first
      | (go_at_call 61; refine HLN.out.mono ?_; rintro e w1 ⟨rfl, rfl⟩)
      | (go_at_call 68; refine (hmp _).mono ?_; clear hmp; rintro e w1 ⟨rfl, rfl⟩)
      | (go_at_call 82; refine (hen _).mono ?_; clear hen; rintro e w1 ⟨rfl, rfl⟩))
  clear HS0 HLN
  generalize w.drew = w1 at *
  have hw1 : IntKind.i64.wrap ((F : Int) + 1) = (F : Int) + 1 := by rw [IntKind.wrap_i64]; omega
  go_wp2_with fail
  go_loopw [7, 10] (fun x i wr => ∃ (j m : Nat) (ba : Option Addr) (bc : Nat), j ≤ c ∧ m ≤ j ∧ i = .int .i64 ((F : Int) + 1 + (j : Int)) ∧ x = .slice ba m bc ∧ Hid ((usrL F j b t).length = m) ∧ Hid (RowI wr w.heap.size (.slice ba m bc) (usrL F j b t)) ∧ Hid (Below w.heap.size w wr)) (fun _ i _ => F + 1 + c - (intOf i).toNat)
  case atStart => exact ⟨0, 0, none, 0, Nat.zero_le _, Nat.le_refl _, by simp, rfl, (by show _ = _; rfl), (by show RowI _ _ _ _; exact World.ownsRow_nil _ _ _ _), HBd⟩
  case round =>
    obtain ⟨j, m, ba, bc, hj, hm, rfl, rfl, HM, HR, HB⟩ := hrel
    have hw2 : IntKind.i64.wrap ((F : Int) + 1 + (j : Int) - (F : Int)) = (F : Int) + 1 + (j : Int) - (F : Int) := by rw [IntKind.wrap_i64]; omega
    have hw3 : IntKind.i64.wrap ((F : Int) + 1 + (j : Int) + 1) = (F : Int) + 1 + (j : Int) + 1 := by rw [IntKind.wrap_i64]; omega
    by_cases hlt : j < c
    · have hji : (F : Int) + 1 + (j : Int) < (F : Int) + 1 + (c : Int) := by omega
      have HHJ := hid (HHA.out j wr hlt)
      have HSU := hid (usrL_succ F j b t)
      cases hbt : (decide (hasB b (j + 1) = t)) with
      | true =>
        have hbe := of_decide_eq_true hbt
        have HQ : Hid (usrL F (j + 1) b t = usrL F j b t ++ [(F : Int) + 1 + (j : Int)]) := by show _ = _; rw [HSU.out, if_pos hbe]
        rw [hbe] at HHJ
        have hte : (t == t) = true := by cases t <;> rfl
        have x0 : (wr.alloc (.cells #[.int .i64 ((F : Int) + 1 + (j : Int))] 3)).cell? ⟨wr.heap.size, 0, none⟩ = some (.int .i64 ((F : Int) + 1 + (j : Int))) := (Blk.made wr _ 3).cell (i := 0) rfl
        have HOW := hid (HR.out.on ((Below.refl _ wr).alloc (Nat.le_refl _) (.cells #[.int .i64 ((F : Int) + 1 + (j : Int))] 3)))
        have HBW := hid (HB.out.alloc HB.out.size (.cells #[.int .i64 ((F : Int) + 1 + (j : Int))] 3))
        clear hbe hbt HSU
        go_wp2_with (first
          | (go_at_call 83; refine HHJ.out.mono ?_; clear HHJ; rintro e w9 ⟨rfl, rfl⟩)
          | (at_builtin; refine wpList_intB _ w.heap.size HBW.out.size rfl (.tmp 37) (.tmp 39) rfl _ _ m HM.out rfl HOW.out wr.heap.size ((F : Int) + 1 + (j : Int)) rfl x0 (by omega) ?_; intro ua uc w5 hr5 hg5; have HR5 : Hid (RowI w5 w.heap.size (.slice ua (m + 1) uc) (usrL F (j + 1) b t)) := (by show RowI _ _ _ _; rw [HQ.out]; exact hr5); have HB5 := hid (HBW.out.grown hg5 HBW.out.size (fun k hk => (World.ownsRow.lt HOW.out k hk).1)); have HM5 : Hid ((usrL F (j + 1) b t).length = m + 1) := (by show _ = _; rw [HQ.out, List.length_append, HM.out]; rfl); clear hr5 hg5 x0))
        go_roundw
        case rel => exact ⟨j + 1, m + 1, ua, uc, by omega, by omega, by first | (congr 1; done) | (congr 1; omega), rfl, HM5, HR5, HB5⟩
        case measure => simp [intOf]; omega
      | false =>
        have hbe := of_decide_eq_false hbt
        have HQ : Hid (usrL F (j + 1) b t = usrL F j b t) := by show _ = _; rw [HSU.out, if_neg hbe, List.append_nil]
        have hne : (hasB b (j + 1) == t) = false := by simpa using hbe
        have HR5 : Hid (RowI wr w.heap.size (.slice ba m bc) (usrL F (j + 1) b t)) := by show RowI _ _ _ _; rw [HQ.out]; exact HR.out
        have HM5 : Hid ((usrL F (j + 1) b t).length = m) := by show _ = _; rw [HQ.out, HM.out]
        generalize hasB b (j + 1) = hv at *
        clear hbe hbt HSU HQ HR HM
        go_wp2_with (first
          | (go_at_call 83; refine HHJ.out.mono ?_; clear HHJ; rintro e w9 ⟨rfl, rfl⟩))
        go_roundw
        case rel => exact ⟨j + 1, m, ba, bc, by omega, by omega, by first | (congr 1; done) | (congr 1; omega), rfl, HM5, HR5, HB⟩
        case measure => simp [intOf]; omega
    · obtain rfl : j = c := by omega
      have hji : ¬ (F : Int) + 1 + (j : Int) < (F : Int) + 1 + (j : Int) := by omega
      go_wp2_with fail
      go_ret
      rw [HM.out]
      exact ⟨ba, bc, rfl, HR.out, HB.out⟩
theorem look_nil (t : Bool) (w : World) : Calls Tryz.prog 55 #[.pointer none, .bool t] w fun e w' => e = .returned (.slice none 0 0) ∧ w = w' := by
  go_enter Tryz.func55, Tryz.ntmps55
  go_wp2
  go_ret
  exact ⟨rfl, rfl⟩
theorem look_sp (t : Bool) (hN : N < 4611686018427387904) (h : Sv w S k q s d f N) :
    Calls Tryz.prog 55 #[.pointer (some ⟨s, 0, none⟩), .bool t] w fun e w' => ∃ a c, e = .returned (.slice a (usr d.bs.length (f (mpg d)) t).length c) ∧ RowI w' w.heap.size (.slice a (usr d.bs.length (f (mpg d)) t).length c) (usr d.bs.length (f (mpg d)) t) ∧ Sn w S k q s d f (N + 1) w' := by
  obtain ⟨c0, _, _, _, _⟩ := h.cells
  obtain ⟨hd, _, hz⟩ := h.good
  have hdn := sdown_any h
  have HLM := hid (loadMap_sp hN h)
  have hsz := hz _ (mpg_pg hd)
  have HUS : Hid (∀ w1, Sn w S k q s d f (N + 1) w1 → Calls Tryz.prog 51 #[.pointer (some ⟨s, 0, none⟩), .string (f (mpg d)), .bool t] w1 fun e w' => ∃ a c, e = .returned (.slice a (usr d.bs.length (f (mpg d)) t).length c) ∧ RowI w' w.heap.size (.slice a (usr d.bs.length (f (mpg d)) t).length c) (usr d.bs.length (f (mpg d)) t) ∧ Sn w S k q s d f (N + 1) w') := fun w1 hn => by
    obtain ⟨S', h1, h2⟩ := hn.sv
    refine (users_any (f (mpg d)) hsz t h1).mono fun e w' hh => ?_
    obtain ⟨a, c, e1, r, b⟩ := hh
    exact ⟨a, c, e1, own_base r hn.keep.size, hn.on b⟩
  generalize usr d.bs.length (f (mpg d)) t = L at *
  generalize f (mpg d) = x at *
  generalize L.length = m at *
  clear h hd hz hsz
  go_enter Tryz.func55, Tryz.ntmps55
  go_wp2_with (first
    | (go_at_call 86; refine hdn.mono ?_; clear hdn; rintro e w1 ⟨rfl, rfl⟩)
    | (go_at_call 50; refine HLM.out.mono ?_; clear HLM c0; rintro e w1 ⟨rfl, hn1⟩; have HN1 := hid hn1; clear hn1)
    | (go_at_call 51; refine (HUS.out _ HN1.out).mono ?_; clear HUS; rintro e w2 ⟨a, c, rfl, r2, hn2⟩; have HR2 := hid r2; have HN2 := hid hn2; clear r2 hn2))
  go_ret
  exact ⟨a, c, rfl, HR2.out, HN2.out⟩
theorem free_nil (w : World) : Calls Tryz.prog 24 #[.pointer none] w fun e w' => e = .returned (.int .i64 0) ∧ w = w' := by
  have h := look_nil false w
  go_enter Tryz.func24, Tryz.ntmps24
  go_wp2_with (go_at_call 55; refine h.mono ?_; rintro e w1 ⟨rfl, rfl⟩)
  go_ret
  exact ⟨rfl, rfl⟩
theorem taken_nil (w : World) : Calls Tryz.prog 31 #[.pointer none] w fun e w' => e = .returned (.slice none 0 0) ∧ w = w' := by
  have h := look_nil true w
  go_enter Tryz.func31, Tryz.ntmps31
  go_wp2_with (go_at_call 55; refine h.mono ?_; rintro e w1 ⟨rfl, rfl⟩)
  go_ret
  exact ⟨rfl, rfl⟩
theorem free_sp (hN : N < 4611686018427387904) (h : Sv w S k q s d f N) :
    Calls Tryz.prog 24 #[.pointer (some ⟨s, 0, none⟩)] w fun e w' => e = .returned (.int .i64 ((usr d.bs.length (f (mpg d)) false).length : Nat)) ∧ Sn w S k q s d f (N + 1) w' := by
  have HL := hid (look_sp false hN h)
  generalize usr d.bs.length (f (mpg d)) false = L at *
  generalize L.length = m at *
  clear h
  go_enter Tryz.func24, Tryz.ntmps24
  go_wp2_with (go_at_call 55; refine HL.out.mono ?_; clear HL; rintro e w2 ⟨a, c, rfl, _, hn2⟩; have HN2 := hid hn2; clear hn2)
  go_ret
  exact ⟨rfl, HN2.out⟩
theorem taken_sp (hN : N < 4611686018427387904) (h : Sv w S k q s d f N) :
    Calls Tryz.prog 31 #[.pointer (some ⟨s, 0, none⟩)] w fun e w' => ∃ a c, e = .returned (.slice a (usr d.bs.length (f (mpg d)) true).length c) ∧ RowI w' w.heap.size (.slice a (usr d.bs.length (f (mpg d)) true).length c) (usr d.bs.length (f (mpg d)) true) ∧ Sn w S k q s d f (N + 1) w' := by
  have HL := hid (look_sp true hN h)
  generalize usr d.bs.length (f (mpg d)) true = L at *
  generalize L.length = m at *
  clear h
  go_enter Tryz.func31, Tryz.ntmps31
  go_wp2_with (go_at_call 55; refine HL.out.mono ?_; clear HL; rintro e w2 ⟨a, c, rfl, r2, hn2⟩; have HR2 := hid r2; have HN2 := hid hn2; clear r2 hn2)
  go_ret
  exact ⟨a, c, rfl, HR2.out, HN2.out⟩
end

theorem Keep.env {S : Nat → Prop} {w W : World} (h : Keep S w W) (hE : Env w) (h0 : ¬ S 0) : Env W := by
  have hp := hE.pos
  unfold Env at *
  rw [← hE]
  unfold World.cell?
  rw [h.block 0 hp h0]
/-- what Get answers -/
def gtE (d : Ds) (f : Int → ByteArray) (a : Int) : Nat := if ¬ isUs d.bs.length a then 1 else if tkn d f a = true then 0 else 8
def gtS (d : Ds) (f : Int → ByteArray) (a : Int) : ByteArray := if gtE d f a = 0 then f a else ⟨#[]⟩
def ptE (d : Ds) (f : Int → ByteArray) (a : Int) (x : ByteArray) : Nat := if gtE d f a = 0 then (if x.size = 256 then 0 else 3) else gtE d f a
section
variable {w W V : World} {S S' P R : Nat → Prop} {k q s : Nat} {p : Pp} {d : Ds} {f g : Int → ByteArray} {N M : Nat}
/-- mapWith with the number of its error -/
theorem mapWith_all (a : Int) (hN : N < 4611686018427387904) (h : Sv w S k q s d f N) : ∃ x v, Calls Tryz.prog 56 #[.pointer (some ⟨s, 0, none⟩), .int .i64 a] w (fun e w' => e = .returned (.tuple #[.string x, v]) ∧ Sn w S k q s d f (N + 1) w') ∧ (gtE d f a = 0 → x = f (mpg d) ∧ v = .nilIface ∧ isUs d.bs.length a) ∧ (¬ gtE d f a = 0 → v = .iface 35 (.int .i64 (gtE d f a : Nat))) := by
  unfold gtE
  by_cases ha : isUs d.bs.length a
  · rw [if_neg (fun x => x ha)]
    have := mapWith_sp a ha hN h
    cases ht : tkn d f a with
    | true =>
      rw [ht, if_pos rfl] at this
      rw [if_pos rfl]
      exact ⟨_, _, this, fun _ => ⟨rfl, rfl, ha⟩, fun h => absurd rfl h⟩
    | false =>
      rw [ht, if_neg (by decide)] at this
      rw [if_neg (by decide)]
      exact ⟨_, _, this, fun h => (by cases h), fun _ => rfl⟩
  · rw [if_pos ha]
    refine ⟨⟨#[]⟩, .iface 35 (.int .i64 1), (mapWith_out a ha h).mono fun e w' hh => ?_, fun h => (by cases h), fun _ => rfl⟩
    obtain ⟨e1, rfl⟩ := hh
    exact ⟨e1, (Sn.refl h).mono (Nat.le_succ _)⟩
theorem get_nil (a : Int) (w : World) (hE : Env w) : Calls Tryz.prog 28 #[.pointer none, .int .i64 a] w fun e w' => e = .returned (.tuple #[.string ⟨#[]⟩, .int .i64 18]) ∧ Below w.heap.size w w' := by
  have hm := mapWith_nil a w
  have hn := number_any (.bare 18) w hE
  go_enter Tryz.func28, Tryz.ntmps28
  go_wp2_with (first
    | (go_at_call 56; refine hm.mono ?_; clear hm; rintro e w1 ⟨rfl, rfl⟩)
    | (go_at_call 43; refine hn.mono ?_; clear hn; rintro e w1 ⟨rfl, hb1⟩))
  go_ret2
  exact ⟨rfl, hb1⟩
theorem get_sp (a : Int) (hE : Env w) (h0 : ¬ S 0) (hN : N < 4611686018427387000) (h : Sv w S k q s d f N) :
    Calls Tryz.prog 28 #[.pointer (some ⟨s, 0, none⟩), .int .i64 a] w fun e w' => e = .returned (.tuple #[.string (gtS d f a), .int .i64 (gtE d f a : Nat)]) ∧ Sn w S k q s d f (N + 2) w' := by
  obtain ⟨x, v, hm, hm1, hm2⟩ := mapWith_all a (by omega) h
  have HM := hid hm
  unfold gtS
  by_cases hg : gtE d f a = 0
  · obtain ⟨rfl, rfl, hu⟩ := hm1 hg
    rw [hg, if_pos rfl]
    have HLD : Hid (∀ w1, Sn w S k q s d f (N + 1) w1 → Calls Tryz.prog 59 #[.pointer (some ⟨s, 0, none⟩), .int .i64 a] w1 fun e w' => e = .returned (.tuple #[.string (f a), .nilIface]) ∧ Sn w S k q s d f (N + 2) w') := fun w1 hn => hn.step (fun S' h1 _ => load_sp a hu.pg (by omega) h1)
    have hnn := fun w1 => number_nil w1
    generalize f a = y at *
    generalize f (mpg d) = z at *
    clear hm hm1 hm2 h hg hu
    go_enter Tryz.func28, Tryz.ntmps28
    go_wp2_with (first
      | (go_at_call 56; refine HM.out.mono ?_; clear HM; rintro e w1 ⟨rfl, hn1⟩; have HN1 := hid hn1; clear hn1)
      | (go_at_call 59; refine (HLD.out _ HN1.out).mono ?_; clear HLD; rintro e w2 ⟨rfl, hn2⟩; have HN2 := hid hn2; clear hn2)
      | (go_at_call 43; refine (hnn _).mono ?_; clear hnn; rintro e w3 ⟨rfl, hb3⟩; have HB3 := hid hb3; clear hb3))
    go_ret2
    exact ⟨rfl, HN2.out.on HB3.out⟩
  · obtain rfl := hm2 hg
    rw [if_neg hg]
    have HNU : Hid (∀ w1, Sn w S k q s d f (N + 1) w1 → Calls Tryz.prog 43 #[.iface 35 (.int .i64 (gtE d f a : Nat))] w1 fun e w' => e = .returned (.int .i64 (gtE d f a : Nat)) ∧ Sn w S k q s d f (N + 2) w') := fun w1 hn => (number_any (.bare _) w1 (hn.keep.env hE h0)).mono fun e w' hh => ⟨hh.1, (hn.on hh.2).mono (by omega)⟩
    generalize gtE d f a = m at *
    clear hm hm1 hm2 h hg
    go_enter Tryz.func28, Tryz.ntmps28
    go_wp2_with (first
      | (go_at_call 56; refine HM.out.mono ?_; clear HM; rintro e w1 ⟨rfl, hn1⟩; have HN1 := hid hn1; clear hn1)
      | (go_at_call 43; refine (HNU.out _ HN1.out).mono ?_; clear HNU; rintro e w3 ⟨rfl, hn3⟩; have HN3 := hid hn3; clear hn3))
    go_ret2
    exact ⟨rfl, HN3.out⟩
theorem put_nil (a : Int) (x : ByteArray) (w : World) (hE : Env w) : Calls Tryz.prog 30 #[.pointer none, .int .i64 a, .string x] w fun e w' => e = .returned (.int .i64 18) ∧ Below w.heap.size w w' := by
  have hm := mapWith_nil a w
  have hn := number_any (.bare 18) w hE
  go_enter Tryz.func30, Tryz.ntmps30
  go_wp2_with (first
    | (go_at_call 56; refine hm.mono ?_; clear hm; rintro e w1 ⟨rfl, rfl⟩)
    | (go_at_call 43; refine hn.mono ?_; clear hn; rintro e w1 ⟨rfl, hb1⟩))
  go_ret
  exact ⟨rfl, hb1⟩
theorem put_sp (a : Int) (x : ByteArray) (hE : Env w) (h0 : ¬ S 0) (hN : N < 4611686018427387000) (h : Sv w S k q s d f N) :
    Calls Tryz.prog 30 #[.pointer (some ⟨s, 0, none⟩), .int .i64 a, .string x] w fun e w' => e = .returned (.int .i64 (ptE d f a x : Nat)) ∧ Sn w S k q s d (if ptE d f a x = 0 then (fun b => if b = a then x else f b) else f) (N + 2) w' := by
  obtain ⟨y, v, hm, hm1, hm2⟩ := mapWith_all a (by omega) h
  have HM := hid hm
  unfold ptE
  by_cases hg : gtE d f a = 0
  · obtain ⟨rfl, rfl, hu⟩ := hm1 hg
    rw [if_pos hg]
    generalize f (mpg d) = z at *
    by_cases hx : x.size = 256
    · rw [if_pos hx, if_pos rfl]
      have HLD : Hid (∀ w1, Sn w S k q s d f (N + 1) w1 → Calls Tryz.prog 52 #[.pointer (some ⟨s, 0, none⟩), .int .i64 a, .string x] w1 fun e w' => e = .returned .nilIface ∧ Sn w S k q s d (fun b => if b = a then x else f b) (N + 1) w') := fun w1 hn => hn.step (fun S' h1 _ => store_sp a hu.pg x hx h1)
      have hnn := fun w1 => number_nil w1
      have hxi : (x.size : Int) = 256 := by omega
      clear hm hm1 hm2 h hg hu hx
      go_enter Tryz.func30, Tryz.ntmps30
      go_wp2_with (first
        | (go_at_call 56; refine HM.out.mono ?_; clear HM; rintro e w1 ⟨rfl, hn1⟩; have HN1 := hid hn1; clear hn1)
        | (go_at_call 52; refine (HLD.out _ HN1.out).mono ?_; clear HLD; rintro e w2 ⟨rfl, hn2⟩; have HN2 := hid hn2; clear hn2)
        | (go_at_call 43; refine (hnn _).mono ?_; clear hnn; rintro e w3 ⟨rfl, hb3⟩; have HB3 := hid hb3; clear hb3))
      go_ret
      exact ⟨rfl, (HN2.out.on HB3.out).mono (by omega)⟩
    · rw [if_neg hx, if_neg (by decide)]
      have hxi : ((x.size : Int) == 256) = false := by simp; omega
      have hxj : ¬ (x.size : Int) = 256 := by omega
      clear hm hm1 hm2 h hg hu hx
      go_enter Tryz.func30, Tryz.ntmps30
      go_wp2_with (first
        | (go_at_call 56; refine HM.out.mono ?_; clear HM; rintro e w1 ⟨rfl, hn1⟩; have HN1 := hid hn1; clear hn1))
      go_ret
      exact ⟨rfl, HN1.out.mono (by omega)⟩
  · obtain rfl := hm2 hg
    rw [if_neg hg, if_neg hg]
    have HNU : Hid (∀ w1, Sn w S k q s d f (N + 1) w1 → Calls Tryz.prog 43 #[.iface 35 (.int .i64 (gtE d f a : Nat))] w1 fun e w' => e = .returned (.int .i64 (gtE d f a : Nat)) ∧ Sn w S k q s d f (N + 2) w') := fun w1 hn => (number_any (.bare _) w1 (hn.keep.env hE h0)).mono fun e w' hh => ⟨hh.1, (hn.on hh.2).mono (by omega)⟩
    generalize gtE d f a = m at *
    clear hm hm1 hm2 h hg
    go_enter Tryz.func30, Tryz.ntmps30
    go_wp2_with (first
      | (go_at_call 56; refine HM.out.mono ?_; clear HM; rintro e w1 ⟨rfl, hn1⟩; have HN1 := hid hn1; clear hn1)
      | (go_at_call 43; refine (HNU.out _ HN1.out).mono ?_; clear HNU; rintro e w3 ⟨rfl, hn3⟩; have HN3 := hid hn3; clear hn3))
    go_ret
    exact ⟨rfl, HN3.out⟩
theorem release_nil (a : Int) (w : World) (hE : Env w) : Calls Tryz.prog 25 #[.pointer none, .int .i64 a] w fun e w' => e = .returned (.int .i64 18) ∧ Below w.heap.size w w' := by
  have hm := mapWith_nil a w
  have hn := number_any (.bare 18) w hE
  go_enter Tryz.func25, Tryz.ntmps25
  go_wp2_with (first
    | (go_at_call 56; refine hm.mono ?_; clear hm; rintro e w1 ⟨rfl, rfl⟩)
    | (go_at_call 43; refine hn.mono ?_; clear hn; rintro e w1 ⟨rfl, hb1⟩))
  go_ret
  exact ⟨rfl, hb1⟩
/-- what a page that is given back leaves -/
def rlF (d : Ds) (f : Int → ByteArray) (a : Int) : Int → ByteArray := fun c => if c = mpg d then withB (f (mpg d)) (a - mpg d).toNat false else f c
theorem release_sp (a : Int) (hE : Env w) (h0 : ¬ S 0) (hN : N < 4611686018427387000) (h : Sv w S k q s d f N) :
    Calls Tryz.prog 25 #[.pointer (some ⟨s, 0, none⟩), .int .i64 a] w fun e w' => e = .returned (.int .i64 (gtE d f a : Nat)) ∧ Sn w S k q s d (if gtE d f a = 0 then rlF d f a else f) (N + 2) w' := by
  obtain ⟨y, v, hm, hm1, hm2⟩ := mapWith_all a (by omega) h
  have HM := hid hm
  by_cases hg : gtE d f a = 0
  · obtain ⟨rfl, rfl, hu⟩ := hm1 hg
    obtain ⟨hd, _, hz⟩ := h.good
    have hsz := hz _ (mpg_pg hd)
    rw [hg, if_pos rfl]
    have HLD : Hid (∀ w1, Sn w S k q s d f (N + 1) w1 → Calls Tryz.prog 54 #[.pointer (some ⟨s, 0, none⟩), .string (f (mpg d)), .int .i64 a, .bool false] w1 fun e w' => e = .returned .nilIface ∧ Sn w S k q s d (rlF d f a) (N + 1) w') := fun w1 hn => hn.step (fun S' h1 _ => storeMap_sp _ hsz a hu false h1)
    have hnn := fun w1 => number_nil w1
    generalize rlF d f a = f1 at *
    generalize f (mpg d) = z at *
    clear hm hm1 hm2 h hg hu hd hz hsz
    go_enter Tryz.func25, Tryz.ntmps25
    go_wp2_with (first
      | (go_at_call 56; refine HM.out.mono ?_; clear HM; rintro e w1 ⟨rfl, hn1⟩; have HN1 := hid hn1; clear hn1)
      | (go_at_call 54; refine (HLD.out _ HN1.out).mono ?_; clear HLD; rintro e w2 ⟨rfl, hn2⟩; have HN2 := hid hn2; clear hn2)
      | (go_at_call 43; refine (hnn _).mono ?_; clear hnn; rintro e w3 ⟨rfl, hb3⟩; have HB3 := hid hb3; clear hb3))
    go_ret
    exact ⟨rfl, (HN2.out.on HB3.out).mono (by omega)⟩
  · obtain rfl := hm2 hg
    rw [if_neg hg]
    have HNU : Hid (∀ w1, Sn w S k q s d f (N + 1) w1 → Calls Tryz.prog 43 #[.iface 35 (.int .i64 (gtE d f a : Nat))] w1 fun e w' => e = .returned (.int .i64 (gtE d f a : Nat)) ∧ Sn w S k q s d f (N + 2) w') := fun w1 hn => (number_any (.bare _) w1 (hn.keep.env hE h0)).mono fun e w' hh => ⟨hh.1, (hn.on hh.2).mono (by omega)⟩
    generalize gtE d f a = m at *
    clear hm hm1 hm2 h hg
    go_enter Tryz.func25, Tryz.ntmps25
    go_wp2_with (first
      | (go_at_call 56; refine HM.out.mono ?_; clear HM; rintro e w1 ⟨rfl, hn1⟩; have HN1 := hid hn1; clear hn1)
      | (go_at_call 43; refine (HNU.out _ HN1.out).mono ?_; clear HNU; rintro e w3 ⟨rfl, hn3⟩; have HN3 := hid hn3; clear hn3))
    go_ret
    exact ⟨rfl, HN3.out⟩
theorem head_nil (w : World) : Calls Tryz.prog 27 #[.pointer none] w fun e w' => e = .returned (.tuple #[.string ⟨#[]⟩, .int .i64 18]) ∧ w = w' := by
  go_enter Tryz.func27, Tryz.ntmps27
  go_wp2
  go_ret2
  exact ⟨rfl, rfl⟩
theorem head_sp (hN : N < 4611686018427387000) (h : Sv w S k q s d f N) :
    Calls Tryz.prog 27 #[.pointer (some ⟨s, 0, none⟩)] w fun e w' => e = .returned (.tuple #[.string ((f 0).extract 8 256), .int .i64 0]) ∧ Sn w S k q s d f (N + 1) w' := by
  obtain ⟨hd, _, hz⟩ := h.good
  have hsz := hz 0 (zero_pg _)
  have HLD := hid (load_sp 0 (zero_pg _) (by omega) h)
  generalize f 0 = y at *
  have h8 : (8 : Int) ≤ (y.size : Int) := by omega
  clear h hd hz
  go_enter Tryz.func27, Tryz.ntmps27
  go_wp2_with (first
    | (go_at_call 59; refine HLD.out.mono ?_; clear HLD; rintro e w2 ⟨rfl, hn2⟩; have HN2 := hid hn2; clear hn2))
  go_ret2
  exact ⟨rfl, HN2.out⟩
theorem setHead_nil (x : ByteArray) (w : World) : Calls Tryz.prog 29 #[.pointer none, .string x] w fun e w' => e = .returned (.int .i64 18) ∧ w = w' := by
  go_enter Tryz.func29, Tryz.ntmps29
  go_wp2
  go_ret
  exact ⟨rfl, rfl⟩
theorem mkB_size (n : Nat) : (mkB n).size = 8 := by
  unfold mkB
  rw [ByteArray.size_append]
  have : (⟨(Nu.be n 2).toArray⟩ : ByteArray).size = 2 := by show (Nu.be n 2).toArray.size = 2; simp [Nu.be_length]
  rw [this]
  rfl
theorem setHead_sp (x : ByteArray) (h : Sv w S k q s d f N) :
    Calls Tryz.prog 29 #[.pointer (some ⟨s, 0, none⟩), .string x] w fun e w' => e = .returned (.int .i64 (if x.size = 248 then 0 else 3 : Nat)) ∧ Sn w S k q s d (if x.size = 248 then (fun b => if b = 0 then mkB d.bs.length ++ x else f b) else f) N w' := by
  obtain ⟨c0, _, _, _, _⟩ := h.cells
  obtain ⟨hd, _, _⟩ := h.good
  by_cases hx : x.size = 248
  · rw [if_pos hx, if_pos hx]
    have hln := slen_any h
    have HMK := hid (markOf_any d.bs.length hd.hi w)
    have hms := mkB_size d.bs.length
    have HST : Hid (∀ w1, Below w.heap.size w w1 → Calls Tryz.prog 52 #[.pointer (some ⟨s, 0, none⟩), .int .i64 0, .string (mkB d.bs.length ++ x)] w1 fun e w' => e = .returned .nilIface ∧ Sn w S k q s d (fun b => if b = 0 then mkB d.bs.length ++ x else f b) N w') := fun w1 hb1 => (store_sp 0 (zero_pg _) _ (by rw [ByteArray.size_append, hms, hx]) (h.on hb1)).mono fun e w' hh => ⟨hh.1, hh.2.base hb1⟩
    have hnn := fun w1 => number_nil w1
    have hxi : (x.size : Int) = 248 := by omega
    generalize mkB d.bs.length = z at *
    have hsm : ¬ 9223372036854775807 < z.size + x.size := by omega
    generalize (fun b => if b = 0 then z ++ x else f b) = f1 at *
    generalize d.bs.length = n at *
    clear h hd hx hms
    go_enter Tryz.func29, Tryz.ntmps29
    go_wp2_with (first
      | (go_at_call 61; refine hln.mono ?_; clear hln; rintro e w1 ⟨rfl, rfl⟩)
      | (go_at_call 60; refine HMK.out.mono ?_; clear HMK c0; rintro e w1 ⟨rfl, hb1⟩; have HB1 := hid hb1; clear hb1)
      | (go_at_call 52; refine (HST.out _ HB1.out).mono ?_; clear HST; rintro e w2 ⟨rfl, hn2⟩; have HN2 := hid hn2; clear hn2)
      | (go_at_call 43; refine (hnn _).mono ?_; clear hnn; rintro e w3 ⟨rfl, hb3⟩; have HB3 := hid hb3; clear hb3))
    go_ret
    exact ⟨rfl, HN2.out.on HB3.out⟩
  · rw [if_neg hx, if_neg hx]
    have hxi : ((x.size : Int) == 248) = false := by simp; omega
    have hxj : ¬ (x.size : Int) = 248 := by omega
    have HH := hid h
    clear h hd hx c0
    go_enter Tryz.func29, Tryz.ntmps29
    go_wp2_with fail
    go_ret
    exact ⟨rfl, Sn.refl HH.out⟩
theorem sundo_nil (w : World) : Calls Tryz.prog 26 #[.pointer none] w fun e w' => e = .returned (.tuple #[]) ∧ w = w' := by
  go_enter Tryz.func26, Tryz.ntmps26
  go_wp2
  refine bodyPost_ret (results_none rfl _ _ _) rfl ?_
  exact ⟨rfl, rfl⟩
theorem sundo_sp (h : Sv w S k q s d f N) :
    Calls Tryz.prog 26 #[.pointer (some ⟨s, 0, none⟩)] w fun e w' => e = .returned (.tuple #[]) ∧ Sn w S k q s d (onD d) N w' := by
  obtain ⟨c0, c1, c2, _, _⟩ := h.cells
  have HUN : Hid (Calls Tryz.prog 57 #[.pointer (some ⟨q, 0, none⟩)] w fun e w' => e = .returned (.tuple #[]) ∧ Sn w S k q s d (onD d) N w' ∧ w'.cell? ⟨s, 2, none⟩ = some (.slice none 0 0)) := by
    obtain ⟨p, ⟨P, hP, hb, hS, hs⟩, hg, rfl, hv⟩ := h
    obtain ⟨e1, e2, e3⟩ := undo_view hg
    refine (undo_any hP).mono fun e w' hh => ⟨hh.1, ?_, (hh.2.keep.blk hb hs).cell (i := 2) rfl⟩
    have := Sn.pager hP hb hS hs hh.2 e1 e3
    rw [e2] at this
    exact this
  clear h c0 c2
  go_enter Tryz.func26, Tryz.ntmps26
  go_wp2_with (first
    | (go_at_call 57; refine HUN.out.mono ?_; clear HUN c1; rintro e w2 ⟨rfl, hn2, c22⟩; have HN2 := hid hn2; clear hn2))
  refine wp_loop_rounds 1 ?_
  rw [rounds_succ]
  go_wp2_with fail
  try go_end0
  exact ⟨rfl, HN2.out⟩
end

end Go.Proofs.YtglallhblcjffaaGreatDoor
