/-
  What a Commit reads ahead: before; settle.
-/
import Derived.Test.YtjcbaiohpdihoaaGreatDoorSb
namespace Go.Proofs.YtjcbaiohpdihoaaGreatDoor
open Go.RowKit
set_option linter.unusedVariables false
set_option linter.unusedSimpArgs false
set_option maxRecDepth 100000

/-- the first c of the user's pages whose bit is t -/
def usrL (F c : Nat) (b : ByteArray) (t : Bool) : List Int := ((List.range c).filter fun (j : Nat) => hasB b (j + 1) == t).map fun (j : Nat) => (F : Int) + 1 + (j : Int)
/-- the user's pages whose bit is t -/
def usr (n : Nat) (b : ByteArray) (t : Bool) : List Int := usrL (frs n) (pgs n - 2) b t
theorem usrL_succ (F c : Nat) (b : ByteArray) (t : Bool) : usrL F (c + 1) b t = usrL F c b t ++ if hasB b (c + 1) = t then [(F : Int) + 1 + (c : Int)] else [] := by
  unfold usrL
  rw [List.range_succ, List.filter_append, List.map_append]
  congr 1
  by_cases h : hasB b (c + 1) = t
  · simp [h]
  · simp [h]
theorem usrL_len (F c : Nat) (b : ByteArray) (t : Bool) : (usrL F c b t).length ≤ c := by
  unfold usrL
  rw [List.length_map]
  exact Nat.le_trans (List.length_filter_le _ _) (by simp)
theorem wpList_intB {ops : Array Oper} {rest : List Oper} {o : Oper} {a : Act} {Q : Exit → Act → World → Prop} (W : World) (B : Nat) (hB : B ≤ W.heap.size) (hgd : o.guard = none) (s x : Operand)
    (ho : o.op = .call { callee := .builtin .append, args := #[s, x], argTypes := #[40, 40] }) (v : Value) (M : List Int) (m : Nat) (hm : M.length = m) (hs : a.eval s = v) (hown : RowI W B v M)
    (ad : Nat) (z : Int) (hx : a.eval x = .slice (some ⟨ad, 0, none⟩) 1 1) (hc : W.cell? ⟨ad, 0, none⟩ = some (.int .i64 z)) (hlen : m ≤ 100000)
    (h : ∀ va vc w', RowI w' B (.slice va (m + 1) vc) (M ++ [z]) → W.grownBy w' v.ownBlock → wpList Tryz.prog ops Q rest (a.put o.dst (.slice va (m + 1) vc)) w') : wpList Tryz.prog ops Q (o :: rest) a W := by
  obtain ⟨i0, hi, hz0, hz1, hz2⟩ := info_parts info3
  subst hm
  refine wpList_append_blk W hgd s x 40 ho B 3 i0 (.int .i64 0) 1 8 Tryz.underlying40 hi hz0 hz1 hz2 rfl (by decide) v M.length (M.map (Value.int .i64)) hs hown ⟨ad, 0, none⟩ 1 1 [.int .i64 z] hx rfl (fun j u hj => ?_) (fun u hu => by simp at hu; subst hu; rfl) (by decide) (by unfold maxLen; omega) (by omega) hB ?_
  · match j, hj with
    | 0, hj => simp at hj; subst hj; simpa [Addr.add] using hc
  · intro v' w' hown' hgrow hmv
    obtain ⟨va, vc, hv'⟩ := own_form hown'
    subst hv'
    refine h va vc w' ?_ hgrow
    unfold RowI
    rw [List.length_append, List.map_append]
    exact hown'

section
variable {w W V : World} {S S' P R : Nat → Prop} {k q s : Nat} {p : Pp} {d : Ds} {f g : Int → ByteArray} {N M : Nat}
set_option maxHeartbeats 1000000 in
theorem users_any (b : ByteArray) (hb : b.size = 256) (t : Bool) (h : Sv w S k q s d f N) :
    Calls Tryz.prog 70 #[.pointer (some ⟨s, 0, none⟩), .string b, .bool t] w fun e w' => ∃ a c, e = .returned (.slice a (usr d.bs.length b t).length c) ∧ RowI w' w.heap.size (.slice a (usr d.bs.length b t).length c) (usr d.bs.length b t) ∧ Below w.heap.size w w' := by
  obtain ⟨c0, _, _, _, _⟩ := h.cells
  obtain ⟨hd, _, _⟩ := h.good
  obtain ⟨b1, b2, b3, b4, b5⟩ := frs_small hd.lo hd.hi
  have HBd := hid ((Below.refl w.heap.size w).drew)
  have HLN := hid (slen_any (h.on HBd.out))
  have hmp := fun w1 => mapAt_any d.bs.length hd.lo hd.hi w1
  have hen := fun w1 => endOf_any d.bs.length hd.lo hd.hi w1
  have HHA : Hid (∀ (j : Nat) (w1 : World), j < pgs d.bs.length - 2 → Calls Tryz.prog 86 #[.string b, .int .i64 ((frs d.bs.length : Int) + 1 + (j : Int) - (frs d.bs.length : Int))] w1 fun e w' => e = .returned (.bool (hasB b (j + 1))) ∧ w1 = w') := fun j w1 hj => by
    have := bhas_any b (j + 1) hb (by omega) w1
    rw [show ((j + 1 : Nat) : Int) = (frs d.bs.length : Int) + 1 + (j : Int) - (frs d.bs.length : Int) by omega] at this
    exact this
  unfold usr
  obtain ⟨c, hc⟩ : ∃ c, pgs d.bs.length - 2 = c := ⟨_, rfl⟩
  have hE : ((frs d.bs.length + pgs d.bs.length - 1 : Nat) : Int) = (frs d.bs.length : Int) + 1 + (c : Int) := by omega
  rw [hE] at hen
  rw [hc] at HHA ⊢
  have hc2 : c ≤ 1017 := by omega
  clear hE hc b2 b3 b4 b5
  have HS0 : w.drew.cell? ⟨s, 0, none⟩ = some (.pointer (some ⟨k, 0, none⟩)) := c0
  generalize frs d.bs.length = F at *
  generalize d.bs.length = n at *
  clear h hd c0
  go_enter Tryz.func70, Tryz.ntmps70
  go_wp2_with fail
  go_region_held3 (fun w' => w'.cell? ⟨s, 0, none⟩ = some (.pointer (some ⟨k, 0, none⟩))) (first | exact HS0)
    (first
      | (go_at_call 84; refine HLN.out.mono ?_; rintro e w1 ⟨rfl, rfl⟩)
      | (go_at_call 87; refine (hmp _).mono ?_; clear hmp; rintro e w1 ⟨rfl, rfl⟩)
      | (go_at_call 125; refine (hen _).mono ?_; clear hen; rintro e w1 ⟨rfl, rfl⟩))
  clear HS0 HLN
  generalize w.drew = w1 at *
  have hw1 : IntKind.i64.wrap ((F : Int) + 1) = (F : Int) + 1 := by rw [IntKind.wrap_i64]; omega
  go_wp2_with fail
  go_loopw [7, 10] (fun x i wr => ∃ (j m : Nat) (ba : Option Addr) (bc : Nat), j ≤ c ∧ m ≤ j ∧ i = .int .i64 ((F : Int) + 1 + (j : Int)) ∧ x = .slice ba m bc ∧ Hid ((usrL F j b t).length = m) ∧ Hid (RowI wr w.heap.size (.slice ba m bc) (usrL F j b t)) ∧ Hid (Below w.heap.size w wr)) (fun _ i _ => F + 1 + c - (intOf i).toNat)
  case atStart => exact ⟨0, 0, none, 0, Nat.zero_le _, Nat.le_refl _, by simp, rfl, (by show _ = _; rfl), (by show RowI _ _ _ _; exact World.ownsRow_nil _ _ _ _), HBd⟩
  case round =>
    obtain ⟨j, m, ba, bc, hj, hm, rfl, rfl, HM, HR, HB⟩ := hrel
    have hw2 : IntKind.i64.wrap ((F : Int) + 1 + (j : Int) - (F : Int)) = (F : Int) + 1 + (j : Int) - (F : Int) := by rw [IntKind.wrap_i64]; omega
    have hw3 : IntKind.i64.wrap ((F : Int) + 1 + (j : Int) + 1) = (F : Int) + 1 + (j : Int) + 1 := by rw [IntKind.wrap_i64]; omega
    by_cases hlt : j < c
    · have hji : (F : Int) + 1 + (j : Int) < (F : Int) + 1 + (c : Int) := by omega
      have HHJ := hid (HHA.out j wr hlt)
      have HSU := hid (usrL_succ F j b t)
      cases hbt : (decide (hasB b (j + 1) = t)) with
      | true =>
        have hbe := of_decide_eq_true hbt
        have HQ : Hid (usrL F (j + 1) b t = usrL F j b t ++ [(F : Int) + 1 + (j : Int)]) := by show _ = _; rw [HSU.out, if_pos hbe]
        rw [hbe] at HHJ
        have hte : (t == t) = true := by cases t <;> rfl
        have x0 : (wr.alloc (.cells #[.int .i64 ((F : Int) + 1 + (j : Int))] 3)).cell? ⟨wr.heap.size, 0, none⟩ = some (.int .i64 ((F : Int) + 1 + (j : Int))) := (Blk.made wr _ 3).cell (i := 0) rfl
        have HOW := hid (HR.out.on ((Below.refl _ wr).alloc (Nat.le_refl _) (.cells #[.int .i64 ((F : Int) + 1 + (j : Int))] 3)))
        have HBW := hid (HB.out.alloc HB.out.size (.cells #[.int .i64 ((F : Int) + 1 + (j : Int))] 3))
        clear hbe hbt HSU
        go_wp2_with (first
          | (go_at_call 86; refine HHJ.out.mono ?_; clear HHJ; rintro e w9 ⟨rfl, rfl⟩)
          | (at_builtin; refine wpList_intB _ w.heap.size HBW.out.size rfl (.tmp 37) (.tmp 39) rfl _ _ m HM.out rfl HOW.out wr.heap.size ((F : Int) + 1 + (j : Int)) rfl x0 (by omega) ?_; intro ua uc w5 hr5 hg5; have HR5 : Hid (RowI w5 w.heap.size (.slice ua (m + 1) uc) (usrL F (j + 1) b t)) := (by show RowI _ _ _ _; rw [HQ.out]; exact hr5); have HB5 := hid (HBW.out.grown hg5 HBW.out.size (fun k hk => (World.ownsRow.lt HOW.out k hk).1)); have HM5 : Hid ((usrL F (j + 1) b t).length = m + 1) := (by show _ = _; rw [HQ.out, List.length_append, HM.out]; rfl); clear hr5 hg5 x0))
        go_roundw
        case rel => exact ⟨j + 1, m + 1, ua, uc, by omega, by omega, by first | (congr 1; done) | (congr 1; omega), rfl, HM5, HR5, HB5⟩
        case measure => simp [intOf]; omega
      | false =>
        have hbe := of_decide_eq_false hbt
        have HQ : Hid (usrL F (j + 1) b t = usrL F j b t) := by show _ = _; rw [HSU.out, if_neg hbe, List.append_nil]
        have hne : (hasB b (j + 1) == t) = false := by simpa using hbe
        have HR5 : Hid (RowI wr w.heap.size (.slice ba m bc) (usrL F (j + 1) b t)) := by show RowI _ _ _ _; rw [HQ.out]; exact HR.out
        have HM5 : Hid ((usrL F (j + 1) b t).length = m) := by show _ = _; rw [HQ.out, HM.out]
        generalize hasB b (j + 1) = hv at *
        clear hbe hbt HSU HQ HR HM
        go_wp2_with (first
          | (go_at_call 86; refine HHJ.out.mono ?_; clear HHJ; rintro e w9 ⟨rfl, rfl⟩))
        go_roundw
        case rel => exact ⟨j + 1, m, ba, bc, by omega, by omega, by first | (congr 1; done) | (congr 1; omega), rfl, HM5, HR5, HB⟩
        case measure => simp [intOf]; omega
    · obtain rfl : j = c := by omega
      have hji : ¬ (F : Int) + 1 + (j : Int) < (F : Int) + 1 + (j : Int) := by omega
      go_wp2_with fail
      go_ret
      rw [HM.out]
      exact ⟨ba, bc, rfl, HR.out, HB.out⟩
theorem look_nil (t : Bool) (w : World) : Calls Tryz.prog 52 #[.pointer none, .bool t] w fun e w' => e = .returned (.slice none 0 0) ∧ w = w' := by
  go_enter Tryz.func52, Tryz.ntmps52
  go_wp2
  go_ret
  exact ⟨rfl, rfl⟩
theorem look_sp (t : Bool) (hN : N < 4611686018427387904) (h : Sv w S k q s d f N) :
    Calls Tryz.prog 52 #[.pointer (some ⟨s, 0, none⟩), .bool t] w fun e w' => ∃ a c, e = .returned (.slice a (usr d.bs.length (f (mpg d)) t).length c) ∧ RowI w' w.heap.size (.slice a (usr d.bs.length (f (mpg d)) t).length c) (usr d.bs.length (f (mpg d)) t) ∧ Sn w S k q s d f (N + 1) w' := by
  obtain ⟨c0, _, _, _, _⟩ := h.cells
  obtain ⟨hd, _, hz⟩ := h.good
  have hdn := sdown_any h
  have HLM := hid (loadMap_sp hN h)
  have hsz := hz _ (mpg_pg hd)
  have HUS : Hid (∀ w1, Sn w S k q s d f (N + 1) w1 → Calls Tryz.prog 70 #[.pointer (some ⟨s, 0, none⟩), .string (f (mpg d)), .bool t] w1 fun e w' => ∃ a c, e = .returned (.slice a (usr d.bs.length (f (mpg d)) t).length c) ∧ RowI w' w.heap.size (.slice a (usr d.bs.length (f (mpg d)) t).length c) (usr d.bs.length (f (mpg d)) t) ∧ Sn w S k q s d f (N + 1) w') := fun w1 hn => by
    obtain ⟨S', h1, h2⟩ := hn.sv
    refine (users_any (f (mpg d)) hsz t h1).mono fun e w' hh => ?_
    obtain ⟨a, c, e1, r, b⟩ := hh
    exact ⟨a, c, e1, own_base r hn.keep.size, hn.on b⟩
  generalize usr d.bs.length (f (mpg d)) t = L at *
  generalize f (mpg d) = x at *
  generalize L.length = m at *
  clear h hd hz hsz
  go_enter Tryz.func52, Tryz.ntmps52
  go_wp2_with (first
    | (go_at_call 92; refine hdn.mono ?_; clear hdn; rintro e w1 ⟨rfl, rfl⟩)
    | (go_at_call 69; refine HLM.out.mono ?_; clear HLM c0; rintro e w1 ⟨rfl, hn1⟩; have HN1 := hid hn1; clear hn1)
    | (go_at_call 70; refine (HUS.out _ HN1.out).mono ?_; clear HUS; rintro e w2 ⟨a, c, rfl, r2, hn2⟩; have HR2 := hid r2; have HN2 := hid hn2; clear r2 hn2))
  go_ret
  exact ⟨a, c, rfl, HR2.out, HN2.out⟩
theorem free_nil (w : World) : Calls Tryz.prog 23 #[.pointer none] w fun e w' => e = .returned (.int .i64 0) ∧ w = w' := by
  have h := look_nil false w
  go_enter Tryz.func23, Tryz.ntmps23
  go_wp2_with (go_at_call 52; refine h.mono ?_; rintro e w1 ⟨rfl, rfl⟩)
  go_ret
  exact ⟨rfl, rfl⟩
theorem taken_nil (w : World) : Calls Tryz.prog 22 #[.pointer none] w fun e w' => e = .returned (.slice none 0 0) ∧ w = w' := by
  have h := look_nil true w
  go_enter Tryz.func22, Tryz.ntmps22
  go_wp2_with (go_at_call 52; refine h.mono ?_; rintro e w1 ⟨rfl, rfl⟩)
  go_ret
  exact ⟨rfl, rfl⟩
theorem free_sp (hN : N < 4611686018427387904) (h : Sv w S k q s d f N) :
    Calls Tryz.prog 23 #[.pointer (some ⟨s, 0, none⟩)] w fun e w' => e = .returned (.int .i64 ((usr d.bs.length (f (mpg d)) false).length : Nat)) ∧ Sn w S k q s d f (N + 1) w' := by
  have HL := hid (look_sp false hN h)
  generalize usr d.bs.length (f (mpg d)) false = L at *
  generalize L.length = m at *
  clear h
  go_enter Tryz.func23, Tryz.ntmps23
  go_wp2_with (go_at_call 52; refine HL.out.mono ?_; clear HL; rintro e w2 ⟨a, c, rfl, _, hn2⟩; have HN2 := hid hn2; clear hn2)
  go_ret
  exact ⟨rfl, HN2.out⟩
theorem taken_sp (hN : N < 4611686018427387904) (h : Sv w S k q s d f N) :
    Calls Tryz.prog 22 #[.pointer (some ⟨s, 0, none⟩)] w fun e w' => ∃ a c, e = .returned (.slice a (usr d.bs.length (f (mpg d)) true).length c) ∧ RowI w' w.heap.size (.slice a (usr d.bs.length (f (mpg d)) true).length c) (usr d.bs.length (f (mpg d)) true) ∧ Sn w S k q s d f (N + 1) w' := by
  have HL := hid (look_sp true hN h)
  generalize usr d.bs.length (f (mpg d)) true = L at *
  generalize L.length = m at *
  clear h
  go_enter Tryz.func22, Tryz.ntmps22
  go_wp2_with (go_at_call 52; refine HL.out.mono ?_; clear HL; rintro e w2 ⟨a, c, rfl, r2, hn2⟩; have HR2 := hid r2; have HN2 := hid hn2; clear r2 hn2)
  go_ret
  exact ⟨a, c, rfl, HR2.out, HN2.out⟩
end

theorem Keep.env {S : Nat → Prop} {w W : World} (h : Keep S w W) (hE : Env w) (h0 : ¬ S 0) : Env W := by
  have hp := hE.pos
  unfold Env at *
  rw [← hE]
  unfold World.cell?
  rw [h.block 0 hp h0]
/-- what Get answers -/
def gtE (d : Ds) (f : Int → ByteArray) (a : Int) : Nat := if ¬ isUs d.bs.length a then 1 else if tkn d f a = true then 0 else 8
def gtS (d : Ds) (f : Int → ByteArray) (a : Int) : ByteArray := if gtE d f a = 0 then f a else ⟨#[]⟩
def ptE (d : Ds) (f : Int → ByteArray) (a : Int) (x : ByteArray) : Nat := if gtE d f a = 0 then (if x.size = 256 then 0 else 3) else gtE d f a
section
variable {w W V : World} {S S' P R : Nat → Prop} {k q s : Nat} {p : Pp} {d : Ds} {f g : Int → ByteArray} {N M : Nat}
/-- mapWith with the number of its error -/
theorem mapWith_all (a : Int) (hN : N < 4611686018427387904) (h : Sv w S k q s d f N) : ∃ x v, Calls Tryz.prog 48 #[.pointer (some ⟨s, 0, none⟩), .int .i64 a] w (fun e w' => e = .returned (.tuple #[.string x, v]) ∧ Sn w S k q s d f (N + 1) w') ∧ (gtE d f a = 0 → x = f (mpg d) ∧ v = .nilIface ∧ isUs d.bs.length a) ∧ (¬ gtE d f a = 0 → v = .iface 26 (.int .i64 (gtE d f a : Nat))) := by
  unfold gtE
  by_cases ha : isUs d.bs.length a
  · rw [if_neg (fun x => x ha)]
    have := mapWith_sp a ha hN h
    cases ht : tkn d f a with
    | true =>
      rw [ht, if_pos rfl] at this
      rw [if_pos rfl]
      exact ⟨_, _, this, fun _ => ⟨rfl, rfl, ha⟩, fun h => absurd rfl h⟩
    | false =>
      rw [ht, if_neg (by decide)] at this
      rw [if_neg (by decide)]
      exact ⟨_, _, this, fun h => (by cases h), fun _ => rfl⟩
  · rw [if_pos ha]
    refine ⟨⟨#[]⟩, .iface 26 (.int .i64 1), (mapWith_out a ha h).mono fun e w' hh => ?_, fun h => (by cases h), fun _ => rfl⟩
    obtain ⟨e1, rfl⟩ := hh
    exact ⟨e1, (Sn.refl h).mono (Nat.le_succ _)⟩
theorem get_nil (a : Int) (w : World) (hE : Env w) : Calls Tryz.prog 18 #[.pointer none, .int .i64 a] w fun e w' => e = .returned (.tuple #[.string ⟨#[]⟩, .int .i64 18]) ∧ Below w.heap.size w w' := by
  have hm := mapWith_nil a w
  have hn := number_any (.bare 18) w hE
  go_enter Tryz.func18, Tryz.ntmps18
  go_wp2_with (first
    | (go_at_call 48; refine hm.mono ?_; clear hm; rintro e w1 ⟨rfl, rfl⟩)
    | (go_at_call 49; refine hn.mono ?_; clear hn; rintro e w1 ⟨rfl, hb1⟩))
  go_ret2
  exact ⟨rfl, hb1⟩
theorem get_sp (a : Int) (hE : Env w) (h0 : ¬ S 0) (hN : N < 4611686018427387000) (h : Sv w S k q s d f N) :
    Calls Tryz.prog 18 #[.pointer (some ⟨s, 0, none⟩), .int .i64 a] w fun e w' => e = .returned (.tuple #[.string (gtS d f a), .int .i64 (gtE d f a : Nat)]) ∧ Sn w S k q s d f (N + 2) w' := by
  obtain ⟨x, v, hm, hm1, hm2⟩ := mapWith_all a (by omega) h
  have HM := hid hm
  unfold gtS
  by_cases hg : gtE d f a = 0
  · obtain ⟨rfl, rfl, hu⟩ := hm1 hg
    rw [hg, if_pos rfl]
    have HLD : Hid (∀ w1, Sn w S k q s d f (N + 1) w1 → Calls Tryz.prog 50 #[.pointer (some ⟨s, 0, none⟩), .int .i64 a] w1 fun e w' => e = .returned (.tuple #[.string (f a), .nilIface]) ∧ Sn w S k q s d f (N + 2) w') := fun w1 hn => hn.step (fun S' h1 _ => load_sp a hu.pg (by omega) h1)
    have hnn := fun w1 => number_nil w1
    generalize f a = y at *
    generalize f (mpg d) = z at *
    clear hm hm1 hm2 h hg hu
    go_enter Tryz.func18, Tryz.ntmps18
    go_wp2_with (first
      | (go_at_call 48; refine HM.out.mono ?_; clear HM; rintro e w1 ⟨rfl, hn1⟩; have HN1 := hid hn1; clear hn1)
      | (go_at_call 50; refine (HLD.out _ HN1.out).mono ?_; clear HLD; rintro e w2 ⟨rfl, hn2⟩; have HN2 := hid hn2; clear hn2)
      | (go_at_call 49; refine (hnn _).mono ?_; clear hnn; rintro e w3 ⟨rfl, hb3⟩; have HB3 := hid hb3; clear hb3))
    go_ret2
    exact ⟨rfl, HN2.out.on HB3.out⟩
  · obtain rfl := hm2 hg
    rw [if_neg hg]
    have HNU : Hid (∀ w1, Sn w S k q s d f (N + 1) w1 → Calls Tryz.prog 49 #[.iface 26 (.int .i64 (gtE d f a : Nat))] w1 fun e w' => e = .returned (.int .i64 (gtE d f a : Nat)) ∧ Sn w S k q s d f (N + 2) w') := fun w1 hn => (number_any (.bare _) w1 (hn.keep.env hE h0)).mono fun e w' hh => ⟨hh.1, (hn.on hh.2).mono (by omega)⟩
    generalize gtE d f a = m at *
    clear hm hm1 hm2 h hg
    go_enter Tryz.func18, Tryz.ntmps18
    go_wp2_with (first
      | (go_at_call 48; refine HM.out.mono ?_; clear HM; rintro e w1 ⟨rfl, hn1⟩; have HN1 := hid hn1; clear hn1)
      | (go_at_call 49; refine (HNU.out _ HN1.out).mono ?_; clear HNU; rintro e w3 ⟨rfl, hn3⟩; have HN3 := hid hn3; clear hn3))
    go_ret2
    exact ⟨rfl, HN3.out⟩
theorem put_nil (a : Int) (x : ByteArray) (w : World) (hE : Env w) : Calls Tryz.prog 77 #[.pointer none, .int .i64 a, .string x] w fun e w' => e = .returned (.int .i64 18) ∧ Below w.heap.size w w' := by
  have hm := mapWith_nil a w
  have hn := number_any (.bare 18) w hE
  go_enter Tryz.func77, Tryz.ntmps77
  go_wp2_with (first
    | (go_at_call 48; refine hm.mono ?_; clear hm; rintro e w1 ⟨rfl, rfl⟩)
    | (go_at_call 49; refine hn.mono ?_; clear hn; rintro e w1 ⟨rfl, hb1⟩))
  go_ret
  exact ⟨rfl, hb1⟩
theorem put_sp (a : Int) (x : ByteArray) (hE : Env w) (h0 : ¬ S 0) (hN : N < 4611686018427387000) (h : Sv w S k q s d f N) :
    Calls Tryz.prog 77 #[.pointer (some ⟨s, 0, none⟩), .int .i64 a, .string x] w fun e w' => e = .returned (.int .i64 (ptE d f a x : Nat)) ∧ Sn w S k q s d (if ptE d f a x = 0 then (fun b => if b = a then x else f b) else f) (N + 2) w' := by
  obtain ⟨y, v, hm, hm1, hm2⟩ := mapWith_all a (by omega) h
  have HM := hid hm
  unfold ptE
  by_cases hg : gtE d f a = 0
  · obtain ⟨rfl, rfl, hu⟩ := hm1 hg
    rw [if_pos hg]
    generalize f (mpg d) = z at *
    by_cases hx : x.size = 256
    · rw [if_pos hx, if_pos rfl]
      have HLD : Hid (∀ w1, Sn w S k q s d f (N + 1) w1 → Calls Tryz.prog 71 #[.pointer (some ⟨s, 0, none⟩), .int .i64 a, .string x] w1 fun e w' => e = .returned .nilIface ∧ Sn w S k q s d (fun b => if b = a then x else f b) (N + 1) w') := fun w1 hn => hn.step (fun S' h1 _ => store_sp a hu.pg x hx h1)
      have hnn := fun w1 => number_nil w1
      have hxi : (x.size : Int) = 256 := by omega
      clear hm hm1 hm2 h hg hu hx
      go_enter Tryz.func77, Tryz.ntmps77
      go_wp2_with (first
        | (go_at_call 48; refine HM.out.mono ?_; clear HM; rintro e w1 ⟨rfl, hn1⟩; have HN1 := hid hn1; clear hn1)
        | (go_at_call 71; refine (HLD.out _ HN1.out).mono ?_; clear HLD; rintro e w2 ⟨rfl, hn2⟩; have HN2 := hid hn2; clear hn2)
        | (go_at_call 49; refine (hnn _).mono ?_; clear hnn; rintro e w3 ⟨rfl, hb3⟩; have HB3 := hid hb3; clear hb3))
      go_ret
      exact ⟨rfl, (HN2.out.on HB3.out).mono (by omega)⟩
    · rw [if_neg hx, if_neg (by decide)]
      have hxi : ((x.size : Int) == 256) = false := by simp; omega
      have hxj : ¬ (x.size : Int) = 256 := by omega
      clear hm hm1 hm2 h hg hu hx
      go_enter Tryz.func77, Tryz.ntmps77
      go_wp2_with (first
        | (go_at_call 48; refine HM.out.mono ?_; clear HM; rintro e w1 ⟨rfl, hn1⟩; have HN1 := hid hn1; clear hn1))
      go_ret
      exact ⟨rfl, HN1.out.mono (by omega)⟩
  · obtain rfl := hm2 hg
    rw [if_neg hg, if_neg hg]
    have HNU : Hid (∀ w1, Sn w S k q s d f (N + 1) w1 → Calls Tryz.prog 49 #[.iface 26 (.int .i64 (gtE d f a : Nat))] w1 fun e w' => e = .returned (.int .i64 (gtE d f a : Nat)) ∧ Sn w S k q s d f (N + 2) w') := fun w1 hn => (number_any (.bare _) w1 (hn.keep.env hE h0)).mono fun e w' hh => ⟨hh.1, (hn.on hh.2).mono (by omega)⟩
    generalize gtE d f a = m at *
    clear hm hm1 hm2 h hg
    go_enter Tryz.func77, Tryz.ntmps77
    go_wp2_with (first
      | (go_at_call 48; refine HM.out.mono ?_; clear HM; rintro e w1 ⟨rfl, hn1⟩; have HN1 := hid hn1; clear hn1)
      | (go_at_call 49; refine (HNU.out _ HN1.out).mono ?_; clear HNU; rintro e w3 ⟨rfl, hn3⟩; have HN3 := hid hn3; clear hn3))
    go_ret
    exact ⟨rfl, HN3.out⟩
theorem release_nil (a : Int) (w : World) (hE : Env w) : Calls Tryz.prog 152 #[.pointer none, .int .i64 a] w fun e w' => e = .returned (.int .i64 18) ∧ Below w.heap.size w w' := by
  have hm := mapWith_nil a w
  have hn := number_any (.bare 18) w hE
  go_enter Tryz.func152, Tryz.ntmps152
  go_wp2_with (first
    | (go_at_call 48; refine hm.mono ?_; clear hm; rintro e w1 ⟨rfl, rfl⟩)
    | (go_at_call 49; refine hn.mono ?_; clear hn; rintro e w1 ⟨rfl, hb1⟩))
  go_ret
  exact ⟨rfl, hb1⟩
/-- what a page that is given back leaves -/
def rlF (d : Ds) (f : Int → ByteArray) (a : Int) : Int → ByteArray := fun c => if c = mpg d then withB (f (mpg d)) (a - mpg d).toNat false else f c
theorem release_sp (a : Int) (hE : Env w) (h0 : ¬ S 0) (hN : N < 4611686018427387000) (h : Sv w S k q s d f N) :
    Calls Tryz.prog 152 #[.pointer (some ⟨s, 0, none⟩), .int .i64 a] w fun e w' => e = .returned (.int .i64 (gtE d f a : Nat)) ∧ Sn w S k q s d (if gtE d f a = 0 then rlF d f a else f) (N + 2) w' := by
  obtain ⟨y, v, hm, hm1, hm2⟩ := mapWith_all a (by omega) h
  have HM := hid hm
  by_cases hg : gtE d f a = 0
  · obtain ⟨rfl, rfl, hu⟩ := hm1 hg
    obtain ⟨hd, _, hz⟩ := h.good
    have hsz := hz _ (mpg_pg hd)
    rw [hg, if_pos rfl]
    have HLD : Hid (∀ w1, Sn w S k q s d f (N + 1) w1 → Calls Tryz.prog 73 #[.pointer (some ⟨s, 0, none⟩), .string (f (mpg d)), .int .i64 a, .bool false] w1 fun e w' => e = .returned .nilIface ∧ Sn w S k q s d (rlF d f a) (N + 1) w') := fun w1 hn => hn.step (fun S' h1 _ => storeMap_sp _ hsz a hu false h1)
    have hnn := fun w1 => number_nil w1
    generalize rlF d f a = f1 at *
    generalize f (mpg d) = z at *
    clear hm hm1 hm2 h hg hu hd hz hsz
    go_enter Tryz.func152, Tryz.ntmps152
    go_wp2_with (first
      | (go_at_call 48; refine HM.out.mono ?_; clear HM; rintro e w1 ⟨rfl, hn1⟩; have HN1 := hid hn1; clear hn1)
      | (go_at_call 73; refine (HLD.out _ HN1.out).mono ?_; clear HLD; rintro e w2 ⟨rfl, hn2⟩; have HN2 := hid hn2; clear hn2)
      | (go_at_call 49; refine (hnn _).mono ?_; clear hnn; rintro e w3 ⟨rfl, hb3⟩; have HB3 := hid hb3; clear hb3))
    go_ret
    exact ⟨rfl, (HN2.out.on HB3.out).mono (by omega)⟩
  · obtain rfl := hm2 hg
    rw [if_neg hg]
    have HNU : Hid (∀ w1, Sn w S k q s d f (N + 1) w1 → Calls Tryz.prog 49 #[.iface 26 (.int .i64 (gtE d f a : Nat))] w1 fun e w' => e = .returned (.int .i64 (gtE d f a : Nat)) ∧ Sn w S k q s d f (N + 2) w') := fun w1 hn => (number_any (.bare _) w1 (hn.keep.env hE h0)).mono fun e w' hh => ⟨hh.1, (hn.on hh.2).mono (by omega)⟩
    generalize gtE d f a = m at *
    clear hm hm1 hm2 h hg
    go_enter Tryz.func152, Tryz.ntmps152
    go_wp2_with (first
      | (go_at_call 48; refine HM.out.mono ?_; clear HM; rintro e w1 ⟨rfl, hn1⟩; have HN1 := hid hn1; clear hn1)
      | (go_at_call 49; refine (HNU.out _ HN1.out).mono ?_; clear HNU; rintro e w3 ⟨rfl, hn3⟩; have HN3 := hid hn3; clear hn3))
    go_ret
    exact ⟨rfl, HN3.out⟩
theorem mkB_size (n : Nat) : (mkB n).size = 8 := by
  unfold mkB
  rw [ByteArray.size_append]
  have : (⟨(Nu.be n 2).toArray⟩ : ByteArray).size = 2 := by show (Nu.be n 2).toArray.size = 2; simp [Nu.be_length]
  rw [this]
  rfl
theorem sundo_nil (w : World) : Calls Tryz.prog 28 #[.pointer none] w fun e w' => e = .returned (.tuple #[]) ∧ w = w' := by
  go_enter Tryz.func28, Tryz.ntmps28
  go_wp2
  refine bodyPost_ret (results_none rfl _ _ _) rfl ?_
  exact ⟨rfl, rfl⟩
theorem sundo_sp (h : Sv w S k q s d f N) :
    Calls Tryz.prog 28 #[.pointer (some ⟨s, 0, none⟩)] w fun e w' => e = .returned (.tuple #[]) ∧ Sn w S k q s d (onD d) N w' := by
  obtain ⟨c0, c1, c2, _, _⟩ := h.cells
  have HUN : Hid (Calls Tryz.prog 58 #[.pointer (some ⟨q, 0, none⟩)] w fun e w' => e = .returned (.tuple #[]) ∧ Sn w S k q s d (onD d) N w' ∧ w'.cell? ⟨s, 2, none⟩ = some (.slice none 0 0)) := by
    obtain ⟨p, ⟨P, hP, hb, hS, hs⟩, hg, rfl, hv⟩ := h
    obtain ⟨e1, e2, e3⟩ := undo_view hg
    refine (undo_any hP).mono fun e w' hh => ⟨hh.1, ?_, (hh.2.keep.blk hb hs).cell (i := 2) rfl⟩
    have := Sn.pager hP hb hS hs hh.2 e1 e3
    rw [e2] at this
    exact this
  clear h c0 c2
  go_enter Tryz.func28, Tryz.ntmps28
  go_wp2_with (first
    | (go_at_call 58; refine HUN.out.mono ?_; clear HUN c1; rintro e w2 ⟨rfl, hn2, c22⟩; have HN2 := hid hn2; clear hn2))
  refine wp_loop_rounds 1 ?_
  rw [rounds_succ]
  go_wp2_with fail
  try go_end0
  exact ⟨rfl, HN2.out⟩
end

end Go.Proofs.YtjcbaiohpdihoaaGreatDoor

namespace Go.Proofs.YtjcbaiohpdihoaaGreatDoor
open Go.RowKit
set_option linter.unusedVariables false
set_option linter.unusedSimpArgs false
set_option maxRecDepth 100000

theorem usr_mem {n : Nat} {b : ByteArray} {t : Bool} {a : Int} (h1 : 64 ≤ n) (h2 : n ≤ 2048) : a ∈ usr n b t ↔ isUs n a ∧ hasB b (a - (frs n : Int)).toNat = t := by
  obtain ⟨b1, b2, b3, b4, b5⟩ := frs_small h1 h2
  unfold usr usrL
  simp only [List.mem_map, List.mem_filter, List.mem_range]
  constructor
  · rintro ⟨j, ⟨hj, hb⟩, rfl⟩
    refine ⟨⟨by omega, by omega⟩, ?_⟩
    rw [show ((frs n : Int) + 1 + (j : Int) - (frs n : Int)).toNat = j + 1 by omega]
    simpa using hb
  · rintro ⟨⟨hu1, hu2⟩, hb⟩
    refine ⟨(a - (frs n : Int)).toNat - 1, ⟨by omega, ?_⟩, by omega⟩
    rw [show (a - (frs n : Int)).toNat - 1 + 1 = (a - (frs n : Int)).toNat by omega]
    simpa using hb
/-- what a page that is taken leaves -/
def alF (d : Ds) (f : Int → ByteArray) (a : Int) : Int → ByteArray := fun c => if c = mpg d then withB (f (mpg d)) (a - mpg d).toNat true else if c = a then Z else f c
section
variable {w W V : World} {S S' P R : Nat → Prop} {k q s : Nat} {p : Pp} {d : Ds} {f g : Int → ByteArray} {N M : Nat}
theorem alloc_nil (w : World) : Calls Tryz.prog 36 #[.pointer none] w fun e w' => e = .returned (.tuple #[.int .i64 0, .int .i64 18]) ∧ w = w' := by
  go_enter Tryz.func36, Tryz.ntmps36
  go_wp2
  go_ret2
  exact ⟨rfl, rfl⟩
/-- what a call leaves, with a block that isn't the space's -/
structure Sg (w : World) (S : Nat → Prop) (k q s : Nat) (d : Ds) (f : Int → ByteArray) (N : Nat) (g : Nat) (a : Int) (W : World) : Prop where
  sn : ∃ S', Sv W S' k q s d f N ∧ Grows S S' w ∧ ¬ S' g
  keep : Keep S w W
  cell : W.cell? ⟨g, 0, none⟩ = some (.int .i64 a)
  lt : g < W.heap.size
theorem Sg.step {d' : Ds} {f' : Int → ByteArray} {N' n : Nat} {g : Nat} {a : Int} {args : Array Value} {F : Ending → World → Prop} (h : Sg w S k q s d f N g a W) (hc : ∀ S', Sv W S' k q s d f N → Calls Tryz.prog n args W fun e V => F e V ∧ Sn W S' k q s d' f' N' V) : Calls Tryz.prog n args W fun e V => F e V ∧ Sg w S k q s d' f' N' g a V := by
  obtain ⟨S', h1, h2, h3⟩ := h.sn
  refine (hc S' h1).mono fun e V hh => ⟨hh.1, ?_⟩
  obtain ⟨S2, g1, g2⟩ := hh.2.sv
  have hk := hh.2.keep
  refine ⟨⟨S2, g1, h2.trans g2 h.keep.size, fun hj => ?_⟩, (Sn.trans h2 h.keep hh.2).keep, ?_, Nat.lt_of_lt_of_le h.lt hk.size⟩
  · rcases g2 g hj with t | t
    · exact h3 t
    · have := h.lt; omega
  · have := hk.block g h.lt h3
    have hc := h.cell
    unfold World.cell? at hc ⊢
    rw [this]
    exact hc
theorem Sg.on {g : Nat} {a : Int} (h : Sg w S k q s d f N g a W) (hb : Below W.heap.size W V) : Sg w S k q s d f N g a V := by
  obtain ⟨S', h1, h2, h3⟩ := h.sn
  exact ⟨⟨S', h1.on hb, h2, h3⟩, h.keep.trans (Keep.of_below (S := fun _ => False) hb) (fun _ _ h => h.elim), (hb.cell (p := ⟨g, 0, none⟩) h.lt).trans h.cell, Nat.lt_of_lt_of_le h.lt hb.size⟩
theorem Sg.out {g : Nat} {a : Int} (h : Sg w S k q s d f N g a W) : Sn w S k q s d f N W := by
  obtain ⟨S', h1, h2, h3⟩ := h.sn
  exact ⟨⟨S', h1, h2⟩, h.keep⟩
set_option maxHeartbeats 1000000 in
theorem alloc_full (he : usr d.bs.length (f (mpg d)) false = []) (hN : N < 4611686018427387000) (h : Sv w S k q s d f N) :
    Calls Tryz.prog 36 #[.pointer (some ⟨s, 0, none⟩)] w fun e w' => e = .returned (.tuple #[.int .i64 0, .int .i64 16]) ∧ Sn w S k q s d f (N + 1) w' := by
  obtain ⟨hd, _, hz⟩ := h.good
  have hsz := hz _ (mpg_pg hd)
  have HLM := hid (loadMap_sp (by omega) h)
  have HUS : Hid (∀ w1, Sn w S k q s d f (N + 1) w1 → Calls Tryz.prog 70 #[.pointer (some ⟨s, 0, none⟩), .string (f (mpg d)), .bool false] w1 fun e w' => ∃ a c, e = .returned (.slice a 0 c) ∧ Sn w S k q s d f (N + 1) w') := fun w1 hn => by
    obtain ⟨S', h1, h2⟩ := hn.sv
    refine (users_any (f (mpg d)) hsz false h1).mono fun e w' hh => ?_
    obtain ⟨a, c, e1, r, b⟩ := hh
    rw [he] at e1
    exact ⟨a, c, e1, hn.on b⟩
  generalize f (mpg d) = x at *
  clear h hd hz hsz he
  go_enter Tryz.func36, Tryz.ntmps36
  go_wp2_with (first
    | (go_at_call 69; refine HLM.out.mono ?_; clear HLM; rintro e w1 ⟨rfl, hn1⟩; have HN1 := hid hn1; clear hn1)
    | (go_at_call 70; refine (HUS.out _ HN1.out).mono ?_; clear HUS; rintro e w2 ⟨a, c, rfl, hn2⟩; have HN2 := hid hn2; clear hn2))
  go_ret2
  exact ⟨rfl, HN2.out⟩
set_option maxHeartbeats 2000000 in
theorem alloc_sp {a : Int} {L : List Int} (he : usr d.bs.length (f (mpg d)) false = a :: L) (hN : N < 4611686018427387000) (h : Sv w S k q s d f N) :
    Calls Tryz.prog 36 #[.pointer (some ⟨s, 0, none⟩)] w fun e w' => e = .returned (.tuple #[.int .i64 a, .int .i64 0]) ∧ Sn w S k q s d (alF d f a) (N + 1) w' := by
  obtain ⟨hd, _, hz⟩ := h.good
  have hsz := hz _ (mpg_pg hd)
  have hu : isUs d.bs.length a := ((usr_mem hd.lo hd.hi).1 (by rw [he]; simp)).1
  have HLM := hid (loadMap_sp (by omega) h)
  have HUS : Hid (∀ w1, Sn w S k q s d f (N + 1) w1 → Calls Tryz.prog 70 #[.pointer (some ⟨s, 0, none⟩), .string (f (mpg d)), .bool false] w1 fun e w' => ∃ g c, e = .returned (.slice (some ⟨g, 0, none⟩) (L.length + 1) c) ∧ Sg w S k q s d f (N + 1) g a w') := fun w1 hn => by
    obtain ⟨S', h1, h2⟩ := hn.sv
    refine (users_any (f (mpg d)) hsz false h1).mono fun e w' hh => ?_
    obtain ⟨v, c, e1, r, b⟩ := hh
    rw [he] at e1 r
    obtain ⟨g, e2, hg1, hg2, hg3, _⟩ := r.at (k := 0) (x := a) rfl
    subst e2
    exact ⟨g, c, e1, ⟨⟨S', h1.on b, h2, fun hj => by have := h1.lt g hj; omega⟩, (hn.on b).keep, hg3, hg2⟩⟩
  have HPD : Hid (∀ w1, Calls Tryz.prog 72 #[.string ⟨#[]⟩] w1 fun e w' => e = .returned (.string Z) ∧ Below w1.heap.size w1 w') := fun w1 => by
    have h := padded_any ⟨#[]⟩ (by decide) w1
    rw [show Nu.padOf ⟨#[]⟩ 256 = Z from pad_nil] at h
    exact h
  have HST : Hid (∀ w1 g, Sg w S k q s d f (N + 1) g a w1 → Calls Tryz.prog 71 #[.pointer (some ⟨s, 0, none⟩), .int .i64 a, .string Z] w1 fun e w' => e = .returned .nilIface ∧ Sg w S k q s d (fun b => if b = a then Z else f b) (N + 1) g a w') := fun w1 g hn => hn.step (fun S' h1 => store_sp a hu.pg Z (by decide) h1)
  have HSM : Hid (∀ w1 g, Sg w S k q s d (fun b => if b = a then Z else f b) (N + 1) g a w1 → Calls Tryz.prog 73 #[.pointer (some ⟨s, 0, none⟩), .string (f (mpg d)), .int .i64 a, .bool true] w1 fun e w' => e = .returned .nilIface ∧ Sg w S k q s d (alF d f a) (N + 1) g a w') := fun w1 g hn => hn.step (fun S' h1 => storeMap_sp _ hsz a hu true h1)
  have HSC : Hid (∀ w1 f1 g, Sg w S k q s d f1 (N + 1) g a w1 → w1.cell? ⟨g, 0, none⟩ = some (.int .i64 a)) := fun w1 f1 g hn => hn.cell
  generalize alF d f a = f2 at *
  generalize (fun b => if b = a then Z else f b) = f1 at *
  generalize f (mpg d) = x at *
  generalize L.length = m at *
  generalize Z = zz at *
  have hm0 : (0 : Int) < (m : Int) + 1 := by omega
  have hmz : ((m : Int) + 1 == 0) = false := by simp; omega
  have hmn : ¬ (m : Int) + 1 = 0 := by omega
  clear h hd hz hsz he hu
  go_enter Tryz.func36, Tryz.ntmps36
  go_wp2_with (first
    | (go_at_call 69; refine HLM.out.mono ?_; clear HLM; rintro e w1 ⟨rfl, hn1⟩; have HN1 := hid hn1; clear hn1)
    | (go_at_call 70; refine (HUS.out _ HN1.out).mono ?_; clear HUS; rintro e w2 ⟨g, c, rfl, hn2⟩; have HN2 : Hid (Sg w S k q s d f (N + 1) g a w2.drew) := hn2.on ((Below.refl _ _).drew); clear hn2 HN1))
  have HS0 := HSC.out _ _ _ HN2.out
  go_region_held3 (fun w' => w'.cell? ⟨g, 0, none⟩ = some (.int .i64 a)) (first | exact HS0 | exact HS1 | exact HS2)
    (first
      | (go_at_call 72; refine (HPD.out _).mono ?_; clear HPD; rintro e w3 ⟨rfl, hb3⟩; have HN3 := hid (HN2.out.on hb3); have HS1 := HSC.out _ _ _ HN3.out; clear hb3 HN2)
      | (go_at_call 71; refine (HST.out _ _ HN3.out).mono ?_; clear HST; rintro e w4 ⟨rfl, hn4⟩; have HN4 := hid hn4; have HS2 := HSC.out _ _ _ hn4; clear hn4 HN3))
  clear HS0 HS1
  go_wp2_with (first
    | (go_at_call 73; refine (HSM.out _ _ HN4.out).mono ?_; clear HSM; rintro e w5 ⟨rfl, hn5⟩; have HN5 := hid hn5; have HS3 := HSC.out _ _ _ hn5; clear hn5 HN4 HS2))
  go_ret2
  exact ⟨rfl, HN5.out.out⟩
end

theorem wp_pgs {o : Oper} {a : Act} {K : Act → World → Prop} {Q : Exit → Act → World → Prop} (W w0 : World) (s x : Operand)
    (ho : o.op = .call { callee := .builtin .append, args := #[s, x], argTypes := #[106, 106] }) (v : Value) (M : List Pg) (m : Nat) (hm : M.length = m) (hs : a.eval s = v) (hown : RowP W w0.heap.size v M) (hB : Below w0.heap.size w0 W)
    (ad : Addr) (N : List Pg) (k c : Nat) (hk : N.length = k) (hk0 : 0 < k) (hx : a.eval x = .slice (some ad) k c) (hc : ∀ j u, (flatP N)[j]? = some u → W.cell? (ad.add j) = some u) (hlen : m + k ≤ 5864062014635)
    (h : ∀ va vc w', RowP w' w0.heap.size (.slice va (m + k) vc) (M ++ N) → Below w0.heap.size w0 w' → W.grownBy w' v.ownBlock → K (a.put o.dst (.slice va (m + k) vc)) w') : o.wp Tryz.prog a W K Q := by
  obtain ⟨i0, hi, hz0, hz1, hz2⟩ := info_parts infoPg
  subst hm
  subst hk
  refine wp_append_blk W s x 106 ho w0.heap.size 110 i0 (.agg #[.int .i64 0, .string ⟨#[]⟩]) 2 24 Tryz.underlying106 hi hz0 hz1 hz2 rfl (by decide) v M.length (flatP M) hs hown ad N.length c (flatP N) hx (flatP_length N) hc (flatP_one N) hk0 (by unfold maxLen; omega) (by omega) hB.size ?_
  intro v' w' hown' hgrow _
  obtain ⟨va, vc, hv'⟩ := own_form hown'
  subst hv'
  refine h va vc w' ?_ (hB.grown hgrow hB.size (fun g hg => ((hown : W.ownsRow w0.heap.size 110 2 _ _ _).lt g hg).1)) hgrow
  unfold RowP
  rw [List.length_append, flatP_append]
  exact hown'
theorem wpList_pgs {ops : Array Oper} {rest : List Oper} {o : Oper} {a : Act} {Q : Exit → Act → World → Prop} (W w0 : World) (hgd : o.guard = none) (s x : Operand)
    (ho : o.op = .call { callee := .builtin .append, args := #[s, x], argTypes := #[106, 106] }) (v : Value) (M : List Pg) (m : Nat) (hm : M.length = m) (hs : a.eval s = v) (hown : RowP W w0.heap.size v M) (hB : Below w0.heap.size w0 W)
    (ad : Addr) (N : List Pg) (k c : Nat) (hk : N.length = k) (hk0 : 0 < k) (hx : a.eval x = .slice (some ad) k c) (hc : ∀ j u, (flatP N)[j]? = some u → W.cell? (ad.add j) = some u) (hlen : m + k ≤ 5864062014635)
    (h : ∀ va vc w', RowP w' w0.heap.size (.slice va (m + k) vc) (M ++ N) → Below w0.heap.size w0 w' → W.grownBy w' v.ownBlock → wpList Tryz.prog ops Q rest (a.put o.dst (.slice va (m + k) vc)) w') : wpList Tryz.prog ops Q (o :: rest) a W :=
  wpList_plain hgd fun K hK => wp_pgs W w0 s x ho v M m hm hs hown hB ad N k c hk hk0 hx hc hlen fun va vc w' h1 h2 h3 => hK _ _ (h va vc w' h1 h2 h3)

theorem idx0_any (a : Option Addr) (c : Nat) (v : Value) (w : World) : Calls Tryz.prog 161 #[.slice a 0 c, v] w fun e w' => e = .returned (.int .i64 (-1)) ∧ w = w' := by
  go_enter Tryz.func161, Tryz.ntmps161
  go_wp2_with fail
  refine wp_loop_rounds 1 ?_
  rw [rounds_succ]
  go_wp2_with fail
  go_ret
  exact ⟨rfl, rfl⟩
section
variable {w W V : World} {S S' P R : Nat → Prop} {k q s : Nat} {p : Pp} {d : Ds} {f g : Int → ByteArray} {N M : Nat}
theorem Sv.disk (h : Sv w S k q s d f N) : ∃ D, Dk w D k d := by
  obtain ⟨p, ⟨P, ⟨D, T, _, _, hd, _⟩, _⟩, _, rfl, _⟩ := h
  exact ⟨D, hd⟩
set_option maxHeartbeats 2000000 in
theorem before_sp (va : Option Addr) (vc n B : Nat) (L : List Int) (hn : L.length = n) (hr : RowI w B (.slice va n vc) L) (hl : n ≤ 2000) (hp : ∀ a ∈ L, isPg d.bs.length a) (h : Sv w S k q s d f N) :
    Calls Tryz.prog 106 #[.pointer (some ⟨s, 0, none⟩), .slice va n vc] w fun e w' => (∃ a' c', e = .returned (.tuple #[.slice a' n c', .nilIface])) ∧ Below w.heap.size w w' := by
  obtain ⟨c0, c1, c2, _, hss⟩ := h.cells
  have hsl := h.lt s hss
  obtain ⟨hd, hdn, _⟩ := h.good
  obtain ⟨D, hdk⟩ := h.disk
  have HRD : Hid (∀ (w1 : World) (a : Int), a ∈ L → Below w.heap.size w w1 → Calls Tryz.prog 119 #[.pointer (some ⟨k, 0, none⟩), .int .i64 a] w1 fun e w' => e = .returned (.tuple #[.string (onD d a), .int .i64 0]) ∧ Below w1.heap.size w1 w') := fun w1 a ha hb => by
    obtain ⟨r1, r2⟩ := rd_page hd hdn (hp a ha)
    have := read_any a w1 D k d (hdk.on hb)
    rw [r1, r2] at this
    exact this
  have HKC : Hid (∀ w1, Below w.heap.size w w1 → w1.cell? ⟨s, 0, none⟩ = some (.pointer (some ⟨k, 0, none⟩)) ∧ w1.cell? ⟨s, 2, none⟩ = some (.slice none 0 0)) := fun w1 hb => ⟨(hb.cell (p := ⟨s, 0, none⟩) hsl).trans c0, (hb.cell (p := ⟨s, 2, none⟩) hsl).trans c2⟩
  have hix := fun v w1 => idx0_any none 0 v w1
  have HR := hid hr
  have HN := hid hn
  clear h hd hdn hdk c0 c1 c2 hss hsl hr hp hn
  go_enter Tryz.func106, Tryz.ntmps106
  go_wp2_with fail
  go_loopw [6, 14] (fun x i wr => ∃ (j : Nat) (ba : Option Addr) (bc : Nat), j ≤ n ∧ i = .int .i64 (j : Nat) ∧ x = .slice ba j bc ∧ Hid (RowP wr w.heap.size (.slice ba j bc) ((L.take j).map fun a => (⟨a, onD d a⟩ : Pg))) ∧ Hid (Below w.heap.size w wr)) (fun _ i _ => n - (intOf i).toNat)
  case atStart => exact ⟨0, none, 0, Nat.zero_le _, rfl, rfl, World.ownsRow_nil _ _ _ _, Below.refl _ _⟩
  case round =>
    obtain ⟨j, ba, bc, hj, rfl, rfl, HRW, HB⟩ := hrel
    by_cases hlt : j < n
    · have hji : (j : Int) < (n : Int) := by omega
      obtain ⟨a, ha⟩ : ∃ a, L[j]? = some a := ⟨_, List.getElem?_eq_getElem (by rw [HN.out]; exact hlt)⟩
      obtain ⟨g, e1, _, hg2, hg3, _⟩ := HR.out.at ha
      subst e1
      have d0 : wr.cell? ⟨g, j, none⟩ = some (.int .i64 a) := (HB.out.cell (p := ⟨g, j, none⟩) hg2).trans hg3
      have HLJ : Hid (((L.take j).map fun a => (⟨a, onD d a⟩ : Pg)).length = j) := by show _ = _; rw [List.length_map, List.length_take, HN.out]; omega
      have HSN : Hid (((L.take (j + 1)).map fun a => (⟨a, onD d a⟩ : Pg)) = ((L.take j).map fun a => (⟨a, onD d a⟩ : Pg)) ++ [⟨a, onD d a⟩]) := by show _ = _; rw [take_snoc ha, List.map_append]; rfl
      have ham := List.mem_of_getElem? ha
      obtain ⟨W1, hW1⟩ : ∃ W1, wr.alloc (.cells #[.int .i64 a] 3) = W1 := ⟨_, rfl⟩
      obtain ⟨x, hx⟩ : ∃ x, wr.heap.size = x := ⟨_, rfl⟩
      have hB1 : Below wr.heap.size wr W1 := by rw [← hW1]; exact (Below.refl _ _).alloc (Nat.le_refl _) _
      have bx : Blk W1 x #[.int .i64 a] 3 := by rw [← hW1, ← hx]; exact Blk.made _ _ _
      have HBX : Hid (Blk W1.drew x #[.int .i64 a] 3) := bx
      have hxc : W1.cell? ⟨x, 0, none⟩ = some (.int .i64 a) := bx.cell (i := 0) rfl
      have HB1 := hid (HB.out.trans (hB1.mono HB.out.size))
      have HR1 := hid (HRW.out.on hB1)
      obtain ⟨k1, k2⟩ := HKC.out _ HB1.out
      have HBd : Hid (Below w.heap.size w W1.drew) := HB1.out.drew
      have HSd : W1.drew.cell? ⟨s, 0, none⟩ = some (.pointer (some ⟨k, 0, none⟩)) ∧ W1.drew.cell? ⟨x, 0, none⟩ = some (.int .i64 a) := ⟨k1, hxc⟩
      have HRJ := hid (HRD.out W1.drew a ham HBd.out)
      clear ha ham hg2 hg3 bx HB HRW
      go_wp2_with fail
      try simp only [hx] at *
      try rw [hW1]
      clear hW1 hx hB1 d0
      go_wp2_with (first
        | (go_at_call 161; refine (hix _ _).mono ?_; rintro e w9 ⟨rfl, rfl⟩))
      go_region_held3 (fun w' => w'.cell? ⟨s, 0, none⟩ = some (.pointer (some ⟨k, 0, none⟩)) ∧ w'.cell? ⟨x, 0, none⟩ = some (.int .i64 a)) (first | exact HSd | exact HS1)
        (first
          | (go_at_call 119; refine HRJ.out.mono ?_; clear HRJ; rintro e w2 ⟨rfl, hb2⟩; have HB2 := hid (HBd.out.trans (hb2.mono HBd.out.size)); have HR2 : Hid (RowP w2 w.heap.size (.slice ba j bc) ((L.take j).map fun a => (⟨a, onD d a⟩ : Pg))) := ((HR1.out.on ((Below.refl _ _).drew)).on hb2); have hx2 : w2.cell? ⟨x, 0, none⟩ = some (.int .i64 a) := (HBX.out.on hb2 HBX.out.lt).cell (i := 0) rfl; have HS1 := And.intro (HKC.out _ HB2.out).1 hx2; clear hb2 HBd HR1 HB1))
      clear HSd HS1 k1 k2 hxc HBX
      generalize onD d a = y at *
      go_wp2_with (at_builtin; refine wpList_pgs _ w rfl (.tmp 50) (.tmp 54) rfl (.slice ba j bc) ((L.take j).map fun a => (⟨a, onD d a⟩ : Pg)) j HLJ.out rfl (HR2.out.alloc (.cells #[.int .i64 a, .string y] 110)) (HB2.out.alloc HB2.out.size _) ⟨w2.heap.size, 0, none⟩ [⟨a, y⟩] 1 1 rfl (by decide) rfl (cells_two w2 _ _ 110) (by omega) ?_)
      intro va2 vc2 w5 hr5 hb5 _
      have HR5 : Hid (RowP w5 w.heap.size (.slice va2 (j + 1) vc2) ((L.take (j + 1)).map fun a => (⟨a, onD d a⟩ : Pg))) := by show RowP _ _ _ _; rw [HSN.out, List.map_take]; exact hr5
      have HB5 := hid hb5
      clear hr5 hb5 HR2 HB2 hx2
      go_wp2_with fail
      go_roundw
      case rel => exact ⟨j + 1, va2, vc2, by omega, by go_num, rfl, HR5, HB5⟩
      case measure => simp [intOf]; omega
    · obtain rfl : j = n := by omega
      have hji : ¬ (j : Int) < (j : Int) := by omega
      go_wp2_with fail
      go_ret2
      exact ⟨⟨ba, bc, rfl⟩, HB.out⟩
theorem settle_sp (h : Sv w S k q s d f N) : Calls Tryz.prog 107 #[.pointer (some ⟨s, 0, none⟩)] w fun e w' => e = .returned .nilIface ∧ w = w' := by
  obtain ⟨c0, c1, c2, _, _⟩ := h.cells
  clear h c0 c1
  go_enter Tryz.func107, Tryz.ntmps107
  go_wp2_with fail
  go_ret
  exact ⟨rfl, rfl⟩
end

end Go.Proofs.YtjcbaiohpdihoaaGreatDoor
