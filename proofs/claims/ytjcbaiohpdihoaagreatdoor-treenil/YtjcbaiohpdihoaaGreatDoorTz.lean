/-
  The tree's face: List and Pages of a tree that is one leaf.
-/
import Derived.Test.YtjcbaiohpdihoaaGreatDoorTv
import Derived.Test.YtjcbaiohpdihoaaGreatDoorIt
import Derived.Test.YtjcbaiohpdihoaaGreatDoorTp
import Derived.Sort.OwnSortedInts
namespace Go.Proofs.YtjcbaiohpdihoaaGreatDoor
open Go.RowKit Go.Maps Go.Shelf Go.Sort Lf
attribute [local go_sem] Oper.semAt_some
set_option linter.unusedVariables false
set_option linter.unusedSimpArgs false
set_option maxRecDepth 100000

section
variable {w W wr V3 : World} {S T X V V' : Nat → Prop} {k q s tb : Nat} {d : Ds} {f : Int → ByteArray} {N M : Nat} {root : Int}
def LnI (b7 B : Nat) (V : Nat → Prop) (pre : List Int) (W : World) : Prop := ∃ va vc, LsB b7 40 3 1 B (fun _ => False) V va vc pre.length (pre.map (Value.int .i64)) W
def Ln1 (b7 B : Nat) (tm : Int → Array Value) (x : Int) (a' : Act) (V : Nat → Prop) (pre : List Int) (W : World) : Prop := LnI b7 B V pre W ∧ a' = { tmps := tm x, defers := [] }
def LnX (c : Code) (V : Nat → Prop) (pre : List Int) (W : World) : Prop := False
theorem LnI.loc {b7 B : Nat} : Loc (LnI b7 B) := by
  rintro V s A B' T ⟨va, vc, h⟩ hk hn
  exact ⟨va, vc, h.keep hk hn⟩
theorem LnI.lt {b7 B : Nat} : Lt (LnI b7 B) := by
  rintro V s A ⟨va, vc, h⟩
  exact h.lt
theorem Ln1.loc {b7 B : Nat} {tm : Int → Array Value} {x : Int} {a' : Act} : Loc (Ln1 b7 B tm x a') := fun V s A B' T h hk hn => ⟨LnI.loc V s A B' T h.1 hk hn, h.2⟩
theorem Ln1.lt {b7 B : Nat} {tm : Int → Array Value} {x : Int} {a' : Act} : Lt (Ln1 b7 B tm x a') := fun V s A h => LnI.lt V s A h.1

set_option maxHeartbeats 8000000 in
theorem append_seq (gf : Nat) (lb : Array Value) (L : List Int) (hml : L.length ≤ 100000) (eg : ∀ args w, (callFunc gf args).run Tryz.prog w = .ok (.enter gf args) w)
    (hit : ∀ (w1 : World) (V : Nat → Prop), Below w.heap.size w w1 → (∀ j, V j → w.heap.size ≤ j ∧ j < w1.heap.size) → SeqW gf lb encI L (OutS k q s d f M) S V w1) :
    Calls Tryz.prog 134 #[.slice none 0 0, .func (.func gf) #[] lb] w fun e w' => ∃ va vc, e = .returned (.slice va L.length vc) ∧ RowI w' w.heap.size (.slice va L.length vc) L ∧ Snx w S k q s d f M (.slice va L.length vc) w' := by
  have hro : Fence.wide.round = none := rfl
  have h1 : 1 ≤ 3 := by omega
  refine (callsIn_wide (n := 3)).1 ?_
  refine callsIn_of_wp_marks Tryz.func134 rfl trivial ?_ hro
  simp only [Tryz.ntmps134, List.size_toArray, List.length_cons, List.length_nil, Nat.reduceAdd, Nat.reduceSub, Array.replicate_succ, Array.replicate_zero, List.push_toArray, List.append_toArray, List.nil_append, List.cons_append]
  gi_wp2
  have hB0 := (Below.refl w.heap.size w).alloc (Nat.le_refl _) (.cells #[.slice none 0 0] 40)
  have K7 := Blk.made w #[.slice none 0 0] 40
  obtain ⟨b7, hb7⟩ : ∃ b7, b7 = w.heap.size := ⟨_, rfl⟩
  have hsz : (w.alloc (.cells #[.slice none 0 0] 40)).heap.size = b7 + 1 := by rw [hb7]; simp
  rw [← hb7] at K7 ⊢
  obtain ⟨w5, hw5⟩ : ∃ w5, w5 = w.alloc (.cells #[.slice none 0 0] 40) := ⟨_, rfl⟩
  rw [← hw5] at K7 hsz hB0 ⊢
  have hV : ∀ j, j = b7 → j < w5.heap.size := fun j hj => by omega
  have hse := hit w5 (fun j => j = b7) hB0 (fun j hj => ⟨by omega, hV j hj⟩)
  have HB0 := hid hB0
  have HB7 := hid hb7
  have HSZ := hid hsz
  have hlo : b7 < w5.heap.size := by omega
  clear hw5 hit hB0
  refine range_w (w := w5) (V := fun j => j = b7) (Out := OutS k q s d f M) (S := S) (L := L) (encs := encI) (ps := #[7]) h1 (gf := gf) (lb := lb) ?geval eg ?gps
    OutS.keep hV hse (LnI b7 w5.heap.size)
    (Ln1 b7 w5.heap.size (fun x => #[.slice none 0 0, .func (.func gf) #[] lb, .pointer (some ⟨b7, 0, none⟩), undef, .slice none 0 0, .int .i64 x, .func (.func gf) #[] lb, .int .i64 x, undef, undef, undef, undef, undef]))
    LnX LnI.loc (fun _ _ => Ln1.loc) (fun _ _ _ _ _ _ h _ _ => h) LnI.lt (fun _ _ => Ln1.lt) (fun _ _ _ _ h => h.elim)
    ⟨none, 0, ⟨K7, World.ownsRow_nil _ _ _ _, hlo, fun j hj => hj.elim, fun j => by simp [Value.ownBlock], Nat.le_refl _⟩⟩ ?assign ?body ?done ?stop
  case geval => rfl
  case gps => exact fun _ => rfl
  case assign =>
    rintro m l V0 pre x W Kq hi hpre hK
    have HF := hid hK
    clear hb7 hsz
    unfold encI
    gi_wp2
    exact HF.out _ _ V0 (Keep.refl _ _) (Grows.refl _ _) ⟨hi, rfl⟩
  case body =>
    rintro mm l V0 pre x a' W ⟨⟨va, vc, h⟩, rfl⟩ hpre
    have c7 := h.blk.cell (i := 0) (v := .slice va pre.length vc) rfl
    have HRW : Hid (∀ o, RowI (W.alloc o) w5.heap.size (.slice va pre.length vc) pre) := fun o => own_below h.row ((Below.refl W.heap.size W).alloc (Nat.le_refl _) o)
    have A0 := (Blk.made W #[.int .i64 x] 3).cell (i := 0) (v := .int .i64 x) rfl
    have HH := hid h
    have hm1 : pre.length ≤ 100000 := by
      have := hpre.length_le
      rw [List.length_append] at this
      omega
    have HLE := hid h.bs
    obtain ⟨m, hm⟩ : ∃ m, m = pre.length := ⟨_, rfl⟩
    have HM := hid hm
    rw [← hm] at c7 HRW HH hm1
    have hlen : (pre ++ [x]).length = m + 1 := by rw [List.length_append, HM.out]; rfl
    have HLEN := hid hlen
    clear h hm hb7 hsz hlen hlo
    gi_wp2_with (first
      | (gi_at_builtin; refine wpListIn_num _ rfl _ _ rfl w5.heap.size (.slice va m vc) pre m HM.out.symm x rfl (HRW.out _) hm1 (by simp; exact Nat.le_succ_of_le HLE.out) W.heap.size rfl A0 ?_; intro va' vc' w3 hr hg hmv; obtain ⟨c7', f7, hoth, hrest⟩ := HH.out.more (m := m + 1) (ys := (pre ++ [x]).map (Value.int .i64)) (by unfold RowI at hr; rw [HLEN.out] at hr; exact hr) hg hmv; have HR := hid hrest; clear hr hg hmv hoth hrest c7 A0))
    obtain ⟨V2, k2, g2, h2⟩ := HR.out
    refine ⟨V2, k2, g2, va', vc', ?_⟩
    rw [HLEN.out]; exact h2
  case done =>
    rintro D V2 T W2 hD ⟨hDT, hDV⟩ ⟨va, vc, h⟩ ho hdis hgs hgv hkp hK
    have c7 := h.blk.cell (i := 0) (v := .slice va L.length vc) rfl
    clear hb7 hsz
    gi_wp2
    refine ⟨by simp, .inl ⟨_, _, rfl, run_takeDeferred hK, ?_⟩⟩
    exact ⟨.slice va L.length vc, by simp [results, Tryz.results134, go_sem], ⟨va, vc, rfl, h.fin HB0.out hD hDT hDV ho hdis hgs (fun j hj => by have := HB7.out; omega) hkp _⟩⟩
  case stop =>
    rintro D V2 T W2 c pre hD _ hpre h
    exact h.elim
end
end Go.Proofs.YtjcbaiohpdihoaaGreatDoor

namespace Go.Proofs.YtjcbaiohpdihoaaGreatDoor
open Go.RowKit Go.Maps Go.Shelf Go.Sort Lf
set_option linter.unusedVariables false
set_option linter.unusedSimpArgs false
set_option maxRecDepth 100000

section
variable {w w4 W V0 V3 : World} {S T X V V' : Nat → Prop} {k q s tb n b t e size m : Nat} {d : Ds} {f : Int → ByteArray} {N M : Nat} {root : Int} {v u : Value} {xs : List Value}
theorem Snx.grown (h : Snx w S k q s d f M v W) {B : Nat} (hr : W.ownsRow B e size v m xs) (hB : w.heap.size ≤ B) (hg : W.grownBy V3 v.ownBlock) : Snx w S k q s d f M v V3 := by
  obtain ⟨T, h1, h2, h3, h4⟩ := h
  have hk : Keep (fun j => v.ownBlock = some j) W V3 := Keep.grown hg (fun _ h => h)
  exact ⟨T, hk.sv h1 (fun j hj hv => h4 j hv hj), h2, h3.trans hk (fun j hj hv => by have := (own_lo hr hv).1; omega), h4⟩
theorem sort_row (w : World) (B : Nat) (L : List Int) (v : Value) (ho : RowI w B v L) (hl : L.length ≤ 100000) :
    Calls Tryz.prog 81 #[v] w fun e w' => e = .returned (.tuple #[]) ∧ RowI w' B v (L.mergeSort fun x y => decide (x ≤ y)) ∧ w.grownBy w' v.ownBlock := by
  have hlm : (L.mergeSort fun x y => decide (x ≤ y)).length = L.length := (List.mergeSort_perm _ _).length_eq
  unfold RowI at ho ⊢
  rw [hlm]
  rcases ho.2 with ⟨rfl, h0⟩ | ⟨g, cap, cur, rfl, hbg, hg, hnc, hcm, hcs, htake⟩
  · obtain rfl : L = [] := List.eq_nil_of_length_eq_zero h0
    have := AnyM.slices_Sort_int_none Tryz.sortA none 0 w
    change Calls Tryz.prog 81 _ _ _ at this
    refine this.mono ?_
    rintro e w' ⟨rfl, rfl⟩
    exact ⟨rfl, by simpa using ho, ⟨rfl, rfl, rfl, Nat.le_refl _, fun _ _ _ => rfl⟩⟩
  · have hH : Go.Sort.Holds (Value.int .i64) w g 0 L.toArray := holds_of_blockI hg (by rw [← htake, Nat.mul_one])
    have hs := AnyM.slices_Sort_int Tryz.sortA g 0 cap L w hH (lt_of_block hg) (by omega)
    change Calls Tryz.prog 81 _ _ _ at hs
    refine hs.mono ?_
    rintro e w' ⟨rfl, n, os, rfl⟩
    exact ⟨rfl, ownsRow_sortedI hlm hbg hg hnc hcm hcs, grownBy_sortedI _⟩
set_option maxHeartbeats 1000000 in
theorem sorted_seq (gf : Nat) (lb : Array Value) (L : List Int) (hml : L.length ≤ 100000) (eg : ∀ args w, (callFunc gf args).run Tryz.prog w = .ok (.enter gf args) w)
    (hit : ∀ (w1 : World) (V : Nat → Prop), Below w.heap.size w w1 → (∀ j, V j → w.heap.size ≤ j ∧ j < w1.heap.size) → SeqW gf lb encI L (OutS k q s d f M) S V w1) :
    Calls Tryz.prog 46 #[.func (.func gf) #[] lb] w fun e w' => ∃ va vc, e = .returned (.slice va L.length vc) ∧ RowI w' w.heap.size (.slice va L.length vc) (L.mergeSort fun x y => decide (x ≤ y)) ∧ Snx w S k q s d f M (.slice va L.length vc) w' := by
  have hA := append_seq gf lb L hml eg hit
  have hC : Calls Tryz.prog 80 #[.func (.func gf) #[] lb] w fun e w' => ∃ va vc, e = .returned (.slice va L.length vc) ∧ RowI w' w.heap.size (.slice va L.length vc) L ∧ Snx w S k q s d f M (.slice va L.length vc) w' := by
    have HA := hid hA
    clear hA hit
    go_enter Tryz.func80, Tryz.ntmps80
    go_wp2_with (go_at_call 134; refine HA.out.mono ?_; clear HA; rintro e w5 ⟨va, vc, rfl, hr, hx⟩; have HR := hid hr; have HX := hid hx; clear hr hx)
    go_ret
    exact ⟨va, vc, rfl, HR.out, HX.out⟩
  have HC := hid hC
  have HL := hid hml
  clear hA hit hC hml
  go_enter Tryz.func46, Tryz.ntmps46
  go_wp2_with (first
    | (go_at_call 80; refine HC.out.mono ?_; clear HC; rintro e w5 ⟨va, vc, rfl, hr, hx⟩; have HR := hid hr; have HX := hid hx; clear hr hx)
    | (go_at_call 81; refine (sort_row w5 w.heap.size L _ HR.out HL.out).mono ?_; rintro e w6 ⟨rfl, hr6, hg6⟩; have HR6 := hid hr6; have HX6 := hid (HX.out.grown HR.out (Nat.le_refl _) hg6); clear hr6 hg6))
  go_ret
  exact ⟨va, vc, rfl, HR6.out, HX6.out⟩

/-- a list that is told, beside boxes made since w, ahead of n -/
def Lsb (w : World) (S : Nat → Prop) (k q s : Nat) (d : Ds) (f : Int → ByteArray) (M n b t e size : Nat) (v : Value) (m : Nat) (xs : List Value) (V : World) : Prop :=
  ∃ T, Sv V T k q s d f M ∧ Grows S T w ∧ Keep S w V ∧ (∀ j, w.heap.size ≤ j → j < n → ¬ T j) ∧ V.ownsRow n e size v m xs ∧ (∀ g, v.ownBlock = some g → ¬ T g) ∧ Blk V b #[v] t
theorem Lsb.wr (h : Lsb w S k q s d f M n b t e size v m xs W) {j : Nat} (h1 : w.heap.size ≤ j) (h2 : j < n) (hj : b ≠ j) (i : Nat) (u : Value) : Lsb w S k q s d f M n b t e size v m xs (W.setCell ⟨j, i, none⟩ u) := by
  obtain ⟨T, z1, z2, z3, z4, z5, z6, z7⟩ := h
  have hk : Keep (fun g => g = j) W (W.setCell ⟨j, i, none⟩ u) := Keep.set (S := fun g => g = j) W rfl i u
  exact ⟨T, hk.sv z1 (fun g hg e => z4 j h1 h2 (e ▸ hg)), z2, z3.trans hk (fun g hg e => by omega), z4, hk.row z5 (fun g hg e => by have := (own_lo z5 hg).1; omega), z6, hk.blk z7 hj⟩
theorem Lsb.fin (h : Lsb w S k q s d f M n b t e size v m xs W) (h1 : w.heap.size ≤ b) (h2 : b < n) (i : Nat) (u : Value) : (W.setCell ⟨b, i, none⟩ u).ownsRow w.heap.size e size v m xs ∧ Snx w S k q s d f M v (W.setCell ⟨b, i, none⟩ u) := by
  obtain ⟨T, z1, z2, z3, z4, z5, z6, z7⟩ := h
  have hk : Keep (fun g => g = b) W (W.setCell ⟨b, i, none⟩ u) := Keep.set (S := fun g => g = b) W rfl i u
  exact ⟨own_base (hk.row z5 (fun g hg e => by have := (own_lo z5 hg).1; omega)) (by omega), T, hk.sv z1 (fun g hg e => z4 b h1 h2 (e ▸ hg)), z2, z3.trans hk (fun g hg e => by omega), z6⟩
theorem Snx.lsb (hb : Below w.heap.size w w4) (hlt : ∀ j, S j → j < w.heap.size) (hx : Snx w4 S k q s d f M v V0) (hr : V0.ownsRow w4.heap.size e size v m xs) (hk : Blk w4 b #[u] t) (h1 : w.heap.size ≤ b) (hn : n ≤ w4.heap.size) : Lsb w S k q s d f M n b t e size v m xs (V0.setCell ⟨b, 0, none⟩ v) := by
  obtain ⟨T, z1, z2, z3, z4⟩ := hx
  have hbl := hk.lt
  have hT : ∀ j, w.heap.size ≤ j → j < w4.heap.size → ¬ T j := fun j h1 h2 ht => by
    rcases z2 j ht with h | h
    · have := hlt j h; omega
    · omega
  have hks : Keep (fun g => g = b) V0 (V0.setCell ⟨b, 0, none⟩ v) := Keep.set (S := fun g => g = b) V0 rfl 0 v
  refine ⟨T, hks.sv z1 (fun g hg e => hT b h1 hbl (e ▸ hg)), fun j hj => ?_, ((Keep.of_below (S := S) hb).trans z3 (fun _ _ h => h)).trans hks (fun g hg e => by omega), fun j h1 h2 => hT j h1 (by omega), own_base (hks.row hr (fun g hg e => by have := (own_lo hr hg).1; omega)) hn, z4, ?_⟩
  · rcases z2 j hj with h | h
    · exact .inl h
    · exact .inr (Nat.le_trans hb.size h)
  · have : Blk V0 b #[u] t := z3.blk hk (fun hs => by have := hlt b hs; omega)
    exact this.set 0 v

theorem pages_mk (w : World) (tb : Nat) : Calls Tryz.prog 47 #[.pointer (some ⟨tb, 0, none⟩)] w fun e w' => e = .returned (.func (.func 82) #[] #[.pointer (some ⟨w.heap.size, 0, none⟩)]) ∧ w' = w.alloc (.cells #[.pointer (some ⟨tb, 0, none⟩)] 29) := by
  have hmf : ∀ (fn : Fn) (first cap : Array Value) (w : World), (Instr.makeFunc fn first cap).run Tryz.prog w = .ok (.func fn first cap) w := fun _ _ _ _ => rfl
  go_enter Tryz.func47, Tryz.ntmps47
  go_wp2_with fail
  go_ret
  exact ⟨rfl, rfl⟩
set_option maxHeartbeats 1000000 in
theorem pages1_leaf (Le : List Ent) (b1 b2 : Nat) (ha : gtE d f root = 0) (hu : unp (f root).data.toList = some (1, Le))
    (hsv : Sv w S k q s d f N) (hE : Env w) (h0 : ¬ S 0) (hN : N < 100000000) (ht : Blk w tb #[.pointer (some ⟨s, 0, none⟩), .int .i64 root] 80) (hts : ¬ S tb)
    (hb1 : Blk w b1 #[.pointer (some ⟨tb, 0, none⟩)] 29) (hb2 : Blk w b2 #[.slice none 0 0] 40) (hn2 : ¬ S b2) :
    Calls Tryz.prog 45 #[.pointer (some ⟨b1, 0, none⟩), .pointer (some ⟨b2, 0, none⟩)] w fun e w' => e = .returned (.tuple #[]) ∧ ∃ va vc V0, RowI V0 w.heap.size (.slice va 1 vc) [root] ∧ Snx w S k q s d f (N + 2) (.slice va 1 vc) V0 ∧ V0.setCell ⟨b2, 0, none⟩ (.slice va 1 vc) = w' := by
  have hlt := hsv.lt
  have hpos := hE.pos
  have HSQ : Hid (Calls Tryz.prog 46 #[.func (.func 82) #[] #[.pointer (some ⟨w.heap.size, 0, none⟩)]] (w.alloc (.cells #[.pointer (some ⟨tb, 0, none⟩)] 29)) fun e w' => ∃ va vc, e = .returned (.slice va 1 vc) ∧ RowI w' (w.alloc (.cells #[.pointer (some ⟨tb, 0, none⟩)] 29)).heap.size (.slice va 1 vc) [root] ∧ Snx (w.alloc (.cells #[.pointer (some ⟨tb, 0, none⟩)] 29)) S k q s d f (N + 2) (.slice va 1 vc) w') := by
    have a1 := (Below.refl w.heap.size w).alloc (Nat.le_refl _) (.cells #[.pointer (some ⟨tb, 0, none⟩)] 29)
    have K1 := Blk.made w #[.pointer (some ⟨tb, 0, none⟩)] 29
    have e1 : (w.alloc (.cells #[.pointer (some ⟨tb, 0, none⟩)] 29)).heap.size = w.heap.size + 1 := by simp
    obtain ⟨w4, hw4⟩ : ∃ w4, w.alloc (.cells #[.pointer (some ⟨tb, 0, none⟩)] 29) = w4 := ⟨_, rfl⟩
    rw [hw4] at a1 K1 e1
    rw [hw4]
    have := sorted_seq (w := w4) (S := S) (k := k) (q := q) (s := s) (d := d) (f := f) (M := N + 2) 82 #[.pointer (some ⟨w.heap.size, 0, none⟩)] [root] (by simp) (enters_of Tryz.func82 (by kernel_rfl) rfl) (fun w1 V hb hV =>
      pages_leaf (tb := tb) Le w.heap.size ha hu ((hsv.on a1).on (hb.mono (by omega))) ((hE.on hpos a1).on (by omega) hb) h0 (fun h => by have := (hV 0 h).1; omega) hN (fun j hj => (hV j hj).2) (fun j hj hs => by have := hlt j hs; have := (hV j hj).1; omega) ((ht.on a1 ht.lt).on hb (by have := ht.lt; omega)) (K1.on hb (by omega))
        (fun j hj => ⟨fun hs => by
          rcases hj with rfl | rfl
          · exact hts hs
          · have := hlt _ hs; omega, fun hv => by
          have := (hV j hv).1
          rcases hj with rfl | rfl
          · have := ht.lt; omega
          · omega⟩))
    exact hid (by simpa using this)
  have c1 := hb1.cell (i := 0) (v := .pointer (some ⟨tb, 0, none⟩)) rfl
  have HB2 := hid hb2
  have a1 := hid ((Below.refl w.heap.size w).alloc (Nat.le_refl _) (.cells #[.pointer (some ⟨tb, 0, none⟩)] 29))
  have HLT := hid hlt
  clear ha hu hsv hE h0 hN ht hts hb1 hb2 hlt hpos
  go_enter Tryz.func45, Tryz.ntmps45
  go_wp2_with (first
    | (go_at_call 47; refine (pages_mk _ _).mono ?_; rintro e w5 ⟨rfl, rfl⟩)
    | (go_at_call 46; refine HSQ.out.mono ?_; clear HSQ; rintro e w6 ⟨va, vc, rfl, hr, hx⟩; have HR := hid hr; have HX := hid hx; have K2 : Blk w6 b2 _ 40 := by { obtain ⟨T, _, _, hk, _⟩ := hx; exact hk.blk (HB2.out.on a1.out HB2.out.lt) hn2 }; have k20 := K2.cell (i := 0) (v := .slice none 0 0) rfl; have k2f := K2.free 0; clear hr hx K2))
  refine bodyPost_end (results_none rfl _ _ _) rfl ⟨rfl, va, vc, w6, own_base HR.out a1.out.size, ?_, rfl⟩
  obtain ⟨T, z1, z2, z3, z4⟩ := HX.out
  exact ⟨T, z1, fun j hj => by
    rcases z2 j hj with h | h
    · exact .inl h
    · exact .inr (Nat.le_trans a1.out.size h), (Keep.of_below (S := S) a1.out).trans z3 (fun _ _ h => h), z4⟩
end
end Go.Proofs.YtjcbaiohpdihoaaGreatDoor

namespace Go.Proofs.YtjcbaiohpdihoaaGreatDoor
open Go.RowKit Go.Maps Go.Shelf Go.Sort Lf
set_option linter.unusedVariables false
set_option linter.unusedSimpArgs false
set_option maxRecDepth 100000

section
variable {w w4 W V0 V3 : World} {S T X V V' : Nat → Prop} {k q s tb : Nat} {d : Ds} {f : Int → ByteArray} {N M : Nat} {root : Int}
set_option maxHeartbeats 1000000 in
theorem tpages_leaf (Le : List Ent) (ha : gtE d f root = 0) (hu : unp (f root).data.toList = some (1, Le))
    (hsv : Sv w S k q s d f N) (hE : Env w) (h0 : ¬ S 0) (hN : N < 100000000) (ht : Blk w tb #[.pointer (some ⟨s, 0, none⟩), .int .i64 root] 80) (hts : ¬ S tb) :
    Calls Tryz.prog 17 #[.pointer (some ⟨tb, 0, none⟩)] w fun e w' => ∃ va vc, e = .returned (.tuple #[.slice va 1 vc, .int .i64 0]) ∧ RowI w' w.heap.size (.slice va 1 vc) [root] ∧ Snx w S k q s d f (N + 2) (.slice va 1 vc) w' := by
  have hlt := hsv.lt
  have a1 := (Below.refl w.heap.size w).alloc (Nat.le_refl _) (.cells #[.pointer (some ⟨tb, 0, none⟩)] 29)
  have K3 := Blk.made w #[.pointer (some ⟨tb, 0, none⟩)] 29
  have e1 : (w.alloc (.cells #[.pointer (some ⟨tb, 0, none⟩)] 29)).heap.size = w.heap.size + 1 := by simp
  obtain ⟨W1, hW1⟩ : ∃ W1, w.alloc (.cells #[.pointer (some ⟨tb, 0, none⟩)] 29) = W1 := ⟨_, rfl⟩
  rw [hW1] at a1 K3 e1
  have a2 := (Below.refl W1.heap.size W1).alloc (Nat.le_refl _) (.cells #[.slice none 0 0] 40)
  have K5 := Blk.made W1 #[.slice none 0 0] 40
  have e2 : (W1.alloc (.cells #[.slice none 0 0] 40)).heap.size = w.heap.size + 2 := by simp [e1]
  obtain ⟨W3, hW3⟩ : ∃ W3, W1.alloc (.cells #[.slice none 0 0] 40) = W3 := ⟨_, rfl⟩
  rw [hW3] at a2 K5 e2
  have a4 := (Below.refl W3.heap.size W3).alloc (Nat.le_refl _) (.cells #[.int .i64 0] 26)
  have K6 := Blk.made W3 #[.int .i64 0] 26
  have e4 : (W3.alloc (.cells #[.int .i64 0] 26)).heap.size = w.heap.size + 3 := by simp [e2]
  have b3 : Below w.heap.size w W3 := a1.trans (a2.mono (by omega))
  have b4 : Below w.heap.size w (W3.alloc (.cells #[.int .i64 0] 26)) := b3.trans (a4.mono (by omega))
  rw [e1] at K5
  rw [e2] at K6
  have k3 := (K3.on a2 (by omega)).on a4 (by omega)
  have k5 := K5.on a4 (by omega)
  have nb : ∀ j, w.heap.size ≤ j → ¬ S j := fun j hj hs => absurd (hlt j hs) (by omega)
  have h1 := pages1_leaf (w := W3.alloc (.cells #[.int .i64 0] 26)) Le w.heap.size (w.heap.size + 1) ha hu (hsv.on b4) (hE.on hE.pos b4) h0 hN (ht.on b4 ht.lt) hts k3 k5 (nb _ (by omega))
  have HCA := hid (caught_ok 45 #[.pointer (some ⟨w.heap.size, 0, none⟩), .pointer (some ⟨w.heap.size + 1, 0, none⟩)] W3 (fun V => ∃ va vc, Lsb w S k q s d f (N + 2) (w.heap.size + 3) (w.heap.size + 1) 40 3 1 (.slice va 1 vc) 1 [Value.int .i64 root] V) (fun V => ∃ va vc, Lsb w S k q s d f (N + 2) (w.heap.size + 3) (w.heap.size + 1) 40 3 1 (.slice va 1 vc) 1 [Value.int .i64 root] V) (enters_of Tryz.func45 (by kernel_rfl) rfl)
    (h1.mono fun e V hh => by
      obtain ⟨he, va, vc, V0, hr, hx, hv⟩ := hh
      subst hv
      refine ⟨he, ⟨va, vc, Snx.lsb b4 hlt hx hr k5 (by omega) (by omega)⟩, ?_⟩
      rw [e2]
      obtain ⟨T, _, _, hk, _⟩ := hx
      exact (hk.blk K6 (nb _ (by omega))).other (by omega) _)
    (fun V hV hV6 => by
      obtain ⟨va, vc, hsn⟩ := hV
      rw [e2]
      exact ⟨va, vc, hsn.wr (by omega) (by omega) (by omega) 0 _⟩))
  have hmf : ∀ (fn : Fn) (first cap : Array Value) (w : World), (Instr.makeFunc fn first cap).run Tryz.prog w = .ok (.func fn first cap) w := fun _ _ _ _ => rfl
  have k3' := K3.on a2 (by omega)
  have r3 := k3'.cell (i := 0) (v := .pointer (some ⟨tb, 0, none⟩)) rfl
  clear h1 hsv ht hE h0 hlt k3 k5 k3' a1 a2 a4 b3 b4 K3 K5 K6 e4 nb ha hu hts hN
  subst hW1
  go_enter Tryz.func17, Tryz.ntmps17
  go_wp2_with (go_at_call 37; refine HCA.out.mono ?_; clear HCA; rintro e w9 ⟨rfl, va, vc, hsb⟩; have hk : Blk w9 (w.heap.size + 1) #[.slice va 1 vc] 40 := hsb.choose_spec.2.2.2.2.2.2; have c0 := hk.cell (i := 0) (v := .slice va 1 vc) rfl; have f0 := hk.free 0; have HSB := hid hsb; have HKB := hid hk; clear hsb hk)
  have q0 := (HKB.out.set 0 (.slice va 1 vc)).cell (i := 0) (v := .slice va 1 vc) (by rfl)
  exact bodyPost_ret (v := .tuple #[.slice va 1 vc, .int .i64 0]) (by simp [results, Tryz.results17, go_sem, q0]) rfl ⟨va, vc, rfl, HSB.out.fin (by omega) (by omega) 0 _⟩

set_option maxHeartbeats 1000000 in
theorem list1_leaf (Le Ms : List Ent) (key : ByteArray) (n b1 b2 b3 b4 : Nat) (hn : 1 ≤ n) (hn2 : n ≤ 100000) (hml : Ms.length ≤ 100000) (ha : gtE d f root = 0) (hu : unp (f root).data.toList = some (1, Le)) (hmono : Mono Le key) (hM : ∀ i, i ≤ Le.length → IsAt Le key i → Le.drop i = Ms)
    (hsv : Sv w S k q s d f N) (hE : Env w) (h0 : ¬ S 0) (hN : N < 100000000) (ht : Blk w tb #[.pointer (some ⟨s, 0, none⟩), .int .i64 root] 80) (hts : ¬ S tb)
    (hb1 : Blk w b1 #[.pointer (some ⟨tb, 0, none⟩)] 29) (hb2 : Blk w b2 #[.string key] 9) (hb3 : Blk w b3 #[.int .i64 (n : Nat)] 3) (hb4 : Blk w b4 #[.slice none 0 0] 31) (hn4 : ¬ S b4) :
    Calls Tryz.prog 42 #[.pointer (some ⟨b1, 0, none⟩), .pointer (some ⟨b2, 0, none⟩), .pointer (some ⟨b3, 0, none⟩), .pointer (some ⟨b4, 0, none⟩)] w fun e w' => e = .returned (.tuple #[]) ∧ ∃ va vc V0, RowE V0 w.heap.size (.slice va (Ms.take n).length vc) (Ms.take n) ∧ Snx w S k q s d f (N + 2) (.slice va (Ms.take n).length vc) V0 ∧ V0.setCell ⟨b4, 0, none⟩ (.slice va (Ms.take n).length vc) = w' := by
  have hlt := hsv.lt
  have hpos := hE.pos
  have HLS := hid (list_any (w := w) (S := S) (tb := tb) (k := k) (q := q) (s := s) (d := d) (f := f) (N := N) (M := N + 2) Le Ms key n hn hn2 hml hsv hE h0 ht.lt (fun w1 V hb hV c1 c2 k1 k2 l1 l2 n1 n2 =>
    entries_leaf (tb := tb) Le Ms key c1 c2 ha hu hmono hM (hsv.on hb) (hE.on hpos hb) h0 hN (fun j hj => (hV j hj).2) (fun j hj hs => by have := hlt j hs; have := (hV j hj).1; omega) (ht.on hb ht.lt) k1 k2
      (fun j hj => ⟨fun hs => by
        rcases hj with rfl | rfl | rfl
        · exact hts hs
        · have := hlt _ hs; omega
        · have := hlt _ hs; omega, fun hv => by
        rcases hj with rfl | rfl | rfl
        · have := (hV _ hv).1; have := ht.lt; omega
        · exact n1 hv
        · exact n2 hv⟩)))
  have c1 := hb1.cell (i := 0) (v := .pointer (some ⟨tb, 0, none⟩)) rfl
  have c2 := hb2.cell (i := 0) (v := .string key) rfl
  have c3 := hb3.cell (i := 0) (v := .int .i64 (n : Nat)) rfl
  have HB4 := hid hb4
  clear ha hu hsv hE h0 hN ht hts hb1 hb2 hb3 hb4 hlt hpos hmono hM hml
  go_enter Tryz.func42, Tryz.ntmps42
  go_wp2_with (go_at_call 43; refine HLS.out.mono ?_; clear HLS; rintro e w6 ⟨va, vc, rfl, hr, hx⟩; have HR := hid hr; have HX := hid hx; have K2 : Blk w6 b4 _ 31 := by { obtain ⟨T, _, _, hk, _⟩ := hx; exact hk.blk HB4.out hn4 }; have k20 := K2.cell (i := 0) (v := .slice none 0 0) rfl; have k2f := K2.free 0; clear hr hx K2)
  exact bodyPost_end (results_none rfl _ _ _) rfl ⟨rfl, va, vc, w6, HR.out, HX.out, (by rw [List.length_take])⟩
set_option maxHeartbeats 1000000 in
theorem tlist_leaf (Le Ms : List Ent) (key : ByteArray) (n : Nat) (hn : 1 ≤ n) (hn2 : n ≤ 100000) (hml : Ms.length ≤ 100000) (ha : gtE d f root = 0) (hu : unp (f root).data.toList = some (1, Le)) (hmono : Mono Le key) (hM : ∀ i, i ≤ Le.length → IsAt Le key i → Le.drop i = Ms)
    (hsv : Sv w S k q s d f N) (hE : Env w) (h0 : ¬ S 0) (hN : N < 100000000) (ht : Blk w tb #[.pointer (some ⟨s, 0, none⟩), .int .i64 root] 80) (hts : ¬ S tb) :
    Calls Tryz.prog 14 #[.pointer (some ⟨tb, 0, none⟩), .string key, .int .i64 (n : Nat)] w fun e w' => ∃ va vc, e = .returned (.tuple #[.slice va (Ms.take n).length vc, .int .i64 0]) ∧ RowE w' w.heap.size (.slice va (Ms.take n).length vc) (Ms.take n) ∧ Snx w S k q s d f (N + 2) (.slice va (Ms.take n).length vc) w' := by
  have hlt := hsv.lt
  have a1 := (Below.refl w.heap.size w).alloc (Nat.le_refl _) (.cells #[.pointer (some ⟨tb, 0, none⟩)] 29)
  have K3 := Blk.made w #[.pointer (some ⟨tb, 0, none⟩)] 29
  have e1 : (w.alloc (.cells #[.pointer (some ⟨tb, 0, none⟩)] 29)).heap.size = w.heap.size + 1 := by simp
  obtain ⟨W1, hW1⟩ : ∃ W1, w.alloc (.cells #[.pointer (some ⟨tb, 0, none⟩)] 29) = W1 := ⟨_, rfl⟩
  rw [hW1] at a1 K3 e1
  have a2 := (Below.refl W1.heap.size W1).alloc (Nat.le_refl _) (.cells #[.string key] 9)
  have K4 := Blk.made W1 #[.string key] 9
  have e2 : (W1.alloc (.cells #[.string key] 9)).heap.size = w.heap.size + 2 := by simp [e1]
  obtain ⟨W2, hW2⟩ : ∃ W2, W1.alloc (.cells #[.string key] 9) = W2 := ⟨_, rfl⟩
  rw [hW2] at a2 K4 e2
  have a3 := (Below.refl W2.heap.size W2).alloc (Nat.le_refl _) (.cells #[.int .i64 (n : Nat)] 3)
  have K5 := Blk.made W2 #[.int .i64 (n : Nat)] 3
  have e3 : (W2.alloc (.cells #[.int .i64 (n : Nat)] 3)).heap.size = w.heap.size + 3 := by simp [e2]
  obtain ⟨W3, hW3⟩ : ∃ W3, W2.alloc (.cells #[.int .i64 (n : Nat)] 3) = W3 := ⟨_, rfl⟩
  rw [hW3] at a3 K5 e3
  have a4 := (Below.refl W3.heap.size W3).alloc (Nat.le_refl _) (.cells #[.slice none 0 0] 31)
  have K6 := Blk.made W3 #[.slice none 0 0] 31
  have e4 : (W3.alloc (.cells #[.slice none 0 0] 31)).heap.size = w.heap.size + 4 := by simp [e3]
  obtain ⟨W4, hW4⟩ : ∃ W4, W3.alloc (.cells #[.slice none 0 0] 31) = W4 := ⟨_, rfl⟩
  rw [hW4] at a4 K6 e4
  have a5 := (Below.refl W4.heap.size W4).alloc (Nat.le_refl _) (.cells #[.int .i64 0] 26)
  have K7 := Blk.made W4 #[.int .i64 0] 26
  have e5 : (W4.alloc (.cells #[.int .i64 0] 26)).heap.size = w.heap.size + 5 := by simp [e4]
  have b4 : Below w.heap.size w W4 := ((a1.trans (a2.mono (by omega))).trans (a3.mono (by omega))).trans (a4.mono (by omega))
  have b5 : Below w.heap.size w (W4.alloc (.cells #[.int .i64 0] 26)) := b4.trans (a5.mono (by omega))
  rw [e1] at K4
  rw [e2] at K5
  rw [e3] at K6
  rw [e4] at K7
  have k3' := ((K3.on a2 (by omega)).on a3 (by omega)).on a4 (by omega)
  have k3 := k3'.on a5 (by omega)
  have k4 := ((K4.on a3 (by omega)).on a4 (by omega)).on a5 (by omega)
  have k5 := (K5.on a4 (by omega)).on a5 (by omega)
  have k6 := K6.on a5 (by omega)
  have nb : ∀ j, w.heap.size ≤ j → ¬ S j := fun j hj hs => absurd (hlt j hs) (by omega)
  have h1 := list1_leaf (w := W4.alloc (.cells #[.int .i64 0] 26)) Le Ms key n w.heap.size (w.heap.size + 1) (w.heap.size + 2) (w.heap.size + 3) hn hn2 hml ha hu hmono hM (hsv.on b5) (hE.on hE.pos b5) h0 hN (ht.on b5 ht.lt) hts k3 k4 k5 k6 (nb _ (by omega))
  obtain ⟨m, hm⟩ : ∃ m, (Ms.take n).length = m := ⟨_, rfl⟩
  have HM := hid hm
  rw [hm] at h1 ⊢
  have HCA := hid (caught_ok 42 #[.pointer (some ⟨w.heap.size, 0, none⟩), .pointer (some ⟨w.heap.size + 1, 0, none⟩), .pointer (some ⟨w.heap.size + 2, 0, none⟩), .pointer (some ⟨w.heap.size + 3, 0, none⟩)] W4 (fun V => ∃ va vc, Lsb w S k q s d f (N + 2) (w.heap.size + 5) (w.heap.size + 3) 31 59 2 (.slice va m vc) m (flatE (Ms.take n)) V) (fun V => ∃ va vc, Lsb w S k q s d f (N + 2) (w.heap.size + 5) (w.heap.size + 3) 31 59 2 (.slice va m vc) m (flatE (Ms.take n)) V) (enters_of Tryz.func42 (by kernel_rfl) rfl)
    (h1.mono fun e V hh => by
      obtain ⟨he, va, vc, V0, hr, hx, hv⟩ := hh
      subst hv
      unfold RowE at hr
      rw [HM.out] at hr
      refine ⟨he, ⟨va, vc, Snx.lsb b5 hlt hx hr k6 (by omega) (by omega)⟩, ?_⟩
      rw [e4]
      obtain ⟨T, _, _, hk, _⟩ := hx
      exact (hk.blk K7 (nb _ (by omega))).other (by omega) _)
    (fun V hV hV6 => by
      obtain ⟨va, vc, hsn⟩ := hV
      rw [e4]
      exact ⟨va, vc, hsn.wr (by omega) (by omega) (by omega) 0 _⟩))
  have hmf : ∀ (fn : Fn) (first cap : Array Value) (w : World), (Instr.makeFunc fn first cap).run Tryz.prog w = .ok (.func fn first cap) w := fun _ _ _ _ => rfl
  have r3 := k3'.cell (i := 0) (v := .pointer (some ⟨tb, 0, none⟩)) rfl
  clear h1 hsv ht hE h0 hlt k3 k4 k5 k6 k3' a1 a2 a3 a4 a5 b4 b5 K3 K4 K5 K6 K7 e5 nb ha hu hts hN hmono hM hm hml
  subst hW1 hW2 hW3
  go_enter Tryz.func14, Tryz.ntmps14
  go_wp2_with (go_at_call 37; refine HCA.out.mono ?_; clear HCA; rintro e w9 ⟨rfl, va, vc, hsb⟩; have hk : Blk w9 (w.heap.size + 3) #[.slice va m vc] 31 := hsb.choose_spec.2.2.2.2.2.2; have c0 := hk.cell (i := 0) (v := .slice va m vc) rfl; have f0 := hk.free 0; have HSB := hid hsb; have HKB := hid hk; clear hsb hk)
  have q0 := (HKB.out.set 0 (.slice va m vc)).cell (i := 0) (v := .slice va m vc) (by rfl)
  refine bodyPost_ret (v := .tuple #[.slice va m vc, .int .i64 0]) (by simp [results, Tryz.results14, go_sem, q0]) rfl ⟨va, vc, rfl, ?_⟩
  have := HSB.out.fin (by omega) (by omega) 0 (.slice va m vc)
  refine ⟨?_, this.2⟩
  unfold RowE
  rw [HM.out]
  exact this.1
end
end Go.Proofs.YtjcbaiohpdihoaaGreatDoor
