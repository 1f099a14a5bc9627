/-
  The tree's iterators over one leaf.
-/
import Derived.Test.YtjcbaiohpdihoaaGreatDoorTq
namespace Go.Proofs.YtjcbaiohpdihoaaGreatDoor
open Go.RowKit Go.Maps Lf
attribute [local go_sem] Oper.semAt_some
set_option linter.unusedVariables false
set_option linter.unusedSimpArgs false
set_option maxRecDepth 100000

section
variable {w W wr V3 : World} {S T V V' : Nat → Prop} {k q s tb : Nat} {d : Ds} {f : Int → ByteArray} {N M : Nat} {root : Int} {Q Qx : (Nat → Prop) → List Ent → World → Prop}
def encE (x : Ent) : Array Value := #[.agg #[.string x.k, .string x.v]]
/-- how a walk below a page ends -/
def Ibd {α : Type} (L : List α) (k q s : Nat) (d : Ds) (f : Int → ByteArray) (N : Nat) (S V : Nat → Prop) (Q Qx : (Nat → Prop) → List α → World → Prop) (xs : List α) (W : World) (e : Ending) (W' : World) : Prop :=
  ∃ T V', Sv W' T k q s d f N ∧ Grows S T W ∧ Grows V V' W ∧ Keep (fun j => S j ∨ V j) W W' ∧ (∀ j, V' j → ¬ T j) ∧ ((e = .returned (.bool true) ∧ Q V' xs W') ∨ (e = .returned (.bool false) ∧ ∃ pre, pre <+: L ∧ Qx V' pre W'))
/-- within a leaf -/
def Wlk (W : World) (S V : Nat → Prop) (k q s : Nat) (d : Ds) (f : Int → ByteArray) (N : Nat) (Q : (Nat → Prop) → List Ent → World → Prop) (a : Option Addr) (n c : Nat) (M xs : List Ent) (wr : World) : Prop :=
  ∃ T V', Sv wr T k q s d f N ∧ Grows S T W ∧ Grows V V' W ∧ Keep (fun j => S j ∨ V j) W wr ∧ (∀ j, V' j → ¬ T j) ∧ Q V' xs wr ∧ LiesE wr (.slice a n c) M ∧ ∀ ad, a = some ad → ¬ V' ad.block
theorem Wlk.take {a : Option Addr} {n c : Nat} {xs L : List Ent} {Ms : List Ent} (h : Wlk W S V k q s d f N Q a n c Ms xs wr) (hQ : Loc Q) (tQ : Lt Q) {l : Nat} (hY : Yields l encE L Q Qx) {x : Ent} {j : Nat} (hx : Ms[j]? = some x) (hp : xs ++ [x] <+: L) :
    ∃ b off, a = some ⟨b, off, none⟩ ∧ wr.cell? ⟨b, off + j * 2, none⟩ = some (.string x.k) ∧ wr.cell? ⟨b, off + j * 2 + 1, none⟩ = some (.string x.v) ∧
      YieldAt Fence.wide (3 - 1) Tryz.prog l (encE x) (wr.alloc (.cells #[.string x.k, .string x.v] 59)) fun e W' => (e = .returned (.bool true) ∧ Wlk W S V k q s d f N Q a n c Ms (xs ++ [x]) W') ∨ (e = .returned (.bool false) ∧ ∃ T V', Sv W' T k q s d f N ∧ Grows S T W ∧ Grows V V' W ∧ Keep (fun j => S j ∨ V j) W W' ∧ (∀ j, V' j → ¬ T j) ∧ Qx V' (xs ++ [x]) W') := by
  obtain ⟨T, V', h1, h2, h3, h4, h5, h6, h7, h8⟩ := h
  obtain ⟨b, off, ha, hb, c1, c2, _⟩ := h7.at hx
  refine ⟨b, off, ha, c1, c2, ?_⟩
  have hbl := (Below.refl wr.heap.size wr).alloc (Nat.le_refl _) (.cells #[.string x.k, .string x.v] 59)
  obtain ⟨W1, hW1⟩ : ∃ W1, wr.alloc (.cells #[.string x.k, .string x.v] 59) = W1 := ⟨_, rfl⟩
  rw [hW1] at hbl ⊢
  have q1 : Q V' xs W1 := hQ V' xs wr W1 (fun _ => False) h6 (Keep.of_below hbl) (fun _ _ h => h)
  obtain ⟨fn, tmps, assign, body, hy, hR⟩ := hY (3 - 1) V' xs x W1 q1 hp
  refine ⟨fn, tmps, assign, body, hy, hR.mono ?_⟩
  rintro e W3 ⟨V2, k3, g3, h⟩
  have hv1 := h1.on hbl
  have hsv : Sv W3 T k q s d f N := k3.sv hv1 (fun j hj hv => h5 j hv hj)
  have hks : Keep (fun j => S j ∨ V j) W W3 := (h4.trans (Keep.of_below (S := fun _ => False) hbl) (fun _ _ h => h.elim)).trans k3 (fun j hj hv => by
    rcases h3 j hv with h | h
    · exact .inr h
    · omega)
  have hgv : Grows V V2 W := fun j hj => by
    rcases g3 j hj with h | h
    · exact h3 j h
    · exact .inr (by have := h4.size; have := hbl.size; omega)
  have hlt := h1.lt
  have hd2 : ∀ j, V2 j → ¬ T j := fun j hj ht => by
    rcases g3 j hj with h | h
    · exact h5 j h ht
    · have := hlt j ht; have := hbl.size; omega
  rcases h with ⟨rfl, hq⟩ | ⟨rfl, hq⟩
  · refine .inl ⟨rfl, T, V2, hsv, h2, hgv, hks, hd2, hq, LiesE.keep (h7.on hbl) k3 h8, fun ad had hv => ?_⟩
    rw [ha] at had
    cases had
    rcases g3 _ hv with h | h
    · exact h8 _ ha h
    · have := hbl.size; simp only at h; omega
  · exact .inr ⟨rfl, T, V2, hsv, h2, hgv, hks, hd2, hq⟩

set_option maxHeartbeats 4000000 in
theorem ents_leaf (l : Nat) (L pre0 Le Ms : List Ent) (key : ByteArray) (a : Int) (ha : gtE d f a = 0) (hu : unp (f a).data.toList = some (1, Le)) (hmono : Mono Le key) (hM : ∀ i, i ≤ Le.length → IsAt Le key i → Le.drop i = Ms) (hpre : pre0 ++ Ms <+: L)
    (hQ : Loc Q) (tQ : Lt Q) (hY : Yields l encE L Q Qx) (hsv : Sv w S k q s d f N) (hE : Env w) (h0 : ¬ S 0) (hN : N < 100000000) (hdis : ∀ j, V j → ¬ S j) (ht : Blk w tb #[.pointer (some ⟨s, 0, none⟩), .int .i64 root] 80) (hq : Q V pre0 w) :
    Calls Tryz.prog 132 #[.pointer (some ⟨tb, 0, none⟩), .int .i64 a, .string key, .func (.yield l) #[] #[]] w fun e w' => Ibd L k q s d f (N + 2) S V Q Qx (pre0 ++ Ms) w e w' := by
  have HTR := hid (tread_any a (1, Le) ha hu (by intro e; cases e) hE h0 (by omega) hsv)
  have hlt := hsv.lt
  have tV := tQ V pre0 w hq
  have hsml := (unp_ok hu).2.2.2.1
  have hlen : Le.length ≤ 255 := (unp_ok hu).2.2.2.2
  have k0 := ht.cell (i := 0) (v := .pointer (some ⟨s, 0, none⟩)) rfl
  obtain ⟨n, hn⟩ : ∃ n, Le.length = n := ⟨_, rfl⟩
  have HST : Hid (∀ (w1 w3 : World) (ad : Option Addr) (c i : Nat), RowE w1 w.heap.size (.slice ad n c) Le → Snx w S k q s d f (N + 2) (.slice ad n c) w1 → Below w1.heap.size w1 w3 → i ≤ n → IsAt Le key i → Wlk w S V k q s d f (N + 2) Q (sA ad i c) (n - i) (c - i) Ms pre0 w3) := fun w1 w3 ad c i hr hx hb hi hat => by
    obtain ⟨S', e1, e2, e3, e4⟩ := hx
    have hl3 : LiesE w3 (.slice ad n c) Le := (hr.lies hsml).on hb
    refine ⟨S', V, e1.on hb, e2, Grows.refl _ _, ?_, fun j hj hs => ?_, ?_, ?_, ?_⟩
    · exact (e3.mono (S' := fun j => S j ∨ V j) (fun j _ h => .inl h)).trans (Keep.of_below (S := fun _ => False) hb) (fun _ _ h => h.elim)
    · rcases e2 j hs with h | h
      · exact hdis j hj h
      · have := tV j hj; omega
    · exact hQ V pre0 w1 w3 (fun _ => False) (hQ V pre0 w w1 S hq e3 hdis) (Keep.of_below hb) (fun _ _ h => h)
    · have := hl3.tl hi
      rw [hM i (by omega) hat] at this
      exact this
    · intro ad' had hv
      have hz : w.heap.size ≤ ad'.block := by
        cases ad with
        | none => unfold sA at had; split at had <;> cases had
        | some ad0 =>
          have h1 := (own_lo hr (g := ad0.block) (by rfl)).1
          unfold sA at had
          split at had
          · cases had; exact h1
          · simp at had
            subst had
            have e : (ad0.add (i * 2)).block = ad0.block := by unfold Addr.add; split <;> rfl
            omega
      have := tV _ hv
      omega
  have HFD : Hid (∀ (w1 w2 : World) (ad : Option Addr) (c : Nat), RowE w1 w.heap.size (.slice ad n c) Le → Below w1.heap.size w1 w2 → Calls Tryz.prog 112 #[.slice ad n c, .string key] w2 fun e w' => ∃ (i : Nat) (b : Bool), e = .returned (.tuple #[.int .i64 (i : Nat), .bool b]) ∧ i ≤ n ∧ IsAt Le key i ∧ Below w2.heap.size w2 w') := fun w1 w2 ad c hr hb => by
    refine (Lf.find_any w2 _ Le key ((hr.lies hsml).on hb) (by omega)).mono ?_
    rintro e w' ⟨i, rfl, h1, h2, h3⟩
    exact ⟨i, _, rfl, by omega, h2 hmono, h3⟩
  have HML : Hid (∀ i, i ≤ n → IsAt Le key i → Ms.length = n - i) := fun i hi hat => by
    rw [← hM i (by omega) hat, List.length_drop, hn]
  have HY := hid hY
  have HQ := hid hQ
  have HTQ := hid tQ
  have HP := hid hpre
  rw [hn] at HTR hlen
  clear hn hM hmono hu hsml tV hlt hsv hE h0 hdis ht hq hY hQ tQ hpre
  have hro : Fence.wide.round = none := rfl
  refine (callsIn_wide (n := 3)).1 ?_
  refine callsIn_of_wp Tryz.func132 rfl trivial ?_ hro
  simp only [Tryz.ntmps132, List.size_toArray, List.length_cons, List.length_nil, Nat.reduceAdd, Nat.reduceSub, Array.replicate_succ, Array.replicate_zero, List.push_toArray, List.append_toArray, List.nil_append, List.cons_append]
  gi_wp2_with (first
    | (refine ⟨trivial, ?_⟩; gi_at_call 110; refine ((callsIn_wide (n := _)).2 HTR.out).mono ?_; clear HTR k0; rintro e w1 ⟨ad, c, rfl, hr, hx⟩; have hb2 := (Below.refl w1.heap.size w1).alloc (Nat.le_refl _) (.cells #[.int .i64 1, .slice ad n c] 78); have K2 := Blk.made w1 #[.int .i64 1, .slice ad n c] 78; have k20 := K2.cell (i := 0) (v := .int .i64 1) rfl; have k21 := K2.cell (i := 1) (v := .slice ad n c) rfl; have HR := hid hr; have HX := hid hx; have HB2 := hid hb2; have HK2 := hid K2; clear hr hx hb2 K2)
    | (refine ⟨trivial, ?_⟩; gi_at_call 112; refine ((callsIn_wide (n := _)).2 (HFD.out _ _ ad c HR.out HB2.out)).mono ?_; rintro e w3 ⟨i, b, rfl, hi, hat, hb3⟩; clear k20 k21; have K3 := HK2.out.on hb3 HK2.out.lt; have k31 := K3.cell (i := 1) (v := .slice ad n c) rfl; have hr2 := run_tl ad n c i hi; have HWK := hid (HST.out w1 w3 ad c i HR.out HX.out (HB2.out.trans (hb3.mono HB2.out.size)) hi hat); have HLN := hid (HML.out i hi hat); clear K3 hb3 hat))
  gi_loopw [37] (fun v wr => ∃ j : Nat, j ≤ Ms.length ∧ v = .int .i64 (j : Nat) ∧ Hid (Wlk w S V k q s d f (N + 2) Q (sA ad i c) (n - i) (c - i) Ms (pre0 ++ Ms.take j) wr)) (fun v _ => Ms.length - (intOf v).toNat)
  case atStart => exact ⟨0, Nat.zero_le _, rfl, by simpa using HWK⟩
  case round =>
    obtain ⟨j, hj, rfl, HW⟩ := hrel
    have hml := HLN.out
    by_cases hlt : j < Ms.length
    · have hki : (j : Int) < ((n - i : Nat) : Int) := by omega
      obtain ⟨x, hx⟩ : ∃ x, Ms[j]? = some x := ⟨Ms[j], List.getElem?_eq_getElem hlt⟩
      have hpre : (pre0 ++ Ms.take j) ++ [x] = pre0 ++ Ms.take (j + 1) := by rw [List.take_add_one, hx, List.append_assoc]; rfl
      obtain ⟨b', off, hsa, c0, c1, hY1⟩ := HW.out.take HQ.out HTQ.out HY.out hx (by
        rw [hpre]
        refine List.IsPrefix.trans ?_ HP.out
        exact (List.prefix_append_right_inj pre0).2 (List.take_prefix _ _))
      rw [hpre] at hY1
      obtain ⟨fn, tmps, assign, body, hy, hR⟩ := hY1
      unfold encE at hy
      have HR1 : Hid _ := hR
      rw [hsa]
      clear HW hpre hx HWK HST HFD HML
      gi_wp2
      refine hR.mono ?_
      clear hR HR1
      rintro e W3 (⟨rfl, hw⟩ | ⟨rfl, hx3⟩)
      · have HW3 := hid hw
        clear hw
        gi_wp2
        go_roundw
        case rel => exact ⟨j + 1, by omega, by go_num, hsa ▸ HW3⟩
        case measure => (simp [intOf]; try omega)
      · have HX3 := hid hx3
        clear hx3
        gi_wp2
        go_ret
        obtain ⟨T, V', z1, z2, z3, z4, z5, z6⟩ := HX3.out
        refine ⟨T, V', z1, z2, z3, z4, z5, .inr ⟨rfl, _, ?_, z6⟩⟩
        refine List.IsPrefix.trans ?_ HP.out
        exact (List.prefix_append_right_inj pre0).2 (List.take_prefix _ _)
    · have hki : ¬ (j : Int) < ((n - i : Nat) : Int) := by omega
      rw [List.take_of_length_le (by omega)] at HW
      gi_wp2
      go_ret
      obtain ⟨T, V', z1, z2, z3, z4, z5, z6, _⟩ := HW.out
      exact ⟨T, V', z1, z2, z3, z4, z5, .inl ⟨rfl, z6⟩⟩
end
end Go.Proofs.YtjcbaiohpdihoaaGreatDoor

namespace Go.Proofs.YtjcbaiohpdihoaaGreatDoor
open Go.RowKit Go.Maps Lf
attribute [local go_sem] Oper.semAt_some
set_option linter.unusedVariables false
set_option linter.unusedSimpArgs false
set_option maxRecDepth 100000

section
variable {w W wr V3 : World} {S T V V' : Nat → Prop} {k q s tb : Nat} {d : Ds} {f : Int → ByteArray} {N M : Nat} {root : Int}
/-- the space behind a walk -/
def OutS (k q s : Nat) (d : Ds) (f : Int → ByteArray) (N : Nat) (W : World) (T : Nat → Prop) : Prop := Sv W T k q s d f N
theorem OutS.keep : ∀ A B T X, OutS k q s d f N A T → Keep X A B → (∀ j, T j → ¬ X j) → OutS k q s d f N B T := fun _ _ _ _ h hk hn => hk.sv h hn
theorem Ibd.itd {α : Type} {L : List α} {Q Qx : (Nat → Prop) → List α → World → Prop} {e : Ending} (h : Ibd L k q s d f N S V Q Qx L W e V3) : (∃ v, e = .returned v) ∧ Itd L (OutS k q s d f N) S V Q Qx W V3 := by
  obtain ⟨T, V', h1, h2, h3, h4, h5, h⟩ := h
  rcases h with ⟨rfl, h⟩ | ⟨rfl, h⟩
  · exact ⟨⟨_, rfl⟩, T, V', h1, h2, h3, h4, h5, .inl h⟩
  · exact ⟨⟨_, rfl⟩, T, V', h1, h2, h3, h4, h5, .inr h⟩

theorem Itd.drew {α : Type} {L : List α} {Out : World → (Nat → Prop) → Prop} {Q Qx : (Nat → Prop) → List α → World → Prop} (h : Itd L Out S V Q Qx W.drew V3) : Itd L Out S V Q Qx W V3 := by
  obtain ⟨T, V', h1, h2, h3, h4, h5, h6⟩ := h
  exact ⟨T, V', h1, h2, h3, (Keep.drew _ W).trans h4 (fun _ _ h => h), h5, h6⟩

set_option maxHeartbeats 4000000 in
/-- t.entries(from) at a leaf -/
theorem entries_leaf (Le Ms : List Ent) (key : ByteArray) (b1 b2 : Nat) (ha : gtE d f root = 0) (hu : unp (f root).data.toList = some (1, Le)) (hmono : Mono Le key) (hM : ∀ i, i ≤ Le.length → IsAt Le key i → Le.drop i = Ms)
    (hsv : Sv w S k q s d f N) (hE : Env w) (h0 : ¬ S 0) (hN : N < 100000000) (hV : ∀ j, V j → j < w.heap.size) (hdis : ∀ j, V j → ¬ S j) (ht : Blk w tb #[.pointer (some ⟨s, 0, none⟩), .int .i64 root] 80)
    (hb1 : Blk w b1 #[.pointer (some ⟨tb, 0, none⟩)] 29) (hb2 : Blk w b2 #[.string key] 9) (hn : ∀ j, j = tb ∨ j = b1 ∨ j = b2 → ¬ S j ∧ ¬ V j) :
    SeqW 131 #[.pointer (some ⟨b1, 0, none⟩), .pointer (some ⟨b2, 0, none⟩)] encE Ms (OutS k q s d f (N + 2)) S V w := by
  intro l Q Qx V0 W hW hV0 hQ hQx tQ tQx hY hq
  have hlt := hsv.lt
  have hEL := fun (W1 : World) (hb : Below W.heap.size W W1) => ents_leaf (w := W1) (Q := Q) (Qx := Qx) (V := V0) (tb := tb) (root := root) l Ms [] Le Ms key root ha hu hmono hM (by simp) hQ tQ hY ((hsv.on hW).on (hb.mono (by exact Nat.le_refl _))) ((hE.on hE.pos hW).on (by have := hE.pos; have := hW.size; omega) hb) h0 hN
    (fun j hj hs => by
      rcases hV0 j hj with h | h
      · exact hdis j h hs
      · have := hlt j hs; omega) ((ht.on hW ht.lt).on hb (by have := ht.lt; have := hW.size; omega)) (hQ V0 [] W W1 (fun _ => False) hq (Keep.of_below hb) (fun _ _ h => h))
  have HEL := hid hEL
  have hKC : ∀ (W1 W2 : World), Below W.heap.size W W1 → Keep (fun j => S j ∨ V0 j) W1 W2 → W2.cell? ⟨b1, 0, none⟩ = some (.pointer (some ⟨tb, 0, none⟩)) ∧ W2.cell? ⟨tb, 1, none⟩ = some (.int .i64 root) ∧ W2.cell? ⟨b2, 0, none⟩ = some (.string key) := fun W1 W2 hb hk => by
    have hnn : ∀ j, j = tb ∨ j = b1 ∨ j = b2 → j < w.heap.size → ¬ (S j ∨ V0 j) := fun j hj hlt h => by
      rcases h with h | h
      · exact (hn j hj).1 h
      · rcases hV0 j h with h | h
        · exact (hn j hj).2 h
        · omega
    have hs := hW.size
    have hs1 := hb.size
    have q1 : Blk W1 b1 _ _ := (hb1.on hW hb1.lt).on hb (by have := hb1.lt; omega)
    have q2 : Blk W1 b2 _ _ := (hb2.on hW hb2.lt).on hb (by have := hb2.lt; omega)
    have q3 : Blk W1 tb _ _ := (ht.on hW ht.lt).on hb (by have := ht.lt; omega)
    exact ⟨(hk.blk q1 (hnn b1 (.inr (.inl rfl)) hb1.lt)).cell rfl, (hk.blk q3 (hnn tb (.inl rfl) ht.lt)).cell rfl, (hk.blk q2 (hnn b2 (.inr (.inr rfl)) hb2.lt)).cell rfl⟩
  have HKC := hid hKC
  have hdr : Below W.heap.size W W.drew := (Below.refl _ _).drew
  have hS := HKC.out W.drew W.drew hdr (Keep.refl _ _)
  have HDR := hid hdr
  clear hEL hKC hdr hn hlt hY hq hW hQ hQx tQ tQx hV0 ha hu hmono hM hsv hE h0 hN hV hdis ht hb1 hb2
  go_enter Tryz.func131, Tryz.ntmps131
  go_wp2_with fail
  refine wp_region_d (fun w' => w'.cell? ⟨b1, 0, none⟩ = some (.pointer (some ⟨tb, 0, none⟩)) ∧ w'.cell? ⟨tb, 1, none⟩ = some (.int .i64 root) ∧ w'.cell? ⟨b2, 0, none⟩ = some (.string key)) (fun _ => true) (by kernel_rfl) ?_
  refine wpAnyM_pick (i := 0) (some 4) (v := ?vz1) rfl rfl (by kernel_rfl) (by kernel_rfl) (by kernel_rfl) (by kernel_rfl) (fun _ _ _ h => h) (Or.inl ⟨by rfl, ?hz1⟩) hS ?rz1
  case hz1 => intro w hSw; (try have hs1 := hSw.1); (try have hs2 := hSw.2); (try (obtain ⟨ha1, ha2, ha3, ha4⟩ := hSw)); go_simp; try with_reducible rfl
  try simp only [Act.put, List.setIfInBounds_toArray, List.set_cons_zero, List.set_cons_succ]
  refine wpAnyM_pick (i := 1) (some 5) (v := ?vz2) rfl rfl (by kernel_rfl) (by kernel_rfl) (by kernel_rfl) (by kernel_rfl) (fun _ _ _ h => h) (Or.inl ⟨by rfl, ?hz2⟩) hS ?rz2
  case hz2 => intro w hSw; (try have hs1 := hSw.1); (try have hs2 := hSw.2); (try (obtain ⟨ha1, ha2, ha3, ha4⟩ := hSw)); go_simp; try with_reducible rfl
  try simp only [Act.put, List.setIfInBounds_toArray, List.set_cons_zero, List.set_cons_succ]
  refine wpAnyM_pick (i := 2) (some 6) (v := ?vz3) rfl rfl (by kernel_rfl) (by kernel_rfl) (by kernel_rfl) (by kernel_rfl) (fun _ _ _ h => h) (Or.inl ⟨by rfl, ?hz3⟩) hS ?rz3
  case hz3 => intro w hSw; (try have hs1 := hSw.1); (try have hs2 := hSw.2); (try (obtain ⟨ha1, ha2, ha3, ha4⟩ := hSw)); go_simp; try with_reducible rfl
  try simp only [Act.put, List.setIfInBounds_toArray, List.set_cons_zero, List.set_cons_succ]
  refine wpAnyM_pick (i := 3) (some 7) (v := ?vz4) rfl rfl (by kernel_rfl) (by kernel_rfl) (by kernel_rfl) (by kernel_rfl) (fun _ _ _ h => h) (Or.inl ⟨by rfl, ?hz4⟩) hS ?rz4
  case hz4 => intro w hSw; (try have hs1 := hSw.1); (try have hs2 := hSw.2); (try (obtain ⟨ha1, ha2, ha3, ha4⟩ := hSw)); go_simp; try with_reducible rfl
  try simp only [Act.put, List.setIfInBounds_toArray, List.set_cons_zero, List.set_cons_succ]
  refine wpAnyM_pick (i := 4) (some 8) (v := ?vz5) rfl rfl (by kernel_rfl) (by kernel_rfl) (by kernel_rfl) (by kernel_rfl) (fun _ _ _ h => h) (Or.inl ⟨by rfl, ?hz5⟩) hS ?rz5
  case hz5 => intro w hSw; (try have hs1 := hSw.1); (try have hs2 := hSw.2); (try (obtain ⟨ha1, ha2, ha3, ha4⟩ := hSw)); go_simp; try with_reducible rfl
  try simp only [Act.put, List.setIfInBounds_toArray, List.set_cons_zero, List.set_cons_succ]
  refine wpAnyM_pick (i := 5) (some 9) (v := ?vz6) rfl rfl (by kernel_rfl) (by kernel_rfl) (by kernel_rfl) (by kernel_rfl) (fun _ _ _ h => h) (Or.inl ⟨by rfl, ?hz6⟩) hS ?rz6
  case hz6 => intro w hSw; (try have hs1 := hSw.1); (try have hs2 := hSw.2); (try (obtain ⟨ha1, ha2, ha3, ha4⟩ := hSw)); go_simp; try with_reducible rfl
  try simp only [Act.put, List.setIfInBounds_toArray, List.set_cons_zero, List.set_cons_succ]
  refine wpAnyM_pick (i := 6) (some 10) (v := ?vz7) rfl rfl (by kernel_rfl) (by kernel_rfl) (by kernel_rfl) (by kernel_rfl) (fun _ _ _ h => h) (Or.inl ⟨by rfl, ?hz7⟩) hS ?rz7
  case hz7 => intro w hSw; (try have hs1 := hSw.1); (try have hs2 := hSw.2); (try (obtain ⟨ha1, ha2, ha3, ha4⟩ := hSw)); go_simp; try with_reducible rfl
  try simp only [Act.put, List.setIfInBounds_toArray, List.set_cons_zero, List.set_cons_succ]
  refine wpAnyM_one (i := 7) (by kernel_rfl) rfl (fun K1 hK1 => ?_)
  go_simp
  go_at_call 132
  refine (HEL.out _ HDR.out).mono ?_
  rintro e w5 hi
  have HI := hid hi
  obtain ⟨v, hv⟩ := hi.itd.1
  have hs5 := HKC.out W.drew w5 HDR.out (by obtain ⟨T, V', _, _, _, h, _⟩ := hi; exact h)
  subst hv
  refine hK1 _ _ (fun _ => hs5) ?_
  clear hK1 K1 hi hs5
  refine wpAnyM_done (by kernel_rfl) ?_ _
  go_wp2_with fail
  exact bodyPost_end (results_none rfl _ _ _) rfl ⟨⟨_, rfl⟩, HI.out.itd.2.drew⟩

def encI (x : Int) : Array Value := #[.int .i64 x]
set_option maxHeartbeats 4000000 in
/-- pages of a tree that is one leaf -/
theorem pagesb_leaf (Q Qx : (Nat → Prop) → List Int → World → Prop) (l : Nat) (L pre0 : List Int) (Le : List Ent) (a : Int) (ha : gtE d f a = 0) (hu : unp (f a).data.toList = some (1, Le)) (hpre : pre0 ++ [a] <+: L)
    (hQ : Loc Q) (tQ : Lt Q) (hY : Yields l encI L Q Qx) (hsv : Sv w S k q s d f N) (hE : Env w) (h0 : ¬ S 0) (hV0 : ¬ V 0) (hN : N < 100000000) (hdis : ∀ j, V j → ¬ S j) (ht : Blk w tb #[.pointer (some ⟨s, 0, none⟩), .int .i64 root] 80) (htv : ¬ V tb) (hq : Q V pre0 w) :
    Calls Tryz.prog 83 #[.pointer (some ⟨tb, 0, none⟩), .int .i64 a, .func (.yield l) #[] #[]] w fun e w' => Ibd L k q s d f (N + 2) S V Q Qx (pre0 ++ [a]) w e w' := by
  obtain ⟨fn, tmps, assign, body, hy, hR⟩ := hY (3 - 1) V pre0 a w hq hpre
  unfold encI at hy
  have hlt := hsv.lt
  have HR : Hid (∀ (W3 : World) (V2 : Nat → Prop), Keep V w W3 → Grows V V2 w → Q V2 (pre0 ++ [a]) W3 → Calls Tryz.prog 110 #[.pointer (some ⟨s, 0, none⟩), .int .i64 a] W3 fun e w' => ∃ ad c, e = .returned (.agg #[.int .i64 1, .slice ad Le.length c]) ∧ ∀ w2, Below w'.heap.size w' w2 → Ibd L k q s d f (N + 2) S V Q Qx (pre0 ++ [a]) w (.returned (.bool true)) w2) := fun W3 V2 hk hg hq3 => by
    have h3 : Sv W3 S k q s d f N := hk.sv hsv (fun j hj hv => hdis j hv hj)
    have hd2 : ∀ j, V2 j → ¬ S j := fun j hj hs => by
      rcases hg j hj with h | h
      · exact hdis j h hs
      · have := hlt j hs; omega
    refine (tread_any a (1, Le) ha hu (by intro e; cases e) (hk.env hE hV0) h0 (by omega) h3).mono ?_
    rintro e w' ⟨ad, c, rfl, hr, T, e1, e2, e3, e4⟩
    have t2 := tQ V2 _ W3 hq3
    refine ⟨ad, c, rfl, fun w2 hb => ⟨T, V2, e1.on hb, fun j hj => ?_, hg, ?_, fun j hj ht => ?_, .inl ⟨rfl, hQ V2 _ w' w2 (fun _ => False) (hQ V2 _ W3 w' S hq3 e3 hd2) (Keep.of_below hb) (fun _ _ h => h)⟩⟩⟩
    · rcases e2 j hj with h | h
      · exact .inl h
      · exact .inr (Nat.le_trans hk.size h)
    · exact ((hk.mono (S' := fun j => S j ∨ V j) (fun j _ h => .inr h)).trans e3 (fun j _ h => .inl h)).trans (Keep.of_below (S := fun _ => False) hb) (fun _ _ h => h.elim)
    · rcases e2 j ht with h | h
      · exact hd2 j hj h
      · have := t2 j hj; omega
  have HT3 : Hid (∀ W3, Keep V w W3 → W3.cell? ⟨tb, 0, none⟩ = some (.pointer (some ⟨s, 0, none⟩))) := fun W3 hk => (hk.blk ht htv).cell rfl
  have HX : Hid (∀ (W3 : World) (V2 : Nat → Prop), Keep V w W3 → Grows V V2 w → Qx V2 (pre0 ++ [a]) W3 → Ibd L k q s d f (N + 2) S V Q Qx (pre0 ++ [a]) w (.returned (.bool false)) W3) := fun W3 V2 hk hg hq3 =>
    ⟨S, V2, (hk.sv hsv (fun j hj hv => hdis j hv hj)).mono (by omega), Grows.refl _ _, hg, hk.mono (fun j _ h => .inr h), (fun j hj hs => by
      rcases hg j hj with h | h
      · exact hdis j h hs
      · have := hlt j hs; omega), .inr ⟨rfl, _, hpre, hq3⟩⟩
  have HR1 := hid hR
  obtain ⟨n, hn⟩ : ∃ n, Le.length = n := ⟨_, rfl⟩
  rw [hn] at HR
  clear hn hlt hY hu ha hpre hQ tQ hsv hE h0 hV0 hN hdis ht htv hq
  have hro : Fence.wide.round = none := rfl
  refine (callsIn_wide (n := 3)).1 ?_
  refine callsIn_of_wp Tryz.func83 rfl trivial ?_ hro
  simp only [Tryz.ntmps83, List.size_toArray, List.length_cons, List.length_nil, Nat.reduceAdd, Nat.reduceSub, Array.replicate_succ, Array.replicate_zero, List.push_toArray, List.append_toArray, List.nil_append, List.cons_append]
  gi_wp2
  refine hR.mono ?_
  clear hR HR1 hy
  rintro e W3 ⟨V2, hk, hg, (⟨rfl, hq⟩ | ⟨rfl, hq⟩)⟩
  · have HRD := hid (HR.out W3 V2 hk hg hq)
    have k0 := HT3.out W3 hk
    clear HX HR HT3 hk hg hq
    gi_wp2_with (refine ⟨trivial, ?_⟩; gi_at_call 110; refine ((callsIn_wide (n := _)).2 HRD.out).mono ?_; clear HRD k0; rintro e w1 ⟨ad, c, rfl, ho⟩; have hb2 := (Below.refl w1.heap.size w1).alloc (Nat.le_refl _) (.cells #[.int .i64 1, .slice ad n c] 78); have K2 := Blk.made w1 #[.int .i64 1, .slice ad n c] 78; have k20 := K2.cell (i := 0) (v := .int .i64 1) rfl; have HO := hid ho; have HB2 := hid hb2; clear ho hb2 K2)
    go_ret
    exact HO.out _ HB2.out
  · have HXX := hid (HX.out W3 V2 hk hg hq)
    clear HX HR HT3 hk hg hq
    gi_wp2
    go_ret
    exact HXX.out

set_option maxHeartbeats 4000000 in
/-- t.pages() at a leaf -/
theorem pages_leaf (Le : List Ent) (b1 : Nat) (ha : gtE d f root = 0) (hu : unp (f root).data.toList = some (1, Le))
    (hsv : Sv w S k q s d f N) (hE : Env w) (h0 : ¬ S 0) (hV0 : ¬ V 0) (hN : N < 100000000) (hV : ∀ j, V j → j < w.heap.size) (hdis : ∀ j, V j → ¬ S j) (ht : Blk w tb #[.pointer (some ⟨s, 0, none⟩), .int .i64 root] 80)
    (hb1 : Blk w b1 #[.pointer (some ⟨tb, 0, none⟩)] 29) (hn : ∀ j, j = tb ∨ j = b1 → ¬ S j ∧ ¬ V j) :
    SeqW 82 #[.pointer (some ⟨b1, 0, none⟩)] encI [root] (OutS k q s d f (N + 2)) S V w := by
  intro l Q Qx V0 W hW hV0' hQ hQx tQ tQx hY hq
  have hlt := hsv.lt
  have hpos := hE.pos
  have hEL := fun (W1 : World) (hb : Below W.heap.size W W1) => pagesb_leaf (w := W1) (V := V0) (tb := tb) (root := root) Q Qx l [root] [] Le root ha hu (by simp) hQ tQ hY ((hsv.on hW).on hb) ((hE.on hE.pos hW).on (by have := hE.pos; have := hW.size; omega) hb) h0
    (fun h => by
      rcases hV0' 0 h with h | h
      · exact hV0 h
      · omega) hN
    (fun j hj hs => by
      rcases hV0' j hj with h | h
      · exact hdis j h hs
      · have := hlt j hs; omega) ((ht.on hW ht.lt).on hb (by have := ht.lt; have := hW.size; omega))
    (fun h => by
      rcases hV0' tb h with h | h
      · exact (hn tb (.inl rfl)).2 h
      · have := ht.lt; omega) (hQ V0 [] W W1 (fun _ => False) hq (Keep.of_below hb) (fun _ _ h => h))
  have HEL := hid hEL
  have hKC : ∀ (W1 W2 : World), Below W.heap.size W W1 → Keep (fun j => S j ∨ V0 j) W1 W2 → W2.cell? ⟨b1, 0, none⟩ = some (.pointer (some ⟨tb, 0, none⟩)) ∧ W2.cell? ⟨tb, 1, none⟩ = some (.int .i64 root) := fun W1 W2 hb hk => by
    have hnn : ∀ j, j = tb ∨ j = b1 → j < w.heap.size → ¬ (S j ∨ V0 j) := fun j hj hlt h => by
      rcases h with h | h
      · exact (hn j hj).1 h
      · rcases hV0' j h with h | h
        · exact (hn j hj).2 h
        · omega
    have hs := hW.size
    have hs1 := hb.size
    have q1 : Blk W1 b1 _ _ := (hb1.on hW hb1.lt).on hb (by have := hb1.lt; omega)
    have q3 : Blk W1 tb _ _ := (ht.on hW ht.lt).on hb (by have := ht.lt; omega)
    exact ⟨(hk.blk q1 (hnn b1 (.inr rfl) hb1.lt)).cell rfl, (hk.blk q3 (hnn tb (.inl rfl) ht.lt)).cell rfl⟩
  have HKC := hid hKC
  have hdr : Below W.heap.size W W.drew := (Below.refl _ _).drew
  have hS := HKC.out W.drew W.drew hdr (Keep.refl _ _)
  have HDR := hid hdr
  clear hEL hKC hdr hn hlt hY hq hW hQ hQx tQ tQx hV0 hV0' ha hu hsv hE h0 hN hV hdis ht hb1 hpos
  go_enter Tryz.func82, Tryz.ntmps82
  go_wp2_with fail
  refine wp_region_d (fun w' => w'.cell? ⟨b1, 0, none⟩ = some (.pointer (some ⟨tb, 0, none⟩)) ∧ w'.cell? ⟨tb, 1, none⟩ = some (.int .i64 root)) (fun _ => true) (by kernel_rfl) ?_
  refine wpAnyM_pick (i := 0) (some 3) (v := ?vz8) rfl rfl (by kernel_rfl) (by kernel_rfl) (by kernel_rfl) (by kernel_rfl) (fun _ _ _ h => h) (Or.inl ⟨by rfl, ?hz8⟩) hS ?rz8
  case hz8 => intro w hSw; (try have hs1 := hSw.1); (try have hs2 := hSw.2); (try (obtain ⟨ha1, ha2, ha3, ha4⟩ := hSw)); go_simp; try with_reducible rfl
  try simp only [Act.put, List.setIfInBounds_toArray, List.set_cons_zero, List.set_cons_succ]
  refine wpAnyM_pick (i := 1) (some 4) (v := ?vz9) rfl rfl (by kernel_rfl) (by kernel_rfl) (by kernel_rfl) (by kernel_rfl) (fun _ _ _ h => h) (Or.inl ⟨by rfl, ?hz9⟩) hS ?rz9
  case hz9 => intro w hSw; (try have hs1 := hSw.1); (try have hs2 := hSw.2); (try (obtain ⟨ha1, ha2, ha3, ha4⟩ := hSw)); go_simp; try with_reducible rfl
  try simp only [Act.put, List.setIfInBounds_toArray, List.set_cons_zero, List.set_cons_succ]
  refine wpAnyM_pick (i := 2) (some 5) (v := ?vz10) rfl rfl (by kernel_rfl) (by kernel_rfl) (by kernel_rfl) (by kernel_rfl) (fun _ _ _ h => h) (Or.inl ⟨by rfl, ?hz10⟩) hS ?rz10
  case hz10 => intro w hSw; (try have hs1 := hSw.1); (try have hs2 := hSw.2); (try (obtain ⟨ha1, ha2, ha3, ha4⟩ := hSw)); go_simp; try with_reducible rfl
  try simp only [Act.put, List.setIfInBounds_toArray, List.set_cons_zero, List.set_cons_succ]
  refine wpAnyM_pick (i := 3) (some 6) (v := ?vz11) rfl rfl (by kernel_rfl) (by kernel_rfl) (by kernel_rfl) (by kernel_rfl) (fun _ _ _ h => h) (Or.inl ⟨by rfl, ?hz11⟩) hS ?rz11
  case hz11 => intro w hSw; (try have hs1 := hSw.1); (try have hs2 := hSw.2); (try (obtain ⟨ha1, ha2, ha3, ha4⟩ := hSw)); go_simp; try with_reducible rfl
  try simp only [Act.put, List.setIfInBounds_toArray, List.set_cons_zero, List.set_cons_succ]
  refine wpAnyM_pick (i := 4) (some 7) (v := ?vz12) rfl rfl (by kernel_rfl) (by kernel_rfl) (by kernel_rfl) (by kernel_rfl) (fun _ _ _ h => h) (Or.inl ⟨by rfl, ?hz12⟩) hS ?rz12
  case hz12 => intro w hSw; (try have hs1 := hSw.1); (try have hs2 := hSw.2); (try (obtain ⟨ha1, ha2, ha3, ha4⟩ := hSw)); go_simp; try with_reducible rfl
  try simp only [Act.put, List.setIfInBounds_toArray, List.set_cons_zero, List.set_cons_succ]
  refine wpAnyM_pick (i := 5) (some 8) (v := ?vz13) rfl rfl (by kernel_rfl) (by kernel_rfl) (by kernel_rfl) (by kernel_rfl) (fun _ _ _ h => h) (Or.inl ⟨by rfl, ?hz13⟩) hS ?rz13
  case hz13 => intro w hSw; (try have hs1 := hSw.1); (try have hs2 := hSw.2); (try (obtain ⟨ha1, ha2, ha3, ha4⟩ := hSw)); go_simp; try with_reducible rfl
  try simp only [Act.put, List.setIfInBounds_toArray, List.set_cons_zero, List.set_cons_succ]
  refine wpAnyM_one (i := 6) (by kernel_rfl) rfl (fun K1 hK1 => ?_)
  go_simp
  go_at_call 83
  refine (HEL.out _ HDR.out).mono ?_
  rintro e w5 hi
  have HI := hid hi
  obtain ⟨v, hv⟩ := hi.itd.1
  have hs5 := HKC.out W.drew w5 HDR.out (by obtain ⟨T, V', _, _, _, h, _⟩ := hi; exact h)
  subst hv
  refine hK1 _ _ (fun _ => hs5) ?_
  clear hK1 K1 hi hs5
  refine wpAnyM_done (by kernel_rfl) ?_ _
  go_wp2_with fail
  exact bodyPost_end (results_none rfl _ _ _) rfl ⟨⟨_, rfl⟩, HI.out.itd.2.drew⟩
end
end Go.Proofs.YtjcbaiohpdihoaaGreatDoor
