/-
  A tree's page is read off the space, and written.
-/
import Derived.Test.YtjcbaiohpdihoaaGreatDoorT3
import Derived.Test.YtjcbaiohpdihoaaGreatDoorSf1
import Derived.Test.YtjcbaiohpdihoaaGreatDoorAh
namespace Go.Proofs.YtjcbaiohpdihoaaGreatDoor
open Go.RowKit Lf
set_option linter.unusedVariables false
set_option linter.unusedSimpArgs false
set_option maxRecDepth 100000

/-- what is given up with -/
def gvup (n : Int) : Value := .iface 26 (.int .i64 n)
theorem need_ok (w : World) : Calls Tryz.prog 76 #[.int .i64 0] w fun e w' => e = .returned (.tuple #[]) ∧ w = w' := by
  go_enter Tryz.func76, Tryz.ntmps76
  go_wp2
  exact bodyPost_end (results_none rfl _ _ _) rfl ⟨rfl, rfl⟩
theorem need_bad (n : Int) (hn : ¬ n = 0) (w : World) : Calls Tryz.prog 76 #[.int .i64 n] w fun e w' => e = .panicked [{ v := gvup n, recovered := false }] ∧ w = w' := by
  have h1 : (n != 0) = true := by simpa using hn
  go_enter Tryz.func76, Tryz.ntmps76
  go_wp2
  exact ⟨rfl, rfl, rfl⟩
theorem below_any (key : ByteArray) (a : Int) (ha : 0 ≤ a ∧ a < 65536) (w : World) : Calls Tryz.prog 98 #[.agg #[.string key, .string (n2 a)]] w fun e w' => e = .returned (.int .i64 a) ∧ Below w.heap.size w w' := by
  have hg := fun w1 => Nu.get_ok (n2 a) 0 2 w1 (by decide) (by decide) (by rw [n2_size]; decide) (by rw [n2_size]; decide)
  have hv : Nu.val (Nu.sub (n2 a) 0 2) = a.toNat := by
    have e : Nu.sub (n2 a) 0 2 = Nu.be a.toNat 2 := by
      unfold Nu.sub n2
      rw [List.drop_zero]
      exact List.take_of_length_le (by show (Nu.be a.toNat 2).toArray.toList.length ≤ 2; simp [Nu.be_length])
    rw [e, Nu.val_be_of_lt]
    omega
  rw [hv] at hg
  have hc : IntKind.i64.wrap ((a.toNat : Nat) : Int) = a := by rw [IntKind.wrap_i64]; omega
  have hn := fun w1 => need_ok w1
  have hlt : w.heap.size < (w.alloc (.cells #[.string key, .string (n2 a)] 59)).heap.size := by simp
  have h1 : (w.alloc (.cells #[.string key, .string (n2 a)] 59)).cell? ⟨w.heap.size, 1, none⟩ = some (.string (n2 a)) := by simp
  have hb := (Below.refl w.heap.size w).alloc (Nat.le_refl _) (.cells #[.string key, .string (n2 a)] 59)
  generalize n2 a = t at *
  generalize a.toNat = m at *
  go_enter Tryz.func98, Tryz.ntmps98
  go_wp2_with (first
    | (go_at_call 155; refine (hg _).mono ?_; rintro e w1 ⟨rfl, rfl⟩)
    | (go_at_call 76; refine (hn _).mono ?_; rintro e w1 ⟨rfl, rfl⟩))
  go_ret
  exact ⟨rfl, hb⟩
theorem naming_any (key : ByteArray) (a : Int) (ha : 0 ≤ a ∧ a < 65536) (w : World) : Calls Tryz.prog 150 #[.string key, .int .i64 a] w fun e w' => e = .returned (.agg #[.string key, .string (n2 a)]) ∧ Below w.heap.size w w' := by
  obtain ⟨m, rfl⟩ : ∃ m : Nat, a = (m : Int) := ⟨a.toNat, by omega⟩
  have hp := fun w1 => Nu.put_ok m 2 w1 (by decide) (by decide) (by omega)
  have hc : IntKind.u64.wrap (m : Int) = (m : Int) := by rw [IntKind.wrap_u64]; omega
  have hn := fun w1 => need_ok w1
  have K0 := Blk.made w #[.string ⟨#[]⟩, .string ⟨#[]⟩] 59
  have HB0 : Hid (Below w.heap.size w (w.alloc (.cells #[.string ⟨#[]⟩, .string ⟨#[]⟩] 59))) := (Below.refl w.heap.size w).alloc (Nat.le_refl _) _
  have et : n2 (m : Int) = ⟨(Nu.be m 2).toArray⟩ := rfl
  rw [et]
  clear et
  generalize (⟨(Nu.be m 2).toArray⟩ : ByteArray) = t at *
  have HK0 := hid K0
  clear K0
  go_enter Tryz.func150, Tryz.ntmps150
  go_wp2_with (first
    | (go_at_call 188; refine (hp _).mono ?_; rintro e w1 ⟨rfl, hb1⟩; have HB1 := hid (HB0.out.trans (hb1.mono HB0.out.size)); have K1 := HK0.out.on hb1 HK0.out.lt; have c0 := K1.cell (i := 0) rfl; have c1 := K1.cell (i := 1) rfl; have f0 := K1.free 0; have f1 := K1.free 1; have HK1 := hid K1; clear K1 hb1)
    | (go_at_call 76; refine (hn _).mono ?_; rintro e w2 ⟨rfl, rfl⟩))
  have K2 := (HK1.out.set 0 (.string key)).set 1 (.string t)
  have e0 := K2.cell (i := 0) (v := .string key) (by rfl)
  have e1 := K2.cell (i := 1) (v := .string t) (by rfl)
  exact bodyPost_ret (v := .agg #[.string key, .string t]) (by simp [results, Tryz.results150, go_sem, e0, e1]) rfl ⟨rfl, (HB1.out.setCell (Nat.le_refl _) _).setCell (Nat.le_refl _) _⟩
theorem fits_any (w : World) (v : Value) (L : List Ent) (hl : LiesE w v L) (hs : sumE L ≤ 100000) : Calls Tryz.prog 211 #[v] w fun e w' => e = .returned (.bool (decide (2 + sumE L ≤ 256))) ∧ Below w.heap.size w w' := by
  have hz := size_any w v L hl
  have e1 : szL L = ((2 + sumE L : Nat) : Int) := wr64_in (by omega)
  rw [e1] at hz
  obtain ⟨a, c, rfl⟩ := hl.form
  generalize sumE L = m at *
  go_enter Tryz.func211, Tryz.ntmps211
  go_wp2_with (go_at_call 129; refine hz.mono ?_; rintro e w1 ⟨rfl, hb1⟩)
  go_ret
  refine ⟨?_, hb1⟩
  show Ending.returned (.bool (decide _)) = _
  congr 2
  exact decide_eq_decide.2 (by omega)
/-- the way down: the last key that isn't above, or the first one -/
def IsTo (L : List Ent) (key : ByteArray) (i : Nat) : Prop := i < L.length ∧ (∀ x, L[i]? = some x → i = 0 ∨ lt key x.k = false) ∧ ∀ x, L[i + 1]? = some x → lt key x.k = true
theorem toward_any (w : World) (k : Int) (a : Option Addr) (n c : Nat) (L : List Ent) (key : ByteArray) (hl : LiesE w (.slice a n c) L) (hc : ckE none L = 0) (hz : L.length ≤ 1000) (hne : L ≠ []) :
    Calls Tryz.prog 111 #[.agg #[.int .i64 k, .slice a n c], .string key] w fun e w' => ∃ i : Nat, e = .returned (.int .i64 (i : Nat)) ∧ IsTo L key i ∧ Below w.heap.size w w' := by
  have K0 := Blk.made w #[.int .i64 k, .slice a n c] 78
  have hb0 := (Below.refl w.heap.size w).alloc (Nat.le_refl _) (.cells #[.int .i64 k, .slice a n c] 78)
  have hfd := (Lf.find_any _ (.slice a n c) L key (hl.on hb0) (by omega)).mono (R' := fun e w' => ∃ (i : Nat) (b : Bool), e = .returned (.tuple #[.int .i64 (i : Nat), .bool b]) ∧ (b = true → IsTo L key i) ∧ (b = false → IsTo L key (i - 1)) ∧ i ≤ 1000 ∧ Below w.heap.size w w') (by
    rintro e w' ⟨i, rfl, hi, hm, hb⟩
    have hA := hm (mono_of hc key)
    have hr := ckE_rise hc
    have hlen : 0 < L.length := by cases L with | nil => exact absurd rfl hne | cons x r => simp
    refine ⟨i, _, rfl, fun hf => ?_, fun hf => ?_, by omega, hb0.trans (hb.mono hb0.size)⟩
    · obtain ⟨x, hx, hk⟩ := fnd_iff.1 hf
      have hlt := (List.getElem?_eq_some_iff.1 hx).1
      refine ⟨hlt, fun y hy => ?_, fun y hy => ?_⟩
      · rw [hx] at hy; cases hy
        rw [hk]; exact .inr (lt_self _)
      · have := hr.2 i (i + 1) x y (by omega) hx hy
        rw [hk] at this; exact this
    · have hnk : ∀ x, L[i]? = some x → lt key x.k = true := fun x hx => by
        rcases lt_total x.k key with h | h | h
        · rw [hA.2 i x (Nat.le_refl _) hx] at h; cases h
        · have : fnd L key i = true := fnd_iff.2 ⟨x, hx, h⟩
          rw [hf] at this; cases this
        · exact h
      cases i with
      | zero =>
        refine ⟨hlen, fun y hy => .inl rfl, fun y hy => ?_⟩
        obtain ⟨x, hx⟩ : ∃ x, L[0]? = some x := ⟨_, List.getElem?_eq_getElem hlen⟩
        exact lt_trans (hnk x hx) (hr.2 0 1 x y (by omega) hx hy)
      | succ i =>
        rw [Nat.add_sub_cancel]
        refine ⟨by omega, fun y hy => .inr (lt_asymm (hA.1 i y (by omega) hy)), hnk⟩)
  have HFD := hid hfd
  have c1 := K0.cell (i := 1) rfl
  clear hfd hl hc hb0 K0
  go_enter Tryz.func111, Tryz.ntmps111
  go_wp2_with (go_at_call 112; refine HFD.out.mono ?_; clear HFD c1; rintro e w1 ⟨i, b, rfl, h1, h2, h3, hb1⟩; have H1 := hid h1; have H2 := hid h2; have HB1 := hid hb1; clear h1 h2 hb1; have hw1 : IntKind.i64.wrap ((i : Int) - 1) = (i : Int) - 1 := by { rw [IntKind.wrap_i64]; omega }; cases b)
  · go_wp2_with fail
    go_ret
    refine ⟨i - 1, ?_, H2.out (by trivial), HB1.out⟩
    have e : max 0 ((i : Int) - 1) = ((i - 1 : Nat) : Int) := by omega
    show Ending.returned (.int .i64 (max 0 ((i : Int) - 1))) = _
    rw [e]
  · go_ret
    exact ⟨i, rfl, H1.out (by trivial), HB1.out⟩
end Go.Proofs.YtjcbaiohpdihoaaGreatDoor

namespace Go.Proofs.YtjcbaiohpdihoaaGreatDoor
open Go.RowKit Lf
set_option linter.unusedVariables false
set_option linter.unusedSimpArgs false
set_option maxRecDepth 100000

/-- a page: its kind, its list -/
abbrev Pge := Nat × List Ent
section
variable {w W V : World} {S S' C R : Nat → Prop} {k q s : Nat} {d : Ds} {f : Int → ByteArray} {N : Nat}
/-- what a call leaves whose own block was made first and is written last -/
theorem Sn.own {W' : World} {o : Obj} (h : Sn (w.alloc o) S k q s d f N W) (hS : ∀ j, S j → j < w.heap.size) (hk : Keep (fun j => j = w.heap.size) W W') : Sn w S k q s d f N W' := by
  obtain ⟨S', h1, h2⟩ := h.sv
  have hb := (Below.refl w.heap.size w).alloc (Nat.le_refl _) o
  have hns : ¬ S' w.heap.size := fun hs => by
    rcases h2 _ hs with h | h
    · exact absurd (hS _ h) (Nat.lt_irrefl _)
    · simp at h; omega
  refine ⟨⟨S', hk.sv h1 (fun j hj e => hns (e ▸ hj)), fun j hj => ?_⟩, ?_⟩
  · rcases h2 _ hj with h | h
    · exact .inl h
    · exact .inr (Nat.le_trans hb.size h)
  · exact ((Keep.of_below (S := S) hb).trans h.keep (fun _ _ h => h)).trans hk (fun j hj e => by subst e; exact absurd hj (Nat.lt_irrefl _))
/-- the same, beside a row that was made behind it -/
def Snx (w : World) (S : Nat → Prop) (k q s : Nat) (d : Ds) (f : Int → ByteArray) (N : Nat) (v : Value) (W : World) : Prop := ∃ S', Sv W S' k q s d f N ∧ Grows S S' w ∧ Keep S w W ∧ ∀ g, v.ownBlock = some g → ¬ S' g
theorem Sn.ownx {W' V : World} {o : Obj} {v : Value} (h : Sn (w.alloc o) S k q s d f N W) (hb3 : Below W.heap.size W V) (hS : ∀ j, S j → j < w.heap.size) (hk : Keep (fun j => j = w.heap.size) V W') (hv : ∀ g, v.ownBlock = some g → W.heap.size ≤ g) : Snx w S k q s d f N v W' := by
  obtain ⟨S', h1, h2⟩ := h.sv
  have hb := (Below.refl w.heap.size w).alloc (Nat.le_refl _) o
  have hns : ¬ S' w.heap.size := fun hs => by
    rcases h2 _ hs with h | h
    · exact absurd (hS _ h) (Nat.lt_irrefl _)
    · simp at h; omega
  refine ⟨S', hk.sv (h1.on hb3) (fun j hj e => hns (e ▸ hj)), fun j hj => ?_, ?_, fun g hg hs => by have := h1.lt g hs; have := hv g hg; omega⟩
  · rcases h2 _ hj with h | h
    · exact .inl h
    · exact .inr (Nat.le_trans hb.size h)
  · exact (((Keep.of_below (S := S) hb).trans h.keep (fun _ _ h => h)).trans (Keep.of_below (S := fun _ => False) hb3) (fun _ _ h => h.elim)).trans hk (fun j hj e => by subst e; exact absurd hj (Nat.lt_irrefl _))
theorem own_lo {w : World} {B : Nat} {e : TypeId} {size : Nat} {v : Value} {n : Nat} {xs : List Value} (h : w.ownsRow B e size v n xs) {g : Nat} (hg : v.ownBlock = some g) : B ≤ g ∧ g < w.heap.size := by
  rcases h.2 with ⟨rfl, _⟩ | ⟨g', cap, cur, rfl, hb, hgg, _⟩
  · simp [Value.ownBlock] at hg
  · simp [Value.ownBlock] at hg
    subst hg
    exact ⟨hb, lt_of_block hgg⟩
theorem keep_two (W : World) (b i j : Nat) (u v : Value) : Keep (fun g => g = b) W ((W.setCell ⟨b, i, none⟩ u).setCell ⟨b, j, none⟩ v) :=
  (Keep.set (S := fun g => g = b) W rfl i u).trans (Keep.set (S := fun g => g = b) _ rfl j v) (fun _ _ h => h)
/-- a page's kind is 1 or 2; its list is right and fits -/
theorem unp_ok {l : List UInt8} {p : Pge} (h : unp l = some p) : (p.1 = 1 ∨ p.1 = 2) ∧ ckE none p.2 = 0 ∧ 2 + sumE p.2 ≤ 256 ∧ SmlL p.2 ∧ p.2.length ≤ 255 := by
  obtain ⟨h1, h2, h3⟩ := packE_zero (unp_some (k := p.1) (M := p.2) h).1
  obtain ⟨h4, h5⟩ := unp_sml (k := p.1) (M := p.2) h
  exact ⟨by omega, h2, h3, h4, h5⟩
set_option maxHeartbeats 1000000 in
theorem tread_any (a : Int) (p : Pge) (ha : gtE d f a = 0) (hu : unp (f a).data.toList = some p) (hk2 : p.1 = 2 → p.2 ≠ []) (hE : Env w) (h0 : ¬ S 0) (hN : N < 4611686018427386000) (h : Sv w S k q s d f N) :
    Calls Tryz.prog 110 #[.pointer (some ⟨s, 0, none⟩), .int .i64 a] w fun e w' => ∃ ad c, e = .returned (.agg #[.int .i64 (p.1 : Nat), .slice ad p.2.length c]) ∧ RowE w' w.heap.size (.slice ad p.2.length c) p.2 ∧ Snx w S k q s d f (N + 2) (.slice ad p.2.length c) w' := by
  have K0 := Blk.made w #[.int .i64 0, .slice none 0 0] 78
  have hb0 := (Below.refl w.heap.size w).alloc (Nat.le_refl _) (.cells #[.int .i64 0, .slice none 0 0] 78)
  have hlt : ∀ j, S j → j < w.heap.size := h.lt
  obtain ⟨o1, o2, o3, o4, o5⟩ := unp_ok hu
  have hsz : (f a).data.toList.length ≤ 140737488351232 := by
    obtain ⟨hd, _, hf⟩ := h.good
    have hus : isUs d.bs.length a := by
      unfold gtE at ha
      split at ha
      · cases ha
      · rename_i hh; exact Decidable.not_not.1 hh
    have := hf a hus.pg
    have e : (f a).data.toList.length = (f a).size := data_len _
    omega
  have HGT : Hid (Calls Tryz.prog 18 #[.pointer (some ⟨s, 0, none⟩), .int .i64 a] (w.alloc (.cells #[.int .i64 0, .slice none 0 0] 78)) fun e w' => e = .returned (.tuple #[.string (f a), .int .i64 0]) ∧ Sn (w.alloc (.cells #[.int .i64 0, .slice none 0 0] 78)) S k q s d f (N + 2) w') := by
    have := get_sp a (hE.on hE.pos hb0) h0 (by omega : N < 4611686018427387000) (h.on hb0)
    rw [ha] at this
    have e : gtS d f a = f a := by unfold gtS; rw [if_pos ha]
    rw [e] at this
    exact this
  have HUN : Hid (∀ w1 : World, Calls Tryz.prog 166 #[.string (f a)] w1 fun e w' => ∃ ad c, e = .returned (.tuple #[.int .i64 (p.1 : Nat), .slice ad p.2.length c, .int .i64 0]) ∧ RowE w' w1.heap.size (.slice ad p.2.length c) p.2 ∧ Below w1.heap.size w1 w') := fun w1 => by
    have := unpack_any w1 (f a).data.toList hsz
    rw [Lf.bt_self, hu] at this
    exact this
  have hn := fun w1 => need_ok w1
  have HK0 := hid K0
  have HB0 := hid hb0
  have HLT := hid hlt
  clear K0 hb0 hlt hu h hE h0 ha
  generalize f a = t at *
  obtain ⟨p1, L⟩ := p
  obtain ⟨n, hln⟩ : ∃ n, L.length = n := ⟨_, rfl⟩
  have HNE : Hid (p1 = 2 → ¬ n = 0) := fun e hh => hk2 e (List.eq_nil_of_length_eq_zero (hln.trans hh))
  rw [hln] at HUN
  rw [hln]
  clear hk2 o2 o3 o4 hln
  have hns : ¬ S w.heap.size := fun hs => absurd (HLT.out _ hs) (Nat.lt_irrefl _)
  clear hsz
  rcases o1 with rfl | rfl
  · go_enter Tryz.func110, Tryz.ntmps110
    go_wp2_with (first
      | (go_at_call 18; refine HGT.out.mono ?_; clear HGT; rintro e w1 ⟨rfl, hn1⟩; have K1 := hn1.keep.blk HK0.out hns; have HK1 := hid K1; have HN1 := hid hn1; clear hn1)
      | (go_at_call 76; refine (hn _).mono ?_; rintro e w2 ⟨rfl, rfl⟩)
      | (go_at_call 166; refine (HUN.out _).mono ?_; clear HUN; rintro e w3 ⟨ad, c, rfl, hr3, hb3⟩; have HR3 := hid hr3; have HB3 := hid hb3; have K3 := HK1.out.on hb3 HK1.out.lt; have c0 := K3.cell (i := 0) rfl; have c1 := K3.cell (i := 1) rfl; have f0 := K3.free 0; have f1 := K3.free 1; have HK3 := hid K3; clear hr3 hb3 K3))
    have hw1 : w.heap.size < w1.heap.size := HK1.out.lt
    have K4 := (HK3.out.set 0 (.int .i64 1)).set 1 (.slice ad n c)
    have e0 := K4.cell (i := 0) (v := .int .i64 1) (by rfl)
    have e1 := K4.cell (i := 1) (v := .slice ad n c) (by rfl)
    have hkt := keep_two w3 w.heap.size 0 1 (.int .i64 1) (.slice ad n c)
    refine bodyPost_ret (v := .agg #[.int .i64 1, .slice ad n c]) (by simp [results, Tryz.results110, go_sem, e0, e1]) rfl ⟨ad, c, rfl, ?_, HN1.out.ownx HB3.out HLT.out hkt (fun g hg => (own_lo HR3.out hg).1)⟩
    exact own_base (hkt.row HR3.out (fun g hg e => by subst e; exact absurd (own_lo HR3.out hg).1 (by omega))) (by omega)
  · have hn1 : ¬ (n : Int) = 0 := by have := HNE.out rfl; omega
    have hn2 : ((n : Int) == 0) = false := by simpa using hn1
    go_enter Tryz.func110, Tryz.ntmps110
    go_wp2_with (first
      | (go_at_call 18; refine HGT.out.mono ?_; clear HGT; rintro e w1 ⟨rfl, hn1⟩; have K1 := hn1.keep.blk HK0.out hns; have HK1 := hid K1; have HN1 := hid hn1; clear hn1)
      | (go_at_call 76; refine (hn _).mono ?_; rintro e w2 ⟨rfl, rfl⟩)
      | (go_at_call 166; refine (HUN.out _).mono ?_; clear HUN; rintro e w3 ⟨ad, c, rfl, hr3, hb3⟩; have HR3 := hid hr3; have HB3 := hid hb3; have K3 := HK1.out.on hb3 HK1.out.lt; have c0 := K3.cell (i := 0) rfl; have c1 := K3.cell (i := 1) rfl; have f0 := K3.free 0; have f1 := K3.free 1; have HK3 := hid K3; clear hr3 hb3 K3))
    have hw1 : w.heap.size < w1.heap.size := HK1.out.lt
    have K4 := (HK3.out.set 0 (.int .i64 2)).set 1 (.slice ad n c)
    have e0 := K4.cell (i := 0) (v := .int .i64 2) (by rfl)
    have e1 := K4.cell (i := 1) (v := .slice ad n c) (by rfl)
    have hkt := keep_two w3 w.heap.size 0 1 (.int .i64 2) (.slice ad n c)
    refine bodyPost_ret (v := .agg #[.int .i64 2, .slice ad n c]) (by simp [results, Tryz.results110, go_sem, e0, e1]) rfl ⟨ad, c, rfl, ?_, HN1.out.ownx HB3.out HLT.out hkt (fun g hg => (own_lo HR3.out hg).1)⟩
    exact own_base (hkt.row HR3.out (fun g hg e => by subst e; exact absurd (own_lo HR3.out hg).1 (by omega))) (by omega)
theorem packS_size {p : Pge} (h : packE (p.1 : Nat) p.2 = 0) : (packS (p.1 : Nat) p.2).size = 256 := by
  obtain ⟨_, _, h3⟩ := packE_zero h
  unfold packS
  rw [if_pos h]
  exact page_size h3
set_option maxHeartbeats 1000000 in
theorem twrite_any (a : Int) (p : Pge) (ad : Option Addr) (c : Nat) (ha : gtE d f a = 0) (hp : packE (p.1 : Nat) p.2 = 0) (hl : LiesE w (.slice ad p.2.length c) p.2) (hE : Env w) (h0 : ¬ S 0) (hN : N < 4611686018427386000) (h : Sv w S k q s d f N) :
    Calls Tryz.prog 39 #[.pointer (some ⟨s, 0, none⟩), .int .i64 a, .agg #[.int .i64 (p.1 : Nat), .slice ad p.2.length c]] w fun e w' => e = .returned (.tuple #[]) ∧ Sn w S k q s d (fun b => if b = a then packS (p.1 : Nat) p.2 else f b) (N + 2) w' := by
  have K0 := Blk.made w #[.int .i64 (p.1 : Nat), .slice ad p.2.length c] 78
  have hb0 := (Below.refl w.heap.size w).alloc (Nat.le_refl _) (.cells #[.int .i64 (p.1 : Nat), .slice ad p.2.length c] 78)
  obtain ⟨hk, hck, hfit⟩ := packE_zero hp
  have hlen : p.2.length ≤ 4398046511104 := by
    have := sum_two (L := p.2)
    omega
  have HPK : Hid (Calls Tryz.prog 75 #[.int .i64 (p.1 : Nat), .slice ad p.2.length c] (w.alloc (.cells #[.int .i64 (p.1 : Nat), .slice ad p.2.length c] 78)) fun e w' => e = .returned (.tuple #[.string (packS (p.1 : Nat) p.2), .int .i64 0]) ∧ Below w.heap.size w w') := by
    have := pack_any (w.alloc (.cells #[.int .i64 (p.1 : Nat), .slice ad p.2.length c] 78)) (p.1 : Nat) (.slice ad p.2.length c) p.2 (hl.on hb0) hlen
    rw [hp] at this
    exact this.mono fun e w' hh => ⟨hh.1, hb0.trans (hh.2.mono hb0.size)⟩
  have hsz := packS_size hp
  have HPT : Hid (∀ w1, Below w.heap.size w w1 → Calls Tryz.prog 77 #[.pointer (some ⟨s, 0, none⟩), .int .i64 a, .string (packS (p.1 : Nat) p.2)] w1 fun e w' => e = .returned (.int .i64 0) ∧ Sn w S k q s d (fun b => if b = a then packS (p.1 : Nat) p.2 else f b) (N + 2) w') := fun w1 hb1 => by
    have := put_sp a (packS (p.1 : Nat) p.2) (hE.on hE.pos hb1) h0 (by omega : N < 4611686018427387000) (h.on hb1)
    have e : ptE d f a (packS (p.1 : Nat) p.2) = 0 := by unfold ptE; rw [if_pos ha, if_pos hsz]
    rw [e] at this
    exact this.mono fun e w' hh => ⟨hh.1, hh.2.base hb1⟩
  have hn := fun w1 => need_ok w1
  have c0 := K0.cell (i := 0) rfl
  have c1 := K0.cell (i := 1) rfl
  obtain ⟨p1, L⟩ := p
  generalize packS _ _ = t at *
  clear K0 hb0 hk hck hfit hlen hl h hE h0 ha hp hsz
  generalize (fun b => if b = a then t else f b) = g at *
  obtain ⟨n, hln⟩ : ∃ n, L.length = n := ⟨_, rfl⟩
  simp only [hln] at *
  clear hln
  go_enter Tryz.func39, Tryz.ntmps39
  go_wp2_with (first
    | (go_at_call 75; refine HPK.out.mono ?_; clear HPK; rintro e w1 ⟨rfl, hb1⟩; have HB1 := hid hb1; clear hb1)
    | (go_at_call 76; refine (hn _).mono ?_; rintro e w2 ⟨rfl, rfl⟩)
    | (go_at_call 77; refine (HPT.out _ HB1.out).mono ?_; clear HPT; rintro e w3 ⟨rfl, hn3⟩; have HN3 := hid hn3; clear hn3))
  exact bodyPost_end (results_none rfl _ _ _) rfl ⟨rfl, HN3.out⟩
end
end Go.Proofs.YtjcbaiohpdihoaaGreatDoor
