/-
  An act on both disks, the program's and the document's: they answer alike.
-/
import Derived.Test.YtjmkhcldcpdmoaaLw
import Derived.Deep.RegionHeld3
namespace Go.Proofs.Ytjmkhcldcpdmoaa
open Go.RowKit
set_option linter.unusedVariables false
set_option linter.unusedSimpArgs false
set_option maxRecDepth 100000

/-- two disks side by side, made since w0 -/
def Tw (w0 w : World) (k k' : Nat) (d e : Ds) : Prop :=
  ∃ S R, Dk w S k d ∧ Rk w R k' e ∧ (∀ j, S j → ¬ R j) ∧ (∀ j, S j → w0.heap.size ≤ j) ∧ (∀ j, R j → w0.heap.size ≤ j) ∧ Below w0.heap.size w0 w
/-- and a block that is neither's -/
def Tb (w0 w : World) (b : Nat) (cs : Array Value) (k k' : Nat) (d e : Ds) : Prop :=
  ∃ S R, Dk w S k d ∧ Rk w R k' e ∧ (∀ j, S j → ¬ R j) ∧ (∀ j, S j → w0.heap.size ≤ j) ∧ (∀ j, R j → w0.heap.size ≤ j) ∧ Below w0.heap.size w0 w ∧ Blk w b cs 32 ∧ ¬ S b ∧ ¬ R b

theorem Tw.below {w0 w : World} {k k' : Nat} {d e : Ds} (h : Tw w0 w k k' d e) : Below w0.heap.size w0 w := by obtain ⟨_, _, _, _, _, _, _, h⟩ := h; exact h
theorem Tw.on {w0 w w' : World} {k k' : Nat} {d e : Ds} (h : Tw w0 w k k' d e) (hb : Below w.heap.size w w') : Tw w0 w' k k' d e := by
  obtain ⟨S, R, h1, h2, h3, h4, h5, h6⟩ := h
  exact ⟨S, R, h1.on hb, h2.on hb, h3, h4, h5, h6.trans (hb.mono h6.size)⟩
theorem Tw.box {w0 w : World} {k k' : Nat} {d e : Ds} (h : Tw w0 w k k' d e) (cs : Array Value) : Tb w0 (w.alloc (.cells cs 32)) w.heap.size cs k k' d e := by
  obtain ⟨S, R, h1, h2, h3, h4, h5, h6⟩ := h
  have hb := (Below.refl w.heap.size w).alloc (Nat.le_refl _) (.cells cs 32)
  exact ⟨S, R, h1.on hb, h2.on hb, h3, h4, h5, h6.trans (hb.mono h6.size), Blk.made _ _ _, fun h => Nat.lt_irrefl _ (h1.lt _ h), fun h => Nat.lt_irrefl _ (h2.lt _ h)⟩
theorem Tb.tw {w0 w : World} {b : Nat} {cs : Array Value} {k k' : Nat} {d e : Ds} (h : Tb w0 w b cs k k' d e) : Tw w0 w k k' d e := by
  obtain ⟨S, R, h1, h2, h3, h4, h5, h6, _⟩ := h
  exact ⟨S, R, h1, h2, h3, h4, h5, h6⟩
theorem Tb.blk {w0 w : World} {b : Nat} {cs : Array Value} {k k' : Nat} {d e : Ds} (h : Tb w0 w b cs k k' d e) : Blk w b cs 32 := by
  obtain ⟨S, R, h1, h2, h3, h4, h5, h6, h7, _⟩ := h
  exact h7
theorem Tb.on {w0 w w' : World} {b : Nat} {cs : Array Value} {k k' : Nat} {d e : Ds} (h : Tb w0 w b cs k k' d e) (hb : Below w.heap.size w w') : Tb w0 w' b cs k k' d e := by
  obtain ⟨S, R, h1, h2, h3, h4, h5, h6, h7, h8⟩ := h
  exact ⟨S, R, h1.on hb, h2.on hb, h3, h4, h5, h6.trans (hb.mono h6.size), Blk.on h7 hb h7.lt, h8⟩
theorem Tb.ok {w0 w : World} {b : Nat} {cs : Array Value} {k k' : Nat} {d e : Ds} (h : Tb w0 w b cs k k' d e) : d.Ok := by obtain ⟨_, _, h, _⟩ := h; exact h.ok

/-- the program's disk turned -/
theorem Tb.left {w0 w w' : World} {b : Nat} {cs : Array Value} {k k' : Nat} {d d' e : Ds} {S R S' : Nat → Prop} (h1 : Dk w S k d) (h2 : Rk w R k' e) (h3 : ∀ j, S j → ¬ R j) (h4 : ∀ j, S j → w0.heap.size ≤ j) (h5 : ∀ j, R j → w0.heap.size ≤ j) (h6 : Below w0.heap.size w0 w) (h7 : Blk w b cs 32) (h8 : ¬ S b) (h9 : ¬ R b)
    (hd : Dk w' S' k d') (hk : Keep S w w') (hg : Grows S S' w) : Tb w0 w' b cs k k' d' e :=
  ⟨S', R, hd, hk.rk h2 (fun j hj hs => h3 j hs hj), fun j hj hr => (hg j hj).elim (fun h => h3 j h hr) (fun h => by have := h2.lt j hr; omega), fun j hj => (hg j hj).elim (h4 j) (fun h => Nat.le_trans h6.size h), h5, h6.trans (hk.below h4 h6.size), hk.blk h7 h8, fun h => (hg b h).elim h8 (fun h' => by have := h7.lt; omega), h9⟩
/-- the document's disk turned -/
theorem Tb.right {w0 w w' : World} {b : Nat} {cs : Array Value} {k k' : Nat} {d e e' : Ds} {S R R' : Nat → Prop} (h1 : Dk w S k d) (h2 : Rk w R k' e) (h3 : ∀ j, S j → ¬ R j) (h4 : ∀ j, S j → w0.heap.size ≤ j) (h5 : ∀ j, R j → w0.heap.size ≤ j) (h6 : Below w0.heap.size w0 w) (h7 : Blk w b cs 32) (h8 : ¬ S b) (h9 : ¬ R b)
    (hd : Rk w' R' k' e') (hk : Keep R w w') (hg : Grows R R' w) : Tb w0 w' b cs k k' d e' :=
  ⟨S, R', hk.dk h1 h3, hd, fun j hj hr => (hg j hr).elim (fun h => h3 j hj h) (fun h => by have := h1.lt j hj; omega), h4, fun j hj => (hg j hj).elim (h5 j) (fun h => Nat.le_trans h6.size h), h6.trans (hk.below h5 h6.size), hk.blk h7 h9, h8, fun h => (hg b h).elim h9 (fun h' => by have := h7.lt; omega)⟩

theorem write_tb (a : Int) (s : ByteArray) (w0 w : World) (b : Nat) (cs : Array Value) (k k' : Nat) (d e : Ds) (h : Tb w0 w b cs k k' d e) (hz : (d.lg.length + 1) * 24 ≤ 140737488355328) : Calls Try.prog 17 #[.pointer (some ⟨k, 0, none⟩), .int .i64 a, .string s] w fun x w' => x = .returned (.int .i64 (d.wrE a s : Nat)) ∧ Tb w0 w' b cs k k' (d.wr a s) e := by
  obtain ⟨S, R, h1, h2, h3, h4, h5, h6, h7, h8, h9⟩ := h
  exact (write_any a s w S k d h1 hz).mono fun x w' ⟨he, S', hd, hk, hg⟩ => ⟨he, Tb.left h1 h2 h3 h4 h5 h6 h7 h8 h9 hd hk hg⟩
theorem rWrite_tb (a : Int) (s : ByteArray) (w0 w : World) (b : Nat) (cs : Array Value) (k k' : Nat) (d e : Ds) (h : Tb w0 w b cs k k' d e) (hz : (e.lg.length + 1) * 24 ≤ 140737488355328) : Calls Try.prog 31 #[.pointer (some ⟨k', 0, none⟩), .int .i64 a, .string s] w fun x w' => x = .returned (.int .i64 (e.wrE a s : Nat)) ∧ Tb w0 w' b cs k k' d (e.wr a s) := by
  obtain ⟨S, R, h1, h2, h3, h4, h5, h6, h7, h8, h9⟩ := h
  exact (rWrite_any a s w R k' e h2 hz).mono fun x w' ⟨he, S', hd, hk, hg⟩ => ⟨he, Tb.right h1 h2 h3 h4 h5 h6 h7 h8 h9 hd hk hg⟩
theorem cut_tb (n : Int) (hn : -9223372036854775808 ≤ n ∧ n ≤ 9223372036854775807) (w0 w : World) (b : Nat) (cs : Array Value) (k k' : Nat) (d e : Ds) (h : Tb w0 w b cs k k' d e) : Calls Try.prog 16 #[.pointer (some ⟨k, 0, none⟩), .int .i64 n] w fun x w' => x = .returned (.tuple #[]) ∧ Tb w0 w' b cs k k' { d with lf := n } e := by
  obtain ⟨S, R, h1, h2, h3, h4, h5, h6, h7, h8, h9⟩ := h
  exact (cut_any n hn w S k d h1).mono fun x w' ⟨he, hd, hk⟩ => ⟨he, Tb.left h1 h2 h3 h4 h5 h6 h7 h8 h9 hd hk (Grows.refl _ _)⟩
theorem rCut_tb (n : Int) (hn : -9223372036854775808 ≤ n ∧ n ≤ 9223372036854775807) (w0 w : World) (b : Nat) (cs : Array Value) (k k' : Nat) (d e : Ds) (h : Tb w0 w b cs k k' d e) : Calls Try.prog 32 #[.pointer (some ⟨k', 0, none⟩), .int .i64 n] w fun x w' => x = .returned (.tuple #[]) ∧ Tb w0 w' b cs k k' d { e with lf := n } := by
  obtain ⟨S, R, h1, h2, h3, h4, h5, h6, h7, h8, h9⟩ := h
  exact (rCut_any n hn w R k' e h2).mono fun x w' ⟨he, hd, hk⟩ => ⟨he, Tb.right h1 h2 h3 h4 h5 h6 h7 h8 h9 hd hk (Grows.refl _ _)⟩
theorem restore_tb (w0 w : World) (b : Nat) (cs : Array Value) (k k' : Nat) (d e : Ds) (h : Tb w0 w b cs k k' d e) : Calls Try.prog 20 #[.pointer (some ⟨k, 0, none⟩)] w fun x w' => x = .returned (.tuple #[]) ∧ Tb w0 w' b cs k k' { d with lf := -1, dn := false } e := by
  obtain ⟨S, R, h1, h2, h3, h4, h5, h6, h7, h8, h9⟩ := h
  exact (restore_any w S k d h1).mono fun x w' ⟨he, hd, hk⟩ => ⟨he, Tb.left h1 h2 h3 h4 h5 h6 h7 h8 h9 hd hk (Grows.refl _ _)⟩
theorem rRestore_tb (w0 w : World) (b : Nat) (cs : Array Value) (k k' : Nat) (d e : Ds) (h : Tb w0 w b cs k k' d e) : Calls Try.prog 33 #[.pointer (some ⟨k', 0, none⟩)] w fun x w' => x = .returned (.tuple #[]) ∧ Tb w0 w' b cs k k' d { e with lf := -1, dn := false } := by
  obtain ⟨S, R, h1, h2, h3, h4, h5, h6, h7, h8, h9⟩ := h
  exact (rRestore_any w R k' e h2).mono fun x w' ⟨he, hd, hk⟩ => ⟨he, Tb.right h1 h2 h3 h4 h5 h6 h7 h8 h9 hd hk (Grows.refl _ _)⟩
theorem read_tb (a : Int) (w0 w : World) (b : Nat) (cs : Array Value) (k k' : Nat) (d e : Ds) (h : Tb w0 w b cs k k' d e) : Calls Try.prog 25 #[.pointer (some ⟨k, 0, none⟩), .int .i64 a] w fun x w' => x = .returned (.tuple #[.string (d.rdS a), .int .i64 (d.rdE a : Nat)]) ∧ Tb w0 w' b cs k k' d e := by
  obtain ⟨S, R, h1, _⟩ := id h
  exact (read_any a w S k d h1).mono fun x w' ⟨he, hb⟩ => ⟨he, h.on hb⟩
theorem rRead_tb (a : Int) (w0 w : World) (b : Nat) (cs : Array Value) (k k' : Nat) (d e : Ds) (h : Tb w0 w b cs k k' d e) : Calls Try.prog 30 #[.pointer (some ⟨k', 0, none⟩), .int .i64 a] w fun x w' => x = .returned (.tuple #[.string (e.rdS a), .int .i64 (e.rdE a : Nat)]) ∧ w = w' := by
  obtain ⟨S, R, h1, h2, _⟩ := id h
  exact rRead_any a w R k' e h2
theorem down_tb (w0 w : World) (b : Nat) (cs : Array Value) (k k' : Nat) (d e : Ds) (h : Tb w0 w b cs k k' d e) : Calls Try.prog 19 #[.pointer (some ⟨k, 0, none⟩)] w fun x w' => x = .returned (.bool d.dn) ∧ w = w' := by
  obtain ⟨S, R, h1, h2, _⟩ := id h
  exact down_any w S k d h1
theorem len_tb (w0 w : World) (b : Nat) (cs : Array Value) (k k' : Nat) (d e : Ds) (h : Tb w0 w b cs k k' d e) : Calls Try.prog 26 #[.pointer (some ⟨k, 0, none⟩)] w fun x w' => x = .returned (.int .i64 (d.bs.length : Nat)) ∧ w = w' := by
  obtain ⟨S, R, h1, h2, _⟩ := id h
  exact len_any w S k d h1
theorem Tb.cells {w0 w : World} {b : Nat} {cs : Array Value} {k k' : Nat} {d e : Ds} (h : Tb w0 w b cs k k' d e) : ∃ ba bc, w.cell? ⟨k', 0, none⟩ = some (.slice ba e.bs.length bc) ∧ w.cell? ⟨k', 4, none⟩ = some (.bool e.dn) := by
  obtain ⟨S, R, h1, ⟨_, _, _, bv, lv, told, left, hk, _, _, h5, _⟩, _⟩ := h
  obtain ⟨ba, bc, rfl⟩ := h5.form
  exact ⟨ba, bc, hk.cell rfl, hk.cell rfl⟩

/-- one act more leaves one disk, in both -/
def Done (w0 : World) (k k' : Nat) (d : Ds) (e : Ending) (w' : World) : Prop := e = .returned (.bool true) ∧ ∃ d', Tw w0 w' k k' d' d' ∧ d'.lg.length ≤ d.lg.length + 1

set_option maxHeartbeats 4000000 in
theorem does_any (w0 w : World) (k k' : Nat) (d : Ds) (q a : Int) (s : ByteArray) (h : Tw w0 w k k' d d) (ha : -9223372036854775808 ≤ a ∧ a ≤ 9223372036854775807) (hs : s.size ≤ maxLen) (hz : (d.lg.length + 1) * 24 ≤ 140737488355328) :
    Calls Try.prog 11 #[.pointer (some ⟨k, 0, none⟩), .pointer (some ⟨k', 0, none⟩), .agg #[.int .i64 q, .int .i64 a, .string s]] w fun e w' => Done w0 k k' d e w' := by
  have hkd : ∀ w1, _ := fun w1 => kind_any q 8 (by omega) w1
  have HT := hid (h.box #[.int .i64 q, .int .i64 a, .string s])
  have hX := HT.out.blk
  have c0 := hX.cell (i := 0) (v := .int .i64 q) rfl
  have HZ := hid hz
  have HA := hid ha
  have HS := hid hs
  clear h hX hz ha hs
  go_enter Try.func11, Try.ntmps11
  go_upto_if 29 with (go_at_call 22; refine (hkd _).mono ?_; clear hkd; rintro e w1 ⟨⟨r, rfl, hr⟩, rfl⟩)
  generalize w.alloc (.cells #[.int .i64 q, .int .i64 a, .string s] 32) = w1 at HT c0 ⊢
  generalize w.heap.size = b at HT c0 ⊢
  have c1 : w1.cell? ⟨b, 1, none⟩ = some (.int .i64 a) := HT.out.blk.cell rfl
  have c2 : w1.cell? ⟨b, 2, none⟩ = some (.string s) := HT.out.blk.cell rfl
  have HL := hid (show ∀ t, (d.wr a t).lg.length ≤ d.lg.length + 1 from fun t => d.wr_lg a t)
  clear c0
  by_cases r0 : r = 0
  · subst r0
    have hrd : ∀ w2, Tb w0 w2 b #[.int .i64 q, .int .i64 a, .string s] k k' d d → _ := fun w2 h => read_tb a w0 w2 b _ k k' d d h
    have hrr : ∀ w2, Tb w0 w2 b #[.int .i64 q, .int .i64 a, .string s] k k' d d → _ := fun w2 h => rRead_tb a w0 w2 b _ k k' d d h
    generalize d.rdS a = x at hrd hrr
    generalize d.rdE a = y at hrd hrr
    go_wp2_with (first
      | (go_at_call 25; refine (hrd _ HT.out).mono ?_; clear hrd; rintro e w2 ⟨rfl, h2⟩; have H2 := hid h2; have d1 : w2.cell? ⟨b, 1, none⟩ = some (.int .i64 a) := h2.blk.cell rfl; clear h2 c1 c2)
      | (go_at_call 30; refine (hrr _ H2.out).mono ?_; clear hrr; rintro e w3 ⟨rfl, rfl⟩))
    go_ret
    exact ⟨rfl, d, H2.out.tw, Nat.le_succ _⟩
  by_cases r4 : r = 4
  · subst r4
    have hwr : ∀ w2, Tb w0 w2 b #[.int .i64 q, .int .i64 a, .string s] k k' d d → _ := fun w2 h => write_tb a s w0 w2 b _ k k' d d h HZ.out
    have hww : ∀ w2 d2, Tb w0 w2 b #[.int .i64 q, .int .i64 a, .string s] k k' d2 d → _ := fun w2 d2 h => rWrite_tb a s w0 w2 b _ k k' d2 d h HZ.out
    have HL2 := hid (HL.out s)
    generalize d.wrE a s = y at hwr hww
    generalize d.wr a s = d2 at hwr hww HL2
    have HT0 := hid (HT.out.on (Below.drew (Below.refl _ w1)))
    have HS0 : w1.drew.cell? ⟨b, 1, none⟩ = some (.int .i64 a) ∧ w1.drew.cell? ⟨b, 2, none⟩ = some (.string s) := ⟨c1, c2⟩
    go_wp2_with fail
    clear c1 c2 HT HL
    go_region_held3 (fun w' => w'.cell? ⟨b, 1, none⟩ = some (.int .i64 a) ∧ w'.cell? ⟨b, 2, none⟩ = some (.string s)) (first | exact HS0 | exact HS8 | exact HS9)
      (first
        | (go_at_call 17; refine (hwr _ HT0.out).mono ?_; clear hwr; rintro e w8 ⟨rfl, h8⟩; have H8 := hid h8; have HS8 : w8.cell? ⟨b, 1, none⟩ = some (.int .i64 a) ∧ w8.cell? ⟨b, 2, none⟩ = some (.string s) := ⟨h8.blk.cell rfl, h8.blk.cell rfl⟩; clear h8)
        | (go_at_call 31; refine (hww _ _ H8.out).mono ?_; clear hww; rintro e w9 ⟨rfl, h9⟩; have H9 := hid h9; have HS9 : w9.cell? ⟨b, 1, none⟩ = some (.int .i64 a) ∧ w9.cell? ⟨b, 2, none⟩ = some (.string s) := ⟨h9.blk.cell rfl, h9.blk.cell rfl⟩; clear h9))
    go_wp2_with fail
    go_ret
    exact ⟨rfl, d2, H9.out.tw, HL2.out⟩
  by_cases r5 : r = 5
  · subst r5
    have hct : ∀ w2, Tb w0 w2 b #[.int .i64 q, .int .i64 a, .string s] k k' d d → _ := fun w2 h => cut_tb a HA.out w0 w2 b _ k k' d d h
    have hcc : ∀ w2 d2, Tb w0 w2 b #[.int .i64 q, .int .i64 a, .string s] k k' d2 d → _ := fun w2 d2 h => rCut_tb a HA.out w0 w2 b _ k k' d2 d h
    go_wp2_with (first
      | (go_at_call 16; refine (hct _ HT.out).mono ?_; clear hct; rintro e w2 ⟨rfl, h2⟩; have H2 := hid h2; have d1 : w2.cell? ⟨b, 1, none⟩ = some (.int .i64 a) := h2.blk.cell rfl; clear h2 c1 c2)
      | (go_at_call 32; refine (hcc _ _ H2.out).mono ?_; clear hcc; rintro e w3 ⟨rfl, h3⟩; have H3 := hid h3; clear h3))
    go_ret
    exact ⟨rfl, _, H3.out.tw, Nat.le_succ _⟩
  by_cases r6 : r = 6
  · subst r6
    have hct : ∀ w2, Tb w0 w2 b #[.int .i64 q, .int .i64 a, .string s] k k' d d → _ := fun w2 h => restore_tb w0 w2 b _ k k' d d h
    have hcc : ∀ w2 d2, Tb w0 w2 b #[.int .i64 q, .int .i64 a, .string s] k k' d2 d → _ := fun w2 d2 h => rRestore_tb w0 w2 b _ k k' d2 d h
    go_wp2_with (first
      | (go_at_call 20; refine (hct _ HT.out).mono ?_; clear hct; rintro e w2 ⟨rfl, h2⟩; have H2 := hid h2; clear h2 c1 c2)
      | (go_at_call 33; refine (hcc _ _ H2.out).mono ?_; clear hcc; rintro e w3 ⟨rfl, h3⟩; have H3 := hid h3; clear h3))
    go_ret
    exact ⟨rfl, _, H3.out.tw, Nat.le_succ _⟩
  by_cases r7 : r = 7
  · subst r7
    have hdn : ∀ w2, Tb w0 w2 b #[.int .i64 q, .int .i64 a, .string s] k k' d d → _ := fun w2 h => down_tb w0 w2 b _ k k' d d h
    have hln : ∀ w2, Tb w0 w2 b #[.int .i64 q, .int .i64 a, .string s] k k' d d → _ := fun w2 h => len_tb w0 w2 b _ k k' d d h
    have HT0 := hid (HT.out.on (Below.drew (Below.refl _ w1)))
    obtain ⟨ba, bc, e0, e4⟩ := HT0.out.cells
    have hnl : d.bs.length ≤ 2048 := HT.out.ok.hi
    generalize d.bs.length = n at hln e0 hnl
    cases hdd : d.dn with
    | true =>
      rw [hdd] at e4 hdn
      clear hdd
      have HS0 : w1.drew.cell? ⟨k', 0, none⟩ = some (.slice ba n bc) ∧ w1.drew.cell? ⟨k', 4, none⟩ = some (.bool true) := ⟨e0, e4⟩
      go_wp2_with fail
      clear c1 c2 HT HL e0 e4
      go_region_held3 (fun w' => w'.cell? ⟨k', 0, none⟩ = some (.slice ba n bc) ∧ w'.cell? ⟨k', 4, none⟩ = some (.bool true)) (first | exact HS0)
        (first
          | (go_at_call 19; refine (hdn _ HT0.out).mono ?_; clear hdn; rintro e w8 ⟨rfl, rfl⟩)
          | (go_at_call 26; refine (hln _ HT0.out).mono ?_; clear hln; rintro e w9 ⟨rfl, rfl⟩))
      go_wp2_with fail
      go_ret
      exact ⟨rfl, d, HT0.out.tw, Nat.le_succ _⟩
    | false =>
      rw [hdd] at e4 hdn
      clear hdd
      have HS0 : w1.drew.cell? ⟨k', 0, none⟩ = some (.slice ba n bc) ∧ w1.drew.cell? ⟨k', 4, none⟩ = some (.bool false) := ⟨e0, e4⟩
      go_wp2_with fail
      clear c1 c2 HT HL e0 e4
      go_region_held3 (fun w' => w'.cell? ⟨k', 0, none⟩ = some (.slice ba n bc) ∧ w'.cell? ⟨k', 4, none⟩ = some (.bool false)) (first | exact HS0)
        (first
          | (go_at_call 19; refine (hdn _ HT0.out).mono ?_; clear hdn; rintro e w8 ⟨rfl, rfl⟩)
          | (go_at_call 26; refine (hln _ HT0.out).mono ?_; clear hln; rintro e w9 ⟨rfl, rfl⟩))
      go_wp2_with fail
      go_ret
      exact ⟨rfl, d, HT0.out.tw, Nat.le_succ _⟩
  · have hbk : ∀ w2, _ := fun w2 => block_any s HS.out w2
    have hwr : ∀ w2, Tb w0 w2 b #[.int .i64 q, .int .i64 a, .string s] k k' d d → _ := fun w2 h => write_tb a (blk s) w0 w2 b _ k k' d d h HZ.out
    have hww : ∀ w2 d2, Tb w0 w2 b #[.int .i64 q, .int .i64 a, .string s] k k' d2 d → _ := fun w2 d2 h => rWrite_tb a (blk s) w0 w2 b _ k k' d2 d h HZ.out
    have HL2 := hid (HL.out (blk s))
    generalize d.wrE a (blk s) = y at hwr hww
    generalize d.wr a (blk s) = d2 at hwr hww HL2
    generalize blk s = t at hwr hww hbk
    have HT0 := hid (HT.out.on (Below.drew (Below.refl _ w1)))
    have HS0 : w1.drew.cell? ⟨b, 1, none⟩ = some (.int .i64 a) ∧ w1.drew.cell? ⟨b, 2, none⟩ = some (.string s) := ⟨c1, c2⟩
    go_wp2_with fail
    clear c1 c2 HT HL
    go_region_held3 (fun w' => w'.cell? ⟨b, 1, none⟩ = some (.int .i64 a) ∧ w'.cell? ⟨b, 2, none⟩ = some (.string s)) (first | exact HS0 | exact HS7 | exact HS8 | exact HS9 | exact HS10)
      (first
        | (go_at_call 18; refine ((fun (h : Hid (Tb w0 w1.drew b _ k k' d d)) => hbk _) HT0).mono ?_; rintro e w7 ⟨rfl, h7⟩; have H7 := hid (HT0.out.on h7); have HS7 : w7.cell? ⟨b, 1, none⟩ = some (.int .i64 a) ∧ w7.cell? ⟨b, 2, none⟩ = some (.string s) := ⟨H7.out.blk.cell rfl, H7.out.blk.cell rfl⟩; clear h7 HT0)
        | (go_at_call 17; refine (hwr _ H7.out).mono ?_; clear hwr; rintro e w8 ⟨rfl, h8⟩; have H8 := hid h8; have HS8 : w8.cell? ⟨b, 1, none⟩ = some (.int .i64 a) ∧ w8.cell? ⟨b, 2, none⟩ = some (.string s) := ⟨h8.blk.cell rfl, h8.blk.cell rfl⟩; clear h8 H7)
        | (go_at_call 18; refine ((fun (h : Hid (Tb w0 w8 b _ k k' d2 d)) => hbk _) H8).mono ?_; rintro e w9 ⟨rfl, h9⟩; have H9 := hid (H8.out.on h9); have HS9 : w9.cell? ⟨b, 1, none⟩ = some (.int .i64 a) ∧ w9.cell? ⟨b, 2, none⟩ = some (.string s) := ⟨H9.out.blk.cell rfl, H9.out.blk.cell rfl⟩; clear h9 H8)
        | (go_at_call 31; refine (hww _ _ H9.out).mono ?_; clear hww; rintro e w10 ⟨rfl, h10⟩; have H10 := hid h10; have HS10 : w10.cell? ⟨b, 1, none⟩ = some (.int .i64 a) ∧ w10.cell? ⟨b, 2, none⟩ = some (.string s) := ⟨h10.blk.cell rfl, h10.blk.cell rfl⟩; clear h10 H9))
    go_wp2_with fail
    go_ret
    exact ⟨rfl, d2, H10.out.tw, HL2.out⟩

end Go.Proofs.Ytjmkhcldcpdmoaa
