/-
  A draft takes a page more; a page is laid, or cut in two.
-/
import Derived.Test.YtjcbaiohpdihoaaGreatDoorTe
import Derived.Test.YtjcbaiohpdihoaaGreatDoorTm
import Derived.Test.YtjcbaiohpdihoaaGreatDoorSf1
import Derived.Test.YtjcbaiohpdihoaaGreatDoorSi1
namespace Go.Proofs.YtjcbaiohpdihoaaGreatDoor
open Go.RowKit Go.Maps Lf
set_option linter.unusedVariables false
set_option linter.unusedSimpArgs false
set_option maxRecDepth 100000

section
variable {w W V : World} {S S' C C' C2 R R' R2 : Nat → Prop} {k q s g : Nat} {d : Ds} {f f' : Int → ByteArray} {N M : Nat} {root : Int} {G G' : Int → Option Pge} {U U' : List Int}
theorem LiesE.keep {a : Option Addr} {n c : Nat} {L : List Ent} (h : LiesE w (.slice a n c) L) (hk : Keep R w W) (hn : ∀ ad, a = some ad → ¬ R ad.block) : LiesE W (.slice a n c) L := by
  obtain ⟨a', cap, h1, h2, h3, h4⟩ := h
  refine ⟨a', cap, h1, h2, h3, fun k p hp => ?_⟩
  obtain ⟨b, off, ha, hlt, c1, c2, r⟩ := h4 k p hp
  injection h1 with e1 e2 e3
  have hb : ¬ R b := hn _ (e1.trans ha)
  have hblk := hk.block b hlt hb
  have hc : ∀ i, W.cell? ⟨b, i, none⟩ = w.cell? ⟨b, i, none⟩ := fun i => by unfold World.cell?; rw [hblk]
  exact ⟨b, off, ha, Nat.lt_of_lt_of_le hlt hk.size, (hc _).trans c1, (hc _).trans c2, r⟩
/-- a page's value: its list as it lies, in a block that R doesn't hold -/
def PgV (w : World) (R : Nat → Prop) (v : Value) (p : Pge) : Prop :=
  ∃ a c, v = .agg #[.int .i64 (p.1 : Nat), .slice a p.2.length c] ∧ LiesE w (.slice a p.2.length c) p.2 ∧ ∀ ad, a = some ad → ¬ R ad.block ∧ ad.block < w.heap.size
theorem PgV.keep {v : Value} {p : Pge} (h : PgV w R v p) (hk : Keep C w W) (hc : ∀ j, C j → R j) (hg : ∀ j, j < w.heap.size → R' j → R j) : PgV W R' v p := by
  obtain ⟨a, c, h1, h2, h3⟩ := h
  exact ⟨a, c, h1, LiesE.keep h2 hk (fun ad e hr => (h3 ad e).1 (hc _ hr)), fun ad e => ⟨fun hr => (h3 ad e).1 (hg _ (h3 ad e).2 hr), Nat.lt_of_lt_of_le (h3 ad e).2 hk.size⟩⟩
theorem PgV.on {v : Value} {p : Pge} (h : PgV w R v p) (hb : Below w.heap.size w W) : PgV W R v p := by
  obtain ⟨a, c, h1, h2, h3⟩ := h
  exact ⟨a, c, h1, h2.on hb, fun ad e => ⟨(h3 ad e).1, Nat.lt_of_lt_of_le (h3 ad e).2 hb.size⟩⟩
/-- of a row that is new -/
theorem PgV.made {kd : Nat} {B c : Nat} {a : Option Addr} {L : List Ent} (h : RowE w B (.slice a L.length c) L) (hs : SmlL L) (hR : ∀ j, R j → j < B) : PgV w R (.agg #[.int .i64 (kd : Nat), .slice a L.length c]) (kd, L) := by
  refine ⟨a, c, rfl, h.lies hs, fun ad e => ?_⟩
  subst e
  rcases h.2 with ⟨h1, _⟩ | ⟨g, cap, cur, e1, hb, hg, _⟩
  · cases h1
  · injection e1 with e1
    injection e1 with e1
    subst e1
    exact ⟨fun hr => absurd (hR _ hr) (by show ¬ g < B; omega), lt_of_block hg⟩
theorem PgV.made' {kd : Nat} {B c : Nat} {a : Option Addr} {L : List Ent} (h : RowE w B (.slice a L.length c) L) (hs : SmlL L) (hR : ∀ j, R j → ¬ (Value.slice a L.length c).ownBlock = some j) : PgV w R (.agg #[.int .i64 (kd : Nat), .slice a L.length c]) (kd, L) := by
  refine ⟨a, c, rfl, h.lies hs, fun ad e => ?_⟩
  subst e
  rcases h.2 with ⟨h1, _⟩ | ⟨g, cap, cur, e1, hb, hg, _⟩
  · cases h1
  · injection e1 with e1
    injection e1 with e1
    subst e1
    exact ⟨fun hr => hR _ hr rfl, lt_of_block hg⟩
/-- the map's value at a number -/
def GV (w : World) (R : Nat → Prop) (x : Option Value) (p : Option Pge) : Prop :=
  match p with
  | none => x = none
  | some p => ∃ v, x = some v ∧ PgV w R v p
theorem GV.keep {x : Option Value} {p : Option Pge} (h : GV w R x p) (hk : Keep C w W) (hc : ∀ j, C j → R j) (hg : ∀ j, j < w.heap.size → R' j → R j) : GV W R' x p := by
  cases p with
  | none => exact h
  | some p =>
    obtain ⟨v, h1, h2⟩ := h
    exact ⟨v, h1, h2.keep hk hc hg⟩
/-- the draft's own part: the map, the numbers that are given back -/
structure Core (w : World) (S C R : Nat → Prop) (s g m n : Nat) (uv : Value) (F : Int → Option Value) (root : Int) (G : Int → Option Pge) (U : List Int) : Prop where
  blk : Blk w g #[.pointer (some ⟨s, 0, none⟩), .int .i64 root, .map (some m), uv] 145
  map : IMap w m n F
  row : w.ownsRow 0 3 1 uv U.length (U.map (Value.int .i64))
  sets : ∀ j, C j ↔ S j ∨ j = g ∨ j = m ∨ uv.ownBlock = some j
  sg : ¬ S g
  sm : ¬ S m
  su : ∀ j, uv.ownBlock = some j → ¬ S j
  vals : ∀ a, I64 a → GV w R (F a) (G a)
  le : ∀ j, C j → R j
  lt : ∀ j, R j → j < w.heap.size
/-- a draft at block g over a space at s, its map at m: what is changed (G), what is given back (U); C: the blocks that are its own and the space's; R: what no list lies in -/
def Drm (w : World) (C R : Nat → Prop) (k q s g m : Nat) (uv : Value) (d : Ds) (f : Int → ByteArray) (N : Nat) (root : Int) (G : Int → Option Pge) (U : List Int) : Prop :=
  ∃ (S : Nat → Prop) (n : Nat) (F : Int → Option Value), Sv w S k q s d f N ∧ Core w S C R s g m n uv F root G U ∧ n ≤ N ∧ Env w ∧ ¬ C 0
def Dr (w : World) (C R : Nat → Prop) (k q s g : Nat) (d : Ds) (f : Int → ByteArray) (N : Nat) (root : Int) (G : Int → Option Pge) (U : List Int) : Prop :=
  ∃ m uv, Drm w C R k q s g m uv d f N root G U
/-- what a call leaves of all else -/
structure Stp (w : World) (C R : Nat → Prop) (W : World) (C' R' : Nat → Prop) : Prop where
  keep : Keep C w W
  gc : Grows C C' w
  le : ∀ j, R j → R' j
  gr : Grows R R' w
theorem Stp.refl : Stp w C R w C R := ⟨Keep.refl _ _, Grows.refl _ _, fun _ h => h, Grows.refl _ _⟩
theorem Stp.trans (h : Stp w C R W C' R') (h' : Stp W C' R' V C2 R2) : Stp w C R V C2 R2 :=
  ⟨h.keep.trans h'.keep (fun j hj hc => by rcases h.gc j hc with h | h; exact h; omega), h.gc.trans h'.gc h.keep.size, fun j hj => h'.le j (h.le j hj), h.gr.trans h'.gr h.keep.size⟩
theorem Dr.lt (h : Dr w C R k q s g d f N root G U) : ∀ j, R j → j < w.heap.size := by obtain ⟨m, uv, S, n, F, _, h, _⟩ := h; exact h.lt
theorem Dr.le (h : Dr w C R k q s g d f N root G U) : ∀ j, C j → R j := by obtain ⟨m, uv, S, n, F, _, h, _⟩ := h; exact h.le
theorem Dr.env (h : Dr w C R k q s g d f N root G U) : Env w ∧ ¬ C 0 := by obtain ⟨m, uv, S, n, F, _, _, _, h⟩ := h; exact h
theorem Dr.good (h : Dr w C R k q s g d f N root G U) : d.Ok ∧ d.dn = false ∧ ∀ a, isPg d.bs.length a → (f a).size = 256 := by obtain ⟨m, uv, S, n, F, h, _⟩ := h; exact h.good
/-- other blocks are written; more blocks hold no list -/
theorem Core.keep {m n : Nat} {uv : Value} {F : Int → Option Value} {T : Nat → Prop} (h : Core w S C R s g m n uv F root G U) (hk : Keep T w W) (hn : ∀ j, C j → ¬ T j) (ht : ∀ j, j < w.heap.size → T j → R j) (hR : ∀ j, R j → R' j) (hR' : ∀ j, R' j → R j ∨ w.heap.size ≤ j ∧ j < W.heap.size) : Core W S C R' s g m n uv F root G U := by
  refine ⟨hk.blk h.blk (hn _ ((h.sets _).2 (.inr (.inl rfl)))), hk.imap h.map (hn _ ((h.sets _).2 (.inr (.inr (.inl rfl))))), hk.row h.row (fun j hj => hn _ ((h.sets _).2 (.inr (.inr (.inr hj))))), h.sets, h.sg, h.sm, h.su, fun a ha => ?_, fun j hj => hR _ (h.le j hj), fun j hj => ?_⟩
  · have hk' : Keep (fun j => T j ∧ j < w.heap.size) w W := ⟨hk.os, hk.tape, hk.output, hk.size, fun j hj hn => hk.block j hj (fun ht => hn ⟨ht, hj⟩)⟩
    exact (h.vals a ha).keep hk' (fun j hj => ht j hj.2 hj.1) (fun j hj hr => by rcases hR' j hr with h | h; exact h; omega)
  · rcases hR' j hj with h' | h'
    · exact Nat.lt_of_lt_of_le (h.lt j h') hk.size
    · exact h'.2
theorem Drm.other {m : Nat} {uv : Value} {T : Nat → Prop} (h : Drm w C R k q s g m uv d f N root G U) (hk : Keep T w W) (hn : ∀ j, C j → ¬ T j) (h0 : ¬ T 0) (ht : ∀ j, j < w.heap.size → T j → R j) (hR : ∀ j, R j → R' j) (hR' : ∀ j, R' j → R j ∨ w.heap.size ≤ j ∧ j < W.heap.size) : Drm W C R' k q s g m uv d f N root G U := by
  obtain ⟨S, n, F, h1, h2, h3, h4, h5⟩ := h
  exact ⟨S, n, F, hk.sv h1 (fun j hj => hn j ((h2.sets j).2 (.inl hj))), h2.keep hk hn ht hR hR', h3, hk.env h4 h0, h5⟩
theorem Dr.other {T : Nat → Prop} (h : Dr w C R k q s g d f N root G U) (hk : Keep T w W) (hn : ∀ j, C j → ¬ T j) (h0 : ¬ T 0) (ht : ∀ j, j < w.heap.size → T j → R j) (hR : ∀ j, R j → R' j) (hR' : ∀ j, R' j → R j ∨ w.heap.size ≤ j ∧ j < W.heap.size) : Dr W C R' k q s g d f N root G U := by
  obtain ⟨m, uv, h⟩ := h
  exact ⟨m, uv, h.other hk hn h0 ht hR hR'⟩
theorem Dr.on (h : Dr w C R k q s g d f N root G U) (hb : Below w.heap.size w W) : Dr W C R k q s g d f N root G U :=
  h.other (T := fun _ => False) (Keep.of_below hb) (fun _ _ h => h) (fun h => h) (fun _ _ h => h.elim) (fun _ h => h) (fun _ h => .inl h)
theorem Dr.mono (h : Dr w C R k q s g d f N root G U) (hm : N ≤ M) : Dr w C R k q s g d f M root G U := by
  obtain ⟨m, uv, S, n, F, h1, h2, h3, h4⟩ := h
  exact ⟨m, uv, S, n, F, h1.mono hm, h2, Nat.le_trans h3 hm, h4⟩
/-- a box of a running function -/
def Bx (w : World) (C R : Nat → Prop) (b : Nat) (cs : Array Value) (t : TypeId) : Prop := Blk w b cs t ∧ R b ∧ ¬ C b ∧ 0 < b
theorem Dr.box (h : Dr w C R k q s g d f N root G U) (cs : Array Value) (t : TypeId) : Dr (w.alloc (.cells cs t)) C (fun j => R j ∨ j = w.heap.size) k q s g d f N root G U ∧ Stp w C R (w.alloc (.cells cs t)) C (fun j => R j ∨ j = w.heap.size) ∧ Bx (w.alloc (.cells cs t)) C (fun j => R j ∨ j = w.heap.size) w.heap.size cs t := by
  have hb := (Below.refl w.heap.size w).alloc (Nat.le_refl _) (.cells cs t)
  have hs : (w.alloc (.cells cs t)).heap.size = w.heap.size + 1 := by simp
  refine ⟨h.other (T := fun _ => False) (Keep.of_below hb) (fun _ _ h => h) (fun h => h) (fun _ _ h => h.elim) (fun _ h => .inl h) (fun j hj => by rcases hj with hj | rfl; exact .inl hj; exact .inr ⟨Nat.le_refl _, by omega⟩), ⟨Keep.of_below hb, Grows.refl _ _, fun _ h => .inl h, fun j hj => by rcases hj with hj | rfl; exact .inl hj; exact .inr (Nat.le_refl _)⟩, Blk.made w cs t, .inr rfl, fun hc => absurd (h.lt _ (h.le _ hc)) (Nat.lt_irrefl _), h.env.1.pos⟩
theorem Bx.step {b : Nat} {cs : Array Value} {t : TypeId} (h : Bx w C R b cs t) (hs : Stp w C R W C' R') : Bx W C' R' b cs t :=
  ⟨hs.keep.blk h.1 h.2.2.1, hs.le b h.2.1, fun hc => by rcases hs.gc b hc with h' | h'; exact h.2.2.1 h'; have := h.1.lt; omega, h.2.2.2⟩
theorem Bx.on {b : Nat} {cs : Array Value} {t : TypeId} (h : Bx w C R b cs t) (hb : Below w.heap.size w W) : Bx W C R b cs t := ⟨h.1.on hb h.1.lt, h.2⟩
theorem Stp.on (h : Stp w C R W C' R') (hb : Below W.heap.size W V) : Stp w C R V C' R' := ⟨h.keep.trans (Keep.of_below (S := C') hb) (fun j hj hc => by rcases h.gc j hc with h | h; exact h; omega), h.gc, h.le, h.gr⟩
/-- a box is written -/
theorem Dr.wr {b : Nat} {cs : Array Value} {t : TypeId} (h : Dr w C R k q s g d f N root G U) (hb : Bx w C R b cs t) (i : Nat) (v : Value) : Dr (w.setCell ⟨b, i, none⟩ v) C R k q s g d f N root G U :=
  h.other (T := fun j => j = b) (Keep.set (S := fun j => j = b) w rfl i v) (fun j hj e => hb.2.2.1 (e ▸ hj)) (fun e => by have := hb.2.2.2; omega) (fun j _ e => by subst e; exact hb.2.1) (fun _ h => h) (fun _ h => .inl h)
theorem Bx.wr {b : Nat} {cs : Array Value} {t : TypeId} (hb : Bx w C R b cs t) (i : Nat) (v : Value) : Bx (w.setCell ⟨b, i, none⟩ v) C R b (cs.setIfInBounds i v) t := ⟨hb.1.set i v, hb.2⟩
theorem Bx.ne {b b2 : Nat} {cs : Array Value} {t : TypeId} (hb : Bx w C R b cs t) (hne : b ≠ b2) (i : Nat) (v : Value) : Bx (w.setCell ⟨b2, i, none⟩ v) C R b cs t := ⟨hb.1.other hne v, hb.2⟩
/-- a box that was made since w is written -/
theorem Stp.wr {b : Nat} (h : Stp w C R W C' R') (hb : w.heap.size ≤ b) (i : Nat) (v : Value) : Stp w C R (W.setCell ⟨b, i, none⟩ v) C' R' :=
  ⟨h.keep.trans (Keep.set (S := fun j => j = b) W rfl i v) (fun j hj e => by subst e; omega), h.gc, h.le, h.gr⟩
theorem PgV.step {v : Value} {p : Pge} (h : PgV w R v p) (hd : ∀ j, C j → R j) (hs : Stp w C R W C' R') : PgV W R' v p := h.keep hs.keep hd (fun j hj hr => by rcases hs.gr j hr with h | h; exact h; omega)
theorem PgV.wr {v : Value} {p : Pge} {b : Nat} (h : PgV w R v p) (hb : R b) (i : Nat) (u : Value) : PgV (w.setCell ⟨b, i, none⟩ u) R v p := h.keep (C := fun j => j = b) (Keep.set (S := fun j => j = b) w rfl i u) (fun j e => by subst e; exact hb) (fun _ _ h => h)
theorem PgV.box {v : Value} {p : Pge} (h : PgV w R v p) (o : Obj) : PgV (w.alloc o) (fun j => R j ∨ j = w.heap.size) v p :=
  h.keep (C := fun _ => False) (Keep.of_below ((Below.refl w.heap.size w).alloc (Nat.le_refl _) o)) (fun _ h => h.elim) (fun j hj hr => by rcases hr with h | h; exact h; omega)
/-- a call of the space; it tells which blocks are the space's then -/
theorem Dr.space2 {F : Ending → World → (Nat → Prop) → Prop} {n : Nat} {args : Array Value} {N' : Nat} (h : Dr w C R k q s g d f N root G U) (hN : N ≤ N') (hc : ∀ S, Sv w S k q s d f N → Env w → ¬ S 0 → Calls Tryz.prog n args w fun e V => ∃ S', F e V S' ∧ Sv V S' k q s d f' N' ∧ Grows S S' w ∧ Keep S w V) :
    Calls Tryz.prog n args w fun e V => ∃ S' C' R', F e V S' ∧ (∀ j, R' j → R j ∨ S' j) ∧ Dr V C' R' k q s g d f' N' root G U ∧ Stp w C R V C' R' := by
  obtain ⟨m, uv, S, n', F', h1, h2, h3, h4, h5⟩ := h
  have hS0 : ¬ S 0 := fun h => h5 ((h2.sets 0).2 (.inl h))
  refine (hc S h1 h4 hS0).mono fun e V hh => ?_
  obtain ⟨S', hF, g1, g2, hk⟩ := hh
  have hlt : ∀ j, C j → j < w.heap.size := fun j hj => h2.lt j (h2.le j hj)
  have hx : ∀ j, j < w.heap.size → ¬ S j → ¬ S' j := fun j hj hn hs => by
    rcases g2 j hs with h | h
    · exact hn h
    · omega
  have kC : Keep C w V := hk.mono (fun j _ hj => (h2.sets j).2 (.inl hj))
  refine ⟨S', fun j => S' j ∨ j = g ∨ j = m ∨ uv.ownBlock = some j, fun j => R j ∨ S' j, hF, fun j h => h, ⟨m, uv, S', n', F', g1, ⟨hk.blk h2.blk h2.sg, hk.imap h2.map h2.sm, hk.row h2.row h2.su, fun j => Iff.rfl, hx _ h2.blk.lt h2.sg, hx _ h2.map.lt h2.sm, fun j hj => hx j (hlt j ((h2.sets j).2 (.inr (.inr (.inr hj))))) (h2.su j hj), fun a ha => ?_, fun j hj => ?_, fun j hj => ?_⟩, Nat.le_trans h3 hN, hk.env h4 hS0, fun h0 => ?_⟩, kC, fun j hj => ?_, fun j hj => .inl hj, fun j hj => ?_⟩
  · exact (h2.vals a ha).keep hk (fun j hj => h2.le j ((h2.sets j).2 (.inl hj))) (fun j hj hr => by
      rcases hr with h | h
      · exact h
      · rcases g2 j h with h | h
        · exact h2.le j ((h2.sets j).2 (.inl h))
        · omega)
  · rcases hj with h | h | h | h
    · exact .inr h
    · exact .inl (h2.le j ((h2.sets j).2 (.inr (.inl h))))
    · exact .inl (h2.le j ((h2.sets j).2 (.inr (.inr (.inl h)))))
    · exact .inl (h2.le j ((h2.sets j).2 (.inr (.inr (.inr h)))))
  · rcases hj with h | h
    · exact Nat.lt_of_lt_of_le (h2.lt j h) hk.size
    · exact g1.lt j h
  · rcases h0 with h | h
    · rcases g2 0 h with h | h
      · exact hS0 h
      · have := h4.pos; omega
    · exact h5 ((h2.sets 0).2 (.inr h))
  · rcases hj with h | h
    · rcases g2 j h with h | h
      · exact .inl ((h2.sets j).2 (.inl h))
      · exact .inr h
    · exact .inl ((h2.sets j).2 (.inr h))
  · rcases hj with h | h
    · exact .inl h
    · rcases g2 j h with h | h
      · exact .inl (h2.le j ((h2.sets j).2 (.inl h)))
      · exact .inr h
/-- a call of the space -/
theorem Dr.space {F : Ending → World → Prop} {n : Nat} {args : Array Value} {N' : Nat} (h : Dr w C R k q s g d f N root G U) (hN : N ≤ N') (hc : ∀ S, Sv w S k q s d f N → Env w → ¬ S 0 → Calls Tryz.prog n args w fun e V => F e V ∧ Sn w S k q s d f' N' V) :
    Calls Tryz.prog n args w fun e V => F e V ∧ ∃ C' R', Dr V C' R' k q s g d f' N' root G U ∧ Stp w C R V C' R' :=
  (h.space2 (F := fun e V _ => F e V) hN (fun S h1 h2 h3 => (hc S h1 h2 h3).mono fun e V hh => by
    obtain ⟨S', g1, g2⟩ := hh.2.sv
    exact ⟨S', hh.1, g1, g2, hh.2.keep⟩)).mono fun e V hh => by
      obtain ⟨S', C', R', h1, _, h2, h3⟩ := hh
      exact ⟨h1, C', R', h2, h3⟩
end
end Go.Proofs.YtjcbaiohpdihoaaGreatDoor

namespace Go.Proofs.YtjcbaiohpdihoaaGreatDoor
open Go.RowKit Go.Maps Lf
set_option linter.unusedVariables false
set_option linter.unusedSimpArgs false
set_option maxRecDepth 100000

/-- one page more is changed -/
def upd (G : Int → Option Pge) (a : Int) (p : Option Pge) : Int → Option Pge := fun b => if b = a then p else G b
section
variable {w W V : World} {S S' C C' C2 R R' R2 : Nat → Prop} {k q s g m : Nat} {uv : Value} {d : Ds} {f f' : Int → ByteArray} {N M : Nat} {root : Int} {G G' : Int → Option Pge} {U U' : List Int}
theorem Drm.dr (h : Drm w C R k q s g m uv d f N root G U) : Dr w C R k q s g d f N root G U := ⟨m, uv, h⟩
theorem Drm.cells (h : Drm w C R k q s g m uv d f N root G U) : w.cell? ⟨g, 0, none⟩ = some (.pointer (some ⟨s, 0, none⟩)) ∧ w.cell? ⟨g, 1, none⟩ = some (.int .i64 root) ∧ w.cell? ⟨g, 2, none⟩ = some (.map (some m)) ∧ w.cell? ⟨g, 3, none⟩ = some uv ∧ w.frozen? ⟨g, 3, none⟩ = false ∧ C g := by
  obtain ⟨S, n, F, _, h, _⟩ := h
  exact ⟨h.blk.cell (i := 0) rfl, h.blk.cell (i := 1) rfl, h.blk.cell (i := 2) rfl, h.blk.cell (i := 3) rfl, h.blk.free 3, (h.sets g).2 (.inr (.inl rfl))⟩
/-- m[a], ok -/
theorem Drm.look (h : Drm w C R k q s g m uv d f N root G U) {a : Int} (ha : I64 a) :
    ∃ x : Option Value, GV w R x (G a) ∧ (Instr.lookup 143 (.map (some m)) (.int .i64 a) true).run Tryz.prog w = .ok (.tuple #[x.getD zeroTP, .bool x.isSome]) w ∧ (Instr.lookup 143 (.map (some m)) (.int .i64 a) false).run Tryz.prog w = .ok (x.getD zeroTP) w := by
  obtain ⟨S, n, F, _, h, _⟩ := h
  exact ⟨F a, h.vals a ha, h.map.lookT ha, h.map.getT ha⟩
/-- m[a] = p -/
theorem Drm.put (h : Drm w C R k q s g m uv d f N root G U) {a : Int} (ha : I64 a) {p : Pge} {v : Value} (hv : PgV w R v p) (hN : N < 1000000000) :
    ∃ w', (Instr.mapUpdate 143 (.map (some m)) (.int .i64 a) v).run Tryz.prog w = .ok () w' ∧ Drm w' C R k q s g m uv d f (N + 1) root (upd G a (some p)) U ∧ Stp w C R w' C R := by
  obtain ⟨S, n, F, h1, h2, h3, h4, h5⟩ := h
  obtain ⟨w', e1, e2, e3⟩ := h2.map.putT (by unfold maxLen; omega) ha v
  have hk : Keep (fun j => j = m) w w' := Keep.grown e3 (fun j e => by cases e; rfl)
  have hmC : C m := (h2.sets m).2 (.inr (.inr (.inl rfl)))
  have kC : Keep C w w' := hk.mono (fun j _ e => by cases e; exact hmC)
  have hm0 : ¬ (0 = m) := fun e => h5 (e ▸ hmC)
  have hgm : ¬ g = m := h2.map.ne_blk h2.blk
  have hum : ∀ j, uv.ownBlock = some j → ¬ j = m := fun j hj => h2.map.ne_row h2.row hj
  refine ⟨w', e1, ⟨S, _, _, (hk.sv h1 (fun j hj e => by subst e; exact h2.sm hj)).mono (Nat.le_succ N), ⟨hk.blk h2.blk hgm, e2, hk.row h2.row hum, h2.sets, h2.sg, h2.sm, h2.su, fun b hb => ?_, h2.le, fun j hj => Nat.lt_of_lt_of_le (h2.lt j hj) hk.size⟩, by split <;> omega, hk.env h4 hm0, h5⟩, ⟨kC, Grows.refl _ _, fun _ h => h, Grows.refl _ _⟩⟩
  show GV w' R (if b = a then some v else F b) (if b = a then some p else G b)
  by_cases hba : b = a
  · rw [if_pos hba, if_pos hba]
    exact ⟨v, rfl, hv.keep kC h2.le (fun _ _ h => h)⟩
  · rw [if_neg hba, if_neg hba]
    exact (h2.vals b hb).keep kC h2.le (fun _ _ h => h)
/-- what a draft shows -/
def vw2 (G : Int → Option Pge) (f : Int → ByteArray) (a : Int) : Option Pge :=
  match G a with
  | some p => some p
  | none => unp (f a).data.toList
theorem Bx.two {b : Nat} {u0 u1 : Value} {t : TypeId} (h : Bx w C R b #[u0, u1] t) : w.cell? ⟨b, 0, none⟩ = some u0 ∧ w.cell? ⟨b, 1, none⟩ = some u1 ∧ w.frozen? ⟨b, 0, none⟩ = false ∧ w.frozen? ⟨b, 1, none⟩ = false := ⟨h.1.cell (i := 0) rfl, h.1.cell (i := 1) rfl, h.1.free 0, h.1.free 1⟩
theorem gt_us {a : Int} (ha : gtE d f a = 0) : isUs d.bs.length a ∧ tkn d f a = true := by
  unfold gtE at ha
  split at ha
  · cases ha
  · rename_i hh
    split at ha
    · rename_i h2; exact ⟨Decidable.not_not.1 hh, h2⟩
    · cases ha
theorem Dr.i64 (h : Dr w C R k q s g d f N root G U) {a : Int} (ha : gtE d f a = 0) : I64 a := isPg_i64 h.good.1.lo h.good.1.hi (gt_us ha).1.pg
/-- what a call of a draft leaves -/
def Dn (w : World) (C R : Nat → Prop) (k q s g : Nat) (d : Ds) (f : Int → ByteArray) (N : Nat) (root : Int) (G : Int → Option Pge) (U : List Int) (w' : World) : Prop := ∃ C' R', Dr w' C' R' k q s g d f N root G U ∧ Stp w C R w' C' R'
/-- and a page's value -/
def Dp (w : World) (C R : Nat → Prop) (k q s g : Nat) (d : Ds) (f : Int → ByteArray) (N : Nat) (root : Int) (G : Int → Option Pge) (U : List Int) (v : Value) (p : Pge) (w' : World) : Prop := ∃ C' R', PgV w' R' v p ∧ Dr w' C' R' k q s g d f N root G U ∧ Stp w C R w' C' R'
/-- the space's read of a page, by a draft -/
theorem Dr.tread (h : Dr w C R k q s g d f N root G U) (a : Int) (p : Pge) (ha : gtE d f a = 0) (hu : unp (f a).data.toList = some p) (hk2 : p.1 = 2 → p.2 ≠ []) (hN : N < 1000000000) :
    Calls Tryz.prog 110 #[.pointer (some ⟨s, 0, none⟩), .int .i64 a] w fun e w' => ∃ ad c, e = .returned (.agg #[.int .i64 (p.1 : Nat), .slice ad p.2.length c]) ∧ Dp w C R k q s g d f (N + 2) root G U (.agg #[.int .i64 (p.1 : Nat), .slice ad p.2.length c]) p w' := by
  have hlt := h.lt
  have hsml := (unp_ok hu).2.2.2.1
  have := Dr.space2 (F := fun e V S' => ∃ ad c, e = .returned (.agg #[.int .i64 (p.1 : Nat), .slice ad p.2.length c]) ∧ RowE V w.heap.size (.slice ad p.2.length c) p.2 ∧ ∀ g, (Value.slice ad p.2.length c).ownBlock = some g → ¬ S' g) (N' := N + 2) h (by omega) (fun S h1 h4 h0 => (tread_any a p ha hu hk2 h4 h0 (by omega) h1).mono fun e V hh => by
    obtain ⟨ad, c, e1, e2, S', e3, e4, e5, e6⟩ := hh
    exact ⟨S', ⟨ad, c, e1, e2, e6⟩, e3, e4, e5⟩)
  refine this.mono ?_
  rintro e V ⟨S', C', R', ⟨ad, c, rfl, hr, hx⟩, hR', hd, hs⟩
  exact ⟨ad, c, rfl, C', R', PgV.made' hr hsml (fun j hj hg => by
    rcases hR' j hj with h | h
    · have := hlt j h; have := (own_lo hr hg).1; omega
    · exact hx j hg h), hd, hs⟩
set_option maxHeartbeats 1000000 in
theorem dread_any (a : Int) (p : Pge) (ha : gtE d f a = 0) (hu : vw2 G f a = some p) (hk2 : p.1 = 2 → p.2 ≠ []) (hN : N < 1000000000) (h : Dr w C R k q s g d f N root G U) :
    Calls Tryz.prog 97 #[.pointer (some ⟨g, 0, none⟩), .int .i64 a] w fun e w' => ∃ ad c, e = .returned (.agg #[.int .i64 (p.1 : Nat), .slice ad p.2.length c]) ∧ Dp w C R k q s g d f (N + 2) root G U (.agg #[.int .i64 (p.1 : Nat), .slice ad p.2.length c]) p w' := by
  have hai := h.i64 ha
  cases hGa : G a with
  | some p' =>
    obtain rfl : p' = p := by unfold vw2 at hu; rw [hGa] at hu; exact Option.some.inj hu
    obtain ⟨m, uv, S, n', F, q1, q2, q3, q4, q5⟩ := id h
    have gx := q2.vals a hai
    rw [hGa] at gx
    obtain ⟨v, hF, pv⟩ := gx
    have hb0 := (Below.refl w.heap.size w).alloc (Nat.le_refl _) (.cells #[.int .i64 0, .slice none 0 0] 78)
    have hl : (Instr.lookup 143 (.map (some m)) (.int .i64 a) true).run Tryz.prog (w.alloc (.cells #[.int .i64 0, .slice none 0 0] 78)) = .ok (.tuple #[v, .bool true]) (w.alloc (.cells #[.int .i64 0, .slice none 0 0] 78)) := by
      have := ((Keep.of_below (S := fun _ => False) hb0).imap q2.map (fun h => h)).lookT hai
      rw [hF] at this
      exact this
    have c2 : (w.alloc (.cells #[.int .i64 0, .slice none 0 0] 78)).cell? ⟨g, 2, none⟩ = some (.map (some m)) := (q2.blk.on hb0 q2.blk.lt).cell (i := 2) rfl
    have pvw := pv
    obtain ⟨ad, c, rfl, pl, pb⟩ := pv
    have hsz1 : (w.alloc (.cells #[.int .i64 0, .slice none 0 0] 78)).heap.size = w.heap.size + 1 := by simp
    clear pl pb q1 q2 q3 q4 q5 hF hb0
    obtain ⟨h2, s2, x2⟩ := h.box #[.int .i64 (p'.1 : Nat), .slice ad p'.2.length c] 78
    obtain ⟨h3, s3, x3⟩ := h2.box #[.int .i64 (p'.1 : Nat), .slice ad p'.2.length c] 78
    have pv4 := (pvw.step h.le s2).step h2.le s3
    obtain ⟨e0, e1, _, _⟩ := Bx.two (x2.step s3)
    have D4 := hid (h3.mono (by omega : N ≤ N + 2))
    have S4 := hid (s2.trans s3)
    have P4 := hid pv4
    clear s2 x2 h3 x3 s3 pv4 h2 pvw h hu hGa
    obtain ⟨p1, L⟩ := p'
    generalize L.length = n at *
    go_enter Tryz.func97, Tryz.ntmps97
    go_wp2_with fail
    refine bodyPost_ret (v := .agg #[.int .i64 (p1 : Nat), .slice ad n c]) (by simp [results, Tryz.results97, go_sem, e0, e1]) rfl ⟨ad, c, rfl, _, _, P4.out, D4.out, S4.out⟩
  | none =>
    have hup : unp (f a).data.toList = some p := by unfold vw2 at hu; rw [hGa] at hu; exact hu
    obtain ⟨h1, s1, x1⟩ := h.box #[.int .i64 0, .slice none 0 0] 78
    obtain ⟨m, uv, hm⟩ := h1
    obtain ⟨c0, c1, c2, c3, _, hg⟩ := hm.cells
    obtain ⟨x, gx, hl, _⟩ := hm.look hai
    rw [hGa] at gx
    obtain rfl : x = none := gx
    have hl' : (Instr.lookup 143 (.map (some m)) (.int .i64 a) true).run Tryz.prog (w.alloc (.cells #[.int .i64 0, .slice none 0 0] 78)) = .ok (.tuple #[.agg #[.int .i64 0, .slice none 0 0], .bool false]) (w.alloc (.cells #[.int .i64 0, .slice none 0 0] 78)) := hl
    have hsz1 : (w.alloc (.cells #[.int .i64 0, .slice none 0 0] 78)).heap.size = w.heap.size + 1 := by simp
    obtain ⟨h3, s2, x2⟩ := hm.dr.box #[.int .i64 0, .slice none 0 0] 78
    have y1 := x1.step s2
    have s3 := s1.trans s2
    have HRD := hid (h3.tread a p ha hup hk2 hN)
    obtain ⟨m', uv', hm'⟩ := h3
    have d0 := hm'.cells.1
    have Y1 := hid y1
    have S3 := hid s3
    clear s1 x1 s2 x2 y1 s3 hl hm hm' h hup hu hGa hk2
    go_enter Tryz.func97, Tryz.ntmps97
    go_wp2_with (go_at_call 110; refine HRD.out.mono ?_; clear HRD d0; rintro e w5 ⟨ad, c, rfl, C5, R5, pv5, d5, s5⟩; have y5 := Y1.out.step s5; obtain ⟨b0, b1, b2, b3⟩ := y5.two; have D5 := hid d5; have P5 := hid pv5; have Y5 := hid y5; have S5 := hid (S3.out.trans s5); clear pv5 d5 s5 y5)
    have z6 := Bx.two (u0 := .int .i64 (p.1 : Nat)) (u1 := .slice ad p.2.length c) ((Y5.out.wr 0 (.int .i64 (p.1 : Nat))).wr 1 (.slice ad p.2.length c))
    obtain ⟨e0, e1, _, _⟩ := z6
    refine bodyPost_ret (v := .agg #[.int .i64 (p.1 : Nat), .slice ad p.2.length c]) (by simp [results, Tryz.results97, go_sem, e0, e1]) rfl ⟨ad, c, rfl, _, _, (P5.out.wr Y5.out.2.1 0 _).wr Y5.out.2.1 1 _, (D5.out.wr Y5.out 0 _).wr (Y5.out.wr 0 _) 1 _, (S5.out.wr (Nat.le_refl _) 0 _).wr (Nat.le_refl _) 1 _⟩
end
end Go.Proofs.YtjcbaiohpdihoaaGreatDoor

namespace Go.Proofs.YtjcbaiohpdihoaaGreatDoor
open Go.RowKit Go.Maps Lf
set_option linter.unusedVariables false
set_option linter.unusedSimpArgs false
set_option maxRecDepth 100000

/-- the pages that are free -/
def frl (d : Ds) (f : Int → ByteArray) : List Int := usr d.bs.length (f (mpg d)) false
section
variable {w W V : World} {S S' C C' C2 R R' R2 : Nat → Prop} {k q s g m : Nat} {uv : Value} {d : Ds} {f f' : Int → ByteArray} {N M : Nat} {root : Int} {G G' : Int → Option Pge} {U U' : List Int}
theorem us_small {n : Nat} (h1 : 64 ≤ n) (h2 : n ≤ 2048) {a : Int} (h : isUs n a) : 0 ≤ a ∧ a < 2048 := by
  obtain ⟨b1, b2, b3, b4, b5⟩ := frs_small h1 h2
  have h3 := h.1
  have h4 := h.2
  omega
theorem frl_us (h : Dr w C R k q s g d f N root G U) {a : Int} (ha : a ∈ frl d f) : isUs d.bs.length a ∧ tkn d f a = false := (usr_mem h.good.1.lo h.good.1.hi).1 ha
set_option maxHeartbeats 1000000 in
theorem add_full (key : ByteArray) (v : Value) (p : Pge) (he : frl d f = []) (hv : PgV w R v p) (hN : N < 1000000) (h : Dr w C R k q s g d f N root G U) :
    Calls Tryz.prog 94 #[.pointer (some ⟨g, 0, none⟩), .string key, v] w fun e w' => e = .panicked [{ v := gvup 16, recovered := false }] ∧ Dn w C R k q s g d f (N + 2) root G U w' := by
  obtain ⟨pa, pc, rfl, _⟩ := hv
  obtain ⟨h1, s1, x1⟩ := h.box #[.int .i64 (p.1 : Nat), .slice pa p.2.length pc] 78
  obtain ⟨h2, s2, x2⟩ := h1.box #[.string ⟨#[]⟩, .string ⟨#[]⟩] 59
  have HAL := hid (Dr.space (F := fun e V => e = .returned (.tuple #[.int .i64 0, .int .i64 16])) (N' := N + 1) h2 (by omega) (fun S g1 g2 g3 => alloc_full he (by omega) g1))
  have S2 := hid (s1.trans s2)
  obtain ⟨m, uv, hm⟩ := h2
  have d0 := hm.cells.1
  have hnb := fun w1 => need_bad 16 (by decide) w1
  clear s1 x1 s2 x2 hm h he h1
  generalize p.2.length = n at *
  go_enter Tryz.func94, Tryz.ntmps94
  go_wp2_with (first
    | (go_at_call 36; refine HAL.out.mono ?_; clear HAL d0; rintro e w5 ⟨rfl, C5, R5, d5, s5⟩; have D5 := hid (d5.mono (by omega : N + 1 ≤ N + 2)); have S5 := hid (S2.out.trans s5); clear d5 s5)
    | (go_at_call 76; refine (hnb _).mono ?_; rintro e w6 ⟨rfl, rfl⟩))
  exact ⟨rfl, rfl, _, _, D5.out, S5.out⟩
set_option maxHeartbeats 1000000 in
theorem add_any (key : ByteArray) (v : Value) (p : Pge) {a : Int} {L : List Int} (he : frl d f = a :: L) (hv : PgV w R v p) (hN : N < 1000000) (h : Dr w C R k q s g d f N root G U) :
    Calls Tryz.prog 94 #[.pointer (some ⟨g, 0, none⟩), .string key, v] w fun e w' => e = .returned (.agg #[.string key, .string (n2 a)]) ∧ Dn w C R k q s g d (alF d f a) (N + 2) root (upd G a (some p)) U w' := by
  have hus := (frl_us h (by rw [he]; exact List.mem_cons_self)).1
  have hsm := us_small h.good.1.lo h.good.1.hi hus
  have hai : I64 a := ⟨by omega, by omega⟩
  obtain ⟨pa, pc, rfl, pl, pb⟩ := id hv
  obtain ⟨h1, s1, x1⟩ := h.box #[.int .i64 (p.1 : Nat), .slice pa p.2.length pc] 78
  obtain ⟨h2, s2, x2⟩ := h1.box #[.string ⟨#[]⟩, .string ⟨#[]⟩] 59
  have hsz : (w.alloc (.cells #[.int .i64 (p.1 : Nat), .slice pa p.2.length pc] 78)).heap.size = w.heap.size + 1 := by simp
  rw [hsz] at x2 s2 h2
  have PV := hid ((hv.step h.le s1).step h1.le s2)
  have HAL := hid (Dr.space (F := fun e V => e = .returned (.tuple #[.int .i64 a, .int .i64 0])) (N' := N + 1) h2 (by omega) (fun S g1 g2 g3 => alloc_sp he (by omega) g1))
  have S2 := hid (s1.trans s2)
  have X1 := hid (x1.step s2)
  have X2 := hid x2
  have HLE := hid h2.le
  obtain ⟨m, uv, hm⟩ := h2
  have d0 := hm.cells.1
  have hn := fun w1 => need_ok w1
  have HNM := hid (fun w1 : World => naming_any key a ⟨hsm.1, by omega⟩ w1)
  clear s1 x1 s2 x2 hm h he h1 hv pl pb hus hsm
  obtain ⟨p1, PL⟩ := p
  obtain ⟨n, hn'⟩ : ∃ n, PL.length = n := ⟨_, rfl⟩
  simp only [hn'] at *
  clear hn'
  generalize n2 a = t at *
  go_enter Tryz.func94, Tryz.ntmps94
  go_wp2_with (first
    | (go_at_call 36; refine HAL.out.mono ?_; clear HAL d0; rintro e w5 ⟨rfl, C5, R5, d5, s5⟩; have X15 := X1.out.step s5; have HX15 := hid X15; have HX25 := hid (X2.out.step s5); have PV5 := hid (PV.out.step HLE.out s5); obtain ⟨b0, b1, b2, b3⟩ := X15.two; have S5 := hid (S2.out.trans s5); have hdr : Below w5.heap.size w5 w5.drew := (Below.refl _ _).drew; obtain ⟨m5, uv5, hm5⟩ := d5.on hdr; have c2 := (hm5.cells).2.2.1; obtain ⟨w6, e6, d6, s6⟩ := hm5.put hai (PV5.out.on hdr) (by omega); have D6 := hid d6.dr; have S6 := hid ((S5.out.on hdr).trans s6); have X26 := hid ((HX25.out.on hdr).step s6); clear X15 s5 d5 d6 s6 hm5)
    | (go_at_call 76; refine (hn _).mono ?_; rintro e w7 ⟨rfl, rfl⟩))
  have c2' : w5.cell? ⟨g, 2, none⟩ = some (.map (some m5)) := c2
  go_region
  clear e6 c2 c2' b0 b1 b2 b3 hdr
  go_wp2_with (go_at_call 150; refine (HNM.out _).mono ?_; clear HNM; rintro e w8 ⟨rfl, hb8⟩; have X28 := X26.out.on hb8; have HX28 := hid X28; obtain ⟨b0, b1, b2, b3⟩ := X28.two; have D8 := hid (D6.out.on hb8); have S8 := hid (S6.out.on hb8); clear X28 hb8)
  obtain ⟨e0, e1, _, _⟩ := Bx.two (u0 := .string key) (u1 := .string t) ((HX28.out.wr 0 (.string key)).wr 1 (.string t))
  exact bodyPost_ret (v := .agg #[.string key, .string t]) (by simp [results, Tryz.results94, go_sem, e0, e1]) rfl ⟨rfl, _, _, (D8.out.wr HX28.out 0 _).wr (HX28.out.wr 0 _) 1 _, (S8.out.wr (by omega) 0 _).wr (by omega) 1 _⟩
end
end Go.Proofs.YtjcbaiohpdihoaaGreatDoor
