/-
  Plain: what Put makes of trees.
-/
import Derived.Test.YtjcbaiohpdihoaaGreatDoorCw
namespace Go.Proofs.YtjcbaiohpdihoaaGreatDoor
open Lf
set_option linter.unusedVariables false
set_option linter.unusedSimpArgs false
set_option maxRecDepth 100000

/-- a list is right: short texts, rising keys -/
theorem ck_from : ∀ {L : List Ent} {p : Option ByteArray}, ckE p L = 0 ↔ (∀ x ∈ L, x.k.size ≤ 32 ∧ x.v.size ≤ 64) ∧ L.Pairwise (fun x y => lt x.k y.k = true) ∧ ∀ q, p = some q → ∀ x ∈ L, lt q x.k = true
  | [], p => by simp [ckE]
  | y :: r, p => by
    have ih := @ck_from r (some y.k)
    have hr : (∀ q, some y.k = some q → ∀ x ∈ r, lt q x.k = true) ↔ ∀ x ∈ r, lt y.k x.k = true := ⟨fun h => h _ rfl, fun h q e => by cases e; exact h⟩
    rw [hr] at ih
    have key : (32 < y.k.size ∨ 64 < y.v.size) ∨ (y.k.size ≤ 32 ∧ y.v.size ≤ 64) := by omega
    cases p with
    | none =>
      rcases key with h | h
      · simp only [ckE]
        rw [if_pos h]
        refine ⟨fun e => by omega, fun e => ?_⟩
        have := e.1 y List.mem_cons_self
        omega
      · simp only [ckE]
        rw [if_neg (by omega), ih]
        refine ⟨fun e => ⟨fun x hx => ?_, List.pairwise_cons.2 ⟨e.2.2, e.2.1⟩, fun q hq => by cases hq⟩, fun e => ⟨fun x hx => e.1 x (List.mem_cons_of_mem _ hx), (List.pairwise_cons.1 e.2.1).2, (List.pairwise_cons.1 e.2.1).1⟩⟩
        rcases List.mem_cons.1 hx with rfl | hx
        · exact h
        · exact e.1 x hx
    | some q =>
      rcases key with h | h
      · simp only [ckE]
        rw [if_pos h]
        refine ⟨fun e => by omega, fun e => ?_⟩
        have := e.1 y List.mem_cons_self
        omega
      · simp only [ckE]
        rw [if_neg (by omega)]
        by_cases hq : lt q y.k = true
        · rw [if_pos hq, ih]
          refine ⟨fun e => ⟨fun x hx => ?_, List.pairwise_cons.2 ⟨e.2.2, e.2.1⟩, fun q' hq' x hx => ?_⟩, fun e => ⟨fun x hx => e.1 x (List.mem_cons_of_mem _ hx), (List.pairwise_cons.1 e.2.1).2, (List.pairwise_cons.1 e.2.1).1⟩⟩
          · rcases List.mem_cons.1 hx with rfl | hx
            · exact h
            · exact e.1 x hx
          · cases hq'
            rcases List.mem_cons.1 hx with rfl | hx
            · exact hq
            · exact lt_trans hq (e.2.2 x hx)
        · rw [if_neg hq]
          exact ⟨fun e => by omega, fun e => absurd (e.2.2 q rfl y List.mem_cons_self) hq⟩
theorem ck_iff {L : List Ent} : ckE none L = 0 ↔ (∀ x ∈ L, x.k.size ≤ 32 ∧ x.v.size ≤ 64) ∧ L.Pairwise (fun x y => lt x.k y.k = true) := by
  rw [ck_from]
  exact ⟨fun h => ⟨h.1, h.2.1⟩, fun h => ⟨h.1, h.2, fun q e => by cases e⟩⟩
theorem sumE_cons (x : Ent) (L : List Ent) : sumE (x :: L) = x.sz + sumE L := by
  rw [show x :: L = [x] ++ L from rfl, sumE_append]
  simp [sumE]
theorem sum_mul {L : List Ent} {m : Nat} (h : ∀ x ∈ L, x.sz ≤ m) : sumE L ≤ L.length * m := by
  induction L with
  | nil => simp [sumE]
  | cons x r ih =>
    have h1 := ih (fun y hy => h y (List.mem_cons_of_mem _ hy))
    have h2 := h x List.mem_cons_self
    rw [sumE_cons, List.length_cons, Nat.add_mul]
    omega
theorem lt_irrefl' {a : ByteArray} (h : lt a a = true) : False := by rw [lt_self] at h; cases h
theorem lt_of_le {a b c : ByteArray} (h : lt b a = false) (k : lt b c = true) : lt a c = true := by
  rcases lt_total a b with e | e | e
  · exact lt_trans e k
  · subst e; exact k
  · rw [h] at e; cases e
theorem le_trans' {a b c : ByteArray} (h : lt b a = false) (k : lt c b = false) : lt c a = false := by
  cases e : lt c a with
  | false => rfl
  | true =>
    rcases lt_total a b with q | q | q
    · rw [lt_trans e q] at k; cases k
    · subst q; rw [e] at k; cases k
    · rw [h] at q; cases q

/-- two bytes of a number -/
def n2 (a : Int) : ByteArray := ⟨(Nu.be a.toNat 2).toArray⟩
theorem n2_size (a : Int) : (n2 a).size = 2 := by show (Nu.be a.toNat 2).toArray.size = 2; simp [Nu.be_length]

/-- a tree of height h: a page's number, and its entries, or the trees below it with their keys -/
def Tn : Nat → Type
  | 0 => Int × List Ent
  | h + 1 => Int × List (ByteArray × Tn h)
def Tn.at : {h : Nat} → Tn h → Int
  | 0, t => t.1
  | _ + 1, t => t.1
def Tn.kids {h : Nat} (t : Tn (h + 1)) : List (ByteArray × Tn h) := t.2
def Tn.list (t : Tn 0) : List Ent := t.2
/-- a branch's own entries -/
def ownB {h : Nat} (ks : List (ByteArray × Tn h)) : List Ent := ks.map fun x => ⟨x.1, n2 x.2.at⟩
def Tn.own : {h : Nat} → Tn h → List Ent
  | 0, t => t.2
  | _ + 1, t => ownB t.2
def Tn.kind : {h : Nat} → Tn h → Nat
  | 0, _ => 1
  | _ + 1, _ => 2
def Tn.pg {h : Nat} (t : Tn h) : Nat × List Ent := (t.kind, t.own)
/-- all its pages, with what stands there -/
def Tn.pas : {h : Nat} → Tn h → List (Int × (Nat × List Ent))
  | 0, t => [(t.1, (1, t.2))]
  | _ + 1, t => (t.1, (2, ownB t.2)) :: (t.2.map fun x => x.2.pas).flatten
def Tn.ents : {h : Nat} → Tn h → List Ent
  | 0, t => t.2
  | _ + 1, t => (t.2.map fun x => x.2.ents).flatten
def Tn.pgs {h : Nat} (t : Tn h) : List Int := t.pas.map Prod.fst
/-- of many trees -/
def pasK {h : Nat} (ks : List (ByteArray × Tn h)) : List (Int × (Nat × List Ent)) := (ks.map fun x => x.2.pas).flatten
def entsK {h : Nat} (ks : List (ByteArray × Tn h)) : List Ent := (ks.map fun x => x.2.ents).flatten
def pgsK {h : Nat} (ks : List (ByteArray × Tn h)) : List Int := (pasK ks).map Prod.fst
section
variable {h : Nat} {t : Tn h} {ks A B : List (ByteArray × Tn h)}
theorem ownB_app : ownB (A ++ B) = ownB A ++ ownB B := by simp [ownB]
theorem ownB_cons (x : ByteArray × Tn h) : ownB (x :: B) = ⟨x.1, n2 x.2.at⟩ :: ownB B := rfl
theorem ownB_len : (ownB ks).length = ks.length := by simp [ownB]
theorem pasK_app : pasK (A ++ B) = pasK A ++ pasK B := by simp [pasK]
theorem pasK_cons (x : ByteArray × Tn h) : pasK (x :: B) = x.2.pas ++ pasK B := by simp [pasK]
theorem entsK_app : entsK (A ++ B) = entsK A ++ entsK B := by simp [entsK]
theorem entsK_cons (x : ByteArray × Tn h) : entsK (x :: B) = x.2.ents ++ entsK B := by simp [entsK]
theorem pgsK_app : pgsK (A ++ B) = pgsK A ++ pgsK B := by simp [pgsK, pasK_app]
theorem pgsK_cons (x : ByteArray × Tn h) : pgsK (x :: B) = x.2.pgs ++ pgsK B := by simp [pgsK, pasK_cons, Tn.pgs]
theorem pas_br (t : Tn (h + 1)) : t.pas = (t.at, (2, ownB t.kids)) :: pasK t.kids := rfl
theorem pgs_br (t : Tn (h + 1)) : t.pgs = t.at :: pgsK t.kids := rfl
theorem ents_br (t : Tn (h + 1)) : t.ents = entsK t.kids := rfl
theorem pas_hd : ∃ r, t.pas = (t.at, t.pg) :: r := by cases h <;> exact ⟨_, rfl⟩
theorem at_mem : t.at ∈ t.pgs := by obtain ⟨r, h⟩ := pas_hd (t := t); unfold Tn.pgs; rw [h]; simp
end

/-- a key above none and below another one (or none) -/
def ltO (k : ByteArray) : Option ByteArray → Prop
  | none => True
  | some u => lt k u = true
def inR (lo : ByteArray) (hi : Option ByteArray) (k : ByteArray) : Prop := lt k lo = false ∧ ltO k hi
def nxt {α : Type} (r : List (ByteArray × α)) (hi : Option ByteArray) : Option ByteArray :=
  match r with
  | [] => hi
  | x :: _ => some x.1
/-- trees side by side: each is right between its own key and the next one's -/
def Ch {α : Type} (G : ByteArray → Option ByteArray → α → Prop) (P : α → α → Prop) (K : Nat) (hi : Option ByteArray) : List (ByteArray × α) → Prop
  | [] => True
  | x :: r => x.1.size ≤ K ∧ ltO x.1 (nxt r hi) ∧ G x.1 (nxt r hi) x.2 ∧ (∀ y, r.head? = some y → P x.2 y.2) ∧ Ch G P K hi r
structure GoodL (K : Nat) (lo : ByteArray) (hi : Option ByteArray) (l : List Ent) : Prop where
  ck : ckE none l = 0
  fit : 2 + sumE l ≤ 256
  rg : ∀ x ∈ l, inR lo hi x.k ∧ x.k.size ≤ K ∧ 0 < x.k.size
def Tn.cnt {h : Nat} (t : Tn h) : Nat := t.own.length
/-- two trees side by side: branches have so many entries together -/
def Pair (c : Nat) : {h : Nat} → Tn h → Tn h → Prop
  | 0, _, _ => True
  | _ + 1, s, t => c ≤ s.cnt + t.cnt
/-- a tree is right between two keys; a branch begins with the first of them -/
def Good (K c : Nat) : (h : Nat) → ByteArray → Option ByteArray → Tn h → Prop
  | 0, lo, hi, t => GoodL K lo hi t.2
  | h + 1, lo, hi, t => nxt t.2 none = some lo ∧ 2 + sumE (ownB t.2) ≤ 256 ∧ Ch (fun k u x => Good K c h k u x ∧ x.cnt ≠ 0) (Pair c) K hi t.2
/-- those side by side -/
def ChG (K c : Nat) {h : Nat} (hi : Option ByteArray) (ks : List (ByteArray × Tn h)) : Prop := Ch (fun k u x => Good K c h k u x ∧ x.cnt ≠ 0) (Pair c) K hi ks

section
variable {α : Type} {G : ByteArray → Option ByteArray → α → Prop} {P : α → α → Prop} {K : Nat}
theorem nxt_app (A B : List (ByteArray × α)) (hi : Option ByteArray) : nxt (A ++ B) hi = nxt A (nxt B hi) := by cases A <;> rfl
theorem ch_app {A B : List (ByteArray × α)} {hi : Option ByteArray} : Ch G P K hi (A ++ B) ↔ Ch G P K (nxt B hi) A ∧ Ch G P K hi B ∧ ∀ x y, A.getLast? = some x → B.head? = some y → P x.2 y.2 := by
  induction A with
  | nil => simp [Ch]
  | cons a r ih =>
    rw [List.cons_append]
    simp only [Ch]
    rw [ih, nxt_app]
    cases r with
    | nil =>
      simp only [List.nil_append, nxt, Ch, List.head?_nil, List.getLast?_singleton]
      constructor
      · rintro ⟨h1, h2, h3, h4, _, h5, _⟩
        exact ⟨⟨h1, h2, h3, (fun y e => by cases e), trivial⟩, h5, (fun x y e1 e2 => by cases e1; exact h4 y e2)⟩
      · rintro ⟨⟨h1, h2, h3, _, _⟩, h5, h6⟩
        exact ⟨h1, h2, h3, (fun y e => h6 _ _ rfl e), trivial, h5, (fun x y e => by cases e)⟩
    | cons b r2 =>
      simp only [List.cons_append, List.head?_cons, List.getLast?_cons_cons]
      constructor
      · rintro ⟨h1, h2, h3, h4, h5, h6, h7⟩
        exact ⟨⟨h1, h2, h3, h4, h5⟩, h6, h7⟩
      · rintro ⟨⟨h1, h2, h3, h4, h5⟩, h6, h7⟩
        exact ⟨h1, h2, h3, h4, h5, h6, h7⟩
end
theorem ltO_mono {k : ByteArray} {u v : Option ByteArray} (h : ltO k u) (e : ∀ b, v = some b → ∃ a, u = some a ∧ lt b a = false) : ltO k v := by
  cases v with
  | none => trivial
  | some b =>
    obtain ⟨a, rfl, ha⟩ := e b rfl
    show lt k b = true
    rcases lt_total a b with q | q | q
    · exact lt_trans h q
    · subst q; exact h
    · rw [ha] at q; cases q

end Go.Proofs.YtjcbaiohpdihoaaGreatDoor

namespace Go.Proofs.YtjcbaiohpdihoaaGreatDoor
open Lf
set_option linter.unusedVariables false
set_option linter.unusedSimpArgs false
set_option maxRecDepth 100000

theorem ltO_trans {a k : ByteArray} {u : Option ByteArray} (h : lt a k = true) (g : ltO k u) : ltO a u := by
  cases u with
  | none => trivial
  | some b => exact lt_trans h g
theorem ltO_le {a k : ByteArray} {u : Option ByteArray} (h : lt k a = false) (g : ltO k u) : ltO a u := by
  cases u with
  | none => trivial
  | some b => exact lt_of_le h g
/-- an upper bound is not below another one -/
def geO (u v : Option ByteArray) : Prop := ∀ k, ltO k u → ltO k v
theorem geO.refl (u : Option ByteArray) : geO u u := fun _ h => h
theorem geO.none (u : Option ByteArray) : geO u none := fun _ _ => trivial
theorem geO.some {a b : ByteArray} (h : lt b a = false) : geO (some a) (some b) := fun k hk => by
  show lt k b = true
  rcases lt_total a b with q | q | q
  · exact lt_trans hk q
  · subst q; exact hk
  · rw [h] at q; cases q
theorem geO.nxt {α : Type} (r : List (ByteArray × α)) {u v : Option ByteArray} (h : geO u v) : geO (nxt r u) (nxt r v) := by
  cases r with
  | nil => exact h
  | cons x r => exact fun _ h => h
section
variable {α : Type} {G G' : ByteArray → Option ByteArray → α → Prop} {P : α → α → Prop} {K : Nat}
theorem Ch.imp {hi : Option ByteArray} : ∀ {L : List (ByteArray × α)}, Ch G P K hi L → (∀ k u x, G k u x → G' k u x) → Ch G' P K hi L
  | [], _, _ => trivial
  | x :: r, ⟨h1, h2, h3, h4, h5⟩, g => ⟨h1, h2, g _ _ _ h3, h4, h5.imp g⟩
theorem Ch.hi {u v : Option ByteArray} (hg : ∀ k x, G k u x → G k v x) (hl : geO u v) : ∀ {L : List (ByteArray × α)}, Ch G P K u L → Ch G P K v L
  | [], _ => trivial
  | [x], ⟨h1, h2, h3, h4, h5⟩ => ⟨h1, hl _ h2, hg _ _ h3, h4, trivial⟩
  | x :: y :: r, ⟨h1, h2, h3, h4, h5⟩ => ⟨h1, h2, h3, h4, Ch.hi hg hl h5⟩
theorem Ch.lows {hi : Option ByteArray} : ∀ {x : ByteArray × α} {L : List (ByteArray × α)}, Ch G P K hi (x :: L) → ∀ y ∈ L, lt x.1 y.1 = true
  | x, [], _, y, hy => by cases hy
  | x, z :: r, ⟨_, h2, _, _, h5⟩, y, hy => by
    rcases List.mem_cons.1 hy with rfl | hy
    · exact h2
    · exact lt_trans h2 (Ch.lows h5 y hy)
theorem Ch.his {hi : Option ByteArray} : ∀ {L : List (ByteArray × α)}, Ch G P K hi L → ∀ y ∈ L, ltO y.1 hi ∧ y.1.size ≤ K
  | [], _, y, hy => by cases hy
  | [x], ⟨h1, h2, _, _, _⟩, y, hy => by
    rcases List.mem_cons.1 hy with rfl | hy
    · exact ⟨h2, h1⟩
    · cases hy
  | x :: z :: r, ⟨h1, h2, _, _, h5⟩, y, hy => by
    rcases List.mem_cons.1 hy with rfl | hy
    · exact ⟨ltO_trans h2 (Ch.his h5 z List.mem_cons_self).1, h1⟩
    · exact Ch.his h5 y hy
theorem Ch.sorted {hi : Option ByteArray} : ∀ {L : List (ByteArray × α)}, Ch G P K hi L → L.Pairwise (fun x y => lt x.1 y.1 = true)
  | [], _ => List.Pairwise.nil
  | x :: r, h => List.pairwise_cons.2 ⟨h.lows, Ch.sorted h.2.2.2.2⟩
theorem Ch.all {hi : Option ByteArray} : ∀ {L : List (ByteArray × α)}, Ch G P K hi L → ∀ y ∈ L, ∃ u, G y.1 u y.2
  | [], _, y, hy => by cases hy
  | x :: r, h, y, hy => by
    rcases List.mem_cons.1 hy with rfl | hy
    · exact ⟨_, h.2.2.1⟩
    · exact Ch.all h.2.2.2.2 y hy
end
section
variable {K c : Nat}
theorem GoodL.hi {lo : ByteArray} {u v : Option ByteArray} {l : List Ent} (h : GoodL K lo u l) (g : geO u v) : GoodL K lo v l := ⟨h.ck, h.fit, fun x hx => ⟨⟨(h.rg x hx).1.1, g _ (h.rg x hx).1.2⟩, (h.rg x hx).2⟩⟩
theorem GoodL.lo {a b : ByteArray} {u : Option ByteArray} {l : List Ent} (h : GoodL K a u l) (g : lt a b = false) : GoodL K b u l := ⟨h.ck, h.fit, fun x hx => ⟨⟨le_trans' g (h.rg x hx).1.1, (h.rg x hx).1.2⟩, (h.rg x hx).2⟩⟩
theorem Good.hi : ∀ {h : Nat} {lo : ByteArray} {u v : Option ByteArray} {t : Tn h}, Good K c h lo u t → geO u v → Good K c h lo v t
  | 0, lo, u, v, t, hg, g => GoodL.hi hg g
  | h + 1, lo, u, v, t, ⟨h1, h2, h3⟩, g => ⟨h1, h2, Ch.hi (fun k x hx => ⟨Good.hi hx.1 g, hx.2⟩) g h3⟩
theorem ChG.hi {h : Nat} {u v : Option ByteArray} {ks : List (ByteArray × Tn h)} (hg : ChG K c u ks) (g : geO u v) : ChG K c v ks := Ch.hi (fun k x hx => ⟨hx.1.hi g, hx.2⟩) g hg
theorem chg_app {h : Nat} {A B : List (ByteArray × Tn h)} {hi : Option ByteArray} : ChG K c hi (A ++ B) ↔ ChG K c (nxt B hi) A ∧ ChG K c hi B ∧ ∀ x y, A.getLast? = some x → B.head? = some y → Pair c x.2 y.2 := ch_app
theorem chg_cons {h : Nat} {x : ByteArray × Tn h} {B : List (ByteArray × Tn h)} {hi : Option ByteArray} : ChG K c hi (x :: B) ↔ x.1.size ≤ K ∧ ltO x.1 (nxt B hi) ∧ (Good K c h x.1 (nxt B hi) x.2 ∧ x.2.cnt ≠ 0) ∧ (∀ y, B.head? = some y → Pair c x.2 y.2) ∧ ChG K c hi B := Iff.rfl
theorem good_br {h : Nat} {lo : ByteArray} {hi : Option ByteArray} {t : Tn (h + 1)} : Good K c (h + 1) lo hi t ↔ nxt t.kids none = some lo ∧ 2 + sumE (ownB t.kids) ≤ 256 ∧ ChG K c hi t.kids := Iff.rfl
theorem good_lf {lo : ByteArray} {hi : Option ByteArray} {t : Tn 0} : Good K c 0 lo hi t ↔ GoodL K lo hi t.list := Iff.rfl
/-- the entries of right trees are in order, and lie between -/
def Srt (l : List Ent) : Prop := l.Pairwise (fun x y => lt x.k y.k = true)
theorem srt_app {a b : List Ent} : Srt (a ++ b) ↔ Srt a ∧ Srt b ∧ ∀ x ∈ a, ∀ y ∈ b, lt x.k y.k = true := List.pairwise_append
/-- an entry that a tree may hold -/
def EOk (K : Nat) (x : Ent) : Prop := x.k.size ≤ K ∧ x.k.size ≤ 32 ∧ x.v.size ≤ 64 ∧ 0 < x.k.size
theorem lt_of_le_r {a b d : ByteArray} (h : lt a b = true) (k : lt d b = false) : lt a d = true := by
  rcases lt_total b d with e | e | e
  · exact lt_trans h e
  · subst e; exact h
  · rw [k] at e; cases e
theorem chg_ents {h : Nat} (ih : ∀ {lo : ByteArray} {hi : Option ByteArray} {t : Tn h}, Good K c h lo hi t → Srt t.ents ∧ ∀ x ∈ t.ents, inR lo hi x.k ∧ EOk K x) :
    ∀ {ks : List (ByteArray × Tn h)} {hi : Option ByteArray}, ChG K c hi ks → Srt (entsK ks) ∧ ∀ x ∈ entsK ks, (∀ k, nxt ks none = some k → lt x.k k = false) ∧ ltO x.k hi ∧ EOk K x
  | [], hi, _ => ⟨List.Pairwise.nil, fun x hx => by cases hx⟩
  | y :: r, hi, hc => by
    obtain ⟨h1, h2, ⟨h3, _⟩, h4, h5⟩ := chg_cons.1 hc
    obtain ⟨g1, g2⟩ := ih h3
    obtain ⟨g3, g4⟩ := chg_ents ih h5
    rw [entsK_cons]
    refine ⟨srt_app.2 ⟨g1, g3, fun a ha b hb => ?_⟩, fun x hx => ?_⟩
    · cases r with
      | nil => cases hb
      | cons z r => exact lt_of_le_r (g2 a ha).1.2 ((g4 b hb).1 _ rfl)
    · rcases List.mem_append.1 hx with hy | hy
      · have hh := g2 x hy
        refine ⟨(fun k e => by cases e; exact hh.1.1), ?_, hh.2⟩
        cases r with
        | nil => exact hh.1.2
        | cons z r => exact ltO_trans hh.1.2 (Ch.his h5 z List.mem_cons_self).1
      · have hh := g4 x hy
        refine ⟨fun k e => ?_, hh.2.1, hh.2.2⟩
        cases e
        cases r with
        | nil => cases hy
        | cons z r => exact lt_asymm (lt_of_le_r h2 (hh.1 _ rfl))
theorem Good.ents : ∀ {h : Nat} {lo : ByteArray} {hi : Option ByteArray} {t : Tn h}, Good K c h lo hi t → Srt t.ents ∧ ∀ x ∈ t.ents, inR lo hi x.k ∧ EOk K x
  | 0, lo, hi, t, hg => ⟨(ck_iff.1 hg.ck).2, fun x hx => ⟨(hg.rg x hx).1, (hg.rg x hx).2.1, ((ck_iff.1 hg.ck).1 x hx).1, ((ck_iff.1 hg.ck).1 x hx).2, (hg.rg x hx).2.2⟩⟩
  | h + 1, lo, hi, t, hg => by
    obtain ⟨h1, h2, h3⟩ := good_br.1 hg
    obtain ⟨g1, g2⟩ := chg_ents Good.ents h3
    exact ⟨g1, fun x hx => ⟨⟨(g2 x hx).1 _ h1, (g2 x hx).2.1⟩, (g2 x hx).2.2⟩⟩
theorem ChG.ents {h : Nat} {ks : List (ByteArray × Tn h)} {hi : Option ByteArray} (hc : ChG K c hi ks) : Srt (entsK ks) ∧ ∀ x ∈ entsK ks, (∀ k, nxt ks none = some k → lt x.k k = false) ∧ ltO x.k hi ∧ EOk K x := chg_ents Good.ents hc
/-- a branch's own entries are right -/
theorem ownB_ck {h : Nat} {ks : List (ByteArray × Tn h)} {hi : Option ByteArray} (hK : K ≤ 32) (hc : ChG K c hi ks) : ckE none (ownB ks) = 0 := by
  refine ck_iff.2 ⟨fun x hx => ?_, ?_⟩
  · obtain ⟨y, hy, rfl⟩ := List.mem_map.1 hx
    have := (Ch.his hc y hy).2
    exact ⟨Nat.le_trans this hK, by show (n2 _).size ≤ 64; rw [n2_size]; decide⟩
  · have := Ch.sorted hc
    exact List.pairwise_map.2 this
theorem ownB_sz {h : Nat} {ks : List (ByteArray × Tn h)} {hi : Option ByteArray} (hc : ChG K c hi ks) : ∀ x ∈ ownB ks, x.sz ≤ 4 + K := fun x hx => by
  obtain ⟨y, hy, rfl⟩ := List.mem_map.1 hx
  have h1 := (Ch.his hc y hy).2
  show 2 + y.1.size + (n2 y.2.at).size ≤ _
  rw [n2_size]
  omega
end

end Go.Proofs.YtjcbaiohpdihoaaGreatDoor

namespace Go.Proofs.YtjcbaiohpdihoaaGreatDoor
open Lf
set_option linter.unusedVariables false
set_option linter.unusedSimpArgs false
set_option maxRecDepth 100000

theorem putL_mid {X Y Z : List Ent} {key value : ByteArray} (hX : ∀ x ∈ X, lt x.k key = true) (hZ : ∀ z ∈ Z, lt key z.k = true) : putL (X ++ Y ++ Z) key value = X ++ putL Y key value ++ Z := by
  have h1 : X.filter (fun x => lt x.k key) = X := List.filter_eq_self.2 hX
  have h2 : Z.filter (fun x => lt x.k key) = [] := List.filter_eq_nil_iff.2 fun z hz => by rw [lt_asymm (hZ z hz)]; simp
  have h3 : X.filter (fun x => lt key x.k) = [] := List.filter_eq_nil_iff.2 fun x hx => by rw [lt_asymm (hX x hx)]; simp
  have h4 : Z.filter (fun x => lt key x.k) = Z := List.filter_eq_self.2 hZ
  unfold putL Lf.below Lf.above
  simp only [List.filter_append, h1, h2, h3, h4, List.append_nil, List.nil_append, List.append_assoc]
theorem putL_mem {L : List Ent} {x y : Ent} (hy : y ∈ putL L x.k x.v) : y = x ∨ y ∈ L := by
  unfold putL at hy
  rcases List.mem_append.1 hy with hy | hy
  · rcases List.mem_append.1 hy with hy | hy
    · exact .inr (List.mem_filter.1 hy).1
    · exact .inl (List.mem_singleton.1 hy)
  · exact .inr (List.mem_filter.1 hy).1
theorem putL_has {L : List Ent} {x : Ent} : x ∈ putL L x.k x.v := by
  unfold putL
  exact List.mem_append_left _ (List.mem_append_right _ (List.mem_singleton.2 rfl))
theorem sum_filters {L : List Ent} {p q : Ent → Bool} (h : ∀ x, p x = true → q x = false) : sumE (L.filter p) + sumE (L.filter q) ≤ sumE L := by
  induction L with
  | nil => simp [sumE]
  | cons x r ih =>
    rw [sumE_cons]
    cases hp : p x with
    | true =>
      have hq := h x hp
      simp only [List.filter_cons, hp, hq]
      simp only [if_true, Bool.false_eq_true, if_false]
      rw [sumE_cons]
      omega
    | false =>
      cases hq : q x with
      | true =>
        simp only [List.filter_cons, hp, hq]
        simp only [if_true, Bool.false_eq_true, if_false]
        rw [sumE_cons]
        omega
      | false =>
        simp only [List.filter_cons, hp, hq]
        simp only [Bool.false_eq_true, if_false]
        omega
theorem putL_sum (L : List Ent) (x : Ent) : sumE (putL L x.k x.v) ≤ sumE L + x.sz := by
  have h := @sum_filters L (fun y => lt y.k x.k) (fun y => lt x.k y.k) (fun y hy => lt_asymm hy)
  unfold putL Lf.below Lf.above
  rw [sumE_append, sumE_append, sumE_cons]
  have e : sumE ([] : List Ent) = 0 := rfl
  rw [e]
  have e2 : Ent.sz ⟨x.k, x.v⟩ = x.sz := rfl
  omega
theorem putL_srt {L : List Ent} (h : Srt L) (x : Ent) : Srt (putL L x.k x.v) := by
  unfold putL
  refine srt_app.2 ⟨srt_app.2 ⟨List.Pairwise.filter _ h, List.pairwise_singleton _ _, fun a ha b hb => ?_⟩, List.Pairwise.filter _ h, fun a ha b hb => ?_⟩
  · cases List.mem_singleton.1 hb
    exact (List.mem_filter.1 ha).2
  · have h2 := (List.mem_filter.1 hb).2
    rcases List.mem_append.1 ha with ha | ha
    · exact lt_trans (List.mem_filter.1 ha).2 h2
    · cases List.mem_singleton.1 ha
      exact h2
section
variable {K c : Nat}
theorem put_leaf {lo : ByteArray} {hi : Option ByteArray} {l : List Ent} {x : Ent} (h : GoodL K lo hi l) (hx : EOk K x) (hr : inR lo hi x.k) :
    ckE none (putL l x.k x.v) = 0 ∧ (∀ y ∈ putL l x.k x.v, inR lo hi y.k ∧ y.k.size ≤ K ∧ 0 < y.k.size) ∧ 2 + sumE (putL l x.k x.v) ≤ 256 + x.sz := by
  obtain ⟨h1, h2⟩ := ck_iff.1 h.ck
  refine ⟨ck_iff.2 ⟨fun y hy => ?_, putL_srt h2 x⟩, fun y hy => ?_, ?_⟩
  · rcases putL_mem hy with rfl | hy
    · exact ⟨hx.2.1, hx.2.2.1⟩
    · exact h1 y hy
  · rcases putL_mem hy with rfl | hy
    · exact ⟨hr, hx.1, hx.2.2.2⟩
    · exact h.rg y hy
  · have := putL_sum l x
    have := h.fit
    omega
theorem sz_98 {L : List Ent} (hc : ckE none L = 0) : ∀ x ∈ L, x.sz ≤ 98 := fun x hx => by
  have := (ck_iff.1 hc).1 x hx
  unfold Ent.sz
  omega
theorem cut_two {L : List Ent} {k : Nat} {x : Ent} (hc : ckE none L = 0) (hk : cutAt L k) (hx : x ∈ L) (hi : 2 + sumE L ≤ 256 + x.sz) (hb : ¬ 2 + sumE L ≤ 256) :
    1 ≤ k ∧ k < L.length ∧ 2 + sumE (L.take k) ≤ 256 ∧ 2 + sumE (L.drop k) ≤ 256 := by
  have hs := sz_98 hc
  have h2 : 2 ≤ L.length := by
    have := sum_mul hs
    have : ¬ L.length < 2 := fun h => by
      have : L.length * 98 ≤ 98 := by omega
      omega
    omega
  obtain ⟨i, hi'⟩ := List.mem_iff_getElem?.1 hx
  obtain ⟨a, b⟩ := cut_fits hs h2 hk hi' hi
  rcases hk with ⟨h, _⟩ | ⟨_, h⟩
  · omega
  · exact ⟨h.1, h.2.1, a, b⟩
theorem cut_many {L : List Ent} {k m : Nat} (hs : ∀ x ∈ L, x.sz ≤ m) (hb : ¬ 2 + sumE L ≤ 256) (hk : cutAt L k) (hc : 2 ≤ c) (hm : (c - 2) * m + (c - 1) * m < 255) : c - 1 ≤ k ∧ c - 1 ≤ L.length - k := by
  have hall := sum_mul hs
  have hlen : c ≤ L.length := by
    rcases Nat.lt_or_ge L.length c with h | h
    · have : L.length * m ≤ (c - 1) * m := Nat.mul_le_mul_right _ (by omega)
      omega
    · exact h
  rcases hk with ⟨h, _⟩ | ⟨h2, h1, hkl, hbest, _⟩
  · have : L.length * m ≤ (c - 1) * m := Nat.mul_le_mul_right _ (by omega)
    omega
  have hsp := sum_split L k
  have e1 : (L.take k).length = k := by rw [List.length_take]; omega
  have e2 : (L.drop k).length = L.length - k := List.length_drop
  have m1 : sumE (L.take k) ≤ k * m := by
    have := sum_mul (fun x hx => hs x (List.mem_of_mem_take hx) : ∀ x ∈ L.take k, x.sz ≤ m)
    rw [e1] at this; exact this
  have m2 : sumE (L.drop k) ≤ (L.length - k) * m := by
    have := sum_mul (fun x hx => hs x (List.mem_of_mem_drop hx) : ∀ x ∈ L.drop k, x.sz ≤ m)
    rw [e2] at this; exact this
  constructor
  · rcases Nat.lt_or_ge k (c - 1) with hlt | hge
    · exfalso
      have a1 : k * m ≤ (c - 2) * m := Nat.mul_le_mul_right _ (by omega)
      have hk1 : k + 1 < L.length := by
        rcases Nat.lt_or_ge (k + 1) L.length with h | h
        · exact h
        · have : L.length * m ≤ (c - 1) * m := Nat.mul_le_mul_right _ (by omega)
          omega
      obtain ⟨x, hx⟩ : ∃ x, L[k]? = some x := ⟨_, List.getElem?_eq_getElem hkl⟩
      have hsz := sz_two x
      have s1 := sumE_snoc hx
      have s2 : sumE (L.drop k) = x.sz + sumE (L.drop (k + 1)) := by rw [drop_cons hx, sumE_cons]
      have a2 : sumE (L.take (k + 1)) ≤ (c - 1) * m := by
        have := sum_mul (fun x hx => hs x (List.mem_of_mem_take hx) : ∀ x ∈ L.take (k + 1), x.sz ≤ m)
        have e3 : (L.take (k + 1)).length = k + 1 := by rw [List.length_take]; omega
        rw [e3] at this
        exact Nat.le_trans this (Nat.mul_le_mul_right _ (by omega))
      have := hbest (k + 1) (by omega) hk1
      unfold gre at this
      omega
    · exact hge
  · rcases Nat.lt_or_ge (L.length - k) (c - 1) with hlt | hge
    · exfalso
      have a1 : (L.length - k) * m ≤ (c - 2) * m := Nat.mul_le_mul_right _ (by omega)
      have hk1 : 2 ≤ k := by omega
      obtain ⟨x, hx⟩ : ∃ x, L[k - 1]? = some x := ⟨_, List.getElem?_eq_getElem (by omega)⟩
      have hsz := sz_two x
      have s1 := sumE_snoc hx
      have s2 : sumE (L.drop (k - 1)) = x.sz + sumE (L.drop (k - 1 + 1)) := by rw [drop_cons hx, sumE_cons]
      rw [show k - 1 + 1 = k by omega] at s1 s2
      have a2 : sumE (L.drop (k - 1)) ≤ (c - 1) * m := by
        have := sum_mul (fun x hx => hs x (List.mem_of_mem_drop hx) : ∀ x ∈ L.drop (k - 1), x.sz ≤ m)
        rw [List.length_drop] at this
        exact Nat.le_trans this (Nat.mul_le_mul_right _ (by omega))
      have := hbest (k - 1) (by omega) (by omega)
      unfold gre at this
      omega
    · exact hge
/-- what the bounds on keys and on pairs ask of each other -/
structure KC (K c : Nat) : Prop where
  k32 : K ≤ 32
  c3 : 3 ≤ c
  m : (c - 2) * (4 + K) + (c - 1) * (4 + K) < 255
theorem KC.big : KC 32 5 := ⟨by decide, by decide, by decide⟩
theorem KC.small : KC 8 6 := ⟨by decide, by decide, by decide⟩
/-- a leaf that is too great is cut -/
theorem cut_leaf {lo : ByteArray} {hi : Option ByteArray} {L : List Ent} {k : Nat} {x : Ent} (hc : ckE none L = 0) (hr : ∀ y ∈ L, inR lo hi y.k ∧ y.k.size ≤ K ∧ 0 < y.k.size) (hk : cutAt L k) (hx : x ∈ L) (hi' : 2 + sumE L ≤ 256 + x.sz) (hb : ¬ 2 + sumE L ≤ 256) :
    ∃ y, L[k]? = some y ∧ GoodL K lo (some y.k) (L.take k) ∧ GoodL K y.k hi (L.drop k) ∧ L.take k ≠ [] ∧ L.drop k ≠ [] ∧ lt lo y.k = true ∧ ltO y.k hi ∧ y.k.size ≤ K := by
  obtain ⟨h1, h2, h3, h4⟩ := cut_two hc hk hx hi' hb
  obtain ⟨y, hy⟩ : ∃ y, L[k]? = some y := ⟨_, List.getElem?_eq_getElem h2⟩
  obtain ⟨c1, c2⟩ := ck_iff.1 hc
  have hsp : L = L.take k ++ L.drop k := (List.take_append_drop k L).symm
  have c3 : Srt (L.take k ++ L.drop k) := by rw [← hsp]; exact c2
  obtain ⟨s1, s2, s3⟩ := srt_app.1 c3
  have hd := drop_cons hy
  have hyd : y ∈ L.drop k := by rw [hd]; exact List.mem_cons_self
  have hym : y ∈ L := List.mem_of_mem_drop hyd
  have hne : L.take k ≠ [] := fun e => by
    have := congrArg List.length e
    rw [List.length_take, List.length_nil] at this
    omega
  refine ⟨y, hy, ⟨ck_iff.2 ⟨fun z hz => c1 z (List.mem_of_mem_take hz), s1⟩, h3, fun z hz => ⟨⟨(hr z (List.mem_of_mem_take hz)).1.1, s3 z hz y hyd⟩, (hr z (List.mem_of_mem_take hz)).2⟩⟩, ⟨ck_iff.2 ⟨fun z hz => c1 z (List.mem_of_mem_drop hz), s2⟩, h4, fun z hz => ⟨⟨?_, (hr z (List.mem_of_mem_drop hz)).1.2⟩, (hr z (List.mem_of_mem_drop hz)).2⟩⟩, hne, ?_, ?_, (hr y hym).1.2, (hr y hym).2.1⟩
  · rw [hd] at hz s2
    rcases List.mem_cons.1 hz with rfl | hz
    · exact lt_self _
    · exact lt_asymm ((List.pairwise_cons.1 s2).1 z hz)
  · rw [hd]; simp
  · obtain ⟨z, r, e⟩ : ∃ z r, L.take k = z :: r := by
      cases h : L.take k with
      | nil => exact absurd h hne
      | cons z r => exact ⟨z, r, rfl⟩
    have hz : z ∈ L.take k := by rw [e]; exact List.mem_cons_self
    exact lt_of_le (hr z (List.mem_of_mem_take hz)).1.1 (s3 z hz y hyd)
theorem ownB_take {h : Nat} (ks : List (ByteArray × Tn h)) (j : Nat) : (ownB ks).take j = ownB (ks.take j) := (List.map_take).symm
theorem ownB_drop {h : Nat} (ks : List (ByteArray × Tn h)) (j : Nat) : (ownB ks).drop j = ownB (ks.drop j) := (List.map_drop).symm
/-- a branch that is too great is cut -/
theorem cut_branch {h : Nat} {lo : ByteArray} {hi : Option ByteArray} {ks : List (ByteArray × Tn h)} {j : Nat} {x : Ent} (kc : KC K c) (hc : ChG K c hi ks) (hn : nxt ks none = some lo) (hk : cutAt (ownB ks) j) (hx : x ∈ ownB ks) (hi' : 2 + sumE (ownB ks) ≤ 256 + x.sz) (hb : ¬ 2 + sumE (ownB ks) ≤ 256) (a b : Int) :
    ∃ y, ks[j]? = some y ∧ Good K c (h + 1) lo (some y.1) (show Tn (h + 1) from (a, ks.take j)) ∧ Good K c (h + 1) y.1 hi (show Tn (h + 1) from (b, ks.drop j)) ∧ c - 1 ≤ (ks.take j).length ∧ c - 1 ≤ (ks.drop j).length ∧ lt lo y.1 = true ∧ ltO y.1 hi ∧ y.1.size ≤ K := by
  have hck := ownB_ck kc.k32 hc
  obtain ⟨h1, h2, h3, h4⟩ := cut_two hck hk hx hi' hb
  obtain ⟨h5, h6⟩ := cut_many (c := c) (ownB_sz hc) hb hk (by have := kc.c3; omega) kc.m
  rw [ownB_len] at h2 h6
  rw [ownB_take] at h3
  rw [ownB_drop] at h4
  obtain ⟨y, hy⟩ : ∃ y, ks[j]? = some y := ⟨_, List.getElem?_eq_getElem h2⟩
  have hd := drop_cons hy
  have hc' : ChG K c hi (ks.take j ++ ks.drop j) := by rw [List.take_append_drop]; exact hc
  obtain ⟨g1, g2, _⟩ := chg_app.1 hc'
  have hnx : nxt (ks.drop j) hi = some y.1 := by rw [hd]; rfl
  rw [hnx] at g1
  have hym : y ∈ ks := List.mem_of_getElem? hy
  have hl : nxt (ks.take j) none = some lo ∧ ∃ z, ks.head? = some z ∧ z.1 = lo ∧ ks = z :: ks.tail := by
    cases ks with
    | nil => cases hn
    | cons z r =>
      injection hn with hn
      cases j with
      | zero => omega
      | succ j => exact ⟨congrArg some hn, z, rfl, hn, rfl⟩
  obtain ⟨hl1, z, hz1, hz2, hz3⟩ := hl
  refine ⟨y, hy, good_br.2 ⟨hl1, h3, g1⟩, good_br.2 ⟨by show nxt (ks.drop j) none = _; rw [hd]; rfl, h4, g2⟩, by rw [List.length_take]; omega, by rw [List.length_drop]; omega, ?_, (Ch.his hc y hym).1, (Ch.his hc y hym).2⟩
  rw [hz3] at hc hy
  rw [← hz2]
  refine Ch.lows hc y ?_
  cases j with
  | zero => omega
  | succ j => exact List.mem_of_getElem? hy
theorem Pair.left {h : Nat} {s s' t : Tn h} (hp : Pair c s t) (hl : s.cnt ≤ s'.cnt) : Pair c s' t := by
  cases h with
  | zero => trivial
  | succ h => have hp' : c ≤ s.cnt + t.cnt := hp; show c ≤ s'.cnt + t.cnt; omega
theorem Pair.right {h : Nat} {s t t' : Tn h} (hp : Pair c s t) (hl : t.cnt ≤ t'.cnt) : Pair c s t' := by
  cases h with
  | zero => trivial
  | succ h => have hp' : c ≤ s.cnt + t.cnt := hp; show c ≤ s.cnt + t'.cnt; omega
theorem Pair.of {h : Nat} {s t : Tn h} (hp : 0 < h → c ≤ s.cnt + t.cnt) : Pair c s t := by
  cases h with
  | zero => trivial
  | succ h => exact hp (Nat.succ_pos _)
/-- one of those side by side, in the middle -/
theorem chg_mid {h : Nat} {A B : List (ByteArray × Tn h)} {k : ByteArray} {s : Tn h} {hi : Option ByteArray} :
    ChG K c hi (A ++ (k, s) :: B) ↔ ChG K c (some k) A ∧ (∀ y, A.getLast? = some y → Pair c y.2 s) ∧ k.size ≤ K ∧ ltO k (nxt B hi) ∧ (Good K c h k (nxt B hi) s ∧ s.cnt ≠ 0) ∧ (∀ y, B.head? = some y → Pair c s y.2) ∧ ChG K c hi B := by
  rw [chg_app, chg_cons]
  constructor
  · rintro ⟨h1, ⟨h2, h3, h4, h5, h6⟩, h7⟩
    exact ⟨h1, fun y hy => h7 y _ hy rfl, h2, h3, h4, h5, h6⟩
  · rintro ⟨h1, h2, h3, h4, h5, h6, h7⟩
    exact ⟨h1, ⟨h3, h4, h5, h6, h7⟩, fun x y hx hy => by cases hy; exact h2 x hx⟩
/-- one of those side by side is another one now, of no fewer entries -/
theorem chg_swap {h : Nat} {A B : List (ByteArray × Tn h)} {k : ByteArray} {s s' : Tn h} {hi : Option ByteArray} (hc : ChG K c hi (A ++ (k, s) :: B)) (hg : Good K c h k (nxt B hi) s') (hn : s.cnt ≤ s'.cnt) : ChG K c hi (A ++ (k, s') :: B) := by
  obtain ⟨h1, h2, h3, h4, ⟨h5, h5'⟩, h6, h7⟩ := chg_mid.1 hc
  exact chg_mid.2 ⟨h1, fun y hy => (h2 y hy).right hn, h3, h4, ⟨hg, by omega⟩, fun y hy => (h6 y hy).left hn, h7⟩
/-- one of those side by side has become two -/
theorem chg_split {h : Nat} {A B : List (ByteArray × Tn h)} {k key : ByteArray} {s s1 s2 : Tn h} {hi : Option ByteArray} (hc3 : 3 ≤ c) (hc : ChG K c hi (A ++ (k, s) :: B)) (hg1 : Good K c h k (some key) s1) (hg2 : Good K c h key (nxt B hi) s2) (n1 : s1.cnt ≠ 0) (n2 : s2.cnt ≠ 0) (hn1 : 0 < h → c - 1 ≤ s1.cnt) (hn2 : 0 < h → c - 1 ≤ s2.cnt) (hl : lt k key = true) (hu : ltO key (nxt B hi)) (hK : key.size ≤ K) :
    ChG K c hi (A ++ (k, s1) :: (key, s2) :: B) := by
  obtain ⟨h1, h2, h3, h4, ⟨h5, h5'⟩, h6, h7⟩ := chg_mid.1 hc
  have hA : ∀ y, A.getLast? = some y → y.2.cnt ≠ 0 := fun y hy => by
    obtain ⟨u, hu⟩ := Ch.all h1 y (List.mem_of_getLast? hy)
    exact hu.2
  have hB : ∀ y, B.head? = some y → y.2.cnt ≠ 0 := fun y hy => by
    obtain ⟨u, hu⟩ := Ch.all h7 y (List.mem_of_head? hy)
    exact hu.2
  refine chg_mid.2 ⟨h1, fun y hy => Pair.of fun hp => by have := hA y hy; have := hn1 hp; omega, h3, hl, ⟨hg1, n1⟩, fun y hy => ?_, chg_cons.2 ⟨hK, hu, ⟨hg2, n2⟩, fun y hy => Pair.of (s := s2) fun hp => by have := hB y hy; have := hn2 hp; omega, h7⟩⟩
  cases hy
  exact Pair.of (t := s2) fun hp => by have := hn1 hp; have := hn2 hp; omega
end

end Go.Proofs.YtjcbaiohpdihoaaGreatDoor
