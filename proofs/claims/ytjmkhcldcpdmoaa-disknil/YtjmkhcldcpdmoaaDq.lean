/-
  A disk beside the blocks that it began with; its log, done to them.
-/
import Derived.Test.YtjmkhcldcpdmoaaRo
namespace Go.Proofs.Ytjmkhcldcpdmoaa
open Go.RowKit
set_option linter.unusedVariables false
set_option linter.unusedSimpArgs false
set_option maxRecDepth 100000

def Dq (w0 w : World) (k : Nat) (d : Ds) (v : Value) (L : List ByteArray) : Prop := ∃ S, Dk w S k d ∧ (∀ j, S j → w0.heap.size ≤ j) ∧ Below w0.heap.size w0 w ∧ RowS w w0.heap.size v L ∧ ∀ g, v.ownBlock = some g → ¬ S g
theorem Dq.below {w0 w : World} {k : Nat} {d : Ds} {v : Value} {L : List ByteArray} (h : Dq w0 w k d v L) : Below w0.heap.size w0 w := by
  obtain ⟨S, h1, h2, h3, _⟩ := h
  exact h3
theorem Dq.row {w0 w : World} {k : Nat} {d : Ds} {v : Value} {L : List ByteArray} (h : Dq w0 w k d v L) : RowS w w0.heap.size v L := by
  obtain ⟨S, h1, h2, h3, h4, _⟩ := h
  exact h4
theorem Dq.on {w0 w w' : World} {k : Nat} {d : Ds} {v : Value} {L : List ByteArray} (h : Dq w0 w k d v L) (hb : Below w.heap.size w w') : Dq w0 w' k d v L := by
  obtain ⟨S, h1, h2, h3, h4, h5⟩ := h
  exact ⟨S, h1.on hb, h2, h3.trans (hb.mono h3.size), h4.on hb, h5⟩
theorem Dq.put {w0 w : World} {k g n c : Nat} {d : Ds} {L : List ByteArray} (h : Dq w0 w k d (.slice (some ⟨g, 0, none⟩) n c) L) (hn : L.length = n) (i : Nat) (s : ByteArray) : Dq w0 (w.setCell ⟨g, i, none⟩ (.string s)) k d (.slice (some ⟨g, 0, none⟩) n c) (L.set i s) := by
  obtain ⟨S, h1, h2, h3, h4, h5⟩ := h
  have hg : w0.heap.size ≤ g := ((h4 : w.ownsRow w0.heap.size 9 1 _ _ _).lt g rfl).1
  refine ⟨S, (Keep.grown (S := fun j => j = g) (set_grown w g i (.string s)) (fun j hj => (Option.some.inj hj).symm)).dk h1 (fun j hj e => h5 g rfl (e ▸ hj)), h2, h3.setCell (p := ⟨g, i, none⟩) hg _, ?_, h5⟩
  have h6 := h4
  unfold RowS at h6 ⊢
  rw [hn] at h6
  have := own_set h6 i (.string s)
  rw [flatS_set] at this
  rw [List.length_set, hn]
  exact this

theorem of_dq (w0 w : World) (v : Value) (bs : List ByteArray) (hv : RowS w w0.heap.size v bs) (hb : Below w0.heap.size w0 w) (hl : bs.length = 64) (hs : ∀ s ∈ bs, s.size = 256) : Calls Try.prog 21 #[v] w fun e w' => ∃ k, e = .returned (.tuple #[.pointer (some ⟨k, 0, none⟩), .int .i64 0]) ∧ Dq w0 w' k ⟨bs, [], -1, false⟩ v bs := by
  refine (of_any w w0.heap.size v bs hv (by omega) (fun s h => by rw [hs s h]; decide)).mono fun e w' ⟨hb2, h⟩ => ?_
  have h0 : ofE bs = 0 := by
    unfold ofE
    rw [if_neg (by omega), if_pos (List.all_eq_true.2 fun s h => by simpa using hs s h)]
  obtain ⟨_, k, he, hd⟩ := h.resolve_left (fun h => h.1 h0)
  refine ⟨k, he, _, hd, fun j hj => Nat.le_trans hb.size hj.1, hb.trans (hb2.mono hb.size), hv.on hb2, fun g hg hs => ?_⟩
  have := ((hv : w.ownsRow w0.heap.size 9 1 v _ _).lt g hg).2
  have := hs.1
  omega
theorem write_dq (a : Int) (s : ByteArray) (w0 w : World) (k : Nat) (d : Ds) (v : Value) (L : List ByteArray) (h : Dq w0 w k d v L) (hz : (d.lg.length + 1) * 24 ≤ 140737488355328) : Calls Try.prog 17 #[.pointer (some ⟨k, 0, none⟩), .int .i64 a, .string s] w fun e w' => e = .returned (.int .i64 (d.wrE a s : Nat)) ∧ Dq w0 w' k (d.wr a s) v L := by
  obtain ⟨S, h1, h2, h3, h4, h5⟩ := h
  exact (write_any a s w S k d h1 hz).mono fun e w' ⟨he, S', hd, hk, hg⟩ => ⟨he, S', hd, fun j hj => (hg j hj).elim (h2 j) (fun h => Nat.le_trans h3.size h), h3.trans (hk.below h2 h3.size), hk.row h4 h5, fun g hgv hs => (hg g hs).elim (h5 g hgv) (fun h => by have := ((h4 : w.ownsRow w0.heap.size 9 1 v _ _).lt g hgv).2; omega)⟩
theorem log_dq (w0 w : World) (k : Nat) (d : Ds) (v : Value) (L : List ByteArray) (h : Dq w0 w k d v L) (hz : d.lg.length * 24 ≤ 140737488355328) : Calls Try.prog 13 #[.pointer (some ⟨k, 0, none⟩)] w fun e w' => ∃ v', e = .returned v' ∧ RowP w' w.heap.size v' d.lg ∧ Dq w0 w' k d v L := by
  obtain ⟨S, h1, _⟩ := id h
  exact (log_any w S k d h1 hz).mono fun e w' ⟨v', he, hr, hb⟩ => ⟨v', he, hr, h.on hb⟩
theorem image_dq (w0 w : World) (k : Nat) (d : Ds) (v : Value) (L : List ByteArray) (h : Dq w0 w k d v L) : Calls Try.prog 15 #[.pointer (some ⟨k, 0, none⟩)] w fun e w' => ∃ v', e = .returned v' ∧ RowS w' w.heap.size v' d.bs ∧ Dq w0 w' k d v L := by
  obtain ⟨S, h1, _⟩ := id h
  exact (image_any w S k d h1).mono fun e w' ⟨v', he, hr, hb⟩ => ⟨v', he, hr, h.on hb⟩

/-- writes, done to blocks -/
def appl (bs : List ByteArray) (lg : List Pg) : List ByteArray := lg.foldl (fun b p => b.set p.pl.toNat p.data) bs
theorem appl_len (lg : List Pg) : ∀ bs, (appl bs lg).length = bs.length := by
  induction lg with
  | nil => intro bs; rfl
  | cons p r ih => intro bs; show (appl (bs.set p.pl.toNat p.data) r).length = _; rw [ih]; simp
theorem appl_snoc (bs : List ByteArray) (lg : List Pg) (p : Pg) : appl bs (lg ++ [p]) = (appl bs lg).set p.pl.toNat p.data := by
  unfold appl
  rw [List.foldl_append]
  rfl
/-- i writes were done, all of them; done to the blocks it began with they make the image -/
structure LogOk (bs : List ByteArray) (i : Nat) (d : Ds) : Prop where
  dn : d.dn = false
  lf : d.lf = -1
  len : d.bs.length = 64
  cnt : d.lg.length = i
  app : appl bs d.lg = d.bs
theorem LogOk.wr {bs : List ByteArray} {i : Nat} {d : Ds} (h : LogOk bs i d) (q : Nat) (hq : q < 64) (s : ByteArray) (hs : s.size = 256) : LogOk bs (i + 1) (d.wr (q : Int) s) := by
  have ho : ¬ d.out (q : Int) := by unfold Ds.out; have := h.len; omega
  rw [(Ds.wrE_ok h.dn ho hs (by rw [h.lf]; decide)).2]
  refine ⟨h.dn, ?_, ?_, ?_, ?_⟩
  · simp only [Ds.put]; rw [h.lf]; rfl
  · simp only [Ds.put, List.length_set]; exact h.len
  · simp only [Ds.put, List.length_append, List.length_singleton]; rw [h.cnt]
  · simp only [Ds.put]; rw [appl_snoc, h.app]

end Go.Proofs.Ytjmkhcldcpdmoaa
