/-
  What a net finds, as plain lists; a nil net; how many rules.
-/
import Derived.Test.YtpflbdkbbkobbaaAll
namespace Go.Proofs.Ytpflbdkbbkobbaa
open Go.RowKit Go.Maps Go.Shelf
attribute [local go_sem] Oper.semAt_some
set_option linter.unusedVariables false
set_option maxRecDepth 100000
set_option linter.unusedSimpArgs false

theorem may_of {rs : List Rl} {t : List Cl} {x : Fin rs.length} {b : List Bd} (h : mt (rs.get x).l t = some b) : may (keysR rs) [] t x.val = true := by
  obtain ⟨h1, h2, h3⟩ := mt_some h
  have := fit_shp _ _ _ _ (cellsErr_zero.1 (check_zero h1).2.1) h3
  unfold may keysR
  rw [List.getElem?_map, List.getElem?_eq_getElem x.isLt]
  simpa using this
theorem mt_bad {L t : List Cl} (h : check t ≠ 0) : mt L t = none := by
  cases e : mt L t with
  | none => rfl
  | some b => exact absurd (mt_some e).2.1 h
def fstL (t : List Cl) : List Rl → Option (Int × List Bd)
  | [] => none
  | r :: rs => match mt r.l t with | some b => some (r.id, b) | none => fstL t rs
def allL (t : List Cl) (rs : List Rl) : List Int := (rs.filter fun r => (mt r.l t).isSome).map (·.id)
theorem fst1_L (rs : List Rl) (t : List Cl) : ∀ l : List (Fin rs.length), fst1 rs t l = fstL t (l.map rs.get)
  | [] => rfl
  | x :: l => by
    unfold fst1
    rw [List.map_cons, fstL, fst1_L rs t l]
    cases mt (rs.get x).l t <;> rfl
theorem fin_get (rs : List Rl) : (List.finRange rs.length).map rs.get = rs := by
  apply List.ext_getElem
  · simp
  · intro i h1 h2; simp
theorem fst1_filter (rs : List Rl) (t : List Cl) (p : Fin rs.length → Bool) (hp : ∀ x, p x = false → mt (rs.get x).l t = none) : ∀ l : List (Fin rs.length), fst1 rs t (l.filter p) = fst1 rs t l
  | [] => rfl
  | x :: l => by
    cases h : p x with
    | true =>
      rw [List.filter_cons_of_pos h]
      unfold fst1
      rw [fst1_filter rs t p hp l]
    | false =>
      rw [List.filter_cons_of_neg (by rw [h]; decide), fst1_filter rs t p hp l]
      conv => rhs; unfold fst1
      rw [hp x h]
theorem not_may {rs : List Rl} {t : List Cl} (x : Fin rs.length) (h : may (keysR rs) [] t x.val = false) : mt (rs.get x).l t = none := by
  cases e : mt (rs.get x).l t with
  | none => rfl
  | some b => rw [may_of e] at h; cases h
theorem fst_plcs (rs : List Rl) (t : List Cl) : fst1 rs t (plcsC rs t) = fstL t rs := by
  unfold plcsC
  split
  · unfold plcs
    rw [fst1_filter rs t _ (fun x h => not_may x h), fst1_L, fin_get]
  · rename_i h
    have : ∀ l : List Rl, fstL t l = none := fun l => by
      induction l with
      | nil => rfl
      | cons r l ih => unfold fstL; rw [mt_bad h]; exact ih
    rw [this]; rfl
theorem all_plcs (rs : List Rl) (t : List Cl) : all1 rs t (plcsC rs t) = allL t rs := by
  have key : ∀ l : List (Fin rs.length), (l.filter fun x => (mt (rs.get x).l t).isSome).map (fun x => (rs.get x).id) = allL t (l.map rs.get) := fun l => by
    induction l with
    | nil => rfl
    | cons x l ih =>
      unfold allL at ih ⊢
      rw [List.map_cons]
      cases h : (mt (rs.get x).l t).isSome
      · rw [List.filter_cons_of_neg (by rw [h]; decide), List.filter_cons_of_neg (by rw [h]; decide)]; exact ih
      · rw [List.filter_cons_of_pos (p := fun x => (mt (rs.get x).l t).isSome) h, List.filter_cons_of_pos (p := fun r : Rl => (mt r.l t).isSome) h, List.map_cons, List.map_cons, ih]
  unfold plcsC
  split
  · unfold all1 plcs
    rw [List.filter_filter]
    have e : (fun x : Fin rs.length => (mt (rs.get x).l t).isSome && may (keysR rs) [] t x.val) = fun x => (mt (rs.get x).l t).isSome := by
      funext x
      cases h : may (keysR rs) [] t x.val with
      | true => simp
      | false => rw [not_may x h]; rfl
    rw [e, key, fin_get]
  · rename_i h
    have : allL t rs = [] := by
      unfold allL
      rw [List.filter_eq_nil_iff.2]
      · rfl
      · intro r _ h2; rw [mt_bad h] at h2; cases h2
    rw [this]; rfl
theorem fstL_I (t : List Cl) : ∀ rs : List Rl, fstL t rs = (firstI rs t).bind fun p => (rs[p.1]?).map fun r => (r.id, p.2)
  | [] => rfl
  | r :: rs => by
    unfold fstL firstI
    cases hm : mt r.l t with
    | some b => rfl
    | none =>
      simp only
      rw [fstL_I t rs]
      cases firstI rs t <;> simp
theorem fstL_all (t : List Cl) : ∀ rs : List Rl, (allL t rs).head? = (fstL t rs).map (·.1)
  | [] => rfl
  | r :: rs => by
    unfold allL fstL
    cases hm : mt r.l t with
    | some b => rw [List.filter_cons_of_pos (by rw [hm]; rfl)]; rfl
    | none => rw [List.filter_cons_of_neg (by rw [hm]; decide)]; exact fstL_all t rs
theorem allL_app (t : List Cl) (a b : List Rl) : allL t (a ++ b) = allL t a ++ allL t b := by
  unfold allL; rw [List.filter_append, List.map_append]

/-- a net of the program's: nil, or built of rules that are right -/
theorem nfirst_any (w : World) (B nb : Nat) (rs : List Rl) (h64 : rs.length ≤ 64) (hok : RsOk rs) (hnet : NetAt w B nb rs) (tv : Value) (t : List Cl) (ht : Lies w tv t) :
    Calls Try.prog 11 #[.pointer (some ⟨nb, 0, none⟩), tv] w fun e w' => Fstd w (fstL t rs) e w' := by
  rw [← fst_plcs]; exact first_walk w B nb rs h64 hok hnet tv t ht
theorem nall_any (w : World) (B nb : Nat) (rs : List Rl) (h64 : rs.length ≤ 64) (hok : RsOk rs) (hnet : NetAt w B nb rs) (tv : Value) (t : List Cl) (ht : Lies w tv t) :
    Calls Try.prog 16 #[.pointer (some ⟨nb, 0, none⟩), tv] w fun e w' => ∃ v, e = .returned v ∧ w'.ownsRow w.heap.size 3 1 v (allL t rs).length (idsV (allL t rs)) ∧ Below w.heap.size w w' := by
  rw [← all_plcs]; exact all_walk w B nb rs h64 hok hnet tv t ht
theorem len_any (w : World) (B nb : Nat) (rs : List Rl) (hnet : NetAt w B nb rs) : Calls Try.prog 19 #[.pointer (some ⟨nb, 0, none⟩)] w fun e w' => e = .returned (.int .i64 (rs.length : Nat)) ∧ w = w' := by
  obtain ⟨sv, mx, T, hT, _, hS⟩ := hnet
  obtain ⟨a, cap, la, lc, hsv, hc1, hc2, _⟩ := hS.take
  obtain ⟨d0, hd0, hd1⟩ := hT.root
  have hrt : Blk w nb #[.slice a rs.length cap, .map d0.m, d0.e] 62 := by
    have := (hT.at' [] d0 hd0).blk
    rw [hd1, hsv] at this
    exact this
  have c0 := hrt.cell (i := 0) (v := .slice a rs.length cap) rfl
  have hns := net_some nb
  clear hT hS hd0 hd1 hrt hsv
  go_enter Try.func19, Try.ntmps19
  go_wp2_with fail
  go_ret
  exact ⟨rfl, rfl⟩
theorem len_nil (w : World) : Calls Try.prog 19 #[.pointer none] w fun e w' => e = .returned (.int .i64 0) ∧ w = w' := by
  have hns := net_none
  go_enter Try.func19, Try.ntmps19
  go_wp2_with fail
  go_ret
  exact ⟨rfl, rfl⟩

theorem may_nil_stops (n : Nat) (w0 : World) (nx tx : Nat) (tv : Value) (hnx : Blk w0 nx #[.pointer none] 26) (Kp : World → World → Prop) :
    SeqStopsK Fence.wide n Try.prog 50 #[.pointer (some ⟨nx, 0, none⟩), .pointer (some ⟨tx, 0, none⟩)] (fun _ : Unit => #[.agg #[.int .i64 0, .slice none 0 0]]) Kp (fun ys => ys = []) (fun pre => False) 0 w0 := by
  intro l J Jx W hW hJ _ hY h0
  have hro : Fence.wide.round = none := rfl
  have cn := (hnx.on hW hnx.lt).cell (i := 0) (v := .pointer none) rfl
  have hns := net_none
  refine callsIn_of_wp Try.func50 rfl trivial ?_ hro
  simp only [Try.ntmps50, List.size_toArray, List.length_cons, List.length_nil, Nat.reduceAdd, Nat.reduceSub, Array.replicate_succ, Array.replicate_zero, List.push_toArray, List.append_toArray, List.nil_append, List.cons_append]
  gi_wp2_with (refine ⟨trivial, ?_⟩)
  refine bodyPost_ret (results_none rfl _ _ _) rfl ?_
  first | exact ⟨⟨_, rfl⟩, h0⟩ | exact ⟨⟨_, rfl⟩, Or.inl ⟨_, rfl, h0⟩⟩ | exact h0 | trace_state

end Go.Proofs.Ytpflbdkbbkobbaa
