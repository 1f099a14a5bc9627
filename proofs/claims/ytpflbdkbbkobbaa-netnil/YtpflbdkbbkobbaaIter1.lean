/-
  What the net's iterator hands out.
-/
import Derived.Test.YtpflbdkbbkobbaaIter0
namespace Go.Proofs.Ytpflbdkbbkobbaa
open Go.RowKit Go.Maps Go.Shelf
attribute [local go_sem] Oper.semAt_some
set_option linter.unusedVariables false
set_option maxRecDepth 100000
set_option linter.unusedSimpArgs false

theorem net_some (a : Nat) (w : World) : (binOp .eql 26 (.pointer (some ⟨a, 0, none⟩)) (.pointer none)).run Try.prog w = .ok (.bool false) w := by kernel_rfl
theorem net_none (w : World) : (binOp .eql 26 (.pointer none) (.pointer none)).run Try.prog w = .ok (.bool true) w := by kernel_rfl

set_option maxHeartbeats 4000000 in
theorem may_stops (n : Nat) (hn : 1 ≤ n) (w0 : World) (B nb nx tx : Nat) (rs : List Rl) (h64 : rs.length ≤ 64) (sv : Value) (mx : Nat) (T : List Cl → Option Nd) (hT : Tre w0 B nb sv mx T (endsAt (keysR rs))) (hP : ∀ p, (T p).isSome = true ↔ hasP (keysR rs) p) (a : Option Addr) (cap : Nat) (hsv : sv = .slice a rs.length cap) (hcap : rs.length ≤ cap ∧ cap ≤ maxLen) (la : Fin rs.length → Option Addr) (lc : Fin rs.length → Nat) (hS : SidesF w0 B a rs la lc) (tv : Value) (t : List Cl) (ht : Lies w0 tv t)
    (hnx : Blk w0 nx #[.pointer (some ⟨nb, 0, none⟩)] 26) (htx : Blk w0 tx #[tv] 24) (ex : Option Nat) (hex : some nx ≠ ex ∧ some nb ≠ ex ∧ ∀ g o c, a = some ⟨g, o, c⟩ → some g ≠ ex) (Kp : World → World → Prop) (Pr : World → Nat → Prop) (hK : Keeps w0 ex Kp Pr) :
    SeqStopsK Fence.wide n Try.prog 50 #[.pointer (some ⟨nx, 0, none⟩), .pointer (some ⟨tx, 0, none⟩)] (elS rs la lc) Kp (fun ys => ys = plcsC rs t) (fun pre => ∃ k, pre = (plcsC rs t).take k) (plcsC rs t).length w0 := by
  intro l J Jx W hW hJ _ hY h0
  have hro : Fence.wide.round = none := rfl
  have cn := (hnx.on hW hnx.lt).cell (i := 0) rfl
  have ct := (htx.on hW htx.lt).cell (i := 0) rfl
  have hck := check_any W tv t (ht.on hW)
  have HT := hid ht
  obtain ⟨ta, tc, htv, _⟩ := ht
  subst htv
  have hns := net_some nb
  have hgr : ∀ W1, Below W.heap.size W W1 → J [] W1 := fun W1 h => hJ [] W W1 none h0 ⟨h.os, h.tape, h.output, h.size, fun k hk _ => h.block k hk⟩ (fun r e => by cases e)
  by_cases hc : check t = 0
  · have hpl : plcsC rs t = plcs rs t := by unfold plcsC; rw [if_pos hc]
    rw [hpl]
    rw [hpl] at hY
    rw [hc] at hck
    obtain ⟨d0, hd0, hd1⟩ := hT.root
    have hld : ∀ W1, Below w0.heap.size w0 W1 → Calls Try.prog 51 #[.pointer (some ⟨nb, 1, none⟩), .slice ta t.length tc, .int .i64 0] W1 fun e w' => Led (keysR rs) [] t W1 e w' := fun W1 h1 => by
      have := lead_any w0 B nb sv mx T (keysR rs) hT hP (by unfold keysR; rw [List.length_map]; exact h64) _ t HT.out hc t.length 0 [] d0 W1 (by omega) (Nat.zero_le _) hd0 h1
      rw [hd1] at this
      exact this
    have hcl := cand_len (keysR rs) [] t
    have hkl : (keysR rs).length = rs.length := by unfold keysR; simp
    have hplc := plcs_cand rs t
    have HNE : Hid (t ≠ []) := fun e => by rw [e] at hc; revert hc; decide
    have HPC := hid hplc
    have HCR := hid (cand_rises (keysR rs) [] t)
    obtain ⟨M, hM⟩ : ∃ M, M = cand (keysR rs) [] t := ⟨_, rfl⟩
    rw [← hM] at hcl hplc HPC HCR
    have HLD : Hid (∀ W1, Below w0.heap.size w0 W1 → Calls Try.prog 51 #[.pointer (some ⟨nb, 1, none⟩), .slice ta t.length tc, .int .i64 0] W1 fun e w' => ∃ v l b, e = .returned v ∧ l.Perm M ∧ w'.ownsRow b 3 1 v l.length (intsV l) ∧ (t ≠ [] → b = W1.heap.size) ∧ Below W1.heap.size W1 w') := fun W1 h1 => by rw [hM]; exact hld W1 h1
    have hrt : Blk w0 nb #[.slice a rs.length cap, .map d0.m, d0.e] 62 := by
      have := (hT.at' [] d0 hd0).blk
      rw [hd1, hsv] at this
      exact this
    clear hld hM hd0 hplc
    have hM64 : M.length ≤ 64 := by omega
    refine callsIn_of_wp Try.func50 rfl trivial ?_ hro
    simp only [Try.ntmps50, List.size_toArray, List.length_cons, List.length_nil, Nat.reduceAdd, Nat.reduceSub, Array.replicate_succ, Array.replicate_zero, List.push_toArray, List.append_toArray, List.nil_append, List.cons_append]
    gi_wp2_with (refine ⟨trivial, ?_⟩; gi_at_call 38; refine ((callsIn_wide (n := _)).2 hck).mono ?_; rintro e w1 ⟨rfl, hb1⟩)
    refine wpIn_wide.2 ?_
    have hbw := hW.trans (hb1.mono hW.size)
    have hbd : Below w0.heap.size w0 w1.drew := hbw.drew
    have HS0 : w1.drew.cell? ⟨nx, 0, none⟩ = some (.pointer (some ⟨nb, 0, none⟩)) ∧ w1.drew.cell? ⟨tx, 0, none⟩ = some (.slice ta t.length tc) := ⟨(hnx.on hbd hnx.lt).cell rfl, (htx.on hbd htx.lt).cell rfl⟩
    go_region_held3 (fun w' => w'.cell? ⟨nx, 0, none⟩ = some (.pointer (some ⟨nb, 0, none⟩)) ∧ w'.cell? ⟨tx, 0, none⟩ = some (.slice ta t.length tc)) (first | exact HS0 | exact HS8)
      (first | (go_at_call 51; refine (HLD.out _ hbd).mono ?_; rintro e w8 ⟨v8, l8, b8, rfl, hp8, ho8, hb8, hB8⟩; have hE8 := hbd.trans (hB8.mono hbd.size); have HS8 : w8.cell? ⟨nx, 0, none⟩ = some (.pointer (some ⟨nb, 0, none⟩)) ∧ w8.cell? ⟨tx, 0, none⟩ = some (.slice ta t.length tc) := ⟨(hnx.on hE8 hnx.lt).cell rfl, (htx.on hE8 htx.lt).cell rfl⟩; have hb8' := hb8 HNE.out; subst hb8'; obtain ⟨va, vc, hv8, hvc1, hvc2, _⟩ := own_cells ho8; rw [hp8.length_eq] at hv8 hvc1; subst hv8))
    have hsort := sort_any w8 w1.drew.heap.size (.slice va M.length vc) l8 M ho8 hp8 HCR.out (by rw [hp8.length_eq]; omega)
    clear HS0 HS8
    gi_wp2_with (refine ⟨trivial, ?_⟩; gi_at_call 52; refine ((callsIn_wide (n := _)).2 hsort).mono ?_; rintro e w9 ⟨rfl, ho9, hg9⟩)
    have hE9 : Below w0.heap.size w0 w9 := hE8.grown hg9 hE8.size (fun k hk => Nat.le_trans hbd.size (row_at ho8 hk).1)
    have hW9 : Below W.heap.size W w9 := by
      have h1 : Below W.heap.size W w8 := (hb1.drew).trans (hB8.mono hb1.size)
      exact h1.grown hg9 h1.size (fun k hk => Nat.le_trans hb1.size (row_at ho8 hk).1)
    have hJ9 := hgr w9 hW9
    have hPr : ∀ g, (Value.slice va M.length vc).ownBlock = some g → Pr w9 g := fun g hg => by
      obtain ⟨h1, cur, h2⟩ := row_at ho9 hg
      exact hK.new hE9 (Nat.le_trans hbd.size h1) h2
    have HO9 := hid ho9
    have HPR := hid hPr
    have HE9 := hid hE9
    clear hsort ho8 hp8 hg9 hE8 hgr hPr ho9
    gi_loopw [23] (fun i wr => ∃ k : Nat, k ≤ M.length ∧ i = .int .i64 (k : Nat) ∧ J ((plcs rs t).take k) wr ∧ Hid (∀ g, g < w0.heap.size → some g ≠ ex → wr.heap[g]? = w0.heap[g]?) ∧ Hid (wr.ownsRow w1.drew.heap.size 3 1 (.slice va M.length vc) M.length (intsV M)) ∧ Hid (∀ g, (Value.slice va M.length vc).ownBlock = some g → Pr wr g)) (fun i _ => M.length - (intOf i).toNat)
    case atStart => exact ⟨0, Nat.zero_le _, rfl, by simpa using hJ9, fun g hg _ => HE9.out.block g hg, HO9, HPR⟩
    case round =>
      obtain ⟨k, hk, rfl, hJs, HE, HO, HR⟩ := hrel
      by_cases hlt : k < M.length
      · have hki : (k : Int) < (M.length : Int) := by omega
        obtain ⟨j, hj⟩ : ∃ j, M[k]? = some j := ⟨M[k], List.getElem?_eq_getElem hlt⟩
        obtain ⟨x, hx, hxj⟩ : ∃ x, (plcs rs t)[k]? = some x ∧ x.val = j := by
          have := congrArg (·[k]?) HPC.out
          simp only [List.getElem?_map, hj] at this
          cases hx : (plcs rs t)[k]? with
          | none => rw [hx] at this; cases this
          | some x => rw [hx] at this; exact ⟨x, rfl, by simpa using this⟩
        have hpre : (plcs rs t).take k ++ [x] = (plcs rs t).take (k + 1) := by rw [List.take_add_one, hx]; rfl
        have hlen : (plcs rs t).length = M.length := by rw [← HPC.out, List.length_map]
        have hjl : (j : Int) < (rs.length : Int) := by have := x.isLt; omega
        obtain ⟨va', vc', hve, _, _, hcs⟩ := own_cells HO.out
        cases hve
        obtain ⟨gp, rfl, _, hgp, cj⟩ := hcs k (.int .i64 (j : Nat)) (by unfold intsV; rw [List.getElem?_map, hj]; rfl)
        obtain ⟨sg, hsa, hsg, s0, s1⟩ := hS.cells x
        subst hsa
        have q0 : wr.cell? ⟨sg, j * 2, none⟩ = some (.int .i64 (rs.get x).id) := by rw [← hxj]; exact (World.cell?_of_block (a := ⟨sg, x.val * 2, none⟩) (HE.out sg hsg (hex.2.2 sg _ _ rfl))).trans s0
        have q1 : wr.cell? ⟨sg, j * 2 + 1, none⟩ = some (.slice (la x) (rs.get x).l.length (lc x)) := by rw [← hxj]; exact (World.cell?_of_block (a := ⟨sg, x.val * 2 + 1, none⟩) (HE.out sg hsg (hex.2.2 sg _ _ rfl))).trans s1
        have qn : wr.cell? ⟨nx, 0, none⟩ = some (.pointer (some ⟨nb, 0, none⟩)) := (show Blk wr nx _ 26 from (HE.out nx hnx.lt hex.1).trans hnx).cell rfl
        have qs : wr.cell? ⟨nb, 0, none⟩ = some (.slice (some ⟨sg, 0, none⟩) rs.length cap) := (show Blk wr nb _ 62 from (HE.out nb hrt.lt hex.2.1).trans hrt).cell rfl
        obtain ⟨fn, tmps, assign, body, hy, hR⟩ := hY _ x wr hJs (by rw [List.length_take, hlen]; omega)
        unfold elS at hy
        rw [hpre] at hR
        have HR' : Hid _ := hR
        obtain ⟨iv, hiv⟩ : ∃ iv, iv = (rs.get x).id := ⟨_, rfl⟩
        obtain ⟨ln, hln⟩ : ∃ ln, ln = (rs.get x).l.length := ⟨_, rfl⟩
        rw [← hiv, ← hln] at hy
        rw [← hiv] at q0
        rw [← hln] at q1
        clear hpre hlen hcs s0 s1 hx hxj hj hiv hln HO9 HPR HE9 hJ9
        gi_wp2
        refine hR.mono ?_
        rintro e W3 (⟨rfl, hJ3, hk3⟩ | ⟨rfl, hJx3⟩)
        · gi_wp2
          go_roundw
          case rel => exact ⟨k + 1, by omega, by go_num, hJ3, fun g hg he => (hK.old hk3 g hg he).trans (HE.out g hg he), row_same HO.out (fun g hg => (hK.row hk3 (HR.out g hg)).1), fun g hg => (hK.row hk3 (HR.out g hg)).2⟩
          case measure => (simp [intOf]; try omega)
        · gi_wp2
          refine bodyPost_ret (results_none rfl _ _ _) rfl ?_
          exact ⟨⟨_, rfl⟩, .inr ⟨_, ⟨k + 1, rfl⟩, hJx3⟩⟩
      · have hki : ¬ (k : Int) < (M.length : Int) := by omega
        have hlen : (plcs rs t).length = M.length := by rw [← HPC.out, List.length_map]
        rw [List.take_of_length_le (by omega)] at hJs
        clear HO9 HPR HE9 hJ9 hlen
        gi_wp2
        go_end0
        first | exact ⟨⟨_, rfl⟩, .inl ⟨_, rfl, hJs⟩⟩ | exact ⟨⟨_, rfl⟩, .inl hJs⟩
  · have hpl : plcsC rs t = [] := by unfold plcsC; rw [if_neg hc]
    rw [hpl]
    have hcn : (((check t : Nat) : Int) != 0) = true := by simp; omega
    have hcn2 : ¬ ((check t : Nat) : Int) = 0 := by omega
    refine callsIn_of_wp Try.func50 rfl trivial ?_ hro
    simp only [Try.ntmps50, List.size_toArray, List.length_cons, List.length_nil, Nat.reduceAdd, Nat.reduceSub, Array.replicate_succ, Array.replicate_zero, List.push_toArray, List.append_toArray, List.nil_append, List.cons_append]
    gi_wp2_with (refine ⟨trivial, ?_⟩; gi_at_call 38; refine ((callsIn_wide (n := _)).2 hck).mono ?_; rintro e w1 ⟨rfl, hb1⟩)
    refine bodyPost_ret (results_none rfl _ _ _) rfl ?_
    exact ⟨⟨_, rfl⟩, .inl ⟨_, rfl, hgr w1 hb1⟩⟩

end Go.Proofs.Ytpflbdkbbkobbaa
