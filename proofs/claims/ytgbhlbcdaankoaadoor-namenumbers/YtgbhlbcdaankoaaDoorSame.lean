/-
  That two lists of texts that hold the same are told as alike; and what the statements ask ahead.
-/
import Derived.Test.YtgbhlbcdaankoaaDoorLists
import Derived.Deep.QuietTactic
import Derived.BigQuiet
namespace Go.Proofs.YtgbhlbcdaankoaaDoor
open Go.RowKit
set_option linter.unusedVariables false

theorem same_none (a b : Option Addr) (c d : Nat) (w : World) :
    Calls Tryd.prog 12 #[.slice a 0 c, .slice b 0 d] w fun e w' => e = .returned (.bool true) ∧ Below w.heap.size w w' := by
  go_enter Tryd.func12, Tryd.ntmps12
  go_wp2
  go_loop [13] (fun i => i = .int .i64 0) (fun i => 0)
  case atStart => rfl
  case round =>
    subst hrel
    go_wp2
    go_ret
    exact ⟨rfl, Below.refl _ _⟩

theorem same_some (g h n c d : Nat) (T : Nat → ByteArray) (w : World) (hn : n ≤ 4294967295) (hg : g < w.heap.size) (hh : h < w.heap.size)
    (ha : ∀ j, j < n → w.cell? ⟨g, j, none⟩ = some (.string (T j))) (hb : ∀ j, j < n → w.cell? ⟨h, j, none⟩ = some (.string (T j))) :
    Calls Tryd.prog 12 #[.slice (some ⟨g, 0, none⟩) n c, .slice (some ⟨h, 0, none⟩) n d] w fun e w' => e = .returned (.bool true) ∧ Below w.heap.size w w' := by
  go_enter Tryd.func12, Tryd.ntmps12
  go_wp2
  go_loopw [13] (fun i wr => ∃ k : Nat, k ≤ n ∧ i = .int .i64 k ∧ Below w.heap.size w wr) (fun i _ => n - (intOf i).toNat)
  case atStart => exact ⟨0, Nat.zero_le _, rfl, Below.refl _ _⟩
  case round =>
    obtain ⟨k, hk, rfl, hbl⟩ := hrel
    by_cases hlt : k < n
    · have c1 : wr.cell? ⟨g, k, none⟩ = some (.string (T k)) := (hbl.cell (p := ⟨g, k, none⟩) hg).trans (ha k hlt)
      have c2 : wr.cell? ⟨h, k, none⟩ = some (.string (T k)) := (hbl.cell (p := ⟨h, k, none⟩) hh).trans (hb k hlt)
      go_wp2
      go_region
      have hbd := hbl.drew
      clear c1 c2
      go_wp2
      go_roundw
      case rel => exact ⟨k + 1, by omega, by go_num, hbd⟩
      case measure => simp [intOf]; omega
    · obtain rfl : k = n := by omega
      go_wp2
      go_ret
      exact ⟨rfl, hbl⟩

theorem own_text {w : World} {B g n c : Nat} {L : List ByteArray} (h : w.ownsRow B 9 1 (.slice (some ⟨g, 0, none⟩) n c) n (cellsS L)) (hL : L.length = n) :
    g < w.heap.size ∧ ∀ j, j < n → w.cell? ⟨g, j, none⟩ = some (.string (L.getD j ⟨#[]⟩)) := by
  refine ⟨(h.lt g rfl).2, fun j hj => ?_⟩
  rw [h.cellAt j (by omega)]
  unfold cellsS
  have hl : j < L.length := by omega
  rw [List.getElem?_map, List.getElem?_eq_getElem hl, List.getD_eq_getElem?_getD, List.getElem?_eq_getElem hl]
  rfl

theorem same_any (va vb : Value) (L : List ByteArray) (B B' : Nat) (w : World) (hn : L.length ≤ 4294967295)
    (ha : w.ownsRow B 9 1 va L.length (cellsS L)) (hb : w.ownsRow B' 9 1 vb L.length (cellsS L)) :
    Calls Tryd.prog 12 #[va, vb] w fun e w' => e = .returned (.bool true) ∧ Below w.heap.size w w' := by
  have ha2 := ha.2
  have hb2 := hb.2
  by_cases h0 : L.length = 0
  · have ea : ∃ a c, va = .slice a 0 c := by
      rcases ha2 with ⟨rfl, _⟩ | ⟨g, cap, cur, rfl, _⟩
      · exact ⟨none, 0, rfl⟩
      · exact ⟨_, cap, by rw [h0]⟩
    have eb : ∃ a c, vb = .slice a 0 c := by
      rcases hb2 with ⟨rfl, _⟩ | ⟨g, cap, cur, rfl, _⟩
      · exact ⟨none, 0, rfl⟩
      · exact ⟨_, cap, by rw [h0]⟩
    obtain ⟨a, c, rfl⟩ := ea
    obtain ⟨b, d, rfl⟩ := eb
    exact same_none a b c d w
  · rcases ha2 with ⟨_, h'⟩ | ⟨g, cap, cur, rfl, _⟩
    · exact absurd h' h0
    rcases hb2 with ⟨_, h'⟩ | ⟨h, cap', cur', rfl, _⟩
    · exact absurd h' h0
    obtain ⟨a1, a2⟩ := own_text ha rfl
    obtain ⟨b1, b2⟩ := own_text hb rfl
    exact same_some g h L.length cap cap' (fun j => L.getD j ⟨#[]⟩) w hn a1 b1 a2 b2

theorem own_len {w : World} {B n : Nat} {v : Value} {xs : List Value} (h : w.ownsRow B 9 1 v n xs) : ∃ a c, v = .slice a n c := by
  rcases h.2 with ⟨rfl, h0⟩ | ⟨g, cap, cur, rfl, _⟩
  · exact ⟨none, 0, by rw [h0]⟩
  · exact ⟨_, cap, rfl⟩

theorem wakes_any (w : World) (env : Env w) :
    Calls Tryd.prog 9 #[] w fun e w' => e = .returned (.bool true) ∧ Below w.heap.size w w' := by
  have hv : numV (⟨#[45, 49, 50]⟩ : ByteArray).data.toList = -12 := by decide +kernel
  have he : numE (⟨#[45, 49, 50]⟩ : ByteArray).data.toList = 0 := by decide +kernel
  have hk1 : kind (⟨#[112, 108, 117, 115, 50]⟩ : ByteArray).data.toList = 1 := by decide +kernel
  have hk2 : kind (⟨#[88]⟩ : ByteArray).data.toList = 2 := by decide +kernel
  have hw : (wordsB ⟨#[32, 97, 32, 32, 98, 32]⟩).length = 2 := by decide +kernel
  have HN := number_any ⟨#[45, 49, 50]⟩ w env (by decide)
  rw [hv, he] at HN
  clear hv he
  go_enter Tryd.func9, Tryd.ntmps9
  go_wp2_with (first
    | (go_at_call 15; refine HN.mono ?_; rintro e w1 ⟨rfl, hb⟩; have env1 := env.on hb)
    | (go_at_call 10; refine (kind_any _ _ (by decide)).mono ?_; rintro e w2 ⟨rfl, rfl⟩; first | rw [hk1] | rw [hk2])
    | (go_at_call 13; refine (words_any _ _ env1 (by decide)).mono ?_; rintro e w3 ⟨v, rfl, hown, hb3⟩; rw [hw] at hown; obtain ⟨a, c, rfl⟩ := own_len hown; replace hb := hb.trans (hb3.mono hb.size); clear hb3 hown))
  go_ret
  exact ⟨rfl, hb⟩

end Go.Proofs.YtgbhlbcdaankoaaDoor
