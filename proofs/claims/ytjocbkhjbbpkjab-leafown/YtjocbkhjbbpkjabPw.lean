/-
  Copy, of lists a little longer than those that come in.
-/
import Derived.Test.YtjocbkhjbbpkjabPu
namespace Go.Proofs.Ytjocbkhjbbpkjab
open Go.RowKit
set_option linter.unusedVariables false
set_option linter.unusedSimpArgs false
set_option maxRecDepth 100000

theorem copy_big (w : World) (v : Value) (L : List Ent) (n : Nat) (hn : L.length = n) (hl : LiesE w v L) (hz : n ≤ 4398046511000) :
    Calls Try.prog 5 #[v] w fun e w' => ∃ a c, e = .returned (.slice a n c) ∧ RowE w' w.heap.size (.slice a n c) L ∧ Below w.heap.size w w' := by
  have HL := hid hl
  obtain ⟨a, c, e1⟩ := hl.form
  subst e1
  have HN := hid hn
  rw [hn] at HL ⊢
  clear hl hn
  go_enter Try.func5, Try.ntmps5
  go_wp2_with (at_builtin; refine wpList_more _ w rfl (.tmp 4) (.tmp 5) rfl (.slice none 0 0) [] 0 rfl rfl (RowE.nil _ _) (Below.refl _ _) (.slice a n c) L n HN.out rfl HL.out (by omega) ?_; intro va vc w5 hr5 hb5 _; rw [Nat.zero_add] at hr5 ⊢; rw [List.nil_append] at hr5; have HR5 := hid hr5; have HB5 := hid hb5; clear hr5 hb5)
  go_ret
  exact ⟨_, _, rfl, HR5.out, HB5.out⟩
end Go.Proofs.Ytjocbkhjbbpkjab
