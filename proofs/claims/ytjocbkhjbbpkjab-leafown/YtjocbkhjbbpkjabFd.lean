/-
  Find: by halving, with a closure.
-/
import Derived.Test.YtjocbkhjbbpkjabCk
namespace Go.Proofs.Ytjocbkhjbbpkjab
open Go.RowKit
set_option linter.unusedVariables false
set_option linter.unusedSimpArgs false
set_option maxRecDepth 100000

theorem find1_any (w : World) (p q : Nat) (va : Option Addr) (n c : Nat) (L : List Ent) (key : ByteArray) (j : Nat) (x : Ent) (hp : w.cell? ⟨p, 0, none⟩ = some (.slice va n c)) (hq : w.cell? ⟨q, 0, none⟩ = some (.string key)) (hl : LiesE w (.slice va n c) L) (hx : L[j]? = some x) :
    Calls Try.prog 20 #[.int .i64 (j : Nat), .pointer (some ⟨p, 0, none⟩), .pointer (some ⟨q, 0, none⟩)] w fun e w' => e = .returned (.bool (!lt x.k key)) ∧ Below w.heap.size w w' := by
  obtain ⟨a', cc, hv⟩ := hl.form
  have hn : n = L.length := by injection hv
  have hj : j < L.length := (List.getElem?_eq_some_iff.1 hx).1
  obtain ⟨b, off, e1, _, c1, _, _, _⟩ := hl.at hx
  subst e1
  have hji : (j : Int) < (n : Int) := by omega
  have HB : Hid (Below w.heap.size w w.drew) := (Below.refl _ w).drew
  have he : (!lt x.k key) = !Op.bytesLess x.k.toList key.toList := rfl
  rw [he]
  clear hx hl hv hn hj
  generalize x.k = xk at *
  go_enter Try.func20, Try.ntmps20
  go_wp2_with fail
  go_region
  go_wp2_with fail
  go_ret
  exact ⟨rfl, HB.out⟩
end Go.Proofs.Ytjocbkhjbbpkjab

