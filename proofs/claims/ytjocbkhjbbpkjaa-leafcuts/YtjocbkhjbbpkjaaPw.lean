/-
  Put and Take of lists that are right.
-/
import Derived.Test.YtjocbkhjbbpkjaaPu
import Derived.Test.YtjocbkhjbbpkjaaRk
namespace Go.Proofs.Ytjocbkhjbbpkjaa
open Go.RowKit
set_option linter.unusedVariables false
set_option linter.unusedSimpArgs false
set_option maxRecDepth 100000

theorem lowA_ex (L : List Ent) (key : ByteArray) : ∀ j, j ≤ L.length → ∃ n, lowA L key j n
  | 0, _ => ⟨0, lowA_zero L key⟩
  | j + 1, h => by
    obtain ⟨n, hn⟩ := lowA_ex L key j (by omega)
    obtain ⟨x, hx⟩ : ∃ x, L[j]? = some x := ⟨_, List.getElem?_eq_getElem (by omega)⟩
    cases hk : lt x.k key with
    | true => exact ⟨_, lowA_yes hn hx hk⟩
    | false => exact ⟨_, lowA_no hn hx hk⟩
theorem at_ex {L : List Ent} (hc : ckE none L = 0) (key : ByteArray) : ∃ i, i ≤ L.length ∧ IsAt L key i := by
  obtain ⟨n, hn⟩ := lowA_ex L key L.length (Nat.le_refl _)
  exact ⟨n, hn.1, lowA_is hn (mono_of hc key)⟩
theorem copy_big (w : World) (v : Value) (L : List Ent) (n : Nat) (hn : L.length = n) (hl : LiesE w v L) (hz : n ≤ 4398046511000) :
    Calls Try.prog 11 #[v] w fun e w' => ∃ a c, e = .returned (.slice a n c) ∧ RowE w' w.heap.size (.slice a n c) L ∧ Below w.heap.size w w' := by
  have HL := hid hl
  obtain ⟨a, c, e1⟩ := hl.form
  subst e1
  have HN := hid hn
  rw [hn] at HL ⊢
  clear hl hn
  go_enter Try.func11, Try.ntmps11
  go_wp2_with (at_builtin; refine wpList_more _ w rfl (.tmp 4) (.tmp 5) rfl (.slice none 0 0) [] 0 rfl rfl (RowE.nil _ _) (Below.refl _ _) (.slice a n c) L n HN.out rfl HL.out (by omega) ?_; intro va vc w5 hr5 hb5 _; rw [Nat.zero_add] at hr5 ⊢; rw [List.nil_append] at hr5; have HR5 := hid hr5; have HB5 := hid hb5; clear hr5 hb5)
  go_ret
  exact ⟨_, _, rfl, HR5.out, HB5.out⟩
def putL (L : List Ent) (key value : ByteArray) : List Ent := below L key ++ [⟨key, value⟩] ++ above L key
theorem put_right (w : World) (v : Value) (L : List Ent) (key value : ByteArray) (hc : ckE none L = 0) (hl : LiesE w v L) (hz : L.length ≤ 4398046510976) (hk : Sml key) (hv : Sml value) (p : Nat) (hp : (putL L key value).length = p) :
    Calls Try.prog 22 #[v, .string key, .string value] w fun e w' => ∃ a c, e = .returned (.slice a p c) ∧ RowE w' w.heap.size (.slice a p c) (putL L key value) ∧ Below w.heap.size w w' := by
  refine (put_any w v L key value hl hz hk hv).mono ?_
  rintro e w' ⟨i, a, c, hi, hm, rfl, hr, hb⟩
  have hA := hm (mono_of hc key)
  rw [put_is hc hA] at hr ⊢
  rw [← hp]
  exact ⟨a, c, rfl, hr, hb⟩
theorem take_right (w : World) (v : Value) (L : List Ent) (key : ByteArray) (hc : ckE none L = 0) (hl : LiesE w v L) (hz : L.length ≤ 4398046510976) (q : Nat) (hq : (others L key).length = q) :
    Calls Try.prog 23 #[v, .string key] w fun e w' => ∃ a c, e = .returned (.tuple #[.slice a q c, .bool (hasL L key)]) ∧ RowE w' w.heap.size (.slice a q c) (others L key) ∧ Below w.heap.size w w' := by
  refine (take_any w v L key hl (by omega)).mono ?_
  rintro e w' ⟨i, a, c, hi, hm, rfl, hr, hb⟩
  have hA := hm (mono_of hc key)
  rw [← others_is hc hA] at hr ⊢
  rw [fnd_has hc hA, ← hq]
  exact ⟨a, c, rfl, hr, hb⟩
theorem putL_len {L : List Ent} (hc : ckE none L = 0) (key value : ByteArray) : (putL L key value).length ≤ L.length + 1 := by
  obtain ⟨i, hi, hA⟩ := at_ex hc key
  unfold putL
  rw [← put_is (value := value) hc hA]
  exact put_len
theorem putL_sml {L : List Ent} (h : SmlL L) {key value : ByteArray} (hk : Sml key) (hv : Sml value) : SmlL (putL L key value) := ((h.filter _).append (.one hk hv)).append (h.filter _)
theorem take_put (w : World) (v : Value) (L : List Ent) (key value : ByteArray) (hc : ckE none L = 0) (hl : LiesE w v (putL L key value)) (hz : L.length ≤ 4398046510976) (q : Nat) (hq : (others L key).length = q) :
    Calls Try.prog 23 #[v, .string key] w fun e w' => ∃ a c, e = .returned (.tuple #[.slice a q c, .bool true]) ∧ RowE w' w.heap.size (.slice a q c) (others L key) ∧ Below w.heap.size w w' := by
  have hlen := putL_len hc key value
  obtain ⟨i, hi, hA⟩ := at_ex hc key
  refine (take_any w v _ key hl (by omega)).mono ?_
  have hP : putL L key value = putAt L i (fd (fnd L key i)) ⟨key, value⟩ := (put_is hc hA).symm
  rw [hP]
  obtain ⟨p1, p2, p3⟩ := put_at (value := value) hc hA hi
  rintro e w' ⟨j, a, c, hj, hm, rfl, hr, hb⟩
  obtain rfl : j = i := (hm p1).uniq p2 hj (by have := (List.getElem?_eq_some_iff.1 p3).1; omega)
  have hf : fnd (putAt L j (fd (fnd L key j)) ⟨key, value⟩) key j = true := fnd_iff.2 ⟨_, p3, rfl⟩
  rw [hf, show fd true = 1 from rfl, put_out L j _ _ hi, ← others_is hc hA] at hr ⊢
  rw [← hq]
  exact ⟨a, c, rfl, hr, hb⟩
end Go.Proofs.Ytjocbkhjbbpkjaa

