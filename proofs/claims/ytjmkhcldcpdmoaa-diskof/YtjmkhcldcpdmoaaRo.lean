/-
  The document's Of.
-/
import Derived.Test.YtjmkhcldcpdmoaaDr
namespace Go.Proofs.Ytjmkhcldcpdmoaa
open Go.RowKit
set_option linter.unusedVariables false
set_option linter.unusedSimpArgs false
set_option maxRecDepth 100000

def ROf (w : World) (bs : List ByteArray) (e : Ending) (w' : World) : Prop :=
  Below w.heap.size w w' ∧ ((ofE bs ≠ 0 ∧ e = .returned (.tuple #[.pointer none, .int .i64 (ofE bs : Nat)])) ∨ (ofE bs = 0 ∧ ∃ k, e = .returned (.tuple #[.pointer (some ⟨k, 0, none⟩), .int .i64 0])))

set_option maxHeartbeats 2000000 in
theorem rOf_any (w : World) (B : Nat) (v : Value) (bs : List ByteArray) (hv : RowS w B v bs) (hl : bs.length ≤ 3000) (hs : ∀ s ∈ bs, s.size ≤ 100000) :
    Calls Try.prog 24 #[v] w fun e w' => ROf w bs e w' := by
  obtain ⟨i0, hi, hz0, hz1, hz2⟩ := info_parts info9
  obtain ⟨va, vc, hvv⟩ := hv.form
  subst hvv
  have HV := hid hv
  have HSZ := hid hs
  obtain ⟨n, hn⟩ : ∃ n, bs.length = n := ⟨_, rfl⟩
  have HN := hid hn
  rw [hn] at hl
  have hl2 : (n : Int) ≤ 3000 := by omega
  by_cases hr : 64 ≤ n ∧ n ≤ 2048
  · have HR := hid hr
    have h64 : decide ((n : Int) < 64) = false := decide_eq_false (by omega)
    have h64' : ¬ (n : Int) < 64 := by omega
    have h2k : ¬ (2048 : Int) < (n : Int) := by omega
    obtain ⟨g, x1, _, hgl⟩ := row_some hv (by omega)
    subst x1
    rw [hn]
    clear hv hn hs hr
    go_enter Try.func24, Try.ntmps24
    go_wp2_with fail
    go_loopw [16] (fun i wr => ∃ k : Nat, k ≤ n ∧ i = .int .i64 (k : Nat) ∧ Hid (w = wr) ∧ Hid (∀ t ∈ bs.take k, t.size = 256)) (fun i _ => n - (intOf i).toNat)
    case atStart => exact ⟨0, Nat.zero_le _, rfl, (rfl : w = w), (fun t ht => by simp at ht)⟩
    case round =>
      obtain ⟨k, hk, rfl, HW, HT⟩ := hrel
      have hw : w = wr := HW.out
      subst hw
      clear HW
      by_cases hlt : k < n
      · have hki : (k : Int) < (n : Int) := by omega
        obtain ⟨s, hs⟩ : ∃ s, bs[k]? = some s := ⟨_, List.getElem?_eq_getElem (by rw [HN.out]; exact hlt)⟩
        have c1 := (HV.out.at hs).1
        have HS := hid hs
        have hsz : s.size ≤ 100000 := HSZ.out s (List.mem_of_getElem? hs)
        clear hs
        by_cases h256 : s.size = 256
        · have h1 : ((s.size : Int) != 256) = false := by simp; omega
          have h3 : (s.size : Int) = 256 := by omega
          have HT2 := hid (take_all HT.out HS.out h256)
          clear h256 HT
          go_wp2_with fail
          go_roundw
          case rel => exact ⟨k + 1, by omega, by go_num, (by first | exact trivial | exact (rfl : w = w)), HT2⟩
          case measure => simp [intOf]; omega
        · have h1 : ((s.size : Int) != 256) = true := by simp; omega
          have h3 : ¬ (s.size : Int) = 256 := by omega
          have HE : Hid (ofE bs = 3) := by
            show _ = _
            unfold ofE
            rw [if_neg (by rw [HN.out]; exact fun h => h HR.out), if_neg]
            intro h
            have := List.all_eq_true.1 h s (List.mem_of_getElem? HS.out)
            exact h256 (by simpa using this)
          clear h256 HT
          go_wp2_with fail
          go_ret2
          refine ⟨Below.refl _ _, .inl ⟨?_, ?_⟩⟩
          · rw [HE.out]; decide
          · rw [HE.out]; rfl
      · have hki : ¬ (k : Int) < (n : Int) := by omega
        obtain rfl : k = n := by omega
        have HA : Hid (∀ t ∈ bs, t.size = 256) := by
          have := HT.out
          rwa [← HN.out, List.take_length] at this
        have HE : Hid (ofE bs = 0) := by
          show _ = _
          unfold ofE
          rw [if_neg (by rw [HN.out]; exact fun h => h HR.out), if_pos]
          exact List.all_eq_true.2 fun s hs => by simpa using HA.out s hs
        have hb0 := (Below.refl w.heap.size w).alloc (Nat.le_refl _) (.cells #[.slice none 0 0, .slice none 0 0, .bool false, .int .i64 0, .bool false] 38)
        have HB0 := hid hb0
        have hkb := Blk.made w #[.slice none 0 0, .slice none 0 0, .bool false, .int .i64 0, .bool false] 38
        have HK := hid hkb
        have c0 : (w.alloc (.cells #[.slice none 0 0, .slice none 0 0, .bool false, .int .i64 0, .bool false] 38)).cell? ⟨w.heap.size, 0, none⟩ = some (.slice none 0 0) := hkb.cell rfl
        have HSR : Hid (∀ j u, (flatS bs)[j]? = some u → (w.alloc (.cells #[.slice none 0 0, .slice none 0 0, .bool false, .int .i64 0, .bool false] 38)).cell? ((⟨g, 0, none⟩ : Addr).add j) = some u) := by
          intro j u hu
          exact ((HV.out.on hb0) : World.ownsRow _ B 9 1 _ _ _).cells (g := g) rfl j u hu
        have hll : (flatS bs).length = k * 1 := by rw [flatS_length, HN.out]
        clear HT hb0 hkb
        go_wp2_with (at_builtin; refine wpList_append_own _ rfl (.tmp 32) (.tmp 33) 36 rfl w.heap.size 9 i0 (.string ⟨#[]⟩) 1 16 Try.underlying36 hi hz0 hz1 hz2 rfl (by decide) _ 0 [] rfl (World.ownsRow_nil _ _ _ _) ⟨g, 0, none⟩ k vc (flatS bs) rfl hll HSR.out (flatS_one bs) ?c3 ?c4 (by simp) ?_)
        case c3 => unfold maxLen; omega
        case c4 => omega
        intro v' w2 hown' hgrow _
        have hk2 : Blk w2 w.heap.size #[.slice none 0 0, .slice none 0 0, .bool false, .int .i64 0, .bool false] 38 := HK.out.kept hgrow (by simp [Value.ownBlock])
        have d0 : w2.cell? ⟨w.heap.size, 0, none⟩ = some (.slice none 0 0) := hk2.cell rfl
        have f0 := hk2.free 0
        have HB2 := hid (((HB0.out.grown hgrow HB0.out.size (fun q hq => by simp [Value.ownBlock] at hq))).setCell (p := ⟨w.heap.size, 0, none⟩) (Nat.le_refl _) v')
        obtain ⟨ra, rc, hrv⟩ := own_form hown'
        subst hrv
        clear hown' hgrow hk2 c0
        go_wp2_with fail
        go_ret2
        exact ⟨HB2.out, .inr ⟨HE.out, _, rfl⟩⟩
  · have HE : Hid (ofE bs = 1) := by
      show _ = _
      unfold ofE
      rw [if_pos (by rw [hn]; exact hr)]
    rw [hn]
    clear hv hn hs
    by_cases h64 : n < 64
    · have h1 : decide ((n : Int) < 64) = true := decide_eq_true (by omega)
      have h2 : (n : Int) < 64 := by omega
      go_enter Try.func24, Try.ntmps24
      go_wp2_with fail
      go_ret2
      refine ⟨Below.refl _ _, .inl ⟨?_, ?_⟩⟩
      · rw [HE.out]; decide
      · rw [HE.out]; rfl
    · have h1 : decide ((n : Int) < 64) = false := decide_eq_false (by omega)
      have h2 : ¬ (n : Int) < 64 := by omega
      have h3 : (2048 : Int) < (n : Int) := by omega
      go_enter Try.func24, Try.ntmps24
      go_wp2_with fail
      go_ret2
      refine ⟨Below.refl _ _, .inl ⟨?_, ?_⟩⟩
      · rw [HE.out]; decide
      · rw [HE.out]; rfl

end Go.Proofs.Ytjmkhcldcpdmoaa
