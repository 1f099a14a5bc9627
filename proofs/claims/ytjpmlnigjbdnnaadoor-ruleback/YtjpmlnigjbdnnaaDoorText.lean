/-
  The reader, at the text of a right term, reads that term.
-/
import Derived.Test.YtjpmlnigjbdnnaaDoorRead
import Derived.Test.YtjpmlnigjbdnnaaDoorPrint
namespace Go.Proofs.YtjpmlnigjbdnnaaDoor
open Go.Lib
set_option linter.unusedVariables false
set_option maxRecDepth 100000
set_option linter.unusedSimpArgs false

theorem okAt_sign {q j : Nat} {c : UInt8} (hq : q ≠ 0) (h : okAt q j c = true) : isS c = true := by
  unfold okAt at h
  unfold isS
  simp only [Bool.or_eq_true, beq_iff_eq, Bool.and_eq_true, decide_eq_true_eq] at h
  simp only [bne_iff_ne, ne_eq]
  omega
theorem kind_signs {l : List UInt8} (h : kind l ≠ 0) : ∀ c ∈ l, isS c = true := by
  intro c hc
  obtain ⟨j, hj⟩ := List.getElem?_of_mem hc
  have hjl := (List.getElem?_eq_some_iff.1 hj).1
  have hg : l.getD j 0 = c := by rw [List.getD_eq_getElem?_getD, hj]; rfl
  unfold kind at h
  split at h
  · exact absurd rfl h
  · split at h
    · rename_i hf
      have := fits_at hf j hjl
      rw [hg] at this
      exact okAt_sign (by decide) this
    · split at h
      · rename_i hf
        have := fits_at hf j hjl
        rw [hg] at this
        exact okAt_sign (by decide) this
      · exact absurd rfl h
theorem takeWhile_all {p : UInt8 → Bool} : ∀ {a r : List UInt8}, (∀ c ∈ a, p c = true) → (∀ c, r.head? = some c → p c = false) → (a ++ r).takeWhile p = a
  | [], [], _, _ => rfl
  | [], c :: r, _, h => by
    have := h c rfl
    simp [this]
  | c :: a, r, h, h2 => by
    rw [List.cons_append, List.takeWhile_cons, if_pos (h c (by simp)), takeWhile_all (fun x hx => h x (by simp [hx])) h2]
theorem head_get {l : List UInt8} {k : Nat} {r : List UInt8} (h : l.drop k = r) : l[k]? = r.head? := by
  rw [← h, List.head?_drop]

/-- what may stand behind a term -/
def Stop (r : List UInt8) : Prop := ∀ c, r.head? = some c → isS c = false ∧ c ≠ 40

theorem args_text (s : ByteArray) (f n : Nat) (ih : ∀ (nm : ByteArray) (kd : Fo) (k : Nat) (L : List Cl) (post : List UInt8), kd.size < n → s.data.toList.drop k = (Fo.cons nm kd .nil).text ++ post → Stop post → (∀ c ∈ (Fo.cons nm kd .nil).flat, cellErr c = 0) → L.length + (Fo.cons nm kd .nil).size ≤ 64 → 65 ≤ f + L.length →
      rd s f k L = .ok (L ++ (Fo.cons nm kd .nil).flat) (k + (Fo.cons nm kd .nil).text.length)) :
    ∀ (E : Fo) (m k : Nat) (P : List Cl) (nm : ByteArray) (a : Int) (X : List Cl) (post : List UInt8), E.size ≤ n → 1 ≤ E.len → E.len ≤ m → m ≤ 4 → s.data.toList.drop (k + 1) = E.text ++ 41 :: post → (∀ c ∈ E.flat, cellErr c = 0) → P.length + 1 + X.length + E.size ≤ 64 → 65 ≤ f + (P.length + 1 + X.length) →
      args (rd s f) s.data.toList P.length m k (P ++ ⟨nm, a⟩ :: X) = .ok (P ++ ⟨nm, ((4 - m + E.len : Nat) : Int)⟩ :: (X ++ E.flat)) (k + 1 + E.text.length + 1) := by
  intro E
  induction E with
  | nil => intro m k P nm a X post _ h1; simp [Fo.len] at h1
  | cons n1 k1 r1 _ ihr =>
    intro m k P nm a X post hn h1 hm hm4 hd hf hs hf65
    obtain ⟨m', rfl⟩ : ∃ m', m = m' + 1 := ⟨m - 1, by simp [Fo.len] at hm; omega⟩
    simp only [Fo.size] at hn hs
    simp only [Fo.len] at hm
    rw [Fo.text_cons, List.append_assoc] at hd
    have hstop : Stop (moreC r1.len r1.text ++ 41 :: post) := by
      intro c hc
      unfold moreC at hc
      split at hc
      · simp at hc; subst hc; decide
      · simp at hc; subst hc; decide
    have hrd := ih n1 k1 (k + 1) (P ++ ⟨nm, a⟩ :: X) (moreC r1.len r1.text ++ 41 :: post) (by omega) hd hstop (fun c hc => hf c (by rw [Fo.flat_cons]; exact List.mem_append_left _ hc)) (by simp [Fo.size]; omega) (by simp; omega)
    rw [args, hrd]
    simp only
    have hcells : P ++ (⟨nm, a⟩ : Cl) :: X ++ (Fo.cons n1 k1 .nil).flat = P ++ ⟨nm, a⟩ :: (X ++ (Fo.cons n1 k1 .nil).flat) := by simp
    rw [hcells, setA_at]
    have hdj : s.data.toList.drop (k + 1 + (Fo.cons n1 k1 .nil).text.length) = moreC r1.len r1.text ++ 41 :: post := by
      rw [← List.drop_drop, hd, List.drop_left]
    have hget := head_get hdj
    by_cases hr : r1.len = 0
    · have := Fo.len_zero hr
      subst this
      have h41 : s.data.toList[k + 1 + (Fo.cons n1 k1 .nil).text.length]? = some 41 := by rw [hget]; simp [moreC, Fo.len]
      rw [if_pos h41]
      simp only [Fo.len]
      rw [show 4 - (m' + 1) + (0 + 1) = 4 - m' by omega]
    · have h44 : s.data.toList[k + 1 + (Fo.cons n1 k1 .nil).text.length]? = some 44 := by rw [hget]; simp [moreC, hr]
      rw [if_neg (by rw [h44]; decide), if_pos h44, if_neg (by omega)]
      have hnx := ihr m' (k + 1 + (Fo.cons n1 k1 .nil).text.length) P nm ((4 - m' : Nat) : Int) (X ++ (Fo.cons n1 k1 .nil).flat) post (by omega) (by omega) (by omega) (by omega)
        (by rw [← List.drop_drop, hdj]; simp [moreC, hr]) (fun c hc => hf c (by rw [Fo.flat_cons]; exact List.mem_append_right _ hc)) (by simp [Fo.flat_length, Fo.size]; omega) (by simp [Fo.flat_length, Fo.size]; omega)
      rw [hnx]
      have ht : (Fo.cons n1 k1 r1).text.length = (Fo.cons n1 k1 .nil).text.length + 1 + r1.text.length := by
        rw [Fo.text_cons]; simp [moreC, hr]; omega
      rw [ht, Fo.flat_cons n1 k1 r1]
      simp only [Fo.len, List.append_assoc]
      rw [show 4 - (m' + 1) + (r1.len + 1) = 4 - m' + r1.len by omega]
      congr 1
      omega

theorem rd_text (s : ByteArray) : ∀ (n f : Nat) (nm : ByteArray) (kd : Fo) (k : Nat) (L : List Cl) (post : List UInt8), kd.size < n → s.data.toList.drop k = (Fo.cons nm kd .nil).text ++ post → Stop post → (∀ c ∈ (Fo.cons nm kd .nil).flat, cellErr c = 0) → L.length + (Fo.cons nm kd .nil).size ≤ 64 → 65 ≤ f + L.length →
      rd s f k L = .ok (L ++ (Fo.cons nm kd .nil).flat) (k + (Fo.cons nm kd .nil).text.length) := by
  intro n
  induction n with
  | zero => intro f nm kd k L post h; omega
  | succ n ih =>
    intro f nm kd k L post hn hd hstop hfine hsz hf
    obtain ⟨f', rfl⟩ : ∃ f', f = f' + 1 := ⟨f - 1, by simp [Fo.size] at hsz; omega⟩
    have hc : cellErr ⟨nm, (kd.len : Nat)⟩ = 0 := hfine _ (by simp [Fo.flat])
    have hkind := cellErr_kind hc
    have hnl := name_len hc
    simp only at hkind hnl
    rw [Fo.text_one, List.append_assoc] at hd
    have hrest : ∀ c, (wrapP kd.len kd.text ++ post).head? = some c → isS c = false := by
      intro c h
      unfold wrapP at h
      split at h
      · exact (hstop c h).1
      · simp at h; subst h; decide
    have htw : (s.data.toList.drop k).takeWhile isS = nm.data.toList := by
      rw [hd]; exact takeWhile_all (kind_signs hkind) hrest
    have hew : endw s.data.toList k = k + nm.size := by unfold endw; rw [htw, size_list]
    have hnm : s.extract k (k + nm.size) = nm := by
      have := piece_data s k
      rw [htw, hew] at this
      exact ByteArray.ext (Array.toList_inj.1 this)
    have hdj : s.data.toList.drop (k + nm.size) = wrapP kd.len kd.text ++ post := by
      rw [← size_list nm, ← List.drop_drop, hd, List.drop_left]
    have hget := head_get hdj
    simp only [Fo.size] at hsz
    rw [rd, hew, hnm, if_neg (by omega), if_neg hkind, if_neg (by omega)]
    by_cases h0 : kd.len = 0
    · have := Fo.len_zero h0
      subst this
      have hn40 : ¬ s.data.toList[k + nm.size]? = some 40 := by
        rw [hget]
        simp only [wrapP, Fo.len, if_true, List.nil_append]
        intro h
        exact (hstop 40 h).2 rfl
      rw [if_neg hn40]
      simp [Fo.flat, Fo.text, Fo.len, wrapP, moreC, size_list]
    · have h40 : s.data.toList[k + nm.size]? = some 40 := by
        rw [hget]; simp [wrapP, h0]
      have hnv : ¬ kind nm.data.toList = 2 := by
        intro h2
        unfold cellErr at hc
        simp only [h2, if_true] at hc
        split at hc
        · cases hc
        · split at hc
          · cases hc
          · omega
      rw [if_pos h40, if_neg hnv]
      have har := cellErr_ar hc
      simp only at har
      have hargs := args_text s f' n (fun nm kd k L post => ih f' nm kd k L post) kd 4 (k + nm.size) L nm 0 [] post (by omega) (by omega) (by omega) (by omega)
        (by rw [← List.drop_drop, hdj]; simp [wrapP, h0]) (fun c hc => hfine c (by simp [Fo.flat, hc])) (by simp; omega) (by simp; omega)
      rw [hargs]
      simp only [Fo.flat, Fo.text, Fo.len, wrapP, moreC, h0, if_false, if_true, List.nil_append, List.append_nil, List.length_append, List.length_cons, List.length_nil, size_list]
      rw [show 4 - 4 + kd.len = kd.len by omega]
      congr 1
      omega

/-- what is written is read as it was -/
theorem parse_text {L : List Cl} (hE : check L = 0) {nm : ByteArray} {kd : Fo} (hL : L = (Fo.cons nm kd .nil).flat) : parse ⟨(Fo.cons nm kd .nil).text.toArray⟩ = .ok L 0 := by
  obtain ⟨h64, hcs, _⟩ := check_zero hE
  have hfine := cellsErr_zero.1 hcs
  rw [hL] at hfine h64
  rw [Fo.flat_length] at h64
  have htl := text_len (.cons nm kd .nil) hfine
  have hrd := rd_text ⟨(Fo.cons nm kd .nil).text.toArray⟩ (kd.size + 1) 65 nm kd 0 [] [] (by omega) (by simp) (fun c hc => by simp at hc) hfine (by simpa using h64) (by simp)
  have hsz : (⟨(Fo.cons nm kd .nil).text.toArray⟩ : ByteArray).size = (Fo.cons nm kd .nil).text.length := by rw [size_eq]
  unfold parse
  rw [if_neg (by omega), hrd]
  simp only [Nat.zero_add]
  rw [if_neg (by omega), hL]
  rfl
/-- what is read is written as it was -/
theorem text_parse {s : ByteArray} {M : List Cl} {j : Nat} (h : parse s = .ok M j) : check M = 0 ∧ j = 0 ∧ ∃ nm kd, M = (Fo.cons nm kd .nil).flat ∧ s = ⟨(Fo.cons nm kd .nil).text.toArray⟩ := by
  unfold parse at h
  split at h
  · cases h
  · cases hr : rd s 65 0 [] with
    | bad j e => rw [hr] at h; cases h
    | ok M' j' =>
      rw [hr] at h
      simp only at h
      split at h
      · cases h
      · rename_i hj
        cases h
        obtain ⟨t, g⟩ := rd_ok s 65 0 [] M j' hr (Nat.zero_le _) (by simp)
        obtain ⟨nm, kd, rfl⟩ := one_cons g.one
        have hM : M = (Fo.cons nm kd .nil).flat := by have := g.cells; simpa using this
        refine ⟨?_, rfl, nm, kd, hM, ?_⟩
        · rw [hM]
          refine check_of rfl ?_ (cellsErr_zero.2 g.fine)
          rw [← Fo.flat_length, ← hM]; exact g.small
        · have ht := g.text
          rw [List.drop_zero, List.drop_eq_nil_of_le (by rw [size_list]; omega), List.append_nil] at ht
          exact ByteArray.ext (by rw [← ht])
theorem parse_bad_le {s : ByteArray} {j e : Nat} (h : parse s = .bad j e) : j ≤ s.size ∧ 0 < e ∧ e ≤ 6 := by
  unfold parse at h
  split at h
  · cases h; omega
  · cases hr : rd s 65 0 [] with
    | bad j' e' =>
      rw [hr] at h; cases h
      have := rd_bad s 65 0 [] j e hr (Nat.zero_le _) (by simp)
      rw [size_list] at this; exact this
    | ok M' j' =>
      rw [hr] at h
      simp only at h
      split at h
      · cases h; omega
      · cases h

end Go.Proofs.YtjpmlnigjbdnnaaDoor
