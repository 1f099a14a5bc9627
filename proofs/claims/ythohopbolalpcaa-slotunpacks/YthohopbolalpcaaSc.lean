/-
  A content's bytes, and its hash.
-/
import Derived.Test.YthohopbolalpcaaSb
import Derived.Lib.BufferWrite
namespace Go.Proofs.Ythohopbolalpcaa
open Go.RowKit
set_option linter.unusedVariables false
set_option linter.unusedSimpArgs false
set_option maxRecDepth 100000

/-- an array of N bytes that begins so, with bytes 0 behind -/
def Arr (w : World) (g : Nat) (t : TypeId) (N : Nat) (pre : List UInt8) : Prop := Blk w g (Lib.byteCells (pre ++ List.replicate (N - pre.length) 0)).toArray t
theorem Arr.on {w w' : World} {g : Nat} {t : TypeId} {N : Nat} {pre : List UInt8} (h : Arr w g t N pre) (hb : Below w.heap.size w w') : Arr w' g t N pre := Blk.on h hb (Blk.lt h)
theorem Arr.lt {w : World} {g : Nat} {t : TypeId} {N : Nat} {pre : List UInt8} (h : Arr w g t N pre) : g < w.heap.size := Blk.lt h
/-- a text copied behind what stands there -/
theorem Arr.copy {w : World} {g : Nat} {t : TypeId} {N : Nat} {pre : List UInt8} (h : Arr w g t N pre) (s : ByteArray) (o m n c : Nat) (ho : pre.length = o) (hm : s.size = m) (hs : o + m ≤ N) (hn : m ≤ n) :
    ∃ w', (Builtin.copy_ #[76, 9] 3 #[.slice (some ⟨g, o, none⟩) n c, .string s]).run Try.prog w = .ok (.int .i64 (m : Nat)) w' ∧ Arr w' g t N (pre ++ s.data.toList) ∧ Keep (fun j => j = g) w w' := by
  subst ho
  subst hm
  have hsz : s.data.toList.length = s.size := (Lib.size_eq s).symm
  have hr := Lib.run_copy_row_string (P := Try.prog) w 76 9 3 5 g pre.length n c s _ t Try.underlying76 info5s h hn (by rw [List.size_toArray, Lib.byteCells_length, List.length_append, List.length_replicate]; omega)
  refine ⟨_, hr, ?_, ⟨rfl, rfl, rfl, by simp [World.setRow], fun k _ hk => setRow_other w g k _ (fun e => hk e)⟩⟩
  have hh := setRow_heap w g _ (((Lib.byteCells (pre ++ List.replicate (N - pre.length) 0)).toArray.toList.take pre.length ++ Lib.byteCells s.data.toList ++ (Lib.byteCells (pre ++ List.replicate (N - pre.length) 0)).toArray.toList.drop (pre.length + s.size)).toArray) t (0, 0) h
  unfold Arr Blk
  rw [hh]
  congr 2
  apply congrArg
  rw [List.toList_toArray, Lib.byteCells_append, Lib.byteCells_append, Lib.byteCells_append]
  have hl : (Lib.byteCells pre).length = pre.length := Lib.byteCells_length pre
  rw [List.take_append_of_le_length (by omega), List.take_of_length_le (by omega), ← hl, List.drop_append, List.drop_eq_nil_of_le (by omega), List.nil_append]
  congr 1
  have : (Lib.byteCells (List.replicate (N - pre.length) 0)).drop ((Lib.byteCells pre).length + s.size - (Lib.byteCells pre).length) = Lib.byteCells (List.replicate (N - (pre ++ s.data.toList).length) 0) := by
    unfold Lib.byteCells
    rw [← List.map_drop, List.drop_replicate, List.length_append, List.length_map, hsz]
    congr 2
    omega
  rw [hl] at this ⊢
  exact this

theorem Arr.at {w : World} {g : Nat} {t : TypeId} {N : Nat} {pre : List UInt8} (h : Arr w g t N pre) (j : Nat) (x : UInt8) (hj : (pre ++ List.replicate (N - pre.length) 0)[j]? = some x) : w.cell? ⟨g, j, none⟩ = some (.int .u8 (x.toNat : Int)) := by
  refine Blk.cell h ?_
  rw [List.getElem?_toArray]
  simp only [Lib.byteCells, List.getElem?_map, hj, Option.map_some]
/-- the text of what stands there -/
theorem Arr.text {w : World} {g : Nat} {t : TypeId} {N : Nat} {pre : List UInt8} (h : Arr w g t N pre) (n c : Nat) (hn : pre.length = n) :
    (convert 76 9 (.slice (some ⟨g, 0, none⟩) n c)).run Try.prog w = .ok (.string ⟨pre.toArray⟩) w := by
  have hr := run_convert_bytes_back (P := Try.prog) w 76 9 5 ⟨g, 0, none⟩ c pre Try.underlying76 Try.underlying5 Try.underlying9 (fun j hj => by
    rw [add_zero_off]
    exact h.at j _ (by rw [List.getElem?_append_left hj]; exact List.getElem?_eq_getElem hj))
  rwa [hn] at hr

/-- the bytes of a content -/
def ct (s : ByteArray) (K : List Nat) : List UInt8 := (padOf s 8).data.toList ++ be K.length 1 ++ K.flatMap fun x => be x 6
theorem flat6_len (K : List Nat) : (K.flatMap fun x => be x 6).length = 6 * K.length := by
  induction K with
  | nil => rfl
  | cons x K ih => rw [List.flatMap_cons, List.length_append, ih, be_length, List.length_cons]; omega
theorem pad8_len {s : ByteArray} (h : s.size ≤ 8) : (padOf s 8).data.toList.length = 8 := by rw [← Lib.size_eq]; exact padOf_size s 8 h
theorem ct_len {s : ByteArray} {K : List Nat} (h : s.size ≤ 8) : (ct s K).length = 9 + 6 * K.length := by
  unfold ct
  rw [List.length_append, List.length_append, pad8_len h, be_length, flat6_len]
theorem kind_le {s : ByteArray} (h : kind s.data.toList ≠ 0) : s.size ≤ 8 := by
  unfold kind at h
  split at h
  · exact absurd rfl h
  · rename_i h'
    have : s.data.toList.length = s.size := (Lib.size_eq s).symm
    omega
theorem ctE_ok {s : ByteArray} {K : List Nat} (h : ctE s.data.toList K = 0) : s.size ≤ 8 ∧ K.length ≤ 4 ∧ ∀ x ∈ K, isA x = true := by
  unfold ctE at h
  split at h
  · omega
  · rename_i h0
    split at h
    · omega
    · rename_i h4
      split at h
      · rename_i ha
        exact ⟨kind_le h0, by omega, List.all_eq_true.1 ha⟩
      · omega
theorem isA_lt {a : Nat} (h : isA a = true) : a < 281474976710656 := by
  simp only [isA, Bool.and_eq_true, decide_eq_true_eq] at h
  exact h.1
theorem zero75 (W : World) (cs : Array Value) (h : cs = (Lib.byteCells (List.replicate 33 0)).toArray) : Arr (W.alloc (.cells cs 75)) W.heap.size 75 33 [] := by
  subst h
  exact Blk.made W _ 75

set_option maxHeartbeats 4000000 in
theorem content_any (s : ByteArray) (v : Value) (K : List Nat) (w : World) (he : ctE s.data.toList K = 0) (hl : LiesK w v K) :
    Calls Try.prog 24 #[.string s, v] w fun e w' => e = .returned (.string ⟨(ct s K).toArray⟩) ∧ Below w.heap.size w w' := by
  obtain ⟨a, c, rfl⟩ := hl.form
  obtain ⟨h8, h4, hA⟩ := ctE_ok he
  have HCT : Hid (ct s K = (padOf s 8).data.toList ++ be K.length 1 ++ K.flatMap fun x => be x 6) := rfl
  have HL := hid hl
  have HPD : Hid (∀ w1, _) := fun w1 => spad s w1 h8
  have HP8 := hid (pad8_len h8)
  have HA := hid hA
  have HLEN := hid (ct_len (K := K) h8)
  generalize ct s K = C at *
  generalize padOf s 8 = P at *
  obtain ⟨n, hn⟩ : ∃ n, K.length = n := ⟨_, rfl⟩
  have HN := hid hn
  rw [hn] at h4 HL HCT HLEN ⊢
  have HPN : Hid (∀ w1, _) := fun w1 => sput n 1 w1 (by omega) (by omega) (by omega)
  have h18 : P.size = 8 := by rw [Lib.size_eq]; exact HP8.out
  clear he hl hA hn h8
  have HA1 := hid (zero75 w #[Value.int IntKind.u8 0, Value.int IntKind.u8 0, Value.int IntKind.u8 0, Value.int IntKind.u8 0, Value.int IntKind.u8 0, Value.int IntKind.u8 0, Value.int IntKind.u8 0, Value.int IntKind.u8 0, Value.int IntKind.u8 0, Value.int IntKind.u8 0, Value.int IntKind.u8 0, Value.int IntKind.u8 0, Value.int IntKind.u8 0, Value.int IntKind.u8 0, Value.int IntKind.u8 0, Value.int IntKind.u8 0, Value.int IntKind.u8 0, Value.int IntKind.u8 0, Value.int IntKind.u8 0, Value.int IntKind.u8 0, Value.int IntKind.u8 0, Value.int IntKind.u8 0, Value.int IntKind.u8 0, Value.int IntKind.u8 0, Value.int IntKind.u8 0, Value.int IntKind.u8 0, Value.int IntKind.u8 0, Value.int IntKind.u8 0, Value.int IntKind.u8 0, Value.int IntKind.u8 0, Value.int IntKind.u8 0, Value.int IntKind.u8 0, Value.int IntKind.u8 0] (by rfl))
  have HB1 := hid ((Below.refl w.heap.size w).alloc (Nat.le_refl _) (.cells #[Value.int IntKind.u8 0, Value.int IntKind.u8 0, Value.int IntKind.u8 0, Value.int IntKind.u8 0, Value.int IntKind.u8 0, Value.int IntKind.u8 0, Value.int IntKind.u8 0, Value.int IntKind.u8 0, Value.int IntKind.u8 0, Value.int IntKind.u8 0, Value.int IntKind.u8 0, Value.int IntKind.u8 0, Value.int IntKind.u8 0, Value.int IntKind.u8 0, Value.int IntKind.u8 0, Value.int IntKind.u8 0, Value.int IntKind.u8 0, Value.int IntKind.u8 0, Value.int IntKind.u8 0, Value.int IntKind.u8 0, Value.int IntKind.u8 0, Value.int IntKind.u8 0, Value.int IntKind.u8 0, Value.int IntKind.u8 0, Value.int IntKind.u8 0, Value.int IntKind.u8 0, Value.int IntKind.u8 0, Value.int IntKind.u8 0, Value.int IntKind.u8 0, Value.int IntKind.u8 0, Value.int IntKind.u8 0, Value.int IntKind.u8 0, Value.int IntKind.u8 0] 75))
  have HGB : w.heap.size ≤ w.heap.size := Nat.le_refl _
  go_enter Try.func24, Try.ntmps24
  go_wp2_with fail
  generalize w.alloc (Obj.cells #[Value.int IntKind.u8 0, Value.int IntKind.u8 0, Value.int IntKind.u8 0, Value.int IntKind.u8 0, Value.int IntKind.u8 0, Value.int IntKind.u8 0, Value.int IntKind.u8 0, Value.int IntKind.u8 0, Value.int IntKind.u8 0, Value.int IntKind.u8 0, Value.int IntKind.u8 0, Value.int IntKind.u8 0, Value.int IntKind.u8 0, Value.int IntKind.u8 0, Value.int IntKind.u8 0, Value.int IntKind.u8 0, Value.int IntKind.u8 0, Value.int IntKind.u8 0, Value.int IntKind.u8 0, Value.int IntKind.u8 0, Value.int IntKind.u8 0, Value.int IntKind.u8 0, Value.int IntKind.u8 0, Value.int IntKind.u8 0, Value.int IntKind.u8 0, Value.int IntKind.u8 0, Value.int IntKind.u8 0, Value.int IntKind.u8 0, Value.int IntKind.u8 0, Value.int IntKind.u8 0, Value.int IntKind.u8 0, Value.int IntKind.u8 0, Value.int IntKind.u8 0] 75) = w1 at *
  obtain ⟨g, hg⟩ : ∃ g, w.heap.size = g := ⟨_, rfl⟩
  have HG := hid hg
  rw [hg] at HA1 HB1 ⊢
  clear hg HGB
  refine wp_region_d (fun _ => True) (fun _ => true) (by kernel_rfl) ?_
  have HA2 := hid (HA1.out.on (Below.refl _ w1).drew)
  have HB2 := hid HB1.out.drew
  clear HA1 HB1
  generalize w1.drew = w2 at *
  refine wpAnyM_pick (i := 0) (some 9) (v := ?vz1) rfl rfl (by kernel_rfl) (by kernel_rfl) (by kernel_rfl) (by kernel_rfl) (fun _ _ _ h => h) (Or.inl ⟨by rfl, ?hz1⟩) trivial ?rz1
  case hz1 => intro w hSw; (try have hs1 := hSw.1); (try have hs2 := hSw.2); go_simp; try with_reducible rfl
  try simp only [Act.put, List.setIfInBounds_toArray, List.set_cons_zero, List.set_cons_succ]
  refine wpAnyM_pick (i := 1) (some 10) (v := ?vz2) rfl rfl (by kernel_rfl) (by kernel_rfl) (by kernel_rfl) (by kernel_rfl) (fun _ _ _ h => h) (Or.inl ⟨by rfl, ?hz2⟩) trivial ?rz2
  case hz2 => intro w hSw; (try have hs1 := hSw.1); (try have hs2 := hSw.2); go_simp; try with_reducible rfl
  try simp only [Act.put, List.setIfInBounds_toArray, List.set_cons_zero, List.set_cons_succ]
  refine wpAnyM_one (i := 2) (by kernel_rfl) rfl (fun K hK => ?_)
  go_simp
  go_at_call 42
  refine (HPD.out _).mono ?_
  rintro e w3 ⟨rfl, hb3⟩
  have HA3 := hid (HA2.out.on hb3)
  have HB3 := hid (HB2.out.trans (hb3.mono (Nat.le_of_lt HA2.out.lt)))
  clear hb3 HA2 HB2 HPD
  go_wp2_with fail
  refine hK.out _ _ (fun _ => trivial) ?_
  clear hK K
  try simp only [Act.put, List.setIfInBounds_toArray, List.set_cons_zero, List.set_cons_succ]
  obtain ⟨w4, hcp, ha4, hk4⟩ := HA3.out.copy P 0 8 33 33 rfl h18 (by decide) (by decide)
  have HA4 := hid ha4
  have HB4 := hid (HB3.out.trans (hk4.below (fun j hj => by rw [hj]; exact Nat.le_refl _) (Nat.le_of_lt HA3.out.lt)))
  clear ha4 hk4 HA3 HB3
  refine wpAnyM_one (i := 3) (by kernel_rfl) rfl (fun K hK => ?_)
  go_simp
  refine hK.out _ _ (fun _ => trivial) ?_
  clear hK K
  try simp only [Act.put, List.setIfInBounds_toArray, List.set_cons_zero, List.set_cons_succ]
  refine wpAnyM_pick (i := 4) (some 6) (v := ?vz3) rfl rfl (by kernel_rfl) (by kernel_rfl) (by kernel_rfl) (by kernel_rfl) (fun _ _ _ h => h) (Or.inl ⟨by rfl, ?hz3⟩) trivial ?rz3
  case hz3 => intro w hSw; (try have hs1 := hSw.1); (try have hs2 := hSw.2); go_simp; try with_reducible rfl
  try simp only [Act.put, List.setIfInBounds_toArray, List.set_cons_zero, List.set_cons_succ]
  refine wpAnyM_done (by kernel_rfl) ?_ _
  clear hcp
  have HQ : Hid ((⟨(be n 1).toArray⟩ : ByteArray).data.toList = be n 1) := rfl
  have hq1 : (⟨(be n 1).toArray⟩ : ByteArray).size = 1 := by rw [Lib.size_eq, HQ.out, be_length]
  rw [← HQ.out] at HCT
  clear HQ
  generalize (⟨(be n 1).toArray⟩ : ByteArray) = Q at *
  go_wp2_with fail
  refine wp_region_d (fun _ => True) (fun _ => true) (by kernel_rfl) ?_
  have HA5 := hid (HA4.out.on (Below.refl _ w4).drew)
  have HB5 := hid HB4.out.drew
  clear HA4 HB4
  generalize w4.drew = w5 at *
  have hn64 : IntKind.u64.wrap (n : Int) = (n : Int) := by rw [IntKind.wrap_u64]; omega
  refine wpAnyM_pick (i := 0) (some 13) (v := ?vz4) rfl rfl (by kernel_rfl) (by kernel_rfl) (by kernel_rfl) (by kernel_rfl) (fun _ _ _ h => h) (Or.inl ⟨by rfl, ?hz4⟩) trivial ?rz4
  case hz4 => intro w hSw; (try have hs1 := hSw.1); (try have hs2 := hSw.2); go_simp; try with_reducible rfl
  try simp only [Act.put, List.setIfInBounds_toArray, List.set_cons_zero, List.set_cons_succ]
  refine wpAnyM_pick (i := 1) (some 14) (v := ?vz5) rfl rfl (by kernel_rfl) (by kernel_rfl) (by kernel_rfl) (by kernel_rfl) (fun _ _ _ h => h) (Or.inl ⟨by rfl, ?hz5⟩) trivial ?rz5
  case hz5 => intro w hSw; (try have hs1 := hSw.1); (try have hs2 := hSw.2); go_simp; try with_reducible rfl
  try simp only [Act.put, List.setIfInBounds_toArray, List.set_cons_zero, List.set_cons_succ]
  refine wpAnyM_pick (i := 2) (some 15) (v := ?vz6) rfl rfl (by kernel_rfl) (by kernel_rfl) (by kernel_rfl) (by kernel_rfl) (fun _ _ _ h => h) (Or.inl ⟨by rfl, ?hz6⟩) trivial ?rz6
  case hz6 => intro w hSw; (try have hs1 := hSw.1); (try have hs2 := hSw.2); go_simp; try with_reducible rfl
  try simp only [Act.put, List.setIfInBounds_toArray, List.set_cons_zero, List.set_cons_succ]
  refine wpAnyM_pick (i := 3) (some 16) (v := ?vz7) rfl rfl (by kernel_rfl) (by kernel_rfl) (by kernel_rfl) (by kernel_rfl) (fun _ _ _ h => h) (Or.inl ⟨by rfl, ?hz7⟩) trivial ?rz7
  case hz7 => intro w hSw; (try have hs1 := hSw.1); (try have hs2 := hSw.2); go_simp; try with_reducible rfl
  try simp only [Act.put, List.setIfInBounds_toArray, List.set_cons_zero, List.set_cons_succ]
  refine wpAnyM_pick (i := 4) (some 17) (v := ?vz8) rfl rfl (by kernel_rfl) (by kernel_rfl) (by kernel_rfl) (by kernel_rfl) (fun _ _ _ h => h) (Or.inl ⟨by rfl, ?hz8⟩) trivial ?rz8
  case hz8 => intro w hSw; (try have hs1 := hSw.1); (try have hs2 := hSw.2); go_simp; try with_reducible rfl
  try simp only [Act.put, List.setIfInBounds_toArray, List.set_cons_zero, List.set_cons_succ]
  refine wpAnyM_pick (i := 5) (some 18) (v := ?vz9) rfl rfl (by kernel_rfl) (by kernel_rfl) (by kernel_rfl) (by kernel_rfl) (fun _ _ _ h => h) (Or.inl ⟨by rfl, ?hz9⟩) trivial ?rz9
  case hz9 => intro w hSw; (try have hs1 := hSw.1); (try have hs2 := hSw.2); go_simp; try with_reducible rfl
  try simp only [Act.put, List.setIfInBounds_toArray, List.set_cons_zero, List.set_cons_succ]
  refine wpAnyM_one (i := 6) (by kernel_rfl) rfl (fun K hK => ?_)
  go_simp
  go_at_call 43
  refine (HPN.out _).mono ?_
  rintro e w6 ⟨rfl, hb6⟩
  have HA6 := hid (HA5.out.on hb6)
  have HB6 := hid (HB5.out.trans (hb6.mono (Nat.le_of_lt HA5.out.lt)))
  clear hb6 HA5 HB5 HPN
  go_wp2_with fail
  refine hK.out _ _ (fun _ => trivial) ?_
  clear hK K
  try simp only [Act.put, List.setIfInBounds_toArray, List.set_cons_zero, List.set_cons_succ]
  obtain ⟨w7, hcp, ha7, hk7⟩ := HA6.out.copy Q 8 1 25 25 (by rw [List.nil_append]; exact HP8.out) hq1 (by decide) (by decide)
  have HB7 := hid (HB6.out.trans (hk7.below (fun j hj => by rw [hj]; exact Nat.le_refl _) (Nat.le_of_lt HA6.out.lt)))
  have HA7 : Hid (Arr w7 g 75 33 (P.data.toList ++ Q.data.toList ++ (K.take 0).flatMap fun x => be x 6)) := by show Arr _ _ _ _ _; simpa using ha7
  have HHL : Hid ((P.data.toList ++ Q.data.toList).length = 9) := by show _ = _; rw [List.length_append, HP8.out, ← Lib.size_eq, hq1]
  clear ha7 hk7 HA6 HB6 HP8
  refine wpAnyM_one (i := 7) (by kernel_rfl) rfl (fun K hK => ?_)
  go_simp
  refine hK.out _ _ (fun _ => trivial) ?_
  clear hK K
  try simp only [Act.put, List.setIfInBounds_toArray, List.set_cons_zero, List.set_cons_succ]
  refine wpAnyM_pick (i := 8) (some 21) (v := ?vz10) rfl rfl (by kernel_rfl) (by kernel_rfl) (by kernel_rfl) (by kernel_rfl) (fun _ _ _ h => h) (Or.inl ⟨by rfl, ?hz10⟩) trivial ?rz10
  case hz10 => intro w hSw; (try have hs1 := hSw.1); (try have hs2 := hSw.2); go_simp; try with_reducible rfl
  try simp only [Act.put, List.setIfInBounds_toArray, List.set_cons_zero, List.set_cons_succ]
  refine wpAnyM_pick (i := 9) (some 6) (v := ?vz11) rfl rfl (by kernel_rfl) (by kernel_rfl) (by kernel_rfl) (by kernel_rfl) (fun _ _ _ h => h) (Or.inl ⟨by rfl, ?hz11⟩) trivial ?rz11
  case hz11 => intro w hSw; (try have hs1 := hSw.1); (try have hs2 := hSw.2); go_simp; try with_reducible rfl
  try simp only [Act.put, List.setIfInBounds_toArray, List.set_cons_zero, List.set_cons_succ]
  refine wpAnyM_done (by kernel_rfl) ?_ _
  clear hcp hn64 h18 hq1
  generalize P.data.toList ++ Q.data.toList = hd at *
  go_wp2_with fail
  go_loopw [6, 24] (fun y i wr => ∃ (j q : Nat), j ≤ n ∧ y = .int .i64 (q : Nat) ∧ i = .int .i64 (j : Nat) ∧ Hid (q = 9 + 6 * j) ∧ Hid (Arr wr g 75 33 (hd ++ (K.take j).flatMap fun x => be x 6)) ∧ Hid (Below g w wr)) (fun _ i _ => n - (intOf i).toNat)
  case atStart => exact ⟨0, 9, Nat.zero_le _, rfl, rfl, rfl, HA7, HB7⟩
  case round =>
    obtain ⟨j, q, hj, rfl, rfl, HQ, HA8, HB8⟩ := hrel
    clear HA7 HB7
    by_cases hjn : j < n
    · have hji : (j : Int) < (n : Int) := by omega
      obtain ⟨x, hx⟩ : ∃ x, K[j]? = some x := ⟨_, List.getElem?_eq_getElem (by rw [HN.out]; exact hjn)⟩
      have hbw : Below w.heap.size w wr := by rw [HG.out]; exact HB8.out
      obtain ⟨b, off, e1, hbl, d1, d2⟩ := (HL.out.on hbw).at hx
      subst e1
      have hq := HQ.out
      have q1 : (q : Int) ≤ 33 := by omega
      have q2 : ¬ 33 = q := by omega
      have q3 : q + 6 ≤ 33 := by omega
      have q4 : IntKind.i64.wrap ((q : Int) + 6) = ((q + 6 : Nat) : Int) := by rw [IntKind.wrap_i64]; omega
      have HXL := hid (isA_lt (HA.out x (List.mem_of_getElem? hx)))
      have HPX : Hid (∀ w1, _) := fun w1 => sput x 6 w1 (by omega) (by omega) (by have := HXL.out; omega)
      have HXX : Hid ((⟨(be x 6).toArray⟩ : ByteArray).data.toList = be x 6) := rfl
      have hx6 : (⟨(be x 6).toArray⟩ : ByteArray).size = 6 := by rw [Lib.size_eq, HXX.out, be_length]
      have HTK : Hid ((K.take (j + 1)).flatMap (fun x => be x 6) = (K.take j).flatMap (fun x => be x 6) ++ be x 6) := by show _ = _; rw [List.take_add_one, hx]; simp [List.flatMap_append]
      have HTL : Hid (((K.take j).flatMap (fun x => be x 6)).length = 6 * j) := by show _ = _; rw [flat6_len, List.length_take, HN.out, Nat.min_eq_left hj]
      rw [← HXX.out] at HTK
      clear HXX hx hbw hq
      generalize (⟨(be x 6).toArray⟩ : ByteArray) = X at *
      generalize (K.take j).flatMap (fun x => be x 6) = tl at *
      go_wp2_with fail
      refine wp_region_d (fun _ => True) (fun _ => true) (by kernel_rfl) ?_
      have HA9 := hid (HA8.out.on (Below.refl _ wr).drew)
      have HB9 := hid HB8.out.drew
      clear HA8 HB8 d1
      generalize wr.drew = w9 at *
      refine wpAnyM_pick (i := 0) (some 28) (v := ?vz12) rfl rfl (by kernel_rfl) (by kernel_rfl) (by kernel_rfl) (by kernel_rfl) (fun _ _ _ h => h) (Or.inl ⟨by rfl, ?hz12⟩) trivial ?rz12
      case hz12 => intro w hSw; (try have hs1 := hSw.1); (try have hs2 := hSw.2); go_simp; try with_reducible rfl
      try simp only [Act.put, List.setIfInBounds_toArray, List.set_cons_zero, List.set_cons_succ]
      refine wpAnyM_pick (i := 1) (some 29) (v := ?vz13) rfl rfl (by kernel_rfl) (by kernel_rfl) (by kernel_rfl) (by kernel_rfl) (fun _ _ _ h => h) (Or.inl ⟨by rfl, ?hz13⟩) trivial ?rz13
      case hz13 => intro w hSw; (try have hs1 := hSw.1); (try have hs2 := hSw.2); go_simp; try with_reducible rfl
      try simp only [Act.put, List.setIfInBounds_toArray, List.set_cons_zero, List.set_cons_succ]
      refine wpAnyM_pick (i := 2) (some 30) (v := ?vz14) rfl rfl (by kernel_rfl) (by kernel_rfl) (by kernel_rfl) (by kernel_rfl) (fun _ _ _ h => h) (Or.inl ⟨by rfl, ?hz14⟩) trivial ?rz14
      case hz14 => intro w hSw; (try have hs1 := hSw.1); (try have hs2 := hSw.2); go_simp; try with_reducible rfl
      try simp only [Act.put, List.setIfInBounds_toArray, List.set_cons_zero, List.set_cons_succ]
      refine wpAnyM_pick (i := 3) (some 31) (v := ?vz15) rfl rfl (by kernel_rfl) (by kernel_rfl) (by kernel_rfl) (by kernel_rfl) (fun _ _ _ h => h) (Or.inl ⟨by rfl, ?hz15⟩) trivial ?rz15
      case hz15 => intro w hSw; (try have hs1 := hSw.1); (try have hs2 := hSw.2); go_simp; try with_reducible rfl
      try simp only [Act.put, List.setIfInBounds_toArray, List.set_cons_zero, List.set_cons_succ]
      refine wpAnyM_one (i := 4) (by kernel_rfl) rfl (fun K hK => ?_)
      go_simp
      go_at_call 43
      refine (HPX.out _).mono ?_
      rintro e w10 ⟨rfl, hb10⟩
      have HA10 := hid (HA9.out.on hb10)
      have HB10 := hid (HB9.out.trans (hb10.mono (Nat.le_of_lt HA9.out.lt)))
      clear hb10 HA9 HB9 HPX
      go_wp2_with fail
      refine hK.out _ _ (fun _ => trivial) ?_
      clear hK K
      try simp only [Act.put, List.setIfInBounds_toArray, List.set_cons_zero, List.set_cons_succ]
      obtain ⟨w11, hcp, ha11, hk11⟩ := HA10.out.copy X q 6 (33 - q) (33 - q) (by rw [List.length_append, HHL.out, HTL.out, HQ.out]) hx6 q3 (by omega)
      have HB11 := hid (HB10.out.trans (hk11.below (fun j hj => by rw [hj]; exact Nat.le_refl _) (Nat.le_of_lt HA10.out.lt)))
      have HA11 : Hid (Arr w11 g 75 33 (hd ++ (K.take (j + 1)).flatMap fun x => be x 6)) := by show Arr _ _ _ _ _; rw [HTK.out, ← List.append_assoc]; exact ha11
      clear ha11 hk11 HA10 HB10
      refine wpAnyM_one (i := 5) (by kernel_rfl) rfl (fun K hK => ?_)
      go_simp
      refine hK.out _ _ (fun _ => trivial) ?_
      clear hK K
      try simp only [Act.put, List.setIfInBounds_toArray, List.set_cons_zero, List.set_cons_succ]
      refine wpAnyM_pick (i := 6) (some 34) (v := ?vz16) rfl rfl (by kernel_rfl) (by kernel_rfl) (by kernel_rfl) (by kernel_rfl) (fun _ _ _ h => h) (Or.inl ⟨by rfl, ?hz16⟩) trivial ?rz16
      case hz16 => intro w hSw; (try have hs1 := hSw.1); (try have hs2 := hSw.2); go_simp; try with_reducible rfl
      try simp only [Act.put, List.setIfInBounds_toArray, List.set_cons_zero, List.set_cons_succ]
      refine wpAnyM_pick (i := 7) (some 6) (v := ?vz17) rfl rfl (by kernel_rfl) (by kernel_rfl) (by kernel_rfl) (by kernel_rfl) (fun _ _ _ h => h) (Or.inl ⟨by rfl, ?hz17⟩) trivial ?rz17
      case hz17 => intro w hSw; (try have hs1 := hSw.1); (try have hs2 := hSw.2); go_simp; try with_reducible rfl
      try simp only [Act.put, List.setIfInBounds_toArray, List.set_cons_zero, List.set_cons_succ]
      refine wpAnyM_done (by kernel_rfl) ?_ _
      clear hcp
      go_wp2_with fail
      go_roundw
      case rel => exact ⟨j + 1, q + 6, by omega, rfl, by go_num, by have := HQ.out; show q + 6 = _; omega, HA11, HB11⟩
      case measure => simp [intOf]; omega
    · have hji : ¬ (j : Int) < (n : Int) := by omega
      obtain rfl : j = n := by omega
      have hq := HQ.out
      have HT : K.take j = K := by rw [← HN.out]; exact List.take_length
      rw [HT, ← HCT.out] at HA8
      have q1 : (q : Int) ≤ 33 := by omega
      have hcv := HA8.out.text q 33 (by rw [HLEN.out, hq])
      clear hq HT
      go_wp2_with fail
      go_ret
      exact ⟨rfl, by rw [HG.out]; exact HB8.out⟩
end Go.Proofs.Ythohopbolalpcaa

