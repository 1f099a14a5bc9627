/-
  A node read out of its slot, by the program.
-/
import Derived.Test.YthohopbolalpcaaSn
namespace Go.Proofs.Ythohopbolalpcaa
open Go.RowKit
set_option linter.unusedVariables false
set_option linter.unusedSimpArgs false
set_option maxRecDepth 100000

/-- the number that stands in the i-th field of the slot at p -/
def num (s : ByteArray) (p i : Nat) : Nat := val (sub s (p + off i) (wd i))
theorem num_lt (s : ByteArray) (p : Nat) (h : p + 47 ≤ s.size) {i : Nat} (hi : i < 11) : num s p i < 256 ^ wd i := by
  have h1 := off_le hi
  have := val_lt (sub s (p + off i) (wd i))
  rw [sub_length _ _ _ (by omega)] at this
  exact this
def nd0 : Nd := ⟨0, ⟨#[]⟩, [], 0, false, 0⟩
/-- what was taken by the first j fields -/
def ndL (s : ByteArray) (p j : Nat) : Nd := (List.range j).foldl (fun x i => take x i (num s p i)) nd0
theorem ndL_succ (s : ByteArray) (p j : Nat) : ndL s p (j + 1) = take (ndL s p j) j (num s p j) := by simp [ndL, List.range_succ]
/-- the node that is read -/
def ndR (s : ByteArray) (p : Nat) : Nd := { ndL s p 11 with at' := if (ndL s p 11).at' = 0 then 0 else hs (ndL s p 11).name (ndL s p 11).kids * 65536 + (ndL s p 11).at' }
theorem tk0 (x : Nd) (n : Nat) : take x 0 n = x := by unfold take; rw [if_pos rfl]
theorem tk1 (x : Nd) (n : Nat) : take x 1 n = { x with queued := decide (n ≠ 0) } := by unfold take; rw [if_neg (by decide), if_pos rfl]
theorem tk2 (x : Nd) (n : Nat) : take x 2 n = { x with at' := n } := by unfold take; rw [if_neg (by decide), if_neg (by decide), if_pos rfl]
theorem tk3 (x : Nd) (n : Nat) : take x 3 n = { x with name := trimOf ⟨(be n 8).toArray⟩ } := by unfold take; rw [if_neg (by decide), if_neg (by decide), if_neg (by decide), if_pos rfl]
theorem tk4 (x : Nd) (n : Nat) : take x 4 n = x := by unfold take; rw [if_neg (by decide), if_neg (by decide), if_neg (by decide), if_neg (by decide), if_pos rfl]
theorem tk5 (x : Nd) (n : Nat) : take x 5 n = { x with count := n } := by unfold take; rw [if_neg (by decide), if_neg (by decide), if_neg (by decide), if_neg (by decide), if_neg (by decide), if_pos rfl]
theorem tk6 (x : Nd) (n : Nat) : take x 6 n = { x with next := n } := by unfold take; rw [if_neg (by decide), if_neg (by decide), if_neg (by decide), if_neg (by decide), if_neg (by decide), if_neg (by decide), if_pos rfl]
theorem tk7 (x : Nd) {i : Nat} (hi : 7 ≤ i) (n : Nat) : take x i n = { x with kids := if n = 0 then x.kids else x.kids ++ [n] } := by
  unfold take
  iterate 7 rw [if_neg (by omega)]
structure NdI (x : Nd) : Prop where
  a : x.at' < 65536
  k : x.kids.length ≤ 11
  u : U64 x.kids
  nm : x.name.size ≤ 8
  c0 : 0 ≤ x.count
  c1 : x.count < 4294967296
  nx : x.next < 281474976710656
theorem trimOf_le (s : ByteArray) : (trimOf s).size ≤ s.size := by
  unfold trimOf
  rw [ByteArray.size_extract]
  have := endAt_le s s.size
  omega
theorem take_kids (x : Nd) (i n : Nat) : (take x i n).kids.length ≤ x.kids.length + (if 7 ≤ i then 1 else 0) := by
  unfold take
  (repeat' split) <;> simp_all <;> omega
theorem ndL_kids (s : ByteArray) (p : Nat) : ∀ j, (ndL s p j).kids.length ≤ j
  | 0 => Nat.le_refl _
  | j + 1 => by
    rw [ndL_succ]
    have h1 := take_kids (ndL s p j) j (num s p j)
    have h2 := ndL_kids s p j
    split at h1 <;> omega
theorem take_inv {x : Nd} (h : x.at' < 65536 ∧ U64 x.kids ∧ x.name.size ≤ 8 ∧ 0 ≤ x.count ∧ x.count < 4294967296 ∧ x.next < 281474976710656) {i n : Nat} (hi : i < 11) (hn : n < 256 ^ wd i) :
    (take x i n).at' < 65536 ∧ U64 (take x i n).kids ∧ (take x i n).name.size ≤ 8 ∧ 0 ≤ (take x i n).count ∧ (take x i n).count < 4294967296 ∧ (take x i n).next < 281474976710656 := by
  obtain ⟨a, u, nm, c0, c1, nx⟩ := h
  have hk : n < 281474976710656 → U64 (if n = 0 then x.kids else x.kids ++ [n]) := fun hn => by
    split
    · exact u
    · intro y hy
      rcases List.mem_append.1 hy with h | h
      · exact u y h
      · simp at h; omega
  have hw6 : ∀ i, 7 ≤ i → wd i = 6 := fun i hi => by
    unfold wd
    iterate 6 rw [if_neg (by omega)]
  match i, hi with
  | 0, _ => rw [tk0]; exact ⟨a, u, nm, c0, c1, nx⟩
  | 1, _ => rw [tk1]; exact ⟨a, u, nm, c0, c1, nx⟩
  | 2, _ => rw [tk2]; exact ⟨hn, u, nm, c0, c1, nx⟩
  | 3, _ =>
    rw [tk3]
    have := trimOf_le (⟨(be n 8).toArray⟩ : ByteArray)
    have h8 : (⟨(be n 8).toArray⟩ : ByteArray).size = 8 := by rw [Lib.size_eq]; exact be_length n 8
    generalize trimOf (⟨(be n 8).toArray⟩ : ByteArray) = t at *
    exact ⟨a, u, (by show t.size ≤ 8; omega), c0, c1, nx⟩
  | 4, _ => rw [tk4]; exact ⟨a, u, nm, c0, c1, nx⟩
  | 5, _ =>
    have hn' : n < 4294967296 := hn
    rw [tk5]
    refine ⟨a, u, nm, ?_, ?_, nx⟩
    · show (0 : Int) ≤ (n : Int); omega
    · show (n : Int) < 4294967296; omega
  | 6, _ => rw [tk6]; exact ⟨a, u, nm, c0, c1, hn⟩
  | k + 7, _ =>
    rw [tk7 x (by omega)]
    rw [hw6 _ (by omega)] at hn
    exact ⟨a, hk hn, nm, c0, c1, nx⟩
theorem ndL_inv (s : ByteArray) (p : Nat) (h : p + 47 ≤ s.size) : ∀ j, j ≤ 11 → NdI (ndL s p j) := fun j hj => by
  have : ∀ j, j ≤ 11 → (ndL s p j).at' < 65536 ∧ U64 (ndL s p j).kids ∧ (ndL s p j).name.size ≤ 8 ∧ 0 ≤ (ndL s p j).count ∧ (ndL s p j).count < 4294967296 ∧ (ndL s p j).next < 281474976710656 := by
    intro j
    induction j with
    | zero =>
      intro _
      have h0 : ndL s p 0 = nd0 := rfl
      rw [h0]
      exact ⟨by decide, (by intro y hy; cases hy), by decide, by decide, by decide, by decide⟩
    | succ j ih =>
      intro hj
      rw [ndL_succ]
      exact take_inv (ih (by omega)) (by omega) (num_lt s p h (by omega))
  obtain ⟨a, u, nm, c0, c1, nx⟩ := this j hj
  exact ⟨a, Nat.le_trans (ndL_kids s p j) hj, u, nm, c0, c1, nx⟩
theorem enters_take : ∀ i, i < 11 → ∀ args w, (callFunc (kfn i) args).run Try.prog w = .ok (.enter (kfn i) args) w := by
  intro i hi args w
  match i, hi with
  | 0, _ | 1, _ | 2, _ | 3, _ | 4, _ | 5, _ | 6, _ | 7, _ | 8, _ | 9, _ | 10, _ => rfl
theorem take_any {w : World} {B pb : Nat} {x : Nd} {kv : Value} (i n : Nat) (hi : i < 11) (hn : n < 256 ^ wd i) (hl : x.kids.length ≤ 1000) (hB : B ≤ w.heap.size) (h : Nw w B pb x kv) :
    Calls Try.prog (kfn i) #[.pointer (some ⟨pb, 0, none⟩), .int .u64 (n : Nat)] w fun e w' => e = .returned (.tuple #[]) ∧ Tk w w' B pb kv (take x i n) := by
  match i, hi with
  | 0, _ => rw [tk0]; exact take0 n h
  | 1, _ => exact take1 n h
  | 2, _ => exact take2 n h
  | 3, _ => exact take3 n hn h
  | 4, _ => rw [tk4]; exact take0 n h
  | 5, _ => exact take5 n hn h
  | 6, _ => exact take6 n h
  | 7, _ => exact take7 7 n (by omega) hl hB h
  | 8, _ => exact take7 8 n (by omega) hl hB h
  | 9, _ => exact take7 9 n (by omega) hl hB h
  | 10, _ => exact take7 10 n (by omega) hl hB h

/-- a whole struct into its block -/
theorem wpList_st {ops : Array Oper} {rest : List Oper} {o : Oper} {a : Act} {Q : Exit → Act → World → Prop} {w : World} (T : TypeId) (hgd : o.guard = none) (s x : Operand) (ho : o.op = .store T s x) (g : Nat) (old new : Array Value) (hs : a.eval s = .pointer (some ⟨g, 0, none⟩)) (hx : a.eval x = .agg new)
    (hb : Blk w g old T) (hi : (Try.prog.info? T).map (·.size) = some new.size) (hm : old.size = new.size) (h1 : new.all (·.oneCell') = true) (h : ∀ w', Blk w' g new T → Keep (fun j => j = g) w w' → wpList Try.prog ops Q rest (a.put o.dst undef) w') : wpList Try.prog ops Q (o :: rest) a w := by
  refine wpList_plain hgd fun K hK => ?_
  have hrun := run_storeVar_row (P := Try.prog) w g T T _ new hb hi hm h1
  have hh := h _ (setRow_heap w g _ new T (0, 0) hb) ⟨rfl, rfl, rfl, by simp [World.setRow], fun k _ hk => setRow_other w g k _ (fun e => hk e)⟩
  unfold Oper.wp
  simp [execOp, ho, hs, hx, Instr.storeAt, Instr.sureAddr, hrun, Result.andThen]
  exact hK _ _ hh
theorem info57 : (Try.prog.info? 57).map (·.size) = some 6 := by kernel_rfl

set_option maxHeartbeats 8000000 in
theorem nodeAt_any (s : ByteArray) (p0 : Nat) (v : Value) (B0 : Nat) (w : World) (hsz : s.size ≤ maxLen) (hp0 : p0 + 47 ≤ s.size) (hF : Flds w B0 v) :
    Calls Try.prog 52 #[.string s, .int .i64 (p0 : Nat), v] w fun e w' => ∃ kv, e = .returned (.agg (cellsN (ndR s p0) kv)) ∧ RowK w' w.heap.size kv (ndR s p0).kids ∧ Below w.heap.size w w' := by
  obtain ⟨cl, hcl, hrow, hblk⟩ := hF
  obtain ⟨fa, fc, rfl⟩ := own_form hrow
  have hF : Flds w B0 (.slice fa 11 fc) := ⟨cl, hcl, hrow, hblk⟩
  clear hcl hrow hblk cl
  have hms : s.size ≤ 9223372036854775807 := by unfold maxLen at hsz; omega
  have HNL := hid (fun (i : Nat) (hi : i < 11) => num_lt s p0 hp0 hi)
  have HLS := hid (fun j => ndL_succ s p0 j)
  have HLI := hid (fun j (hj : j ≤ 11) => ndL_inv s p0 hp0 j hj)
  have HGET : Hid (∀ i, i < 11 → ∀ w1, Calls Try.prog 51 #[.string s, .int .i64 ((p0 + off i : Nat) : Int), .int .i64 (wd i : Nat)] w1 fun e w' => e = .returned (.int .u64 (num s p0 i : Nat)) ∧ w1 = w') := fun i hi w1 => by
    have h1 := wd_le i
    have h2 := off_le hi
    exact sget s (p0 + off i) (wd i) w1 h1.1 h1.2 hsz (by omega)
  have HND : Hid (ndR s p0 = { ndL s p0 11 with at' := if (ndL s p0 11).at' = 0 then 0 else hs (ndL s p0 11).name (ndL s p0 11).kids * 65536 + (ndL s p0 11).at' }) := rfl
  obtain ⟨p, hp⟩ : ∃ p, w.heap.size = p := ⟨_, rfl⟩
  have h1 := (Below.refl w.heap.size w).alloc (Nat.le_refl _) (.cells #[.int .u64 0, .string ⟨#[]⟩, .slice none 0 0, .int .i64 0, .bool false, .int .u64 0] 57)
  have s1 : (w.alloc (.cells #[.int .u64 0, .string ⟨#[]⟩, .slice none 0 0, .int .i64 0, .bool false, .int .u64 0] 57)).heap.size = p + 1 := by rw [← hp]; show (w.heap.push _).size = _; rw [Array.size_push]
  have k1 := Blk.made w #[.int .u64 0, .string ⟨#[]⟩, .slice none 0 0, .int .i64 0, .bool false, .int .u64 0] 57
  have HB3 := hid (h1.alloc h1.size (.cells #[.int .u64 0, .string ⟨#[]⟩, .slice none 0 0, .int .i64 0, .bool false, .int .u64 0] 57))
  have HR3 := hid (k1.alloc (.cells #[.int .u64 0, .string ⟨#[]⟩, .slice none 0 0, .int .i64 0, .bool false, .int .u64 0] 57))
  have k2 := Blk.made (w.alloc (.cells #[.int .u64 0, .string ⟨#[]⟩, .slice none 0 0, .int .i64 0, .bool false, .int .u64 0] 57)) #[.int .u64 0, .string ⟨#[]⟩, .slice none 0 0, .int .i64 0, .bool false, .int .u64 0] 57
  rw [s1] at k2
  have HX3 : Hid (Nw ((w.alloc (.cells #[.int .u64 0, .string ⟨#[]⟩, .slice none 0 0, .int .i64 0, .bool false, .int .u64 0] 57)).alloc (.cells #[.int .u64 0, .string ⟨#[]⟩, .slice none 0 0, .int .i64 0, .bool false, .int .u64 0] 57)) p (p + 1) (ndL s p0 0) (.slice none 0 0)) := ⟨k2, RowK.nil _ _⟩
  rw [hp] at HR3 HB3
  have HF3 := hid (hF.on (by rw [hp]; exact HB3.out))
  have HP := hid hp
  clear h1 s1 k1 k2 hF
  go_enter Try.func52, Try.ntmps52
  go_wp2_with fail
  generalize ((w.alloc (Obj.cells #[.int .u64 0, .string ⟨#[]⟩, .slice none 0 0, .int .i64 0, .bool false, .int .u64 0] 57)).alloc (Obj.cells #[.int .u64 0, .string ⟨#[]⟩, .slice none 0 0, .int .i64 0, .bool false, .int .u64 0] 57)) = w3 at *
  clear hp
  go_loopw [1, 14] (fun y i wr => ∃ (j q : Nat) (kv : Value), j ≤ 11 ∧ y = .int .i64 (q : Nat) ∧ i = .int .i64 (j : Nat) ∧ Hid (q = p0 + off j) ∧ Hid (Nw wr p (p + 1) (ndL s p0 j) kv) ∧ Hid (Blk wr p #[.int .u64 0, .string ⟨#[]⟩, .slice none 0 0, .int .i64 0, .bool false, .int .u64 0] 57) ∧ Hid (Flds wr B0 (.slice fa 11 fc)) ∧ Hid (Below p w wr)) (fun _ i _ => 11 - (intOf i).toNat)
  case atStart => exact ⟨0, p0, .slice none 0 0, Nat.zero_le _, rfl, rfl, rfl, HX3, HR3, HF3, HB3⟩
  case round =>
    obtain ⟨j, q, kv, hj, rfl, rfl, HQ, HX, HR, HF, HB⟩ := hrel
    clear HX3 HR3 HF3 HB3
    by_cases hjn : j < 11
    · have hji : (j : Int) < 11 := by omega
      have HO := hid (HGET.out j hjn)
      have HL := hid (HNL.out j hjn)
      have HEN := hid (enters_take j hjn)
      have HI := hid (HLI.out j hj)
      have HS := hid (HLS.out j)
      have HWL := hid (wd_le j)
      have HOL := hid (off_le hjn)
      have HOS := hid (off_succ j)
      obtain ⟨cl, hcl, hrow, hblk⟩ := HF.out
      obtain ⟨_, _, e1, _, _, hcc⟩ := own_cells hrow
      cases e1
      obtain ⟨f0, f1, f2⟩ := fld_at hcl hjn
      obtain ⟨g, e2, _, hgl, c0, _⟩ := hcc _ _ f0
      cases e2
      obtain ⟨_, e2, _, _, c2, _⟩ := hcc _ _ f2
      cases e2
      have hc1 : ∃ (tv : Fn) (tc : Array Value), wr.cell? ⟨g, j * 3 + 1, none⟩ = some (.func tv #[] tc) := by
        rcases f1 with ⟨_, f1⟩ | ⟨k, c, _, _, f1⟩
        · obtain ⟨_, e2, _, _, c1, _⟩ := hcc _ _ f1
          cases e2
          exact ⟨_, _, c1⟩
        · obtain ⟨_, e2, _, _, c1, _⟩ := hcc _ _ f1
          cases e2
          exact ⟨_, _, c1⟩
      obtain ⟨tv, tc, c1⟩ := hc1
      have HF' := HF
      have hpw := HR.out.lt
      have HTK : Hid (∀ w1, Nw w1 p (p + 1) (ndL s p0 j) kv → p ≤ w1.heap.size → Calls Try.prog (kfn j) #[.pointer (some ⟨p + 1, 0, none⟩), .int .u64 (num s p0 j : Nat)] w1 fun e w' => e = .returned (.tuple #[]) ∧ Tk w1 w' p (p + 1) kv (take (ndL s p0 j) j (num s p0 j))) := fun w1 h1 h2 => take_any j _ hjn HL.out (Nat.le_trans HI.out.k (by omega)) h2 h1
      rw [← HS.out] at HTK
      clear HF f0 f1 f2 hcc hrow hblk hcl HI HL HS HNL HLS HLI HGET
      have hen := HEN.out
      clear HEN
      generalize kfn j = kf at *
      generalize num s p0 j = T at *
      obtain ⟨X', hX'⟩ : ∃ X', ndL s p0 (j + 1) = X' := ⟨_, rfl⟩
      have HXE := hid hX'
      rw [hX'] at HTK
      clear hX'
      generalize ndL s p0 j = X at *
      have hq := HQ.out
      rw [← hq] at HO
      have HQS : Hid (q + wd j = p0 + off (j + 1)) := by show _ = _; rw [HOS.out, hq, Nat.add_assoc]
      have hol := HOL.out
      have hwl := HWL.out
      generalize wd j = W at *
      have q4 : IntKind.i64.wrap ((q : Int) + (W : Int)) = ((q + W : Nat) : Int) := by rw [IntKind.wrap_i64]; unfold maxLen at hsz; omega
      clear hq hol hwl HOL HWL HOS HQ
      have HFX := hid (Blk.made wr #[.int .i64 (W : Nat), .func tv #[] tc, .func (.func kf) #[] #[]] 99)
      have HAL : Hid (Below wr.heap.size wr (wr.alloc (.cells #[.int .i64 (W : Nat), .func tv #[] tc, .func (.func kf) #[] #[]] 99))) := (Below.refl _ wr).alloc (Nat.le_refl _) _
      obtain ⟨q8, hq8⟩ : ∃ q8, wr.heap.size = q8 := ⟨_, rfl⟩
      go_wp2_with fail
      have HNE : Hid (q8 ≠ p + 1) := by show _ ≠ _; have := HX.out.1.lt; omega
      have HX8 := hid (HX.out.on HAL.out)
      have HR8 := hid (HR.out.on HAL.out HR.out.lt)
      have HF8 := hid (HF'.out.on HAL.out)
      have HB8 := hid (HB.out.trans (HAL.out.mono (Nat.le_of_lt hpw)))
      rw [hq8] at HFX
      generalize wr.alloc (.cells #[.int .i64 (W : Nat), .func tv #[] tc, .func (.func kf) #[] #[]] 99) = w8 at *
      clear HX HR HF' HB HAL hpw c0 c1 c2 hgl hq8
      refine wp_region_d (fun w' => w'.cell? ⟨q8, 0, none⟩ = some (.int .i64 (W : Nat)) ∧ w'.cell? ⟨q8, 2, none⟩ = some (.func (.func kf) #[] #[])) (fun _ => true) (by kernel_rfl) ?_
      have hdr := (Below.refl w8.heap.size w8).drew
      have HX9 := hid (HX8.out.on hdr)
      have HFX9 := hid (HFX.out.on hdr HFX.out.lt)
      have HR9 := hid (HR8.out.on hdr HR8.out.lt)
      have HF9 := hid (HF8.out.on hdr)
      have HB9 := hid HB8.out.drew
      clear HX8 HFX HR8 HF8 HB8 hdr
      generalize w8.drew = w9 at *
      have hS : w9.cell? ⟨q8, 0, none⟩ = some (.int .i64 (W : Nat)) ∧ w9.cell? ⟨q8, 2, none⟩ = some (.func (.func kf) #[] #[]) := ⟨HFX9.out.cell (i := 0) rfl, HFX9.out.cell (i := 2) rfl⟩
      refine wpAnyM_pick (i := 0) (some 18) (v := ?vz1) rfl rfl (by kernel_rfl) (by kernel_rfl) (by kernel_rfl) (by kernel_rfl) (fun _ _ _ h => h) (Or.inl ⟨by rfl, ?hz1⟩) hS ?rz1
      case hz1 => intro w hSw; (first | obtain ⟨hs1, hs2, hs3, hs4, hs5, hs6, hs7, hs8⟩ := hSw | obtain ⟨hs1, hs2, hs3⟩ := hSw | obtain ⟨hs1, hs2⟩ := hSw | skip); go_simp; try with_reducible rfl
      try simp only [Act.put, List.setIfInBounds_toArray, List.set_cons_zero, List.set_cons_succ]
      refine wpAnyM_pick (i := 1) (some 19) (v := ?vz2) rfl rfl (by kernel_rfl) (by kernel_rfl) (by kernel_rfl) (by kernel_rfl) (fun _ _ _ h => h) (Or.inl ⟨by rfl, ?hz2⟩) hS ?rz2
      case hz2 => intro w hSw; (first | obtain ⟨hs1, hs2, hs3, hs4, hs5, hs6, hs7, hs8⟩ := hSw | obtain ⟨hs1, hs2, hs3⟩ := hSw | obtain ⟨hs1, hs2⟩ := hSw | skip); go_simp; try with_reducible rfl
      try simp only [Act.put, List.setIfInBounds_toArray, List.set_cons_zero, List.set_cons_succ]
      refine wpAnyM_pick (i := 2) (some 20) (v := ?vz3) rfl rfl (by kernel_rfl) (by kernel_rfl) (by kernel_rfl) (by kernel_rfl) (fun _ _ _ h => h) (Or.inl ⟨by rfl, ?hz3⟩) hS ?rz3
      case hz3 => intro w hSw; (first | obtain ⟨hs1, hs2, hs3, hs4, hs5, hs6, hs7, hs8⟩ := hSw | obtain ⟨hs1, hs2, hs3⟩ := hSw | obtain ⟨hs1, hs2⟩ := hSw | skip); go_simp; try with_reducible rfl
      try simp only [Act.put, List.setIfInBounds_toArray, List.set_cons_zero, List.set_cons_succ]
      refine wpAnyM_pick (i := 3) (some 21) (v := ?vz4) rfl rfl (by kernel_rfl) (by kernel_rfl) (by kernel_rfl) (by kernel_rfl) (fun _ _ _ h => h) (Or.inl ⟨by rfl, ?hz4⟩) hS ?rz4
      case hz4 => intro w hSw; (first | obtain ⟨hs1, hs2, hs3, hs4, hs5, hs6, hs7, hs8⟩ := hSw | obtain ⟨hs1, hs2, hs3⟩ := hSw | obtain ⟨hs1, hs2⟩ := hSw | skip); go_simp; try with_reducible rfl
      try simp only [Act.put, List.setIfInBounds_toArray, List.set_cons_zero, List.set_cons_succ]
      refine wpAnyM_pick (i := 4) (some 22) (v := ?vz5) rfl rfl (by kernel_rfl) (by kernel_rfl) (by kernel_rfl) (by kernel_rfl) (fun _ _ _ h => h) (Or.inl ⟨by rfl, ?hz5⟩) hS ?rz5
      case hz5 => intro w hSw; (first | obtain ⟨hs1, hs2, hs3, hs4, hs5, hs6, hs7, hs8⟩ := hSw | obtain ⟨hs1, hs2, hs3⟩ := hSw | obtain ⟨hs1, hs2⟩ := hSw | skip); go_simp; try with_reducible rfl
      try simp only [Act.put, List.setIfInBounds_toArray, List.set_cons_zero, List.set_cons_succ]
      refine wpAnyM_pick (i := 5) (some 23) (v := ?vz6) rfl rfl (by kernel_rfl) (by kernel_rfl) (by kernel_rfl) (by kernel_rfl) (fun _ _ _ h => h) (Or.inl ⟨by rfl, ?hz6⟩) hS ?rz6
      case hz6 => intro w hSw; (first | obtain ⟨hs1, hs2, hs3, hs4, hs5, hs6, hs7, hs8⟩ := hSw | obtain ⟨hs1, hs2, hs3⟩ := hSw | obtain ⟨hs1, hs2⟩ := hSw | skip); go_simp; try with_reducible rfl
      try simp only [Act.put, List.setIfInBounds_toArray, List.set_cons_zero, List.set_cons_succ]
      refine wpAnyM_one (i := 6) (by kernel_rfl) rfl (fun K hK => ?_)
      go_simp
      go_at_call 51
      refine (HO.out _).mono ?_
      clear HO
      rintro e w10 ⟨rfl, rfl⟩
      go_wp2_with fail
      refine hK.out _ _ (fun _ => hS) ?_
      clear hK K
      try simp only [Act.put, List.setIfInBounds_toArray, List.set_cons_zero, List.set_cons_succ]
      refine wpAnyM_one (i := 7) (by kernel_rfl) rfl (fun K hK => ?_)
      go_simp
      refine (HTK.out w9 HX9.out (Nat.le_of_lt HR9.out.lt)).mono ?_
      clear HTK
      rintro e w11 ⟨rfl, kv', hN', hk11⟩
      have hown : ∀ g, kv.ownBlock = some g → g ≠ p + 1 ∧ g ≠ p ∧ g ≠ q8 ∧ p ≤ g := fun g hg => ⟨Blk.ne HX9.out.1 HX9.out.2 (by decide) hg, Blk.ne HR9.out HX9.out.2 (by decide) hg, Blk.ne HFX9.out HX9.out.2 (by decide) hg, (World.ownsRow.lt HX9.out.2 g hg).1⟩
      have HX11 := hid hN'
      have HFX11 := hid (hk11.blk HFX9.out (fun h => by rcases h with h | h; exact HNE.out h; exact (hown _ h).2.2.1 rfl))
      have HR11 := hid (hk11.blk HR9.out (fun h => by rcases h with h | h; omega; exact (hown _ h).2.1 rfl))
      have HF11 : Hid (Flds w11 B0 (.slice (some ⟨g, 0, none⟩) 11 fc)) := by
        obtain ⟨cl, h1, h2, h3⟩ := HF9.out
        refine ⟨cl, h1, hk11.row h2 (fun g hg e => ?_), fun i c hc => hk11.blk (h3 i c hc) (fun e => ?_)⟩
        · rcases e with e | e
          · exact Blk.ne HX9.out.1 h2 (by decide) hg e
          · exact rows_ne h2 HX9.out.2 (by decide) hg e
        · have hb3 := h3 i c hc
          rcases e with e | e
          · subst e
            have := HX9.out.1
            unfold Blk at this hb3
            rw [hb3] at this
            simp at this
          · exact Blk.ne hb3 HX9.out.2 (by decide) e rfl
      have HB11 := hid (HB9.out.trans (hk11.below (fun j hj => by rcases hj with hj | hj; omega; exact (hown _ hj).2.2.2) (Nat.le_of_lt HR9.out.lt)))
      clear hN' hk11 hown HX9 HFX9 HR9 HF9 HB9 hS
      have hS : w11.cell? ⟨q8, 0, none⟩ = some (.int .i64 (W : Nat)) ∧ w11.cell? ⟨q8, 2, none⟩ = some (.func (.func kf) #[] #[]) := ⟨HFX11.out.cell (i := 0) rfl, HFX11.out.cell (i := 2) rfl⟩
      go_wp2_with fail
      refine hK.out _ _ (fun _ => hS) ?_
      clear hK K
      try simp only [Act.put, List.setIfInBounds_toArray, List.set_cons_zero, List.set_cons_succ]
      refine wpAnyM_done (by kernel_rfl) ?_ _
      have c0 := hS.1
      clear hS
      go_wp2_with fail
      go_roundw
      case rel => exact ⟨j + 1, q + W, kv', by omega, rfl, by go_num, HQS, by rw [HXE.out]; exact HX11, HR11, HF11, HB11⟩
      case measure => simp [intOf]; omega
    · have hji : ¬ (j : Int) < 11 := by omega
      obtain rfl : j = 11 := by omega
      have HI := hid (HLI.out 11 (Nat.le_refl _))
      clear HLI HLS HNL HGET
      generalize ndL s p0 11 = X at *
      obtain ⟨ka, kc, rfl⟩ := HX.out.2.form
      have HK := hid HX.out.2
      have HXB := hid HX.out.1
      have hH := sHash_any X.name _ X.kids wr (by have := HI.out.nm; unfold maxLen; omega) (HK.out.lies HI.out.u)
      have HHL := hid (hs_lt X.name X.kids)
      have hAl := HI.out.a
      have hADR : ∃ A e : Nat, (∀ w1, Calls Try.prog 13 #[.int .u32 (hs X.name X.kids : Nat), .int .i64 (X.at' : Nat)] w1 fun e' w' => e' = .returned (.tuple #[.int .u64 (A : Nat), .int .i64 (e : Nat)]) ∧ w1 = w') ∧ A = if X.at' = 0 then 0 else hs X.name X.kids * 65536 + X.at' := by
        by_cases h0 : X.at' = 0
        · exact ⟨0, 1, fun w1 => by have := addr_no (hs X.name X.kids) (X.at' : Nat) w1 (by omega); simpa using this, by rw [if_pos h0]⟩
        · exact ⟨_, 0, fun w1 => addr_yes _ _ w1 HHL.out (by omega) (by omega), by rw [if_neg h0]⟩
      obtain ⟨A', ae, hadr, hA'⟩ := hADR
      rw [← hA'] at HND
      have HADR := hid hadr
      clear hadr hA' HHL HI
      have hwa : IntKind.i64.wrap (X.at' : Int) = (X.at' : Int) := by rw [IntKind.wrap_i64]; omega
      generalize hs X.name X.kids = Hh at *
      generalize ctE X.name.data.toList X.kids = ce at *
      obtain ⟨NR, hNR⟩ : ∃ NR, ndR s p0 = NR := ⟨_, rfl⟩
      have HNR := hid hNR
      rw [hNR] at HND
      clear hNR
      obtain ⟨a', nm, K, ct, qd, nx⟩ := X
      simp only [cellsN] at HXB hH HADR HND HK hwa hAl
      generalize hm : K.length = m at *
      have HONE : Hid ((#[.int .u64 (A' : Nat), .string nm, .slice ka m kc, .int .i64 ct, .bool qd, .int .u64 (nx : Nat)] : Array Value).all (·.oneCell') = true) := by show _ = _; simp [Value.oneCell']
      have c1 := HXB.out.cell (i := 1) rfl
      have c2 := HXB.out.cell (i := 2) rfl
      clear HX hAl
      go_wp2_with (first
        | (go_at_call 10; refine hH.mono ?_; clear hH; rintro e w2 ⟨rfl, hb2⟩; have HXB2 := hid (HXB.out.on hb2 HXB.out.lt); have HR2 := hid (HR.out.on hb2 HR.out.lt); have HK2 := hid (HK.out.on hb2); have HB2 := hid (HB.out.trans (hb2.mono (Nat.le_of_lt HR.out.lt))); have e0 := HXB2.out.cell (i := 0) rfl; have e1 := HXB2.out.cell (i := 1) rfl; have e2 := HXB2.out.cell (i := 2) rfl; have e3 := HXB2.out.cell (i := 3) rfl; have e4 := HXB2.out.cell (i := 4) rfl; have e5 := HXB2.out.cell (i := 5) rfl; have g0 := HXB2.out.free 0; clear hb2)
        | (go_at_call 13; refine (HADR.out _).mono ?_; clear HADR; rintro e w4 ⟨rfl, rfl⟩; have hkp := Keep.set (S := fun j => j = p + 1) w2 rfl 0 (.int .u64 (A' : Nat)); have HRS := hid (hkp.blk HR2.out (by omega)); have hxs := HXB2.out.set 0 (.int .u64 (A' : Nat)); have d0 := hxs.cell (i := 0) rfl; have d1 := hxs.cell (i := 1) rfl; have d2 := hxs.cell (i := 2) rfl; have d3 := hxs.cell (i := 3) rfl; have d4 := hxs.cell (i := 4) rfl; have d5 := hxs.cell (i := 5) rfl)
        | (refine wpList_st 57 rfl (.tmp 6) (.tmp 48) rfl p _ #[.int .u64 (A' : Nat), .string nm, .slice ka m kc, .int .i64 ct, .bool qd, .int .u64 (nx : Nat)] rfl rfl HRS.out info57 rfl HONE.out ?_; intro w7 hb7 hk7))
      have HKS := hid ((Keep.set (S := fun j => j = p + 1) w2 rfl 0 (.int .u64 (A' : Nat))).row HK2.out (fun g hg e => Blk.ne HXB2.out HK2.out (by decide) hg e))
      have HK7 := hid (hk7.row HKS.out (fun g hg e => Blk.ne HRS.out HKS.out (by decide) hg e))
      have HB7 := hid (HB2.out.trans (((Keep.set (S := fun j => j = p + 1) w2 rfl 0 (.int .u64 (A' : Nat))).below (B := p) (fun j hj => by rw [hj]; omega) (Nat.le_of_lt HR2.out.lt)).trans (hk7.below (fun j hj => by rw [hj]; omega) (Nat.le_of_lt HRS.out.lt))))
      refine bodyPost_ret (results_cell_row rfl _ w7 p 57 _ (0, 0) _ rfl hb7 Try.underlying57 rfl info57) rfl ⟨.slice ka m kc, ?_, ?_, ?_⟩
      · rw [HNR.out, HND.out]
        rfl
      · rw [HNR.out, HND.out, HP.out]
        show World.ownsRow _ _ _ _ _ K.length _
        rw [hm]
        have h7 := HK7.out
        rw [hm] at h7
        exact h7
      · rw [HP.out]
        exact HB7.out
end Go.Proofs.Ythohopbolalpcaa

