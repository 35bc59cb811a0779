/-
  What impl.wordsOf answers and leaves. Condition: a text of 64 bytes.
-/
import Derived.Test.YtaepdmeghfbngaaDoorRoundI
import Derived.Test.YtaepdmeghfbngaaDoorKeys
import Derived.Deep.RegionHeld3
import Derived.Deep.WholeRow
import Derived.Laws.CopyOwn
namespace Go.Proofs.YtaepdmeghfbngaaDoor.shaI
open Go.RowKit Go.Joins
open Go.Proofs.YtaepdmeghfbngaaDoor.base Go.Proofs.YtaepdmeghfbngaaDoor.word Go.Proofs.YtaepdmeghfbngaaDoor.ints Go.Proofs.YtaepdmeghfbngaaDoor.blk
open Go.Proofs.YtaepdmeghfbngaaDoor.sha (Regs S0 S1 s0 s1 ch maj t2 t1 nth key W rounds upd rowF rowF_cell rowF_free rowF_set rowF_congr W_low W_next b8 wordAt)
open Go.PlainAid (bt get_bt bt_nonneg bt_le)
set_option linter.unusedVariables false
attribute [local go_sem] M_fold O_fold A_fold X_fold N_fold

/-- whole arrays, folded: so that facts of their runs, laid ahead, are met -/
def ldA (t : TypeId) (v : Value) : Sem Value := Instr.loadAt t v
def stA (t : TypeId) (a v : Value) : Sem Unit := Instr.storeAt t a v
def alA (t : TypeId) : Sem Value := Instr.alloc t true (.tuple #[])
theorem ld64_fold (v : Value) : Instr.loadAt 48 v = ldA 48 v := rfl
theorem st64_fold (a v : Value) : Instr.storeAt 48 a v = stA 48 a v := rfl
theorem al64_fold : Instr.alloc 48 true (.tuple #[]) = alA 48 := rfl
attribute [local go_sem ↓] ld64_fold st64_fold al64_fold

theorem arr_size (n : Nat) (g : Nat → Int) : (arr n g).size = n := by simp [arr]
theorem arr_one (n : Nat) (g : Nat → Int) : (arr n g).all (·.oneCell') = true := by
  rw [Array.all_eq_true_iff_forall_mem]
  intro v hv
  simp [arr] at hv
  obtain ⟨i, _, rfl⟩ := hv
  rfl
theorem info64 : (Tryd.prog.info? 48).map (fun i => (i.zero, i.size)) = some (some (.agg (arr 64 fun _ => 0)), 64) := by kernel_rfl
theorem run_al64 (u : World) : (alA 48).run Tryd.prog u = .ok (.pointer (some ⟨u.heap.size, 0, none⟩)) (u.alloc (rowF .u32 48 64 fun _ => 0)) := by
  obtain ⟨h1, h2⟩ := zero_of_info info64
  unfold alA Instr.alloc
  rw [Sem.run_bind, h1]
  simp [newVar, newRow, Value.cells]
  rfl
theorem run_ld64 {w : World} {b : Nat} {g : Nat → Int} (h : w.heap[b]? = some (rowF .u32 48 64 g)) : (ldA 48 (.pointer (some ⟨b, 0, none⟩))).run Tryd.prog w = .ok (.agg (arr 64 g)) w := by
  obtain ⟨h1, h2⟩ := zero_of_info info64
  unfold ldA
  simp only [Instr.loadAt, Instr.sureAddr, Sem.run_bind, Sem.run_pure, Result.andThen_ok]
  exact run_loadVar_row w b _ _ (arr 64 g) (0, 0) _ h Tryd.underlying48 rfl (by rw [h2, arr_size])
theorem run_st64 {w : World} {b : Nat} {g g' : Nat → Int} (h : w.heap[b]? = some (rowF .u32 48 64 g)) : (stA 48 (.pointer (some ⟨b, 0, none⟩)) (.agg (arr 64 g'))).run Tryd.prog w = .ok () (w.setRow b (arr 64 g')) := by
  obtain ⟨h1, h2⟩ := zero_of_info info64
  unfold stA
  simp only [Instr.storeAt, Instr.sureAddr, Sem.run_bind, Sem.run_pure, Result.andThen_ok]
  exact run_storeVar_row w b _ _ (arr 64 g) (arr 64 g') h (by rw [h2, arr_size]) (by rw [arr_size, arr_size]) (arr_one _ _)

/-- the words when k bytes were taken -/
def pw (s : ByteArray) : Nat → (Nat → Int)
  | 0 => fun _ => 0
  | k + 1 => upd (pw s k) (k / 4) (O (M (pw s k (k / 4)) 256) (b8 s k))

theorem pw_high (s : ByteArray) : ∀ k, k ≤ 64 → ∀ j, 16 ≤ j → pw s k j = 0 := by
  intro k
  induction k with
  | zero => intro _ j _; rfl
  | succ k ih =>
    intro hk j hj
    rw [pw]
    unfold upd
    rw [if_neg (by omega)]
    exact ih (by omega) j hj
/-- the first k words are there, the rest is 0 -/
def wk (f : Nat → Int) (k : Nat) : Nat → Int := fun j => if j < k then W f j else 0
theorem wk16 (s : ByteArray) (j : Nat) : wk (pw s 64) 16 j = pw s 64 j := by
  unfold wk
  by_cases h : j < 16
  · rw [if_pos h, W_low _ h]
  · rw [if_neg h, pw_high s 64 (Nat.le_refl _) j (by omega)]
theorem wk_next (f : Nat → Int) (k : Nat) : upd (wk f k) k (W f k) = wk f (k + 1) := by
  funext j
  unfold upd wk
  by_cases h : j = k
  · subst h; simp
  · by_cases h2 : j < k
    · simp [h, h2]; omega
    · simp [h, h2]; omega
theorem wrap_sub {k j c : Nat} (h : k = j + c) (hk : k ≤ 64) : IntKind.i64.wrap ((k : Int) - (c : Int)) = (j : Int) := by
  have e : (k : Int) - (c : Int) = (j : Int) := by omega
  rw [e]
  simp [IntKind.wrap, IntKind.bits, IntKind.signed]
  omega

/-- what stands in memory -/
structure Ws (w : World) (f : Nat → Int) (wr : World) : Prop where
  below : Below w.heap.size w wr
  res : wr.heap[w.heap.size]? = some (rowF .u32 48 64 fun _ => 0)
  row : wr.heap[w.heap.size + 1]? = some (rowF .u32 48 64 f)
theorem Ws.set {w wr : World} {f : Nat → Int} (h : Ws w f wr) (i : Nat) (z : Int) : Ws w (upd f i z) (wr.setCell ⟨w.heap.size + 1, i, none⟩ (.int .u32 z)) :=
  ⟨h.below.setCell (by simp) _, blk_set h.res _ _ (by simp), rowF_set h.row i z⟩

set_option maxRecDepth 100000 in
set_option maxHeartbeats 1000000 in
theorem words_raw (s : ByteArray) (w : World) (hs : s.size = 64) :
    Calls Tryd.prog 30 #[.string s] w fun e w' => e = .returned (.agg (arr 64 (W (pw s 64)))) ∧ Below w.heap.size w w' := by
  have hal := run_al64
  have hb := get_bt s
  have hss : (s.size : Int) = 64 := by omega
  go_enter Tryd.func30, Tryd.ntmps30
  go_wp2
  clear hal
  have H0 : Hid (Ws w (pw s 0) ((w.alloc (rowF .u32 48 64 fun _ => 0)).alloc (rowF .u32 48 64 fun _ => 0))) :=
    mkHid ⟨below_alloc2 w _ _, blk_old (blk_new w _ _ rfl) _, blk_new _ _ _ (by simp)⟩
  go_loopw [10] (fun i wr => ∃ k : Nat, k ≤ 64 ∧ i = .int .i64 k ∧ Hid (Ws w (pw s k) wr))
    (fun i _ => 64 - (intOf i).toNat)
  case atStart => exact ⟨0, Nat.zero_le _, rfl, H0⟩
  case round =>
    clear H0
    obtain ⟨k, hk, rfl, hW⟩ := hrel
    by_cases hlt : k < 64
    · have hj : (k : Int) / 4 = ((k / 4 : Nat) : Int) := by omega
      obtain ⟨j, hjj⟩ : ∃ j, j = k / 4 := ⟨_, rfl⟩
      have hcell : wr.cell? ⟨w.heap.size + 1, j, none⟩ = some (.int .u32 (pw s k j)) := rowF_cell hW.out.row (by omega)
      have hf : wr.frozen? ⟨w.heap.size + 1, j, none⟩ = false := rowF_free hW.out.row j
      have N1 := hW.out.set j (O (M (pw s k j) 256) (b8 s k))
      have e : upd (pw s k) j (O (M (pw s k j) 256) (b8 s k)) = pw s (k + 1) := by rw [pw, hjj]
      rw [e] at N1
      unfold b8 at N1
      have N2 := mkHid N1
      have hjk : (j : Int) < 64 := by omega
      have hj2 : (k : Int) / 4 = (j : Int) := by omega
      have hki : (k : Int) < 64 := by omega
      have hq : IntKind.i64.wrap ((k : Int) / 4) = (j : Int) := by rw [hj2]; simp [IntKind.wrap, IntKind.bits, IntKind.signed]; omega
      have hq2 : IntKind.i64.wrap (Int.tdiv (k : Int) 4) = (j : Int) := by rw [Int.tdiv_eq_ediv_of_nonneg (by omega)]; exact hq
      have hq3 : Int.tdiv (k : Int) 4 = (j : Int) := by rw [Int.tdiv_eq_ediv_of_nonneg (by omega)]; exact hj2
      clear N1 hW e hj hjj
      go_wp2
      go_region
      go_wp2
      go_roundw
      case rel => exact ⟨k + 1, by omega, by go_num, mkHid ⟨N2.out.below.drew, N2.out.res, N2.out.row⟩⟩
      case measure => simp [intOf]; omega
    · have hW2 : Hid (Ws w (wk (pw s 64) 16) wr) := by
        have e : k = 64 := by omega
        have h := hW.out
        rw [e] at h
        exact mkHid ⟨h.below, h.res, h.row.trans (congrArg some (rowF_congr (fun i hi => (wk16 s i).symm)))⟩
      clear hW
      go_wp2
      go_loopw [5] (fun i wr => ∃ k : Nat, 16 ≤ k ∧ k ≤ 64 ∧ i = .int .i64 k ∧ Hid (Ws w (wk (pw s 64) k) wr))
        (fun i _ => 64 - (intOf i).toNat)
      case atStart => exact ⟨16, by omega, by omega, rfl, hW2⟩
      case round =>
        clear hW2
        obtain ⟨k, hk0, hk, rfl, hW⟩ := hrel
        by_cases hlt : k < 64
        · have hcell : wr.cell? ⟨w.heap.size + 1, k, none⟩ = some (.int .u32 0) := by rw [rowF_cell hW.out.row (by omega)]; simp [wk]
          have hf : wr.frozen? ⟨w.heap.size + 1, k, none⟩ = false := rowF_free hW.out.row k
          obtain ⟨j16, e16⟩ : ∃ j, k = j + 16 := ⟨k - 16, by omega⟩
          obtain ⟨j15, e15⟩ : ∃ j, k = j + 15 := ⟨k - 15, by omega⟩
          obtain ⟨j7, e7⟩ : ∃ j, k = j + 7 := ⟨k - 7, by omega⟩
          obtain ⟨j2, e2⟩ : ∃ j, k = j + 2 := ⟨k - 2, by omega⟩
          have N1 := hW.out.set k (W (pw s 64) k)
          rw [wk_next, W_next _ hk0, show k - 16 = j16 by omega, show k - 15 = j15 by omega, show k - 7 = j7 by omega, show k - 2 = j2 by omega] at N1
          have r16 : wr.cell? ⟨w.heap.size + 1, j16, none⟩ = some (.int .u32 (W (pw s 64) j16)) := by rw [rowF_cell hW.out.row (by omega)]; simp [wk]; omega
          have r15 : wr.cell? ⟨w.heap.size + 1, j15, none⟩ = some (.int .u32 (W (pw s 64) j15)) := by rw [rowF_cell hW.out.row (by omega)]; simp [wk]; omega
          have r7 : wr.cell? ⟨w.heap.size + 1, j7, none⟩ = some (.int .u32 (W (pw s 64) j7)) := by rw [rowF_cell hW.out.row (by omega)]; simp [wk]; omega
          have r2 : wr.cell? ⟨w.heap.size + 1, j2, none⟩ = some (.int .u32 (W (pw s 64) j2)) := by rw [rowF_cell hW.out.row (by omega)]; simp [wk]; omega
          have w16 : IntKind.i64.wrap ((k : Int) - 16) = (j16 : Int) := wrap_sub e16 hk
          have w15 : IntKind.i64.wrap ((k : Int) - 15) = (j15 : Int) := wrap_sub e15 hk
          have w7 : IntKind.i64.wrap ((k : Int) - 7) = (j7 : Int) := wrap_sub e7 hk
          have w2 : IntKind.i64.wrap ((k : Int) - 2) = (j2 : Int) := wrap_sub e2 hk
          have b16 : (j16 : Int) < 64 := by omega
          have b15 : (j15 : Int) < 64 := by omega
          have b7 : (j7 : Int) < 64 := by omega
          have b2 : (j2 : Int) < 64 := by omega
          have bk : (k : Int) < 64 := by omega
          have T := mkHid (fun x k (wx : World) (h0 : 0 ≤ k) (h1 : k ≤ 32) => turn_any x k wx h0 h1)
          unfold s0 s1 at N1
          clear hW e16 e15 e7 e2 hb
          generalize W (pw s 64) j16 = x16 at *
          generalize W (pw s 64) j15 = x15 at *
          generalize W (pw s 64) j7 = x7 at *
          generalize W (pw s 64) j2 = x2 at *
          have N2 := mkHid N1
          clear N1
          go_wp2_with fail
          go_quiet (fail)
          go_wp2_with (go_at_call 32; refine (T.out _ _ _ (by omega) (by omega)).mono ?_; rintro e w1 ⟨rfl, rfl⟩)
          go_region
          go_wp2
          go_roundw
          case rel => exact ⟨k + 1, by omega, by omega, by go_num, mkHid ⟨like N2.out.below rfl rfl rfl rfl, N2.out.res, N2.out.row⟩⟩
          case measure => simp [intOf]; omega
        · have hW : Hid (Ws w (W (pw s 64)) wr) := by
            have e : k = 64 := by omega
            have h := hW.out
            rw [e] at h
            exact mkHid ⟨h.below, h.res, h.row.trans (congrArg some (rowF_congr (fun i hi => by simp [wk, hi])))⟩
          have h1 := run_ld64 hW.out.row
          have h2 := run_st64 (g' := W (pw s 64)) hW.out.res
          go_wp2
          have hr := setRow_heap wr w.heap.size _ (arr 64 (W (pw s 64))) _ _ hW.out.res
          have hl : (loadVar 48 ⟨w.heap.size, 0, none⟩).run Tryd.prog (wr.setRow w.heap.size (arr 64 (W (pw s 64)))) = .ok (.agg (arr 64 (W (pw s 64)))) (wr.setRow w.heap.size (arr 64 (W (pw s 64)))) :=
            run_loadVar_row _ _ _ _ (arr 64 (W (pw s 64))) (0, 0) _ hr Tryd.underlying48 rfl (by rw [(zero_of_info info64).2, arr_size])
          exact bodyPost_ret (v := .agg (arr 64 (W (pw s 64)))) (by simp [results, Tryd.results30, asAddr, hl]) rfl ⟨rfl, below_setRow hW.out.below (Nat.le_refl _) _⟩

theorem O_join (x y : Int) (i : Nat) (h0 : 0 ≤ x) (h1 : x < 4294967296) (hy0 : 0 ≤ y) (hy1 : y < 4294967296) (hm : x.toNat % 2 ^ i = 0) (hy : y.toNat < 2 ^ i) : O x y = x + y := by
  unfold O
  rw [u32_or x y h0 h1 hy0 hy1, nat_join i _ _ hm hy]
  omega
theorem M_val (a c : Int) (h0 : 0 ≤ a * c) (h1 : a * c < 4294967296) : M a c = a * c := by
  unfold M
  rw [IntKind.wrap_u32']
  omega
theorem word4 (a b c d : Int) (a0 : 0 ≤ a) (a1 : a < 256) (b0 : 0 ≤ b) (b1 : b < 256) (c0 : 0 ≤ c) (c1 : c < 256) (d0 : 0 ≤ d) (d1 : d < 256) :
    O (M (O (M (O (M (O (M 0 256) a) 256) b) 256) c) 256) d = O (O (O (M a 16777216) (M b 65536)) (M c 256)) d := by
  have p8 : (2 : Nat) ^ 8 = 256 := rfl
  have p16 : (2 : Nat) ^ 16 = 65536 := rfl
  have p24 : (2 : Nat) ^ 24 = 16777216 := rfl
  rw [M_val 0 256 (by omega) (by omega), O_join (0 * 256) a 8 (by omega) (by omega) (by omega) (by omega) (by omega) (by omega),
    M_val (0 * 256 + a) 256 (by omega) (by omega), O_join ((0 * 256 + a) * 256) b 8 (by omega) (by omega) (by omega) (by omega) (by omega) (by omega),
    M_val ((0 * 256 + a) * 256 + b) 256 (by omega) (by omega), O_join (((0 * 256 + a) * 256 + b) * 256) c 8 (by omega) (by omega) (by omega) (by omega) (by omega) (by omega),
    M_val (((0 * 256 + a) * 256 + b) * 256 + c) 256 (by omega) (by omega), O_join ((((0 * 256 + a) * 256 + b) * 256 + c) * 256) d 8 (by omega) (by omega) (by omega) (by omega) (by omega) (by omega),
    M_val a 16777216 (by omega) (by omega), M_val b 65536 (by omega) (by omega), M_val c 256 (by omega) (by omega),
    O_join (a * 16777216) (b * 65536) 24 (by omega) (by omega) (by omega) (by omega) (by omega) (by omega),
    O_join (a * 16777216 + b * 65536) (c * 256) 16 (by omega) (by omega) (by omega) (by omega) (by omega) (by omega),
    O_join (a * 16777216 + b * 65536 + c * 256) d 8 (by omega) (by omega) (by omega) (by omega) (by omega) (by omega)]
  omega
theorem b8_bd (s : ByteArray) (i : Nat) : 0 ≤ b8 s i ∧ b8 s i < 256 := by
  unfold b8
  have h1 := bt_nonneg s i
  have h2 := bt_le s i
  omega
theorem pw_zero (s : ByteArray) (j : Nat) : ∀ k, k ≤ 4 * j → pw s k j = 0 := by
  intro k
  induction k with
  | zero => intro _; rfl
  | succ k ih =>
    intro hk
    rw [pw]
    unfold upd
    rw [if_neg (by omega)]
    exact ih (by omega)
theorem pw_keep (s : ByteArray) (j : Nat) : ∀ m, pw s (4 * j + 4 + m) j = pw s (4 * j + 4) j := by
  intro m
  induction m with
  | zero => rfl
  | succ m ih =>
    rw [← Nat.add_assoc, pw]
    unfold upd
    rw [if_neg (by omega)]
    exact ih
theorem pw_at (s : ByteArray) (j k : Nat) (h : k / 4 = j) : pw s (k + 1) j = O (M (pw s k j) 256) (b8 s k) := by
  subst h
  simp [pw, upd]
theorem pw_word (s : ByteArray) (j : Nat) (hj : j < 16) : pw s 64 j = wordAt s j := by
  have e : (64 : Nat) = 4 * j + 4 + (60 - 4 * j) := by omega
  rw [e, pw_keep, show 4 * j + 4 = 4 * j + 3 + 1 from rfl, pw_at s j (4 * j + 3) (by omega), show 4 * j + 3 = 4 * j + 2 + 1 from rfl, pw_at s j (4 * j + 2) (by omega), show 4 * j + 2 = 4 * j + 1 + 1 from rfl, pw_at s j (4 * j + 1) (by omega), pw_at s j (4 * j) (by omega), pw_zero s j (4 * j) (Nat.le_refl _)]
  unfold wordAt
  exact word4 _ _ _ _ (b8_bd s _).1 (b8_bd s _).2 (b8_bd s _).1 (b8_bd s _).2 (b8_bd s _).1 (b8_bd s _).2 (b8_bd s _).1 (b8_bd s _).2
theorem W_congr {f g : Nat → Int} (h : ∀ i, i < 16 → f i = g i) : ∀ i, W f i = W g i := by
  intro i
  induction i using Nat.strongRecOn with
  | _ i ih =>
    by_cases hi : i < 16
    · rw [W_low _ hi, W_low _ hi, h i hi]
    · rw [W_next f (by omega), W_next g (by omega), ih (i - 16) (by omega), ih (i - 15) (by omega), ih (i - 7) (by omega), ih (i - 2) (by omega)]
theorem words_any (s : ByteArray) (w : World) (hs : s.size = 64) :
    Calls Tryd.prog 30 #[.string s] w fun e w' => e = .returned (.agg (arr 64 (W (wordAt s)))) ∧ Below w.heap.size w w' := by
  rw [← arr_congr (fun i _ => W_congr (fun j hj => pw_word s j hj) i)]
  exact words_raw s w hs
end Go.Proofs.YtaepdmeghfbngaaDoor.shaI
