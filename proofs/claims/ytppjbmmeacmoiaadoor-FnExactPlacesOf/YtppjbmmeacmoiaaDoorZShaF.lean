/-
  What impl.turn and impl.round answer and leave. No condition.
  What impl.wordsOf answers and leaves. Condition: a text of 64 bytes.
  What impl.takeBlock answers and leaves. Conditions: a text of 64 bytes; the variable impl.roundNumbers holds the numbers of the rounds.
  What impl.takeBlocks answers and leaves. Conditions: a state of eight numbers of 32 bits, which lie in memory; whole blocks, at most 2,000,000 bytes; the variable impl.roundNumbers holds the numbers of the rounds.
-/
import Derived.Test.YtppjbmmeacmoiaaDoorShaP
import Derived.Test.YtppjbmmeacmoiaaDoorKeys
import Derived.Test.YtppjbmmeacmoiaaDoorMoreS
import Derived.PlainAid
import Derived.Deep.QuietTactic
import Derived.BigQuiet
import Derived.BigRegion
import Derived.Deep.RegionHeld3
import Derived.Deep.WholeRow
import Derived.Laws.CopyOwn
import Derived.Deep.RegionWith
namespace Go.Proofs.YtppjbmmeacmoiaaDoor.shaI
open Go.RowKit Go.Joins
open Go.Proofs.YtppjbmmeacmoiaaDoor.base Go.Proofs.YtppjbmmeacmoiaaDoor.word Go.Proofs.YtppjbmmeacmoiaaDoor.ints Go.Proofs.YtppjbmmeacmoiaaDoor.blk
open Go.Proofs.YtppjbmmeacmoiaaDoor.sha (Regs S0 S1 ch maj t2 t1 nth key W rounds upd rowF)
set_option linter.unusedVariables false
attribute [local go_sem] M_fold O_fold A_fold X_fold N_fold

theorem turn_any (x k : Int) (w : World) (h0 : 0 ≤ k) (h1 : k ≤ 32) : Calls Tryd.prog 96 #[.int .u32 x, .int .u64 k] w fun e w' => e = .returned (.int .u32 (rot x k)) ∧ w' = w := by
  go_enter Tryd.func96, Tryd.ntmps96
  go_wp2
  go_ret
  exact ⟨rfl, rfl⟩

theorem A_assoc (a b c : Int) : A (A a b) c = A a (A b c) := by
  unfold A
  simp only [IntKind.wrap, IntKind.bits, IntKind.signed]
  simp
  omega

theorem like {B : Nat} {w a b : World} (h : Below B w a) (h1 : b.os = a.os) (h2 : b.tape = a.tape) (h3 : b.output = a.output) (h4 : b.heap = a.heap) : Below B w b :=
  ⟨h1.trans h.os, h2.trans h.tape, h3.trans h.output, by rw [h4]; exact h.size, fun k hk => by rw [h4]; exact h.block k hk⟩

/-- eight numbers as an array -/
def arr (n : Nat) (g : Nat → Int) : Array Value := ((List.range n).map fun i => Value.int .u32 (g i)).toArray
theorem arr8 (r : Regs) : arr 8 (nth r) = #[.int .u32 r.a, .int .u32 r.b, .int .u32 r.c, .int .u32 r.d, .int .u32 r.e, .int .u32 r.f, .int .u32 r.g, .int .u32 r.h] := rfl
theorem arr_congr {n : Nat} {g g' : Nat → Int} (h : ∀ i, i < n → g i = g' i) : arr n g = arr n g' := by
  unfold arr
  congr 1
  apply List.map_congr_left
  intro i hi
  rw [h i (by simpa using hi)]

/-- a round, in which more is what the round alone brings in -/
def u1 (r : Regs) (m : Int) : Int := A (A (A r.h (S1 r.e)) (ch r.e r.f r.g)) m
def mix (r : Regs) (m : Int) : Regs := ⟨A (u1 r m) (t2 r), r.a, r.b, r.c, A r.d (u1 r m), r.e, r.f, r.g⟩
theorem mix_round (r : Regs) (k w : Int) : mix r (A k w) = sha.round r k w := by
  unfold mix sha.round u1 sha.t1
  rw [← A_assoc]

set_option maxRecDepth 100000 in
theorem round_any (r : Regs) (m : Int) (w : World) : Calls Tryd.prog 95 #[.agg (arr 8 (nth r)), .int .u32 m] w fun e w' => e = .returned (.agg (arr 8 (nth (mix r m)))) ∧ Below w.heap.size w w' := by
  have T := mkHid (fun x k (wx : World) (h0 : 0 ≤ k) (h1 : k ≤ 32) => turn_any x k wx h0 h1)
  rw [arr8, arr8]
  go_enter Tryd.func95, Tryd.ntmps95
  go_wp2_with fail
  go_quiet (fail)
  go_wp2_with (go_at_call 96; refine (T.out _ _ _ (by omega) (by omega)).mono ?_; rintro e w1 ⟨rfl, rfl⟩)
  have hmax : IntKind.u32.max = 4294967295 := by decide
  rw [hmax]
  refine bodyPost_ret (v := .agg #[.int .u32 (mix r m).a, .int .u32 (mix r m).b, .int .u32 (mix r m).c, .int .u32 (mix r m).d, .int .u32 (mix r m).e, .int .u32 (mix r m).f, .int .u32 (mix r m).g, .int .u32 (mix r m).h])
    (by simp [results, Tryd.results95, go_sem, mix, u1, t2, S1, S0, ch, maj]) rfl ⟨rfl, ?_⟩
  repeat (refine Below.setCell ?_ (by simp) _)
  exact like (((Below.refl w.heap.size w).alloc (Nat.le_refl _) _).alloc (by simp) _) rfl rfl rfl rfl
end Go.Proofs.YtppjbmmeacmoiaaDoor.shaI
namespace Go.Proofs.YtppjbmmeacmoiaaDoor.shaI
open Go.RowKit Go.Joins
open Go.Proofs.YtppjbmmeacmoiaaDoor.base Go.Proofs.YtppjbmmeacmoiaaDoor.word Go.Proofs.YtppjbmmeacmoiaaDoor.ints Go.Proofs.YtppjbmmeacmoiaaDoor.blk
open Go.Proofs.YtppjbmmeacmoiaaDoor.sha (Regs S0 S1 s0 s1 ch maj t2 t1 nth key W rounds upd rowF rowF_cell rowF_free rowF_set rowF_congr W_low W_next b8 wordAt)
open Go.PlainAid (bt get_bt bt_nonneg bt_le)
set_option linter.unusedVariables false
attribute [local go_sem] M_fold O_fold A_fold X_fold N_fold

/-- whole arrays, folded: so that facts of their runs, laid ahead, are met -/
def ldA (t : TypeId) (v : Value) : Sem Value := Instr.loadAt t v
def stA (t : TypeId) (a v : Value) : Sem Unit := Instr.storeAt t a v
def alA (t : TypeId) : Sem Value := Instr.alloc t true (.tuple #[])
theorem ld64_fold (v : Value) : Instr.loadAt 125 v = ldA 125 v := rfl
theorem st64_fold (a v : Value) : Instr.storeAt 125 a v = stA 125 a v := rfl
theorem al64_fold : Instr.alloc 125 true (.tuple #[]) = alA 125 := rfl
attribute [local go_sem ↓] ld64_fold st64_fold al64_fold

theorem arr_size (n : Nat) (g : Nat → Int) : (arr n g).size = n := by simp [arr]
theorem arr_one (n : Nat) (g : Nat → Int) : (arr n g).all (·.oneCell') = true := by
  rw [Array.all_eq_true_iff_forall_mem]
  intro v hv
  simp [arr] at hv
  obtain ⟨i, _, rfl⟩ := hv
  rfl
theorem info64 : (Tryd.prog.info? 125).map (fun i => (i.zero, i.size)) = some (some (.agg (arr 64 fun _ => 0)), 64) := by kernel_rfl
theorem run_al64 (u : World) : (alA 125).run Tryd.prog u = .ok (.pointer (some ⟨u.heap.size, 0, none⟩)) (u.alloc (rowF .u32 125 64 fun _ => 0)) := by
  obtain ⟨h1, h2⟩ := zero_of_info info64
  unfold alA Instr.alloc
  rw [Sem.run_bind, h1]
  simp [newVar, newRow, Value.cells]
  rfl
theorem run_ld64 {w : World} {b : Nat} {g : Nat → Int} (h : w.heap[b]? = some (rowF .u32 125 64 g)) : (ldA 125 (.pointer (some ⟨b, 0, none⟩))).run Tryd.prog w = .ok (.agg (arr 64 g)) w := by
  obtain ⟨h1, h2⟩ := zero_of_info info64
  unfold ldA
  simp only [Instr.loadAt, Instr.sureAddr, Sem.run_bind, Sem.run_pure, Result.andThen_ok]
  exact run_loadVar_row w b _ _ (arr 64 g) (0, 0) _ h Tryd.underlying125 rfl (by rw [h2, arr_size])
theorem run_st64 {w : World} {b : Nat} {g g' : Nat → Int} (h : w.heap[b]? = some (rowF .u32 125 64 g)) : (stA 125 (.pointer (some ⟨b, 0, none⟩)) (.agg (arr 64 g'))).run Tryd.prog w = .ok () (w.setRow b (arr 64 g')) := by
  obtain ⟨h1, h2⟩ := zero_of_info info64
  unfold stA
  simp only [Instr.storeAt, Instr.sureAddr, Sem.run_bind, Sem.run_pure, Result.andThen_ok]
  exact run_storeVar_row w b _ _ (arr 64 g) (arr 64 g') h (by rw [h2, arr_size]) (by rw [arr_size, arr_size]) (arr_one _ _)

/-- the words when k bytes were taken -/
def pw (s : ByteArray) : Nat → (Nat → Int)
  | 0 => fun _ => 0
  | k + 1 => upd (pw s k) (k / 4) (O (M (pw s k (k / 4)) 256) (b8 s k))

theorem pw_high (s : ByteArray) : ∀ k, k ≤ 64 → ∀ j, 16 ≤ j → pw s k j = 0 := by
  intro k
  induction k with
  | zero => intro _ j _; rfl
  | succ k ih =>
    intro hk j hj
    rw [pw]
    unfold upd
    rw [if_neg (by omega)]
    exact ih (by omega) j hj
/-- the first k words are there, the rest is 0 -/
def wk (f : Nat → Int) (k : Nat) : Nat → Int := fun j => if j < k then W f j else 0
theorem wk16 (s : ByteArray) (j : Nat) : wk (pw s 64) 16 j = pw s 64 j := by
  unfold wk
  by_cases h : j < 16
  · rw [if_pos h, W_low _ h]
  · rw [if_neg h, pw_high s 64 (Nat.le_refl _) j (by omega)]
theorem wk_next (f : Nat → Int) (k : Nat) : upd (wk f k) k (W f k) = wk f (k + 1) := by
  funext j
  unfold upd wk
  by_cases h : j = k
  · subst h; simp
  · by_cases h2 : j < k
    · simp [h, h2]; omega
    · simp [h, h2]; omega
theorem wrap_sub {k j c : Nat} (h : k = j + c) (hk : k ≤ 64) : IntKind.i64.wrap ((k : Int) - (c : Int)) = (j : Int) := by
  have e : (k : Int) - (c : Int) = (j : Int) := by omega
  rw [e]
  simp [IntKind.wrap, IntKind.bits, IntKind.signed]
  omega

/-- what stands in memory -/
structure Ws (w : World) (f : Nat → Int) (wr : World) : Prop where
  below : Below w.heap.size w wr
  res : wr.heap[w.heap.size]? = some (rowF .u32 125 64 fun _ => 0)
  row : wr.heap[w.heap.size + 1]? = some (rowF .u32 125 64 f)
theorem Ws.set {w wr : World} {f : Nat → Int} (h : Ws w f wr) (i : Nat) (z : Int) : Ws w (upd f i z) (wr.setCell ⟨w.heap.size + 1, i, none⟩ (.int .u32 z)) :=
  ⟨h.below.setCell (by simp) _, blk_set h.res _ _ (by simp), rowF_set h.row i z⟩

set_option maxRecDepth 100000 in
set_option maxHeartbeats 1000000 in
theorem words_raw (s : ByteArray) (w : World) (hs : s.size = 64) :
    Calls Tryd.prog 94 #[.string s] w fun e w' => e = .returned (.agg (arr 64 (W (pw s 64)))) ∧ Below w.heap.size w w' := by
  have hal := run_al64
  have hb := get_bt s
  have hss : (s.size : Int) = 64 := by omega
  go_enter Tryd.func94, Tryd.ntmps94
  go_wp2
  clear hal
  have H0 : Hid (Ws w (pw s 0) ((w.alloc (rowF .u32 125 64 fun _ => 0)).alloc (rowF .u32 125 64 fun _ => 0))) :=
    mkHid ⟨below_alloc2 w _ _, blk_old (blk_new w _ _ rfl) _, blk_new _ _ _ (by simp)⟩
  go_loopw [10] (fun i wr => ∃ k : Nat, k ≤ 64 ∧ i = .int .i64 k ∧ Hid (Ws w (pw s k) wr))
    (fun i _ => 64 - (intOf i).toNat)
  case atStart => exact ⟨0, Nat.zero_le _, rfl, H0⟩
  case round =>
    clear H0
    obtain ⟨k, hk, rfl, hW⟩ := hrel
    by_cases hlt : k < 64
    · have hj : (k : Int) / 4 = ((k / 4 : Nat) : Int) := by omega
      obtain ⟨j, hjj⟩ : ∃ j, j = k / 4 := ⟨_, rfl⟩
      have hcell : wr.cell? ⟨w.heap.size + 1, j, none⟩ = some (.int .u32 (pw s k j)) := rowF_cell hW.out.row (by omega)
      have hf : wr.frozen? ⟨w.heap.size + 1, j, none⟩ = false := rowF_free hW.out.row j
      have N1 := hW.out.set j (O (M (pw s k j) 256) (b8 s k))
      have e : upd (pw s k) j (O (M (pw s k j) 256) (b8 s k)) = pw s (k + 1) := by rw [pw, hjj]
      rw [e] at N1
      unfold b8 at N1
      have N2 := mkHid N1
      have hjk : (j : Int) < 64 := by omega
      have hj2 : (k : Int) / 4 = (j : Int) := by omega
      have hki : (k : Int) < 64 := by omega
      have hq : IntKind.i64.wrap ((k : Int) / 4) = (j : Int) := by rw [hj2]; simp [IntKind.wrap, IntKind.bits, IntKind.signed]; omega
      have hq2 : IntKind.i64.wrap (Int.tdiv (k : Int) 4) = (j : Int) := by rw [Int.tdiv_eq_ediv_of_nonneg (by omega)]; exact hq
      have hq3 : Int.tdiv (k : Int) 4 = (j : Int) := by rw [Int.tdiv_eq_ediv_of_nonneg (by omega)]; exact hj2
      clear N1 hW e hj hjj
      go_wp2
      go_region
      go_wp2
      go_roundw
      case rel => exact ⟨k + 1, by omega, by go_num, mkHid ⟨N2.out.below.drew, N2.out.res, N2.out.row⟩⟩
      case measure => simp [intOf]; omega
    · have hW2 : Hid (Ws w (wk (pw s 64) 16) wr) := by
        have e : k = 64 := by omega
        have h := hW.out
        rw [e] at h
        exact mkHid ⟨h.below, h.res, h.row.trans (congrArg some (rowF_congr (fun i hi => (wk16 s i).symm)))⟩
      clear hW
      go_wp2
      go_loopw [5] (fun i wr => ∃ k : Nat, 16 ≤ k ∧ k ≤ 64 ∧ i = .int .i64 k ∧ Hid (Ws w (wk (pw s 64) k) wr))
        (fun i _ => 64 - (intOf i).toNat)
      case atStart => exact ⟨16, by omega, by omega, rfl, hW2⟩
      case round =>
        clear hW2
        obtain ⟨k, hk0, hk, rfl, hW⟩ := hrel
        by_cases hlt : k < 64
        · have hcell : wr.cell? ⟨w.heap.size + 1, k, none⟩ = some (.int .u32 0) := by rw [rowF_cell hW.out.row (by omega)]; simp [wk]
          have hf : wr.frozen? ⟨w.heap.size + 1, k, none⟩ = false := rowF_free hW.out.row k
          obtain ⟨j16, e16⟩ : ∃ j, k = j + 16 := ⟨k - 16, by omega⟩
          obtain ⟨j15, e15⟩ : ∃ j, k = j + 15 := ⟨k - 15, by omega⟩
          obtain ⟨j7, e7⟩ : ∃ j, k = j + 7 := ⟨k - 7, by omega⟩
          obtain ⟨j2, e2⟩ : ∃ j, k = j + 2 := ⟨k - 2, by omega⟩
          have N1 := hW.out.set k (W (pw s 64) k)
          rw [wk_next, W_next _ hk0, show k - 16 = j16 by omega, show k - 15 = j15 by omega, show k - 7 = j7 by omega, show k - 2 = j2 by omega] at N1
          have r16 : wr.cell? ⟨w.heap.size + 1, j16, none⟩ = some (.int .u32 (W (pw s 64) j16)) := by rw [rowF_cell hW.out.row (by omega)]; simp [wk]; omega
          have r15 : wr.cell? ⟨w.heap.size + 1, j15, none⟩ = some (.int .u32 (W (pw s 64) j15)) := by rw [rowF_cell hW.out.row (by omega)]; simp [wk]; omega
          have r7 : wr.cell? ⟨w.heap.size + 1, j7, none⟩ = some (.int .u32 (W (pw s 64) j7)) := by rw [rowF_cell hW.out.row (by omega)]; simp [wk]; omega
          have r2 : wr.cell? ⟨w.heap.size + 1, j2, none⟩ = some (.int .u32 (W (pw s 64) j2)) := by rw [rowF_cell hW.out.row (by omega)]; simp [wk]; omega
          have w16 : IntKind.i64.wrap ((k : Int) - 16) = (j16 : Int) := wrap_sub e16 hk
          have w15 : IntKind.i64.wrap ((k : Int) - 15) = (j15 : Int) := wrap_sub e15 hk
          have w7 : IntKind.i64.wrap ((k : Int) - 7) = (j7 : Int) := wrap_sub e7 hk
          have w2 : IntKind.i64.wrap ((k : Int) - 2) = (j2 : Int) := wrap_sub e2 hk
          have b16 : (j16 : Int) < 64 := by omega
          have b15 : (j15 : Int) < 64 := by omega
          have b7 : (j7 : Int) < 64 := by omega
          have b2 : (j2 : Int) < 64 := by omega
          have bk : (k : Int) < 64 := by omega
          have T := mkHid (fun x k (wx : World) (h0 : 0 ≤ k) (h1 : k ≤ 32) => turn_any x k wx h0 h1)
          unfold s0 s1 at N1
          clear hW e16 e15 e7 e2 hb
          generalize W (pw s 64) j16 = x16 at *
          generalize W (pw s 64) j15 = x15 at *
          generalize W (pw s 64) j7 = x7 at *
          generalize W (pw s 64) j2 = x2 at *
          have N2 := mkHid N1
          clear N1
          go_wp2_with fail
          go_quiet (fail)
          go_wp2_with (go_at_call 96; refine (T.out _ _ _ (by omega) (by omega)).mono ?_; rintro e w1 ⟨rfl, rfl⟩)
          go_region
          go_wp2
          go_roundw
          case rel => exact ⟨k + 1, by omega, by omega, by go_num, mkHid ⟨like N2.out.below rfl rfl rfl rfl, N2.out.res, N2.out.row⟩⟩
          case measure => simp [intOf]; omega
        · have hW : Hid (Ws w (W (pw s 64)) wr) := by
            have e : k = 64 := by omega
            have h := hW.out
            rw [e] at h
            exact mkHid ⟨h.below, h.res, h.row.trans (congrArg some (rowF_congr (fun i hi => by simp [wk, hi])))⟩
          have h1 := run_ld64 hW.out.row
          have h2 := run_st64 (g' := W (pw s 64)) hW.out.res
          go_wp2
          have hr := setRow_heap wr w.heap.size _ (arr 64 (W (pw s 64))) _ _ hW.out.res
          have hl : (loadVar 125 ⟨w.heap.size, 0, none⟩).run Tryd.prog (wr.setRow w.heap.size (arr 64 (W (pw s 64)))) = .ok (.agg (arr 64 (W (pw s 64)))) (wr.setRow w.heap.size (arr 64 (W (pw s 64)))) :=
            run_loadVar_row _ _ _ _ (arr 64 (W (pw s 64))) (0, 0) _ hr Tryd.underlying125 rfl (by rw [(zero_of_info info64).2, arr_size])
          exact bodyPost_ret (v := .agg (arr 64 (W (pw s 64)))) (by simp [results, Tryd.results94, asAddr, hl]) rfl ⟨rfl, below_setRow hW.out.below (Nat.le_refl _) _⟩

theorem O_join (x y : Int) (i : Nat) (h0 : 0 ≤ x) (h1 : x < 4294967296) (hy0 : 0 ≤ y) (hy1 : y < 4294967296) (hm : x.toNat % 2 ^ i = 0) (hy : y.toNat < 2 ^ i) : O x y = x + y := by
  unfold O
  rw [u32_or x y h0 h1 hy0 hy1, nat_join i _ _ hm hy]
  omega
theorem M_val (a c : Int) (h0 : 0 ≤ a * c) (h1 : a * c < 4294967296) : M a c = a * c := by
  unfold M
  rw [IntKind.wrap_u32']
  omega
theorem word4 (a b c d : Int) (a0 : 0 ≤ a) (a1 : a < 256) (b0 : 0 ≤ b) (b1 : b < 256) (c0 : 0 ≤ c) (c1 : c < 256) (d0 : 0 ≤ d) (d1 : d < 256) :
    O (M (O (M (O (M (O (M 0 256) a) 256) b) 256) c) 256) d = O (O (O (M a 16777216) (M b 65536)) (M c 256)) d := by
  have p8 : (2 : Nat) ^ 8 = 256 := rfl
  have p16 : (2 : Nat) ^ 16 = 65536 := rfl
  have p24 : (2 : Nat) ^ 24 = 16777216 := rfl
  rw [M_val 0 256 (by omega) (by omega), O_join (0 * 256) a 8 (by omega) (by omega) (by omega) (by omega) (by omega) (by omega),
    M_val (0 * 256 + a) 256 (by omega) (by omega), O_join ((0 * 256 + a) * 256) b 8 (by omega) (by omega) (by omega) (by omega) (by omega) (by omega),
    M_val ((0 * 256 + a) * 256 + b) 256 (by omega) (by omega), O_join (((0 * 256 + a) * 256 + b) * 256) c 8 (by omega) (by omega) (by omega) (by omega) (by omega) (by omega),
    M_val (((0 * 256 + a) * 256 + b) * 256 + c) 256 (by omega) (by omega), O_join ((((0 * 256 + a) * 256 + b) * 256 + c) * 256) d 8 (by omega) (by omega) (by omega) (by omega) (by omega) (by omega),
    M_val a 16777216 (by omega) (by omega), M_val b 65536 (by omega) (by omega), M_val c 256 (by omega) (by omega),
    O_join (a * 16777216) (b * 65536) 24 (by omega) (by omega) (by omega) (by omega) (by omega) (by omega),
    O_join (a * 16777216 + b * 65536) (c * 256) 16 (by omega) (by omega) (by omega) (by omega) (by omega) (by omega),
    O_join (a * 16777216 + b * 65536 + c * 256) d 8 (by omega) (by omega) (by omega) (by omega) (by omega) (by omega)]
  omega
theorem b8_bd (s : ByteArray) (i : Nat) : 0 ≤ b8 s i ∧ b8 s i < 256 := by
  unfold b8
  have h1 := bt_nonneg s i
  have h2 := bt_le s i
  omega
theorem pw_zero (s : ByteArray) (j : Nat) : ∀ k, k ≤ 4 * j → pw s k j = 0 := by
  intro k
  induction k with
  | zero => intro _; rfl
  | succ k ih =>
    intro hk
    rw [pw]
    unfold upd
    rw [if_neg (by omega)]
    exact ih (by omega)
theorem pw_keep (s : ByteArray) (j : Nat) : ∀ m, pw s (4 * j + 4 + m) j = pw s (4 * j + 4) j := by
  intro m
  induction m with
  | zero => rfl
  | succ m ih =>
    rw [← Nat.add_assoc, pw]
    unfold upd
    rw [if_neg (by omega)]
    exact ih
theorem pw_at (s : ByteArray) (j k : Nat) (h : k / 4 = j) : pw s (k + 1) j = O (M (pw s k j) 256) (b8 s k) := by
  subst h
  simp [pw, upd]
theorem pw_word (s : ByteArray) (j : Nat) (hj : j < 16) : pw s 64 j = wordAt s j := by
  have e : (64 : Nat) = 4 * j + 4 + (60 - 4 * j) := by omega
  rw [e, pw_keep, show 4 * j + 4 = 4 * j + 3 + 1 from rfl, pw_at s j (4 * j + 3) (by omega), show 4 * j + 3 = 4 * j + 2 + 1 from rfl, pw_at s j (4 * j + 2) (by omega), show 4 * j + 2 = 4 * j + 1 + 1 from rfl, pw_at s j (4 * j + 1) (by omega), pw_at s j (4 * j) (by omega), pw_zero s j (4 * j) (Nat.le_refl _)]
  unfold wordAt
  exact word4 _ _ _ _ (b8_bd s _).1 (b8_bd s _).2 (b8_bd s _).1 (b8_bd s _).2 (b8_bd s _).1 (b8_bd s _).2 (b8_bd s _).1 (b8_bd s _).2
theorem W_congr {f g : Nat → Int} (h : ∀ i, i < 16 → f i = g i) : ∀ i, W f i = W g i := by
  intro i
  induction i using Nat.strongRecOn with
  | _ i ih =>
    by_cases hi : i < 16
    · rw [W_low _ hi, W_low _ hi, h i hi]
    · rw [W_next f (by omega), W_next g (by omega), ih (i - 16) (by omega), ih (i - 15) (by omega), ih (i - 7) (by omega), ih (i - 2) (by omega)]
theorem words_any (s : ByteArray) (w : World) (hs : s.size = 64) :
    Calls Tryd.prog 94 #[.string s] w fun e w' => e = .returned (.agg (arr 64 (W (wordAt s)))) ∧ Below w.heap.size w w' := by
  rw [← arr_congr (fun i _ => W_congr (fun j hj => pw_word s j hj) i)]
  exact words_raw s w hs
end Go.Proofs.YtppjbmmeacmoiaaDoor.shaI
namespace Go.Proofs.YtppjbmmeacmoiaaDoor.shaI
open Go.RowKit Go.Joins
open Go.Proofs.YtppjbmmeacmoiaaDoor.base Go.Proofs.YtppjbmmeacmoiaaDoor.word Go.Proofs.YtppjbmmeacmoiaaDoor.ints Go.Proofs.YtppjbmmeacmoiaaDoor.blk
open Go.Proofs.YtppjbmmeacmoiaaDoor.sha (Regs S0 S1 s0 s1 ch maj t2 t1 nth key W rounds upd rowF rowF_cell rowF_free rowF_set rowF_congr W_low W_next b8 wordAt GV GV.below GV.lt)
set_option linter.unusedVariables false
attribute [local go_sem] M_fold O_fold A_fold X_fold N_fold
theorem ld8_fold (v : Value) : Instr.loadAt 122 v = ldA 122 v := rfl
theorem st8_fold (a v : Value) : Instr.storeAt 122 a v = stA 122 a v := rfl
theorem al8_fold : Instr.alloc 122 true (.tuple #[]) = alA 122 := rfl
attribute [local go_sem ↓] ld64_fold st64_fold al64_fold ld8_fold st8_fold al8_fold

theorem info8 : (Tryd.prog.info? 122).map (fun i => (i.zero, i.size)) = some (some (.agg (arr 8 fun _ => 0)), 8) := by kernel_rfl
theorem run_al8 (u : World) : (alA 122).run Tryd.prog u = .ok (.pointer (some ⟨u.heap.size, 0, none⟩)) (u.alloc (rowF .u32 122 8 fun _ => 0)) := by
  obtain ⟨h1, h2⟩ := zero_of_info info8
  unfold alA Instr.alloc
  rw [Sem.run_bind, h1]
  simp [newVar, newRow, Value.cells]
  rfl
theorem run_ldv8 {w : World} {b : Nat} {g : Nat → Int} (h : w.heap[b]? = some (rowF .u32 122 8 g)) : (loadVar 122 ⟨b, 0, none⟩).run Tryd.prog w = .ok (.agg (arr 8 g)) w := by
  obtain ⟨h1, h2⟩ := zero_of_info info8
  exact run_loadVar_row w b _ _ (arr 8 g) (0, 0) _ h Tryd.underlying122 rfl (by rw [h2, arr_size])
theorem run_ld8 {w : World} {b : Nat} {g : Nat → Int} (h : w.heap[b]? = some (rowF .u32 122 8 g)) : (ldA 122 (.pointer (some ⟨b, 0, none⟩))).run Tryd.prog w = .ok (.agg (arr 8 g)) w := by
  unfold ldA
  simp only [Instr.loadAt, Instr.sureAddr, Sem.run_bind, Sem.run_pure, Result.andThen_ok]
  exact run_ldv8 h
theorem run_st8 {w : World} {b : Nat} {g g' : Nat → Int} (h : w.heap[b]? = some (rowF .u32 122 8 g)) : (stA 122 (.pointer (some ⟨b, 0, none⟩)) (.agg (arr 8 g'))).run Tryd.prog w = .ok () (w.setRow b (arr 8 g')) := by
  obtain ⟨h1, h2⟩ := zero_of_info info8
  unfold stA
  simp only [Instr.storeAt, Instr.sureAddr, Sem.run_bind, Sem.run_pure, Result.andThen_ok]
  exact run_storeVar_row w b _ _ (arr 8 g) (arr 8 g') h (by rw [h2, arr_size]) (by rw [arr_size, arr_size]) (arr_one _ _)
theorem run_st8_new (u : World) (g g' : Nat → Int) : (stA 122 (.pointer (some ⟨u.heap.size, 0, none⟩)) (.agg (arr 8 g'))).run Tryd.prog (u.alloc (rowF .u32 122 8 g)) = .ok () (u.alloc (rowF .u32 122 8 g')) := by
  rw [run_st8 (blk_new u _ _ rfl)]
  unfold rowF
  rw [World.setRow_alloc_new]
  rfl
theorem run_st64_new (u : World) (g g' : Nat → Int) : (stA 125 (.pointer (some ⟨u.heap.size, 0, none⟩)) (.agg (arr 64 g'))).run Tryd.prog (u.alloc (rowF .u32 125 64 g)) = .ok () (u.alloc (rowF .u32 125 64 g')) := by
  rw [run_st64 (blk_new u _ _ rfl)]
  unfold rowF
  rw [World.setRow_alloc_new]
  rfl

/-- eight numbers as registers -/
def regs8 (z : Nat → Int) : Regs := ⟨z 0, z 1, z 2, z 3, z 4, z 5, z 6, z 7⟩
theorem nth_regs8 (z : Nat → Int) : ∀ i, i < 8 → nth (regs8 z) i = z i := by
  intro i hi
  match i, hi with
  | 0, _ => rfl
  | 1, _ => rfl
  | 2, _ => rfl
  | 3, _ => rfl
  | 4, _ => rfl
  | 5, _ => rfl
  | 6, _ => rfl
  | 7, _ => rfl
/-- the first k numbers are sums -/
def sums (z r : Nat → Int) (k : Nat) : Nat → Int := fun i => if i < k then A (z i) (r i) else z i
theorem sums_next (z r : Nat → Int) (k : Nat) : upd (sums z r k) k (A (z k) (r k)) = sums z r (k + 1) := by
  funext j
  unfold upd sums
  by_cases h : j = k
  · subst h; simp
  · by_cases h2 : j < k
    · simp [h, h2]; omega
    · simp [h, h2]; omega

/-- what stands in memory -/
structure Tb (w : World) (D : Nat) (z f r : Nat → Int) (wr : World) : Prop where
  below : Below w.heap.size w wr
  box : wr.heap[w.heap.size]? = some (rowF .u32 122 8 z)
  res : wr.heap[w.heap.size + 1]? = some (rowF .u32 122 8 fun _ => 0)
  wrd : wr.heap[D]? = some (rowF .u32 125 64 (W f))
  reg : wr.heap[D + 1]? = some (rowF .u32 122 8 r)
theorem Tb.next {w wr w' : World} {D : Nat} {z f r : Nat → Int} (h : Tb w D z f r wr) (hb : Below wr.heap.size wr w') : Tb w D z f r w' :=
  ⟨h.below.trans (hb.mono h.below.size), blk_below h.box hb, blk_below h.res hb, blk_below h.wrd hb, blk_below h.reg hb⟩
theorem Tb.same {w wr w' : World} {D : Nat} {z f r : Nat → Int} (h : Tb w D z f r wr) (h1 : w'.os = wr.os) (h2 : w'.tape = wr.tape) (h3 : w'.output = wr.output) (h4 : w'.heap = wr.heap) : Tb w D z f r w' :=
  ⟨like h.below h1 h2 h3 h4, by rw [h4]; exact h.box, by rw [h4]; exact h.res, by rw [h4]; exact h.wrd, by rw [h4]; exact h.reg⟩
theorem Tb.put {w wr : World} {D : Nat} {z f r : Nat → Int} (h : Tb w D z f r wr) (hD : w.heap.size + 1 < D) (r' : Nat → Int) : Tb w D z f r' (wr.setRow (D + 1) (arr 8 r')) :=
  ⟨below_setRow h.below (by omega) _, (setRow_other wr _ _ _ (by omega)).trans h.box, (setRow_other wr _ _ _ (by omega)).trans h.res, (setRow_other wr _ _ _ (by omega)).trans h.wrd, setRow_heap wr _ _ _ _ _ h.reg⟩
theorem Tb.add {w wr : World} {D : Nat} {z f r : Nat → Int} (h : Tb w D z f r wr) (hD : w.heap.size + 1 < D) (i : Nat) (x : Int) : Tb w D (upd z i x) f r (wr.setCell ⟨w.heap.size, i, none⟩ (.int .u32 x)) :=
  ⟨h.below.setCell (by simp) _, rowF_set h.box i x, blk_set h.res _ _ (by simp), blk_set h.wrd _ _ (by simp; omega), blk_set h.reg _ _ (by simp; omega)⟩

set_option maxRecDepth 100000 in
set_option maxHeartbeats 1000000 in
theorem block_any (z : Nat → Int) (s : ByteArray) (w : World) (hs : s.size = 64) (hG : GV w) :
    Calls Tryd.prog 92 #[.agg (arr 8 z), .string s] w fun e w' => e = .returned (.agg (arr 8 fun i => A (z i) (nth (rounds (wordAt s) (regs8 z) 64) i))) ∧ Below w.heap.size w w' := by
  have hal := run_al8
  have hal64 := run_al64
  have hst := run_st8_new
  have hst64 := run_st64_new
  have GG := mkHid hG
  clear hG
  go_enter Tryd.func92, Tryd.ntmps92
  go_wp2_with fail
  refine (words_any s _ hs).mono ?_
  rintro e w1 ⟨rfl, hb1⟩
  have k0 := blk_below (blk_old (blk_new w (.cells (arr 8 z) 122) w.heap.size rfl) (rowF .u32 122 8 fun _ => 0)) hb1
  have k1 := blk_below (blk_new (w.alloc (.cells (arr 8 z) 122)) (rowF .u32 122 8 fun _ => 0) (w.heap.size + 1) (by simp)) hb1
  have b1 := below_allocs (os := [_, _]) hb1
  have hl : ∀ o, (ldA 122 (.pointer (some ⟨w.heap.size, 0, none⟩))).run Tryd.prog (w1.alloc o) = .ok (.agg (arr 8 z)) (w1.alloc o) := fun o => run_ld8 (blk_old k0 o)
  have hD : w.heap.size + 1 < w1.heap.size := (Array.getElem?_eq_some_iff.1 k1).1
  have T0 : Hid (Tb w w1.heap.size z (wordAt s) (nth (rounds (wordAt s) (regs8 z) 0)) ((w1.alloc (rowF .u32 125 64 (W (wordAt s)))).alloc (rowF .u32 122 8 z))) :=
    mkHid ⟨((b1.alloc b1.size _).alloc (by simp; omega) _), blk_old (blk_old k0 _) _, blk_old (blk_old k1 _) _, blk_old (blk_new w1 _ _ rfl) _, (blk_new _ _ _ (by simp)).trans (congrArg some (rowF_congr (fun i hi => (nth_regs8 z i hi).symm)))⟩
  have hst2 : ∀ o, (stA 122 (.pointer (some ⟨w1.heap.size + 1, 0, none⟩)) (.agg (arr 8 z))).run Tryd.prog ((w1.alloc o).alloc (rowF .u32 122 8 fun _ => 0)) = .ok () ((w1.alloc o).alloc (rowF .u32 122 8 z)) := fun o => by
    have h := run_st8_new (w1.alloc o) (fun _ => 0) z
    simpa using h
  have hG1 : Hid (∀ wx, Below w.heap.size w wx → GV wx) := mkHid (fun wx hb => GG.out.below hb GG.out.lt)
  clear k0 k1 b1 hb1 GG
  go_wp2
  clear hl hst2 hal hal64 hst hst64
  generalize w1.heap.size = D at *
  go_loopw [12] (fun i wr => ∃ k : Nat, k ≤ 64 ∧ i = .int .i64 k ∧ Hid (Tb w D z (wordAt s) (nth (rounds (wordAt s) (regs8 z) k)) wr))
    (fun i _ => 64 - (intOf i).toNat)
  case atStart => exact ⟨0, Nat.zero_le _, rfl, T0⟩
  case round =>
    clear T0
    obtain ⟨k, hk, rfl, hT⟩ := hrel
    by_cases hlt : k < 64
    · have hki : (k : Int) < 64 := by omega
      have hg : wr.cell? ⟨1, k, none⟩ = some (.int .u32 (key k)) := hG1.out _ hT.out.below k hlt
      have hw : wr.cell? ⟨D, k, none⟩ = some (.int .u32 (W (wordAt s) k)) := rowF_cell hT.out.wrd hlt
      have l1 := run_ld8 hT.out.reg
      have l2 := run_ld8 (w := wr.drew) hT.out.reg
      have hR : Hid (∀ wx, Calls Tryd.prog 95 #[.agg (arr 8 (nth (rounds (wordAt s) (regs8 z) k))), .int .u32 (A (key k) (W (wordAt s) k))] wx fun e w' => e = .returned (.agg (arr 8 (nth (rounds (wordAt s) (regs8 z) (k + 1))))) ∧ Below wx.heap.size wx w') := mkHid (fun wx => by
        have h := round_any (rounds (wordAt s) (regs8 z) k) (A (key k) (W (wordAt s) k)) wx
        rw [mix_round] at h
        exact h)
      go_wp2
      go_region_with (go_at_call 95; refine (hR.out _).mono ?_; rintro e w2 ⟨rfl, hb2⟩; have b2 : Below wr.heap.size wr w2 := ⟨hb2.os, hb2.tape, hb2.output, hb2.size, hb2.block⟩; have T2 := hT.out.next b2; have s2 := run_st8 (g' := nth (rounds (wordAt s) (regs8 z) (k + 1))) T2.reg; have T3 := mkHid (T2.put hD (nth (rounds (wordAt s) (regs8 z) (k + 1)))); clear hb2 b2 T2)
      all_goals go_wp2
      all_goals exact ⟨⟨k + 1, by omega, by go_num, T3⟩, by simp [intOf]; omega⟩
    · have hT2 : Hid (Tb w D (sums z (nth (rounds (wordAt s) (regs8 z) 64)) 0) (wordAt s) (nth (rounds (wordAt s) (regs8 z) 64)) wr) := by
        have e : k = 64 := by omega
        have h := hT.out
        rw [e] at h
        exact mkHid ⟨h.below, h.box.trans (congrArg some (rowF_congr (fun i hi => by simp [sums]))), h.res, h.wrd, h.reg⟩
      clear hT
      obtain ⟨r, hrE⟩ : ∃ r, r = nth (rounds (wordAt s) (regs8 z) 64) := ⟨_, rfl⟩
      rw [← hrE] at hT2
      have RE := mkHid hrE
      clear hrE
      go_wp2
      go_loopw [25] (fun i wr => ∃ k : Nat, k ≤ 8 ∧ i = .int .i64 k ∧ Hid (Tb w D (sums z r k) (wordAt s) r wr))
        (fun i _ => 8 - (intOf i).toNat)
      case atStart => exact ⟨0, Nat.zero_le _, rfl, hT2⟩
      case round =>
        clear hT2
        obtain ⟨k, hk, rfl, hT⟩ := hrel
        by_cases hlt : k < 8
        · have hki : (k : Int) < 8 := by omega
          have h1 : wr.cell? ⟨w.heap.size, k, none⟩ = some (.int .u32 (z k)) := by rw [rowF_cell hT.out.box hlt]; simp [sums]
          have h2 : wr.cell? ⟨D + 1, k, none⟩ = some (.int .u32 (r k)) := rowF_cell hT.out.reg hlt
          have hf : wr.frozen? ⟨w.heap.size, k, none⟩ = false := rowF_free hT.out.box k
          have N1 := hT.out.add hD k (A (z k) (r k))
          rw [sums_next] at N1
          have N2 := mkHid N1
          clear N1 hT
          go_wp2
          go_region
          go_wp2
          go_roundw
          case rel => exact ⟨k + 1, by omega, by go_num, mkHid (N2.out.same rfl rfl rfl rfl)⟩
          case measure => simp [intOf]; omega
        · have hT3 : Hid (Tb w D (fun i => A (z i) (r i)) (wordAt s) r wr) := by
            have e : k = 8 := by omega
            have h := hT.out
            rw [e] at h
            exact mkHid ⟨h.below, h.box.trans (congrArg some (rowF_congr (fun i hi => by simp [sums, hi]))), h.res, h.wrd, h.reg⟩
          clear hT
          have l1 := run_ld8 hT3.out.box
          have s1 := run_st8 (g' := fun i => A (z i) (r i)) hT3.out.res
          have hr := setRow_heap wr (w.heap.size + 1) _ (arr 8 fun i => A (z i) (r i)) _ _ hT3.out.res
          have hl := run_ldv8 hr
          go_wp2
          exact bodyPost_ret (v := .agg (arr 8 fun i => A (z i) (r i))) (by simp [results, Tryd.results92, asAddr, hl]) rfl ⟨by rw [RE.out], below_setRow hT3.out.below (by omega) _⟩
end Go.Proofs.YtppjbmmeacmoiaaDoor.shaI
namespace Go.Proofs.YtppjbmmeacmoiaaDoor.shaI
open Go.RowKit Go.Joins
open Go.Proofs.YtppjbmmeacmoiaaDoor.base Go.Proofs.YtppjbmmeacmoiaaDoor.word Go.Proofs.YtppjbmmeacmoiaaDoor.ints Go.Proofs.YtppjbmmeacmoiaaDoor.blk
open Go.Proofs.YtppjbmmeacmoiaaDoor.sha (Regs nth key W rounds upd rowF rowF_cell rowF_free rowF_set rowF_congr wordAt after block A_bd GV GV.below GV.lt)
set_option linter.unusedVariables false
attribute [local go_sem] M_fold O_fold A_fold X_fold N_fold
attribute [local go_sem ↓] ld64_fold st64_fold al64_fold ld8_fold st8_fold al8_fold

theorem U_low {x : Int} (h0 : 0 ≤ x) (h1 : x ≤ 4294967295) : U x = x := by unfold U; omega
theorem U_A (a b : Int) : U (A a b) = A a b := U_low (A_bd a b).1 (A_bd a b).2
theorem U_bd (x : Int) : 0 ≤ U x ∧ U x ≤ 4294967295 := by unfold U; omega
/-- the state behind k blocks, as numbers of 32 bits -/
def st (z : Nat → Int) (s : ByteArray) (k : Nat) : Nat → Int := fun i => U (after z s k i)
theorem st_next (z : Nat → Int) (s : ByteArray) (k : Nat) (i : Nat) : A (st z s k i) (nth (rounds (wordAt (s.extract (64 * k) (64 * k + 64))) (regs8 (st z s k)) 64) i) = st z s (k + 1) i := by
  have e : st z s (k + 1) i = U (block (after z s k) (wordAt (s.extract (64 * k) (64 * k + 64))) i) := rfl
  rw [e]
  unfold sha.block
  rw [U_A]
  rfl
/-- the first k numbers are those of the state -/
def low (z : Nat → Int) (k : Nat) : Nat → Int := fun i => if i < k then U (z i) else 0
theorem low_next (z : Nat → Int) (k : Nat) : upd (low z k) k (U (z k)) = low z (k + 1) := by
  funext j
  unfold upd low
  by_cases h : j = k
  · subst h; simp
  · by_cases h2 : j < k
    · simp [h, h2]; omega
    · simp [h, h2]; omega

/-- what stands in memory -/
structure Ts (w : World) (f : Nat → Int) (wr : World) : Prop where
  below : Below w.heap.size w wr
  box : wr.heap[w.heap.size]? = some (rowF .u32 122 8 f)
theorem Ts.next {w wr w' : World} {f : Nat → Int} (h : Ts w f wr) (hb : Below wr.heap.size wr w') : Ts w f w' := ⟨h.below.trans (hb.mono h.below.size), blk_below h.box hb⟩
theorem Ts.put {w wr : World} {f : Nat → Int} (h : Ts w f wr) (f' : Nat → Int) : Ts w f' (wr.setRow w.heap.size (arr 8 f')) := ⟨below_setRow h.below (Nat.le_refl _) _, setRow_heap wr _ _ _ _ _ h.box⟩
theorem Ts.set {w wr : World} {f : Nat → Int} (h : Ts w f wr) (i : Nat) (x : Int) : Ts w (upd f i x) (wr.setCell ⟨w.heap.size, i, none⟩ (.int .u32 x)) := ⟨h.below.setCell (by simp) _, rowF_set h.box i x⟩
theorem Ts.congr {w wr : World} {f f' : Nat → Int} (h : Ts w f wr) (e : ∀ i, i < 8 → f i = f' i) : Ts w f' wr := ⟨h.below, h.box.trans (congrArg some (rowF_congr e))⟩
/-- and the answer's row -/
structure To (w : World) (G : Nat) (f g : Nat → Int) (wr : World) : Prop where
  ts : Ts w f wr
  row : wr.heap[G]? = some (rowF .i64 2 8 g)
theorem To.set {w wr : World} {G : Nat} {f g : Nat → Int} (h : To w G f g wr) (hG : w.heap.size < G) (i : Nat) (x : Int) : To w G f (upd g i x) (wr.setCell ⟨G, i, none⟩ (.int .i64 x)) :=
  ⟨⟨h.ts.below.setCell (by simp; omega) _, blk_set h.ts.box _ _ (by simp; omega)⟩, rowF_set h.row i x⟩
def part8 (f : Nat → Int) (k : Nat) : Nat → Int := fun i => if i < k then f i else 0
theorem part8_next (f : Nat → Int) (k : Nat) : upd (part8 f k) k (f k) = part8 f (k + 1) := by
  funext j
  unfold upd part8
  by_cases h : j = k
  · subst h; simp
  · by_cases h2 : j < k
    · simp [h, h2]; omega
    · simp [h, h2]; omega
theorem run_make8 (u : World) : (Instr.makeSlice 100 (.int .i64 8) (.int .i64 8)).run Tryd.prog u = .ok (.slice (some ⟨u.heap.size, 0, none⟩) 8 8) (u.alloc (rowF .i64 2 8 fun _ => 0)) := run_make_ints 8 (by omega) u

/-- a row of eight numbers of its own is the answer -/
def TPost (w : World) (f : Nat → Int) (e : Ending) (w' : World) : Prop :=
  ∃ g, e = .returned (.slice (some ⟨g, 0, none⟩) 8 8) ∧ w.heap.size ≤ g ∧ w'.heap[g]? = some (rowF .i64 2 8 f) ∧ Below w.heap.size w w'

set_option maxRecDepth 100000 in
set_option maxHeartbeats 1000000 in
theorem take_any (b0 off cap : Nat) (z : Nat → Int) (s : ByteArray) (n : Nat) (w : World) (hs : s.size = 64 * n) (hn : s.size ≤ 2000000) (hr : ∀ i, i < 8 → w.cell? ⟨b0, off + i, none⟩ = some (.int .i64 (z i))) (hG : GV w) :
    Calls Tryd.prog 86 #[.slice (some ⟨b0, off, none⟩) 8 cap, .string s] w fun e w' => TPost w (st z s n) e w' := by
  have hal := run_al8
  have HR := mkHid hr
  have hG1 : Hid (∀ wx, Below w.heap.size w wx → GV wx) := mkHid (fun wx hb => hG.below hb hG.lt)
  have HS := mkHid hs
  clear hr hG hs
  go_enter Tryd.func86, Tryd.ntmps86
  go_wp2
  clear hal
  have T0 : Hid (Ts w (low z 0) (w.alloc (rowF .u32 122 8 fun _ => 0))) := mkHid ⟨below_alloc1 w _, blk_new w _ _ rfl⟩
  go_loopw [10] (fun i wr => ∃ k : Nat, k ≤ 8 ∧ i = .int .i64 k ∧ Hid (Ts w (low z k) wr))
    (fun i _ => 8 - (intOf i).toNat)
  case atStart => exact ⟨0, Nat.zero_le _, rfl, T0⟩
  case round =>
    clear T0
    obtain ⟨k, hk, rfl, hT⟩ := hrel
    by_cases hlt : k < 8
    · have hki : (k : Int) < 8 := by omega
      have h1 : wr.cell? ⟨b0, off + k, none⟩ = some (.int .i64 (z k)) := by
        have h := HR.out k hlt
        rw [hT.out.below.cell (p := ⟨b0, off + k, none⟩) (World.block_lt_of_cell? w _ h)]
        exact h
      have h2 : wr.cell? ⟨w.heap.size, k, none⟩ = some (.int .u32 0) := by rw [rowF_cell hT.out.box hlt]; simp [low]
      have hf : wr.frozen? ⟨w.heap.size, k, none⟩ = false := rowF_free hT.out.box k
      have N1 := hT.out.set k (U (z k))
      rw [low_next] at N1
      unfold U at N1
      have N2 := mkHid N1
      clear N1 hT
      go_wp2
      go_roundw
      case rel => exact ⟨k + 1, by omega, by go_num, N2⟩
      case measure => simp [intOf]; omega
    · have hT2 : Hid (Ts w (st z s 0) wr) := by
        have e : k = 8 := by omega
        have h := hT.out
        rw [e] at h
        exact mkHid (h.congr (fun i hi => by simp [low, hi, st, after]))
      clear hT
      have hsi : (s.size : Int) ≤ 2000000 := by omega
      go_wp2
      go_loopw [7] (fun i wr => ∃ (k at_ : Nat), k ≤ n ∧ i = .int .i64 at_ ∧ Hid (at_ = 64 * k) ∧ Hid (Ts w (st z s k) wr))
        (fun i _ => s.size - (intOf i).toNat)
      case atStart => exact ⟨0, 0, Nat.zero_le _, rfl, mkHid rfl, hT2⟩
      case round =>
        clear hT2
        obtain ⟨k, at_, hk, rfl, hat, hT⟩ := hrel
        by_cases hlt : k < n
        · have hle : (at_ : Int) + 64 ≤ (s.size : Int) := by have := hat.out; have := HS.out; omega
          have hlt' : (at_ : Int) < (s.size : Int) := by omega
          have hq : IntKind.i64.wrap ((at_ : Int) + 64) = (at_ : Int) + 64 := by simp [IntKind.wrap, IntKind.bits, IntKind.signed]; omega
          have hsl : ∀ wx, (Instr.slice 9 (.string s) (some (.int .i64 (at_ : Int))) (some (.int .i64 ((at_ : Int) + 64))) none).run Tryd.prog wx = .ok (.string (s.extract at_ (at_ + 64))) wx := fun wx => by
            rw [run_slice_string_if wx 9 s .i64 .i64 (at_ : Int) ((at_ : Int) + 64) Tryd.underlying9, if_pos ⟨by omega, by omega⟩, if_pos ⟨by omega, by omega⟩]
            rfl
          have l1 := run_ld8 hT.out.box
          have l2 := run_ld8 (w := wr.drew) hT.out.box
          have hB : Hid (∀ wx, GV wx → Calls Tryd.prog 92 #[.agg (arr 8 (st z s k)), .string (s.extract at_ (at_ + 64))] wx fun e w' => e = .returned (.agg (arr 8 (st z s (k + 1)))) ∧ Below wx.heap.size wx w') := mkHid (fun wx hg => by
            have h := block_any (st z s k) (s.extract at_ (at_ + 64)) wx (by simp; omega) hg
            rw [hat.out] at h ⊢
            rw [← arr_congr (fun i _ => st_next z s k i)]
            exact h)
          go_wp2
          go_region_with (go_at_call 92; refine (hB.out _ (by first | exact hG1.out _ hT.out.below | exact hG1.out _ hT.out.below.drew)).mono ?_; rintro e w2 ⟨rfl, hb2⟩; have b2 : Below wr.heap.size wr w2 := ⟨hb2.os, hb2.tape, hb2.output, hb2.size, hb2.block⟩; have T2 := hT.out.next b2; have s2 := run_st8 (g' := st z s (k + 1)) T2.box; have T3 := mkHid (T2.put (st z s (k + 1))); clear hb2 b2 T2)
          all_goals go_wp2
          all_goals exact ⟨⟨k + 1, at_ + 64, by omega, by go_num, mkHid (by have := hat.out; omega), T3⟩, by simp [intOf]; omega⟩
        · have hge : (s.size : Int) ≤ (at_ : Int) := by have := hat.out; have := HS.out; omega
          have hT2 : Hid (Ts w (st z s n) wr) := by
            have e : k = n := by omega
            rw [← e]
            exact hT
          clear hT
          have hmk := run_make8
          have T4 : Hid (To w wr.heap.size (st z s n) (part8 (st z s n) 0) (wr.alloc (rowF .i64 2 8 fun _ => 0))) := mkHid ⟨⟨hT2.out.below.alloc hT2.out.below.size _, blk_old hT2.out.box _⟩, blk_new wr _ _ rfl⟩
          have hGl : w.heap.size < wr.heap.size := (Array.getElem?_eq_some_iff.1 hT2.out.box).1
          have hbd : ∀ i, 0 ≤ st z s n i ∧ st z s n i ≤ 4294967295 := fun i => U_bd _
          clear hT2
          go_wp2
          clear hmk
          generalize wr.heap.size = G at *
          obtain ⟨f, hfE⟩ : ∃ f, f = st z s n := ⟨_, rfl⟩
          rw [← hfE] at T4 hbd
          have FE := mkHid hfE
          clear hfE
          go_loopw [35] (fun i wr => ∃ k : Nat, k ≤ 8 ∧ i = .int .i64 k ∧ Hid (To w G f (part8 f k) wr))
            (fun i _ => 8 - (intOf i).toNat)
          case atStart => exact ⟨0, Nat.zero_le _, rfl, T4⟩
          case round =>
            clear T4
            obtain ⟨k, hk, rfl, hT⟩ := hrel
            by_cases hlt : k < 8
            · have hki : (k : Int) < 8 := by omega
              have h1 : wr.cell? ⟨w.heap.size, k, none⟩ = some (.int .u32 (f k)) := rowF_cell hT.out.ts.box hlt
              have h2 : wr.cell? ⟨G, k, none⟩ = some (.int .i64 0) := by rw [rowF_cell hT.out.row hlt]; simp [part8]
              have hf : wr.frozen? ⟨G, k, none⟩ = false := rowF_free hT.out.row k
              have hx0 := (hbd k).1
              have hx1 := (hbd k).2
              have N1 := hT.out.set hGl k (f k)
              rw [part8_next] at N1
              have N2 := mkHid N1
              clear N1 hT
              go_wp2
              go_roundw
              case rel => exact ⟨k + 1, by omega, by go_num, N2⟩
              case measure => simp [intOf]; omega
            · have hT2 : Hid (To w G f f wr) := by
                have e : k = 8 := by omega
                have h := hT.out
                rw [e] at h
                exact mkHid ⟨h.ts, h.row.trans (congrArg some (rowF_congr (fun i hi => by simp [part8, hi])))⟩
              clear hT
              go_wp2
              go_ret
              exact ⟨G, rfl, by omega, by rw [← FE.out]; exact hT2.out.row, hT2.out.ts.below⟩

theorem after_bd (z : Nat → Int) (s : ByteArray) (hz : ∀ i, i < 8 → 0 ≤ z i ∧ z i ≤ 4294967295) : ∀ k i, i < 8 → U (after z s k i) = after z s k i := by
  intro k i hi
  cases k with
  | zero => exact U_low (hz i hi).1 (hz i hi).2
  | succ k => exact U_A _ _
end Go.Proofs.YtppjbmmeacmoiaaDoor.shaI
