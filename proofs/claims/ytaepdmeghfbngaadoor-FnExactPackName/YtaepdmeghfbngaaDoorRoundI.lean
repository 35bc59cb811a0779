/-
  What impl.turn and impl.round answer and leave. No condition.
-/
import Derived.Test.YtaepdmeghfbngaaDoorShaP
import Derived.PlainAid
import Derived.Deep.QuietTactic
import Derived.BigQuiet
import Derived.BigRegion
namespace Go.Proofs.YtaepdmeghfbngaaDoor.shaI
open Go.RowKit Go.Joins
open Go.Proofs.YtaepdmeghfbngaaDoor.base Go.Proofs.YtaepdmeghfbngaaDoor.word Go.Proofs.YtaepdmeghfbngaaDoor.ints Go.Proofs.YtaepdmeghfbngaaDoor.blk
open Go.Proofs.YtaepdmeghfbngaaDoor.sha (Regs S0 S1 ch maj t2 t1 nth key W rounds upd rowF)
set_option linter.unusedVariables false
attribute [local go_sem] M_fold O_fold A_fold X_fold N_fold

theorem turn_any (x k : Int) (w : World) (h0 : 0 ≤ k) (h1 : k ≤ 32) : Calls Tryd.prog 32 #[.int .u32 x, .int .u64 k] w fun e w' => e = .returned (.int .u32 (rot x k)) ∧ w' = w := by
  go_enter Tryd.func32, Tryd.ntmps32
  go_wp2
  go_ret
  exact ⟨rfl, rfl⟩

theorem A_assoc (a b c : Int) : A (A a b) c = A a (A b c) := by
  unfold A
  simp only [IntKind.wrap, IntKind.bits, IntKind.signed]
  simp
  omega

theorem like {B : Nat} {w a b : World} (h : Below B w a) (h1 : b.os = a.os) (h2 : b.tape = a.tape) (h3 : b.output = a.output) (h4 : b.heap = a.heap) : Below B w b :=
  ⟨h1.trans h.os, h2.trans h.tape, h3.trans h.output, by rw [h4]; exact h.size, fun k hk => by rw [h4]; exact h.block k hk⟩

/-- eight numbers as an array -/
def arr (n : Nat) (g : Nat → Int) : Array Value := ((List.range n).map fun i => Value.int .u32 (g i)).toArray
theorem arr8 (r : Regs) : arr 8 (nth r) = #[.int .u32 r.a, .int .u32 r.b, .int .u32 r.c, .int .u32 r.d, .int .u32 r.e, .int .u32 r.f, .int .u32 r.g, .int .u32 r.h] := rfl
theorem arr_congr {n : Nat} {g g' : Nat → Int} (h : ∀ i, i < n → g i = g' i) : arr n g = arr n g' := by
  unfold arr
  congr 1
  apply List.map_congr_left
  intro i hi
  rw [h i (by simpa using hi)]

/-- a round, in which more is what the round alone brings in -/
def u1 (r : Regs) (m : Int) : Int := A (A (A r.h (S1 r.e)) (ch r.e r.f r.g)) m
def mix (r : Regs) (m : Int) : Regs := ⟨A (u1 r m) (t2 r), r.a, r.b, r.c, A r.d (u1 r m), r.e, r.f, r.g⟩
theorem mix_round (r : Regs) (k w : Int) : mix r (A k w) = sha.round r k w := by
  unfold mix sha.round u1 sha.t1
  rw [← A_assoc]

set_option maxRecDepth 100000 in
theorem round_any (r : Regs) (m : Int) (w : World) : Calls Tryd.prog 31 #[.agg (arr 8 (nth r)), .int .u32 m] w fun e w' => e = .returned (.agg (arr 8 (nth (mix r m)))) ∧ Below w.heap.size w w' := by
  have T := mkHid (fun x k (wx : World) (h0 : 0 ≤ k) (h1 : k ≤ 32) => turn_any x k wx h0 h1)
  rw [arr8, arr8]
  go_enter Tryd.func31, Tryd.ntmps31
  go_wp2_with fail
  go_quiet (fail)
  go_wp2_with (go_at_call 32; refine (T.out _ _ _ (by omega) (by omega)).mono ?_; rintro e w1 ⟨rfl, rfl⟩)
  have hmax : IntKind.u32.max = 4294967295 := by decide
  rw [hmax]
  refine bodyPost_ret (v := .agg #[.int .u32 (mix r m).a, .int .u32 (mix r m).b, .int .u32 (mix r m).c, .int .u32 (mix r m).d, .int .u32 (mix r m).e, .int .u32 (mix r m).f, .int .u32 (mix r m).g, .int .u32 (mix r m).h])
    (by simp [results, Tryd.results31, go_sem, mix, u1, t2, S1, S0, ch, maj]) rfl ⟨rfl, ?_⟩
  repeat (refine Below.setCell ?_ (by simp) _)
  exact like (((Below.refl w.heap.size w).alloc (Nat.le_refl _) _).alloc (by simp) _) rfl rfl rfl rfl
end Go.Proofs.YtaepdmeghfbngaaDoor.shaI
