/-
  What impl.between, nearestCutting and CuttingRight answer. Conditions: none.
-/
import Derived.Test.YtbdkpcgmnppkgaaCutEq
import Derived.Deep.RegionWith
import Derived.Deep.RegionHeld3
namespace Go.Proofs.Ytbdkpcgmnppkgaa.fingI
open Go.RowKit Go.Joins
open Go.Proofs.Ytbdkpcgmnppkgaa.base Go.Proofs.Ytbdkpcgmnppkgaa.fing Go.Proofs.Ytbdkpcgmnppkgaa.blk
set_option linter.unusedVariables false

theorem re {w w' w1 : World} (h : Below w'.heap.size w' w1) (h1 : w'.os = w.os) (h2 : w'.tape = w.tape) (h3 : w'.output = w.output) (h4 : w'.heap = w.heap) : Below w.heap.size w w1 :=
  ⟨h.os.trans h1, h.tape.trans h2, h.output.trans h3, by rw [← h4]; exact h.size, fun k hk => by rw [← h4] at hk ⊢; exact h.block k hk⟩
def clamp (n lo hi : Int) : Int := min (max n lo) hi
theorem between_any (n lo hi : Int) (w : World) : Calls Try.prog 53 #[.int .i64 n, .int .i64 lo, .int .i64 hi] w fun e w' => e = .returned (.int .i64 (clamp n lo hi)) ∧ w' = w := by
  go_enter Try.func53, Try.ntmps53
  go_wp2
  all_goals
    rename_i h1
    go_ret
    refine ⟨ret_eq (congrArg (Value.int IntKind.i64) ?_), rfl⟩
    unfold clamp
    split at h1 <;> omega

set_option maxRecDepth 100000 in
theorem nearest_any (mn bs mx : Int) (w : World) : Calls Try.prog 41 #[cutV mn bs mx] w fun e w' => e = .returned (cutV (clamp mn 16 1000) (clamp bs 0 12) (clamp mx (clamp mn 16 1000) 2000)) ∧ Below w.heap.size w w' := by
  unfold cutV
  go_enter Try.func41, Try.ntmps41
  go_wp2_with fail
  refine (between_any _ _ _ _).mono ?_
  rintro e w1 ⟨rfl, rfl⟩
  go_wp2
  have S0 := mkHid (below_alloc2 w (.cells #[.int .i64 mn, .int .i64 bs, .int .i64 mx] 29) (.cells #[.int .i64 0, .int .i64 0, .int .i64 0] 29))
  have k0 := blk_old (blk_new w (.cells #[.int .i64 mn, .int .i64 bs, .int .i64 mx] 29) _ rfl) (.cells #[.int .i64 0, .int .i64 0, .int .i64 0] 29)
  have k1 := blk_new (w.alloc (.cells #[.int .i64 mn, .int .i64 bs, .int .i64 mx] 29)) (.cells #[.int .i64 0, .int .i64 0, .int .i64 0] 29) (w.heap.size + 1) (by simp)
  generalize (w.alloc (.cells #[.int .i64 mn, .int .i64 bs, .int .i64 mx] 29)).alloc (.cells #[.int .i64 0, .int .i64 0, .int .i64 0] 29) = W at *
  have c1 : W.cell? ⟨w.heap.size, 1, none⟩ = some (.int .i64 bs) := cell_of_block k0 1
  have c2 : W.cell? ⟨w.heap.size, 2, none⟩ = some (.int .i64 mx) := cell_of_block k0 2
  have f0 : W.cell? ⟨w.heap.size + 1, 0, none⟩ = some (.int .i64 0) := cell_of_block k1 0
  have f1 : W.cell? ⟨w.heap.size + 1, 1, none⟩ = some (.int .i64 0) := cell_of_block k1 1
  have f2 : W.cell? ⟨w.heap.size + 1, 2, none⟩ = some (.int .i64 0) := cell_of_block k1 2
  have ff : ∀ j, W.frozen? ⟨w.heap.size + 1, j, none⟩ = false := unfrozen_of_block k1
  clear k0 k1
  go_region_held3 (fun w' => w'.cell? ⟨w.heap.size, 1, none⟩ = some (.int .i64 bs) ∧ w'.cell? ⟨w.heap.size, 2, none⟩ = some (.int .i64 mx)) (go_keep)
    ((go_at_call 53; refine Calls.mono (between_any _ _ _ _) ?_; rintro e w1 ⟨rfl, rfl⟩))
  go_wp2
  exact bodyPost_ret (v := .agg #[.int .i64 (clamp mn 16 1000), .int .i64 (clamp bs 0 12), .int .i64 (clamp mx (clamp mn 16 1000) 2000)]) (by simp [results, Try.results41, go_sem, f0, f1, f2]) rfl ⟨rfl, ((S0.out.drew.setCell (by simp) _).setCell (by simp) _).setCell (by simp) _⟩

theorem cutB_clamp (mn bs mx : Int) : (decide (mn = clamp mn 16 1000) && (decide (bs = clamp bs 0 12) && decide (mx = clamp mx (clamp mn 16 1000) 2000))) = cutB mn bs mx := by
  rw [Bool.eq_iff_iff]
  simp only [cutB, Bool.and_eq_true, decide_eq_true_eq]
  unfold clamp
  constructor
  · rintro ⟨h1, h2, h3⟩
    refine ⟨⟨?_, ?_⟩, ⟨?_, ?_⟩, ?_, ?_⟩ <;> omega
  · rintro ⟨⟨h1, h2⟩, ⟨h3, h4⟩, h5, h6⟩
    refine ⟨?_, ?_, ?_⟩ <;> omega
attribute [local go_sem ↓] cut_eq
attribute [local go_sem] cut_guard
set_option maxRecDepth 100000 in
theorem right_any : ICutRight := by
  intro mn bs mx w
  have HN := mkHid (fun wx => nearest_any mn bs mx wx)
  have S0 := mkHid (below_alloc1 w (.cells #[.int .i64 mn, .int .i64 bs, .int .i64 mx] 29))
  have k0 := blk_new w (.cells #[.int .i64 mn, .int .i64 bs, .int .i64 mx] 29) _ rfl
  unfold cutV at HN ⊢
  go_enter Try.func23, Try.ntmps23
  go_wp2_with fail
  generalize w.alloc (.cells #[.int .i64 mn, .int .i64 bs, .int .i64 mx] 29) = W at *
  have c0 : W.cell? ⟨w.heap.size, 0, none⟩ = some (.int .i64 mn) := cell_of_block k0 0
  have c1 : W.cell? ⟨w.heap.size, 1, none⟩ = some (.int .i64 bs) := cell_of_block k0 1
  have c2 : W.cell? ⟨w.heap.size, 2, none⟩ = some (.int .i64 mx) := cell_of_block k0 2
  have K0 := mkHid k0
  clear k0
  go_region_held3 (fun w' => w'.cell? ⟨w.heap.size, 0, none⟩ = some (.int .i64 mn) ∧ w'.cell? ⟨w.heap.size, 1, none⟩ = some (.int .i64 bs) ∧ w'.cell? ⟨w.heap.size, 2, none⟩ = some (.int .i64 mx)) (go_keep)
    ((go_at_call 41; refine Calls.mono (HN.out _) ?_; rintro e w1 ⟨rfl, hb1⟩; have hb2 : Below W.heap.size W w1 := re hb1 rfl rfl rfl rfl; have k1 := blk_below K0.out hb2; have S1 := mkHid (S0.out.trans (hb2.mono S0.out.size)); have a0 : w1.cell? ⟨w.heap.size, 0, none⟩ = some (.int .i64 mn) := cell_of_block k1 0; have a1 : w1.cell? ⟨w.heap.size, 1, none⟩ = some (.int .i64 bs) := cell_of_block k1 1; have a2 : w1.cell? ⟨w.heap.size, 2, none⟩ = some (.int .i64 mx) := cell_of_block k1 2; clear hb1 hb2 k1))
  go_wp2
  go_ret
  exact ⟨ret_eq (congrArg Value.bool (cutB_clamp mn bs mx)), S1.out⟩
end Go.Proofs.Ytbdkpcgmnppkgaa.fingI
