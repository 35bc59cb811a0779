/-
  What spec.HashBegin answers and leaves. No condition.
-/
import Derived.Test.YtaepdmeghfbngaaDoorRowF
namespace Go.Proofs.YtaepdmeghfbngaaDoor.sha
open Go.RowKit Go.Joins
open Go.Proofs.YtaepdmeghfbngaaDoor.base Go.Proofs.YtaepdmeghfbngaaDoor.ints Go.Proofs.YtaepdmeghfbngaaDoor.blk
set_option linter.unusedVariables false

theorem start_any (w : World) : Calls Tryd.prog 18 #[] w fun e w' => e = .returned (.slice (some ⟨w.heap.size, 0, none⟩) 8 8) ∧ w' = w.alloc (rowF .i64 2 8 start) := by
  go_enter Tryd.func18, Tryd.ntmps18
  go_wp2
  go_ret
  exact ⟨rfl, rfl⟩

set_option maxRecDepth 100000 in
theorem begin_any (w : World) : Calls Tryd.prog 12 #[] w fun e w' => e = .returned (hash (some ⟨w.heap.size + 1, 0, none⟩) 8 8 ⟨#[]⟩ 0) ∧ w'.heap[w.heap.size + 1]? = some (rowF .i64 2 8 start) ∧ Below w.heap.size w w' := by
  go_enter Tryd.func12, Tryd.ntmps12
  go_wp2_with fail
  refine (start_any _).mono ?_
  rintro e w1 ⟨rfl, rfl⟩
  have k0 := blk_old (blk_new w (.cells #[.slice none 0 0, .string ⟨#[]⟩, .int .i64 0] 28) w.heap.size rfl) (rowF .i64 2 8 start)
  have k1 := mkHid (blk_new (w.alloc (.cells #[.slice none 0 0, .string ⟨#[]⟩, .int .i64 0] 28)) (rowF .i64 2 8 start) (w.heap.size + 1) (by simp))
  have B := mkHid (below_alloc2 w (.cells #[.slice none 0 0, .string ⟨#[]⟩, .int .i64 0] 28) (rowF .i64 2 8 start))
  have hs : (w.alloc (.cells #[.slice none 0 0, .string ⟨#[]⟩, .int .i64 0] 28)).heap.size = w.heap.size + 1 := by simp
  rw [hs]
  clear hs
  generalize (w.alloc (.cells #[.slice none 0 0, .string ⟨#[]⟩, .int .i64 0] 28)).alloc (rowF .i64 2 8 start) = W at *
  have c0 : W.cell? ⟨w.heap.size, 0, none⟩ = some (.slice none 0 0) := cell_of_block k0 0
  have c1 : W.cell? ⟨w.heap.size, 1, none⟩ = some (.string ⟨#[]⟩) := cell_of_block k0 1
  have c2 : W.cell? ⟨w.heap.size, 2, none⟩ = some (.int .i64 0) := cell_of_block k0 2
  have f0 : ∀ j, W.frozen? ⟨w.heap.size, j, none⟩ = false := unfrozen_of_block k0
  clear k0
  go_wp2
  exact bodyPost_ret (v := hash (some ⟨w.heap.size + 1, 0, none⟩) 8 8 ⟨#[]⟩ 0) (by simp [results, Tryd.results12, go_sem, c0, c1, c2, hash]) rfl
    ⟨rfl, blk_set (blk_set (blk_set k1.out _ _ (by simp)) _ _ (by simp)) _ _ (by simp), ((B.out.setCell (by simp) _).setCell (by simp) _).setCell (by simp) _⟩

end Go.Proofs.YtaepdmeghfbngaaDoor.sha
