/-
  What impl.HashBegin answers and leaves. No condition.
-/
import Derived.Test.YtkkndkikfphnbaaHImplB
namespace Go.Proofs.Ytkkndkikfphnbaa.himpl
open Go.RowKit Go.Joins
open Go.Proofs.Ytkkndkikfphnbaa.base Go.Proofs.Ytkkndkikfphnbaa.ints Go.Proofs.Ytkkndkikfphnbaa.blk
open Go.Proofs.Ytkkndkikfphnbaa.sha (startL)
set_option linter.unusedVariables false

set_option maxRecDepth 100000 in
theorem begin_any : IBegin := by
  intro w
  go_enter Try.func6, Try.ntmps6
  go_wp2
  refine bodyPost_ret (v := sha.hash (some ⟨w.heap.size + 1, 0, none⟩) 8 8 ⟨#[]⟩ 0) (by simp [results, Try.results6, go_sem, sha.hash]) rfl
    ⟨some ⟨w.heap.size + 1, 0, none⟩, 8, rfl, .inr ⟨w.heap.size + 1, rfl, OwnS.of ?_⟩, fun b o s e => by simp at e; omega, below_alloc2 w _ _⟩
  exact blk_new (w.alloc _) (.cells (startL.map intV).toArray 2 (0, 0)) (w.heap.size + 1) (by simp)
end Go.Proofs.Ytkkndkikfphnbaa.himpl
