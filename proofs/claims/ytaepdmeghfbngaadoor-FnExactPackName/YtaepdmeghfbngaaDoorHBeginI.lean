/-
  What impl.HashBegin answers and leaves. No condition.
-/
import Derived.Test.YtaepdmeghfbngaaDoorHImplB
namespace Go.Proofs.YtaepdmeghfbngaaDoor.himpl
open Go.RowKit Go.Joins
open Go.Proofs.YtaepdmeghfbngaaDoor.base Go.Proofs.YtaepdmeghfbngaaDoor.ints Go.Proofs.YtaepdmeghfbngaaDoor.blk
open Go.Proofs.YtaepdmeghfbngaaDoor.sha (startL)
set_option linter.unusedVariables false

set_option maxRecDepth 100000 in
theorem begin_any : IBegin := by
  intro w
  go_enter Tryd.func16, Tryd.ntmps16
  go_wp2
  refine bodyPost_ret (v := sha.hash (some ⟨w.heap.size + 1, 0, none⟩) 8 8 ⟨#[]⟩ 0) (by simp [results, Tryd.results16, go_sem, sha.hash]) rfl
    ⟨some ⟨w.heap.size + 1, 0, none⟩, 8, rfl, .inr ⟨w.heap.size + 1, rfl, OwnS.of ?_⟩, fun b o s e => by simp at e; omega, below_alloc2 w _ _⟩
  exact blk_new (w.alloc _) (.cells (startL.map intV).toArray 2 (0, 0)) (w.heap.size + 1) (by simp)
end Go.Proofs.YtaepdmeghfbngaaDoor.himpl
