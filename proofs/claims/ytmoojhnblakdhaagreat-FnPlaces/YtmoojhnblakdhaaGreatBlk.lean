/-
  Blocks of memory: what stays, what is new. No condition.
-/
import Derived.Test.YtmoojhnblakdhaaGreatRows
import Derived.Test.YtmoojhnblakdhaaGreatBase
import Derived.Lib.SmallJoins
import Derived.Laws.MakeOwn
namespace Go.Proofs.YtmoojhnblakdhaaGreat.blk
open Go.RowKit Go.Joins
open Go.Proofs.YtmoojhnblakdhaaGreat.base
set_option linter.unusedVariables false

theorem blk_new (w : World) (o : Obj) (j : Nat) (hj : j = w.heap.size) : (w.alloc o).heap[j]? = some o := by subst hj; exact heap_alloc_new w o
theorem blk_old {w : World} {j : Nat} {x : Obj} (h : w.heap[j]? = some x) (o : Obj) : (w.alloc o).heap[j]? = some x := (Below.heap_alloc w o j (Array.getElem?_eq_some_iff.1 h).1).trans h
theorem blk_below {w w' : World} {j : Nat} {x : Obj} (h : w.heap[j]? = some x) (hb : Below w.heap.size w w') : w'.heap[j]? = some x := (hb.block j (Array.getElem?_eq_some_iff.1 h).1).trans h
theorem blk_set {w : World} {j : Nat} {x : Obj} (h : w.heap[j]? = some x) (p : Addr) (v : Value) (hne : j ≠ p.block) : (w.setCell p v).heap[j]? = some x := (Below.heap_setCell w p v j hne).trans h
theorem below_allocs {w w' : World} {os : List Obj} (hb : Below (os.foldl World.alloc w).heap.size (os.foldl World.alloc w) w') : Below w.heap.size w w' := by
  induction os generalizing w with
  | nil => exact hb
  | cons o r ih =>
    have k := ih (w := w.alloc o) hb
    exact ((Below.refl _ _).alloc (Nat.le_refl _) o).trans (k.mono (by simp))

end Go.Proofs.YtmoojhnblakdhaaGreat.blk
