/-
  What laws.szFrame and laws.toFrame answer and leave. Condition: what is left is at most 1,048,576.
-/
import Derived.Test.YtjkbldmadcgddaaDoorAid
namespace Go.Proofs.YtjkbldmadcgddaaDoor.frm
open Go.RowKit Go.Joins
open Go.Proofs.YtjkbldmadcgddaaDoor.base Go.Proofs.YtjkbldmadcgddaaDoor.blk Go.Proofs.YtjkbldmadcgddaaDoor.aid
set_option linter.unusedVariables false

theorem allocs2 (w : World) (o1 o2 : Obj) : Below w.heap.size w ((w.alloc o1).alloc o2) := (below_alloc1 w o1).alloc (by simp) _
theorem allocs3 (w : World) (o1 o2 o3 : Obj) : Below w.heap.size w (((w.alloc o1).alloc o2).alloc o3) := (allocs2 w o1 o2).alloc (by simp; omega) _
theorem cel6 {w : World} {g : Nat} {a b c d e f : Value} {t : TypeId} {z : Nat × Nat} (h : w.heap[g]? = some (.cells #[a, b, c, d, e, f] t z)) : w.cell? ⟨g, 0, none⟩ = some a ∧ w.cell? ⟨g, 1, none⟩ = some b ∧ w.cell? ⟨g, 2, none⟩ = some c ∧ w.cell? ⟨g, 3, none⟩ = some d ∧ w.cell? ⟨g, 4, none⟩ = some e ∧ w.cell? ⟨g, 5, none⟩ = some f := by
  simp [World.cell?, h]
end Go.Proofs.YtjkbldmadcgddaaDoor.frm
