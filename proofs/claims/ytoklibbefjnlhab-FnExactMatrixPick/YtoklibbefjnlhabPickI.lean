/-
  What impl.MatrixPick answers and leaves. Conditions: at most 1,048,576 cells and rows, which lie in memory; the cells' slice has no room behind its end.
-/
import Derived.Test.YtoklibbefjnlhabPickP
import Derived.Test.YtoklibbefjnlhabGrid
import Derived.Deep.QuietTactic
import Derived.BigQuiet
import Derived.BigRegion
import Derived.Deep.DeepCutAuto
namespace Go.Proofs.Ytoklibbefjnlhab.picki
open Go.RowKit Go.Joins
open Go.Proofs.Ytoklibbefjnlhab.base Go.Proofs.Ytoklibbefjnlhab.ints Go.Proofs.Ytoklibbefjnlhab.mats Go.Proofs.Ytoklibbefjnlhab.right Go.Proofs.Ytoklibbefjnlhab.grid Go.Proofs.Ytoklibbefjnlhab.pick
set_option linter.unusedVariables false

/-- the answer's variable, still empty -/
def zeroOut : Obj := .cells #[.int .i64 0, .int .i64 0, .slice none 0 0, .int .i64 0] 32

set_option maxRecDepth 100000 in
set_option maxHeartbeats 1000000 in
theorem impl_big (R C : Int) (a b : Option Addr) (cap capb : Nat) (zs rs : List Int) (w : World) (hl : zs.length ≤ 1048576) (hlr : rs.length ≤ 1048576) (h : 400 < rs.length) :
    Calls Try.prog 12 #[mat R C a zs.length cap, .slice b rs.length capb] w fun e w' => IPost w (pick R C zs rs) e w' := by
  have hi : 400 < (rs.length : Int) := by omega
  have HP := mkHid (pick_big (R := R) (C := C) (zs := zs) h)
  unfold mat
  go_enter Try.func12, Try.ntmps12
  go_wp2
  exact bodyPost_ret (v := mout 0 0 none 0 0 2) (by simp [results, Try.results12, go_sem, mout]) rfl
    (ipost_ill HP.out (below_alloc2 w _ _))

set_option maxRecDepth 100000 in
set_option maxHeartbeats 1000000 in
theorem impl_ill (R C : Int) (a b : Option Addr) (cap capb : Nat) (zs rs : List Int) (w : World) (hl : zs.length ≤ 1048576) (hr : Rd w a zs) (h : ¬ 400 < rs.length) (h2 : right R C zs = false ∨ rs.length < 1 ∨ 16 < rs.length) :
    Calls Try.prog 12 #[mat R C a zs.length cap, .slice b rs.length capb] w fun e w' => IPost w (pick R C zs rs) e w' := by
  have hi : (rs.length : Int) ≤ 400 := by omega
  have HP := mkHid (pick_ill (R := R) (C := C) (zs := zs) h h2)
  have h3 : right R C zs = false ∨ (right R C zs = true ∧ sideB (rs.length : Int) = false) := by
    cases hx : right R C zs
    · exact .inl rfl
    · refine .inr ⟨rfl, ?_⟩
      rcases h2 with h2 | h2 | h2
      · rw [hx] at h2; cases h2
      · simp [sideB]; omega
      · simp [sideB]; omega
  have HR := mkHid (fun wx (hb : Below w.heap.size w wx) => right.impl_any R C a cap zs wx hl (hr.below hb))
  unfold mat at HR ⊢
  go_enter Try.func12, Try.ntmps12
  go_wp2_with fail
  refine (HR.out _ (below_alloc2 w _ _)).mono ?_
  rintro e w1 ⟨rfl, hb1⟩
  have k1 := blk_below (blk_new (w.alloc (.cells #[.int .i64 R, .int .i64 C, .slice a zs.length cap] 27)) zeroOut (w.heap.size + 1) (by simp)) hb1
  have B := mkHid (below_allocs (os := [_, _]) hb1)
  have c0 : w1.cell? ⟨w.heap.size + 1, 0, none⟩ = some (.int .i64 0) := cell_of_block k1 0
  have c1 : w1.cell? ⟨w.heap.size + 1, 1, none⟩ = some (.int .i64 0) := cell_of_block k1 1
  have c2 : w1.cell? ⟨w.heap.size + 1, 2, none⟩ = some (.slice none 0 0) := cell_of_block k1 2
  have c3 : w1.cell? ⟨w.heap.size + 1, 3, none⟩ = some (.int .i64 0) := cell_of_block k1 3
  have f1 : ∀ j, w1.frozen? ⟨w.heap.size + 1, j, none⟩ = false := unfrozen_of_block k1
  clear hb1 HR hr h h2 k1
  generalize right R C zs = r at *
  rcases h3 with rfl | ⟨rfl, h4⟩
  · go_wp2
    exact bodyPost_ret (v := mout 0 0 none 0 0 1) (by simp [results, Try.results12, go_sem, c0, c1, c2, c3, mout]) rfl
      (ipost_ill HP.out ((((B.out.setCell (by simp) _).setCell (by simp) _).setCell (by simp) _).setCell (by simp) _))
  · go_wp2_with fail
    refine (isSide_any _ _).mono ?_
    rintro e w2 ⟨rfl, rfl⟩
    rw [h4]
    go_wp2
    exact bodyPost_ret (v := mout 0 0 none 0 0 1) (by simp [results, Try.results12, go_sem, c0, c1, c2, c3, mout]) rfl
      (ipost_ill HP.out ((((B.out.setCell (by simp) _).setCell (by simp) _).setCell (by simp) _).setCell (by simp) _))

end Go.Proofs.Ytoklibbefjnlhab.picki
