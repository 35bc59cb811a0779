/-
  What impl.copyDrive answers and leaves: a drive of the same files, in memory of its own. Conditions: at most 1,048,576 files, which lie in memory, of texts of at most 1,048,576 bytes.
-/
import Derived.Test.YtlcdbkelonbcfaaDrvIR
import Derived.Test.YtlcdbkelonbcfaaClone
namespace Go.Proofs.Ytlcdbkelonbcfaa.drv
open Go.RowKit Go.Joins Go.Sort
open Go.Proofs.Ytlcdbkelonbcfaa.base Go.Proofs.Ytlcdbkelonbcfaa.blk Go.Proofs.Ytlcdbkelonbcfaa.aid
open Go.Proofs.Ytlcdbkelonbcfaa.row (Rd Own OwnV appSem app_fold)
open Go.Proofs.Ytlcdbkelonbcfaa.rwStored (cs)
set_option linter.unusedVariables false

/-- while a file is copied: what lies where -/
structure Cp (w : World) (B : Nat) (r : Int) (v : Value) (k : Nat) (xs : List Value) (fo : Obj) (wx : World) : Prop where
  below : Below w.heap.size w wx
  sz : w.heap.size + 3 ≤ wx.heap.size
  br : wx.heap[w.heap.size + 1]? = some (.cells #[.slice none 0 0, .int .i64 0] 92)
  bo : wx.heap[w.heap.size + 2]? = some (.cells #[v, .int .i64 r] 92)
  own : wx.ownsRow (w.heap.size + 3) 94 3 v k xs
  bf : wx.heap[B]? = some fo
  hB : w.heap.size + 3 ≤ B
  ne : ∀ j, v.ownBlock = some j → j ≠ B
/-- between two files -/
structure Cl (w : World) (r : Int) (v : Value) (k : Nat) (xs : List Value) (wx : World) : Prop where
  below : Below w.heap.size w wx
  sz : w.heap.size + 3 ≤ wx.heap.size
  br : wx.heap[w.heap.size + 1]? = some (.cells #[.slice none 0 0, .int .i64 0] 92)
  bo : wx.heap[w.heap.size + 2]? = some (.cells #[v, .int .i64 r] 92)
  own : wx.ownsRow (w.heap.size + 3) 94 3 v k xs
theorem owns_below {w w' : World} {base e size n : Nat} {v : Value} {xs : List Value} (h : w.ownsRow base e size v n xs) (hb : Below w.heap.size w w') : w'.ownsRow base e size v n xs :=
  h.kept (row := none) ⟨hb.os, hb.tape, hb.output, hb.size, fun k hk _ => hb.block k hk⟩ (by cases hv : v.ownBlock <;> simp)
variable {w wx w' : World} {B : Nat} {r : Int} {v : Value} {k : Nat} {xs : List Value} {fo : Obj}
theorem Cl.file (h : Cl w r v k xs wx) (fo : Obj) : Cp w wx.heap.size r v k xs fo (wx.alloc fo) :=
  ⟨h.below.trans ((below_alloc1 wx fo).mono h.below.size), by simp; have := h.sz; omega, blk_old h.br _, blk_old h.bo _, h.own.alloc _, blk_new _ _ _ rfl, h.sz, fun j hj => by have := (h.own.lt j hj).2; omega⟩
theorem Cp.next (h : Cp w B r v k xs fo wx) (hb : Below wx.heap.size wx w') : Cp w B r v k xs fo w' :=
  ⟨h.below.trans (hb.mono h.below.size), Nat.le_trans h.sz hb.size, blk_below h.br hb, blk_below h.bo hb, owns_below h.own hb, blk_below h.bf hb, h.hB, h.ne⟩
/-- behind an append: the variable holds the old row yet -/
structure Ca (w : World) (B : Nat) (fo : Obj) (r : Int) (v v' : Value) (k : Nat) (xs : List Value) (wx : World) : Prop where
  below : Below w.heap.size w wx
  sz : w.heap.size + 3 ≤ wx.heap.size
  br : wx.heap[w.heap.size + 1]? = some (.cells #[.slice none 0 0, .int .i64 0] 92)
  bo : wx.heap[w.heap.size + 2]? = some (.cells #[v, .int .i64 r] 92)
  own : wx.ownsRow (w.heap.size + 3) 94 3 v' k xs
  bf : wx.heap[B]? = some fo
theorem Cp.app {o : Obj} {v' : Value} {ys zs : List Value} (h : Cp w B r v k xs fo wx) (hg : (wx.alloc o).grownBy w' v.ownBlock) (ho : w'.ownsRow (w.heap.size + 3) 94 3 v' (k + 1) ys) (hz : ys = zs) : Ca w B fo r v v' (k + 1) zs w' := by
  subst hz
  have hk := fun j hj => (h.own.lt j hj).1
  have h2 := h.next (below_alloc1 wx o)
  have hs := h2.sz
  have hg2 : ∀ j o2, (wx.alloc o).heap[j]? = some o2 → j < w.heap.size + 3 → w'.heap[j]? = some o2 := fun j o2 e hj =>
    (hg.block j (Array.getElem?_eq_some_iff.1 e).1 (fun e2 => by have := hk j e2.symm; omega)).trans e
  exact ⟨h2.below.grown hg h2.below.size (fun j hj => by have := hk j hj; omega), Nat.le_trans h2.sz hg.size, hg2 _ _ h2.br (by omega), hg2 _ _ h2.bo (by omega), ho, (hg.block B (Array.getElem?_eq_some_iff.1 h2.bf).1 (fun e2 => h.ne B e2.symm rfl)).trans h2.bf⟩
theorem Ca.put {v' : Value} (h : Ca w B fo r v v' k xs wx) : Cl w r v' k xs (wx.setCell ⟨w.heap.size + 2, 0, none⟩ v') :=
  ⟨below_cell h.below (by omega) h.below.size v', by simpa using h.sz, blk_set h.br _ _ (by simp), by rw [block_setCell (i := 0) h.bo v']; rfl, ownsRow_setCell_below h.own (by show w.heap.size + 2 < w.heap.size + 3; omega) _⟩

attribute [local go_sem ↓] app_fold
/-- a drive of its own, as a row that may grow -/
def CPost (w : World) (l : List (ByteArray × ByteArray × Int)) (r : Int) (e : Ending) (w' : World) : Prop :=
  ∃ v, e = .returned (.agg #[v, .int .i64 r]) ∧ w'.ownsRow w.heap.size 94 3 v l.length (cs l) ∧ Below w.heap.size w w'
end Go.Proofs.Ytlcdbkelonbcfaa.drv
