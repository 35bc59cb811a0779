/-
  Rows of int64 that may be written, none or in a block of their own, maybe with room behind them: what laws.markInt64S answers and leaves. Conditions: at most 1,048,576 numbers.
-/
import Derived.Test.YtaepdmeghfbngaaDoorBlk
import Derived.Test.YtaepdmeghfbngaaDoorInts
namespace Go.Proofs.YtaepdmeghfbngaaDoor.blk
open Go.RowKit Go.Joins
open Go.Proofs.YtaepdmeghfbngaaDoor.base Go.Proofs.YtaepdmeghfbngaaDoor.ints
set_option linter.unusedVariables false

/-- a row in a block of its own, with room behind it -/
def OwnS (w : World) (g : Nat) (zs : List Int) : Prop := ∃ ex : List Value, w.heap[g]? = some (.cells (zs.map intV ++ ex).toArray 2 (0, 0))
theorem OwnS.of {w : World} {g : Nat} {zs : List Int} (h : Own w g zs) : OwnS w g zs := ⟨[], by simpa [Own] using h⟩
theorem OwnS.lt {w : World} {g : Nat} {zs : List Int} (h : OwnS w g zs) : g < w.heap.size := by
  obtain ⟨ex, h⟩ := h
  exact (Array.getElem?_eq_some_iff.1 h).1
theorem OwnS.block {w w' : World} {g : Nat} {zs : List Int} (h : OwnS w g zs) (hb : w'.heap[g]? = w.heap[g]?) : OwnS w' g zs := by
  obtain ⟨ex, h⟩ := h
  exact ⟨ex, hb.trans h⟩
theorem OwnS.below {w w' : World} {g : Nat} {zs : List Int} (h : OwnS w g zs) (hb : Below w.heap.size w w') : OwnS w' g zs := h.block (hb.block g h.lt)
theorem OwnS.cell {w : World} {g : Nat} {zs : List Int} (h : OwnS w g zs) {i : Nat} {z : Int} (hz : zs[i]? = some z) : w.cell? ⟨g, i, none⟩ = some (.int .i64 z) := by
  obtain ⟨ex, h⟩ := h
  have hi : i < zs.length := (List.getElem?_eq_some_iff.1 hz).1
  rw [cell_of_block h]
  simp [List.getElem?_append, hi, intV]
  exact (List.getElem?_eq_some_iff.1 hz).2
theorem OwnS.free {w : World} {g : Nat} {zs : List Int} (h : OwnS w g zs) (i : Nat) : w.frozen? ⟨g, i, none⟩ = false := by
  obtain ⟨ex, h⟩ := h
  exact unfrozen_of_block h i
theorem OwnS.rd {w : World} {g : Nat} {zs : List Int} (h : OwnS w g zs) : Rd w (some ⟨g, 0, none⟩) zs := by
  intro i z hz
  exact ⟨g, 0, rfl, by simpa using h.cell hz⟩
theorem OwnS.set {w : World} {g : Nat} {zs : List Int} (h : OwnS w g zs) (i : Nat) (hi : i < zs.length) (z : Int) : OwnS (w.setCell ⟨g, i, none⟩ (.int .i64 z)) g (zs.set i z) := by
  obtain ⟨ex, h⟩ := h
  refine ⟨ex, ?_⟩
  rw [block_setCell (i := i) h (.int .i64 z)]
  congr 2
  simp [intV, List.map_set, hi]
theorem OwnS.other {w : World} {g : Nat} {zs : List Int} (h : OwnS w g zs) (p : Addr) (v : Value) (hne : g ≠ p.block) : OwnS (w.setCell p v) g zs := h.block (Below.heap_setCell w p v g hne)
theorem OwnS.owns {w : World} {base g n c : Nat} {zs : List Int} (h : w.ownsRow base 2 1 (.slice (some ⟨g, 0, none⟩) n c) n (zs.map intV)) : OwnS w g zs := by
  obtain ⟨_, h2⟩ := h
  rcases h2 with ⟨e, _⟩ | ⟨g', cap, cur, e, hB, hg, _, _, _, ht⟩
  · cases e
  · simp at e
    obtain ⟨rfl, rfl⟩ := e
    refine ⟨cur.toList.drop (n * 1), ?_⟩
    rw [← ht, List.take_append_drop]
    exact hg

/-- cells that may be written: none, or a block of their own -/
def OwnV (w : World) (a : Option Addr) (zs : List Int) : Prop := (a = none ∧ zs = []) ∨ ∃ g, a = some ⟨g, 0, none⟩ ∧ OwnS w g zs
/-- all that was there stays, but for the block of these cells -/
def GrewV (w w' : World) (a : Option Addr) : Prop := w.grownBy w' (a.map (·.block))
theorem OwnV.rd {w : World} {a : Option Addr} {zs : List Int} (h : OwnV w a zs) : Rd w a zs := by
  rcases h with ⟨rfl, rfl⟩ | ⟨g, rfl, ho⟩
  · exact Rd.nil w
  · exact ho.rd
theorem OwnV.below {w w' : World} {a : Option Addr} {zs : List Int} (h : OwnV w a zs) (hb : Below w.heap.size w w') : OwnV w' a zs := by
  rcases h with ⟨rfl, rfl⟩ | ⟨g, rfl, ho⟩
  · exact .inl ⟨rfl, rfl⟩
  · exact .inr ⟨g, rfl, ho.below hb⟩
theorem OwnV.alloc {w : World} {a : Option Addr} {zs : List Int} (h : OwnV w a zs) (o : Obj) : OwnV (w.alloc o) a zs := h.below ((Below.refl _ _).alloc (Nat.le_refl _) o)
theorem grewV_alloc {w w' : World} {a : Option Addr} {o : Obj} (h : GrewV (w.alloc o) w' a) : GrewV w w' a := grew_trans (World.grownBy_alloc w o _) h

end Go.Proofs.YtaepdmeghfbngaaDoor.blk
