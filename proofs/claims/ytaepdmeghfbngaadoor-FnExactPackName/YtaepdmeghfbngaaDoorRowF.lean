/-
  Rows of numbers in memory, as functions and as lists; a Hash as a value; the state at first. No condition.
-/
import Derived.Test.YtaepdmeghfbngaaDoorBlk
import Derived.Test.YtaepdmeghfbngaaDoorInts
namespace Go.Proofs.YtaepdmeghfbngaaDoor.sha
open Go.RowKit Go.Joins
open Go.Proofs.YtaepdmeghfbngaaDoor.base Go.Proofs.YtaepdmeghfbngaaDoor.ints Go.Proofs.YtaepdmeghfbngaaDoor.blk
set_option linter.unusedVariables false

/-- a row of numbers of one kind in a block of its own -/
def rowF (k : IntKind) (ty : TypeId) (n : Nat) (g : Nat → Int) : Obj := .cells ((List.range n).map fun i => Value.int k (g i)).toArray ty (0, 0)
def upd (g : Nat → Int) (j : Nat) (z : Int) : Nat → Int := fun i => if i = j then z else g i

theorem rowF_cell {w : World} {b : Nat} {k : IntKind} {ty : TypeId} {n : Nat} {g : Nat → Int} (h : w.heap[b]? = some (rowF k ty n g)) {i : Nat} (hi : i < n) : w.cell? ⟨b, i, none⟩ = some (.int k (g i)) := by
  rw [cell_of_block h]; simp [hi]
theorem rowF_free {w : World} {b : Nat} {k : IntKind} {ty : TypeId} {n : Nat} {g : Nat → Int} (h : w.heap[b]? = some (rowF k ty n g)) (i : Nat) : w.frozen? ⟨b, i, none⟩ = false := unfrozen_of_block h i
theorem rowF_set {w : World} {b : Nat} {k : IntKind} {ty : TypeId} {n : Nat} {g : Nat → Int} (h : w.heap[b]? = some (rowF k ty n g)) (i : Nat) (z : Int) : (w.setCell ⟨b, i, none⟩ (.int k z)).heap[b]? = some (rowF k ty n (upd g i z)) := by
  have e := block_setCell (i := i) h (.int k z)
  rw [e]
  unfold rowF
  congr 2
  apply Array.ext
  · simp
  · intro j h1 h2
    simp at h2
    simp [upd]
    by_cases e2 : i = j
    · subst e2; simp
    · have e3 : ¬ j = i := fun e => e2 e.symm
      simp [e2, e3]
theorem rowF_congr {k : IntKind} {ty : TypeId} {n : Nat} {g g' : Nat → Int} (h : ∀ i, i < n → g i = g' i) : rowF k ty n g = rowF k ty n g' := by
  unfold rowF
  congr 2
  apply List.map_congr_left
  intro i hi
  rw [h i (by simpa using hi)]

/-- a Hash as a value -/
def hash (a : Option Addr) (n cap : Nat) (r : ByteArray) (size : Int) : Value := .agg #[.slice a n cap, .string r, .int .i64 size]
/-- the answer's variable, still empty -/
def zeroH : Obj := .cells #[.slice none 0 0, .string ⟨#[]⟩, .int .i64 0] 28

/-- the state at first -/
def startL : List Int := [0x6a09e667, 0xbb67ae85, 0x3c6ef372, 0xa54ff53a, 0x510e527f, 0x9b05688c, 0x1f83d9ab, 0x5be0cd19]
def start (i : Nat) : Int := startL.getD i 0
def fn (zs : List Int) (i : Nat) : Int := zs.getD i 0
/-- eight numbers as a list -/
def list8 (f : Nat → Int) : List Int := (List.range 8).map f
theorem rd8 {w : World} {g : Nat} {f : Nat → Int} (h : ∀ i, i < 8 → w.cell? ⟨g, i, none⟩ = some (.int .i64 (f i))) : Rd w (some ⟨g, 0, none⟩) (list8 f) := by
  intro i z hz
  unfold list8 at hz
  rw [List.getElem?_map] at hz
  by_cases h8 : i < 8
  · rw [List.getElem?_range h8] at hz
    simp at hz
    subst hz
    exact ⟨g, 0, rfl, by simpa using h i h8⟩
  · rw [List.getElem?_eq_none (by simp; omega)] at hz
    simp at hz
theorem list8_len (f : Nat → Int) : (list8 f).length = 8 := by simp [list8]
theorem rd_fn {w : World} {b0 off : Nat} {zs : List Int} (h : Rd w (some ⟨b0, off, none⟩) zs) (h8 : zs.length = 8) : ∀ i, i < 8 → w.cell? ⟨b0, off + i, none⟩ = some (.int .i64 (fn zs i)) := by
  intro i hi
  obtain ⟨z, hz⟩ : ∃ z, zs[i]? = some z := ⟨_, List.getElem?_eq_getElem (by omega)⟩
  obtain ⟨b, o, e, hc⟩ := h i z hz
  simp at e
  obtain ⟨rfl, rfl⟩ := e
  rw [hc]
  simp [fn, List.getD, hz]
end Go.Proofs.YtaepdmeghfbngaaDoor.sha
