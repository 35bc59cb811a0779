/-
  What spec.HashRight, HashBegin, HashMore, HashEnd and Digest answer and leave. Conditions: at most 1,048,576 numbers, which lie in memory; at most 1,048,576 bytes.
-/
import Derived.Test.YtaepdmeghfbngaaDoorRowF
namespace Go.Proofs.YtaepdmeghfbngaaDoor.sha
open Go.RowKit Go.Joins
open Go.Proofs.YtaepdmeghfbngaaDoor.base Go.Proofs.YtaepdmeghfbngaaDoor.ints Go.Proofs.YtaepdmeghfbngaaDoor.blk
set_option linter.unusedVariables false

def u32B (z : Int) : Bool := decide (0 ≤ z ∧ z ≤ 4294967295)
/-- is a Hash right? -/
def hRight (zs : List Int) (r : ByteArray) (size : Int) : Bool := decide (zs.length = 8 ∧ (0 ≤ size ∧ size ≤ 1099511627776) ∧ (r.size : Int) = size % 64) && zs.all u32B

theorem all_next {zs : List Int} {k : Nat} {z : Int} (hz : zs[k]? = some z) (h : (zs.take k).all u32B = true) (hb : u32B z = true) : (zs.take (k + 1)).all u32B = true := by
  rw [List.take_add_one, hz, List.all_append, h]
  simp [hb]
theorem all_not {zs : List Int} {k : Nat} {z : Int} (hz : zs[k]? = some z) (hb : u32B z = false) : zs.all u32B = false := by
  rw [List.all_eq_false]
  exact ⟨z, List.mem_of_getElem? hz, by simp [hb]⟩

end Go.Proofs.YtaepdmeghfbngaaDoor.sha
