/-
  What laws.szHash, toHash, eqHash, markHash and heldHash answer and leave. Conditions: at most 1,048,576 numbers, which lie in memory; numbers that are written lie in a block of their own.
-/
import Derived.Test.YtaepdmeghfbngaaDoorOwnV
import Derived.Test.YtaepdmeghfbngaaDoorRowF
namespace Go.Proofs.YtaepdmeghfbngaaDoor.hashes
open Go.RowKit Go.Joins
open Go.Proofs.YtaepdmeghfbngaaDoor.base Go.Proofs.YtaepdmeghfbngaaDoor.ints Go.Proofs.YtaepdmeghfbngaaDoor.blk
open Go.Proofs.YtaepdmeghfbngaaDoor.sha (hash zeroH)
set_option linter.unusedVariables false

theorem val_eq {a b : Value} (h : a = b) : Ending.returned a = Ending.returned b := by rw [h]
theorem bytes_ne {r s : ByteArray} (h : ¬ r = s) : (r.toList == s.toList) = false := by
  rw [ByteArray.toList_eq, ByteArray.toList_eq]
  simp
  intro e
  apply h
  apply ByteArray.ext
  exact e
/-- what is left when a Hash is counted -/
def szv (m : Int) (n l : Nat) : Int := if m - n < 0 then -1 else if m - n - l < 0 then -1 else m - n - l

end Go.Proofs.YtaepdmeghfbngaaDoor.hashes
