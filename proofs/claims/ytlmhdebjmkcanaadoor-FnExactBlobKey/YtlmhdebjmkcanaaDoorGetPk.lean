/-
  What spec.PackGet and impl.PackGet answer and leave. Conditions: a text of at most 1,048,576 bytes; for the program: the numbers of the rounds are there.
-/
import Derived.Test.YtlmhdebjmkcanaaDoorBlobF
import Derived.Test.YtlmhdebjmkcanaaDoorLwBlob
import Derived.Test.YtlmhdebjmkcanaaDoorClone
namespace Go.Proofs.YtlmhdebjmkcanaaDoor.pack
open Go.RowKit Go.Joins
open Go.Proofs.YtlmhdebjmkcanaaDoor.base Go.Proofs.YtlmhdebjmkcanaaDoor.blk Go.Proofs.YtlmhdebjmkcanaaDoor.aid
open Go.Proofs.YtlmhdebjmkcanaaDoor.sha (digest GV)
set_option linter.unusedVariables false

def entV (x : ByteArray) (k a n : Int) : Value := .agg #[.string x, .int .i64 k, .int .i64 a, .int .i64 n]
/-- what PackGet tells: kind, text, code -/
def getP (s x : ByteArray) (k a n : Int) : Int × ByteArray × Int :=
  if 20000 < s.size then (0, ⟨#[]⟩, 2)
  else if a < 0 ∨ n < 0 ∨ 2000 < n ∨ (s.size : Int) - n < a then (0, ⟨#[]⟩, 9)
  else if bRight (k, s.extract a.toNat (a.toNat + n.toNat)) = true ∧ bKey (k, s.extract a.toNat (a.toNat + n.toNat)) = x then (k, s.extract a.toNat (a.toNat + n.toNat), 0)
  else (0, ⟨#[]⟩, 5)
def outV (o : Int × ByteArray × Int) : Value := .agg #[.int .i64 o.1, .string o.2.1, .int .i64 o.2.2]

theorem bytes_ne {r s : ByteArray} (h : ¬ r = s) : (r.toList == s.toList) = false := by
  rw [ByteArray.toList_eq, ByteArray.toList_eq]
  simp
  intro e
  apply h
  apply ByteArray.ext
  exact e
theorem four {a n m : Int} (h : a < 0 ∨ n < 0 ∨ 2000 < n ∨ m - n < a) : a < 0 ∨ (0 ≤ a ∧ n < 0) ∨ (0 ≤ a ∧ 0 ≤ n ∧ 2000 < n) ∨ (0 ≤ a ∧ 0 ≤ n ∧ n ≤ 2000 ∧ m - n < a) := by omega

end Go.Proofs.YtlmhdebjmkcanaaDoor.pack
