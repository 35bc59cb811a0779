/-
  Rows of numbers, in the words of rows of cells: what laws.toInt64S, eqInt64S and markInt64S answer and leave. Condition: at most 1,048,576 numbers.
-/
import Derived.Test.YtlcdbkelonbcfaaInts
import Derived.Test.YtlcdbkelonbcfaaMem
namespace Go.Proofs.Ytlcdbkelonbcfaa.ints
open Go.RowKit Go.Joins
open Go.Proofs.Ytlcdbkelonbcfaa.base Go.Proofs.Ytlcdbkelonbcfaa.blk
open Go.Proofs.Ytlcdbkelonbcfaa.row (OwnV)
set_option linter.unusedVariables false

/-- numbers as cells -/
def ix (ks : List Int) : List Value := ks.map (fun z => .int .i64 z)
theorem ix_nil {ks : List Int} (h : ix ks = []) : ks = [] := by unfold ix at h; simpa using h
theorem ix_len (ks : List Int) : (ix ks).length = ks.length := by simp [ix]
theorem ix_set (ks : List Int) (i : Nat) (z : Int) : (ix ks).set i (.int .i64 z) = ix (ks.set i z) := by unfold ix; rw [List.map_set]
theorem rd_i {w : World} {a : Option Addr} {ks : List Int} (h : row.Rd w a (ix ks)) : Rd w a ks := by
  intro i z hz
  exact h i (.int .i64 z) (by unfold ix; simp [hz])
theorem from_ne {m : Int} {n : Nat} {ks : List Int} (hn : ks.length = n) (h : ix (from_ m n) ≠ []) : ix ks ≠ [] := by
  intro e
  have := ix_nil e
  subst this
  simp at hn
  subst hn
  exact h rfl
end Go.Proofs.Ytlcdbkelonbcfaa.ints
