/-
  What stays of a file when the power goes: spec.l01Min, impl.between and impl.torn. Conditions: a file whose text has at most 1,048,576 bytes, of which some are synced.
-/
import Derived.Test.YtlcdbkelonbcfaaDrvA
namespace Go.Proofs.Ytlcdbkelonbcfaa.drv
open Go.RowKit Go.Joins Go.Sort
open Go.Proofs.Ytlcdbkelonbcfaa.base Go.Proofs.Ytlcdbkelonbcfaa.blk Go.Proofs.Ytlcdbkelonbcfaa.aid
open Go.Proofs.Ytlcdbkelonbcfaa.row (Rd Own OwnV)
open Go.Proofs.Ytlcdbkelonbcfaa.rwStored (cs)
set_option linter.unusedVariables false

/-- so many bytes more -/
def moreOf (k left : Int) : Int := if 0 < k then min k left else 0
theorem more_is (k left : Int) (h : 0 ≤ left) : moreOf k left = min (max k 0) left := by
  unfold moreOf
  by_cases h1 : 0 < k
  · rw [if_pos h1, Int.max_eq_left (by omega)]
  · rw [if_neg h1, Int.max_eq_right (by omega), Int.min_eq_left h]
theorem more_bd (k left : Int) (h : 0 ≤ left) : 0 ≤ moreOf k left ∧ moreOf k left ≤ left := by
  rw [more_is k left h]
  omega
theorem keepF_is (x0 x1 : ByteArray) (x2 k : Int) : keepF (x0, x1, x2) k = (x0, x1.extract 0 (x2 + moreOf k ((x1.size : Int) - x2)).toNat, ((x1.extract 0 (x2 + moreOf k ((x1.size : Int) - x2)).toNat).size : Int)) := rfl
theorem keepF_nat (x0 x1 : ByteArray) (x2 k : Int) (m : Nat) (h : x2 + moreOf k ((x1.size : Int) - x2) = (m : Int)) (hm : m ≤ x1.size) : keepF (x0, x1, x2) k = (x0, x1.extract 0 m, (m : Int)) := by
  rw [keepF_is, h]
  have e : (m : Int).toNat = m := by omega
  have e2 : (x1.extract 0 m).size = m := by simp; omega
  rw [e, e2]

def sliceSem (t : TypeId) (v : Value) (lo hi mx : Option Value) : Sem Value := Instr.slice t v lo hi mx
theorem slice_fold (t : TypeId) (v : Value) (lo hi mx : Option Value) : Instr.slice t v lo hi mx = sliceSem t v lo hi mx := rfl
theorem slice_to (s : ByteArray) (m : Nat) (h : m ≤ s.size) (wx : World) : (sliceSem 9 (.string s) none (some (.int .i64 (m : Int))) none).run Try.prog wx = .ok (.string (s.extract 0 m)) wx := by
  have h2 := run_slice_string_h (P := Try.prog) wx 9 s Try.underlying9 .i64 (m : Int) (by omega) (by omega)
  exact h2
attribute [local go_sem ↓] slice_fold
end Go.Proofs.Ytlcdbkelonbcfaa.drv
