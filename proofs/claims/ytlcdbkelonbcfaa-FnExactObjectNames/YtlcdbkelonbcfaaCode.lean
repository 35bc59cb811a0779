/-
  What CodeRight and ShardSize of the specification and of the program answer: plain functions of two numbers.
-/
import Derived.Test.YtlcdbkelonbcfaaRows
import Derived.WalkKit
import Derived.ProofKit
import Derived.OpenShut
namespace Go.Proofs.Ytlcdbkelonbcfaa.code
open Go.RowKit
set_option linter.unusedVariables false

theorem mkHid {P : Prop} (h : P) : Hid P := h
theorem ret_eq {a b : Value} (h : a = b) : Ending.returned a = Ending.returned b := by rw [h]
/-- is a code of k and m right? -/
def codeB (k m : Int) : Bool := decide ((1 ≤ k ∧ k ≤ 8) ∧ (0 ≤ m ∧ m ≤ 6))
/-- may a text have so many bytes? -/
def sizeB (n : Int) : Bool := decide (0 ≤ n ∧ n ≤ 20000)
/-- how many bytes a shard has -/
def shard (k n : Int) : Int := if codeB k 0 = true ∧ sizeB n = true then (n + k - 1).tdiv k else 0

theorem specCode_any (k m : Int) (w : World) : Calls Try.prog 61 #[.int .i64 k, .int .i64 m] w fun e w' => e = .returned (.bool (codeB k m)) ∧ w' = w := by
  go_enter Try.func61, Try.ntmps61
  by_cases h0 : 1 ≤ k <;> by_cases h1 : k ≤ 8 <;> by_cases h2 : 0 ≤ m <;> by_cases h3 : m ≤ 6
  all_goals
    go_wp2
    go_ret
    exact ⟨ret_eq (by simp [codeB]; omega), rfl⟩

theorem implCode_any (k m : Int) (w : World) : Calls Try.prog 66 #[.int .i64 k, .int .i64 m] w fun e w' => e = .returned (.bool (codeB k m)) ∧ w' = w := by
  go_enter Try.func66, Try.ntmps66
  by_cases h0 : 1 ≤ k <;> by_cases h1 : k ≤ 8 <;> by_cases h2 : 0 ≤ m <;> by_cases h3 : m ≤ 6
  all_goals
    go_wp2
    go_ret
    exact ⟨ret_eq (by simp [codeB]; omega), rfl⟩

theorem quot_bd {k n : Int} (hc : codeB k 0 = true) (hs : sizeB n = true) : 0 ≤ (n + k - 1).tdiv k ∧ (n + k - 1).tdiv k ≤ 20007 ∧ 1 ≤ k ∧ k ≤ 8 ∧ 0 ≤ n ∧ n ≤ 20000 := by
  simp [codeB] at hc
  simp [sizeB] at hs
  have h1 : 0 ≤ n + k - 1 := by omega
  refine ⟨?_, ?_, by omega, by omega, by omega, by omega⟩
  · rw [Int.tdiv_eq_ediv_of_nonneg h1]
    exact Int.ediv_nonneg h1 (by omega)
  · rw [Int.tdiv_eq_ediv_of_nonneg h1]
    have := Int.ediv_le_self k h1
    omega

end Go.Proofs.Ytlcdbkelonbcfaa.code
