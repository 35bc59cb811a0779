/-
  What impl.isKind answers. No condition.
-/
import Derived.Test.YtlcdbkelonbcfaaAid
namespace Go.Proofs.Ytlcdbkelonbcfaa.kind
open Go.RowKit Go.Joins
open Go.Proofs.Ytlcdbkelonbcfaa.base Go.Proofs.Ytlcdbkelonbcfaa.blk Go.Proofs.Ytlcdbkelonbcfaa.aid
set_option linter.unusedVariables false

def kindB (k : Int) : Bool := decide (k = 1) || decide (k = 2)
theorem kind_any (k : Int) (w : World) :
    Calls Try.prog 99 #[.int .i64 k] w fun e w' => e = .returned (.bool (kindB k)) ∧ w' = w := by
  by_cases h1 : k = 1
  · subst h1
    go_enter Try.func99, Try.ntmps99
    go_wp2
    go_ret
    exact ⟨rfl, rfl⟩
  by_cases h2 : k = 2
  · subst h2
    go_enter Try.func99, Try.ntmps99
    go_wp2
    go_ret
    exact ⟨rfl, rfl⟩
  have e1 : (k == 1) = false := by simpa using h1
  have e2 : (k == 2) = false := by simpa using h2
  have e : kindB k = false := by simp [kindB, h1, h2]
  rw [e]
  go_enter Try.func99, Try.ntmps99
  go_wp2
  go_ret
  exact ⟨rfl, rfl⟩
end Go.Proofs.Ytlcdbkelonbcfaa.kind
