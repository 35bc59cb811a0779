/-
  What laws.lwAt answers and leaves. Conditions: the bytes lie in memory and are at most 1,048,576.
-/
import Derived.Test.YtbdkpcgmnppkgaaSource
namespace Go.Proofs.Ytbdkpcgmnppkgaa.draw
open Go.RowKit
open Go.Proofs.Ytbdkpcgmnppkgaa.base
set_option linter.unusedVariables false

theorem val_eq {a b : Value} (h : a = b) : Ending.returned a = Ending.returned b := by rw [h]
/-- a number below most is told -/
def Told (w : World) (most : Int) (e : Ending) (w' : World) : Prop := ∃ r : Nat, e = .returned (.int .i64 r) ∧ (r : Int) < most ∧ w' = w

set_option maxRecDepth 100000 in
theorem lwAt_any (a : Option Addr) (len cap : Nat) (at_ : Nat) (most : Int) (w : World) (hl : len ≤ 1048576) (hr : Row w a len) (hat : at_ ≤ 1000) (hm : 1 ≤ most) (hm1 : most ≤ 1000000) :
    Calls Try.prog 19 #[.slice a len cap, .int .i64 at_, .int .i64 most] w fun e w' => Told w most e w' := by
  go_enter Try.func19, Try.ntmps19
  by_cases h1 : most ≤ 1
  · go_wp2
    go_ret
    exact ⟨0, rfl, by omega, rfl⟩
  · have h1' : 1 < most := by omega
    by_cases h2 : (len : Int) = 0
    · have h2' : len = 0 := by omega
      subst h2'
      go_wp2
      go_ret
      exact ⟨0, rfl, by omega, rfl⟩
    · obtain ⟨q, hq⟩ : ∃ q : Nat, (q : Int) = (at_ : Int).tmod (len : Int) := ⟨at_ % len, by rw [Int.tmod_eq_emod_of_nonneg (by omega)]; omega⟩
      have hq1 : q < len := by
        have := Int.emod_lt_of_pos (at_ : Int) (show 0 < (len : Int) by omega)
        rw [Int.tmod_eq_emod_of_nonneg (by omega)] at hq
        omega
      obtain ⟨b, off, u, rfl, hc, hu0, hu1⟩ := hr q hq1
      have hq2 : (q : Int) < (len : Int) := by omega
      have M := mkHid (And.intro (Int.emod_nonneg u (show most ≠ 0 by omega)) (Int.emod_lt_of_pos u (show 0 < most by omega)))
      have hq' := hq.symm
      clear hq hr
      go_wp2
      go_ret
      have m0 := M.out.1
      have m1 := M.out.2
      exact ⟨(u % most).toNat, val_eq (by rw [Int.toNat_of_nonneg m0]; rfl), by omega, rfl⟩
end Go.Proofs.Ytbdkpcgmnppkgaa.draw
