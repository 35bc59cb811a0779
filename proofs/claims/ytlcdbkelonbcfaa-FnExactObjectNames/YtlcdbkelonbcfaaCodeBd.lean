/-
  The bounds of a right code. No condition.
-/
import Derived.Test.YtlcdbkelonbcfaaCode
import Derived.Test.YtlcdbkelonbcfaaAid
import Derived.Deep.RegionHeld3
import Derived.Deep.QuietTactic
import Derived.BigQuiet
import Derived.BigRegion
namespace Go.Proofs.Ytlcdbkelonbcfaa.frm
open Go.RowKit Go.Joins
open Go.Proofs.Ytlcdbkelonbcfaa.code (codeB)
theorem code_bd {k m : Int} (h : codeB k m = true) : 1 ≤ k ∧ k ≤ 8 ∧ 0 ≤ m ∧ m ≤ 6 := by
  simp [code.codeB] at h
  omega
end Go.Proofs.Ytlcdbkelonbcfaa.frm
