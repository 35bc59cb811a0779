/-
  What comes in: a Cutting, as the reading of an argument gives it. No condition.
-/
import Derived.Test.YtbdkpcgmnppkgaaCutS
import Derived.ProofKit
import Derived.ChangeOld
namespace Go.Proofs.Ytbdkpcgmnppkgaa.came
open Go.ChangeShapes Go.WideShapes Go.ChangeAt Go.RowKit Go.Joins
open Go.Proofs.Ytbdkpcgmnppkgaa.fing (cutV)
set_option linter.unusedVariables false

theorem cutting_came {H : Type} {enc : TypeId × Value → H} {W : World} {base b0 : Nat} {sp : Nat → Bool} {hd : Bool} {v : Value} {d : DataW H} {p : List MemPlace} (hv : Value.okWide Try.prog W .any b0 37 v) (h : DataW.Trod enc Try.prog W base sp hd 37 v d p) :
    ∃ mn bs mx : Int, v = cutV mn bs mx := by
  obtain ⟨v0, v1, v2, y0, y1, y2, n, rfl, _, _, h0, h1, h2⟩ := open_agg3 Try.underlying37 (by kernel_rfl) (by kernel_rfl) hv h
  obtain ⟨a, e0, _, _⟩ := DataW.trod_int Try.underlying2 h0
  obtain ⟨b, e1, _, _⟩ := DataW.trod_int Try.underlying2 h1
  obtain ⟨c, e2, _, _⟩ := DataW.trod_int Try.underlying2 h2
  simp at e0 e1 e2
  subst e0 e1 e2
  exact ⟨a, b, c, rfl⟩
end Go.Proofs.Ytbdkpcgmnppkgaa.came
