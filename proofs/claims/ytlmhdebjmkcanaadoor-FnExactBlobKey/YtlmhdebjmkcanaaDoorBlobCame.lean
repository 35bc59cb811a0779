/-
  What comes in: a Blob, and an Entry, as the reading of an argument gives them. No condition.
-/
import Derived.Test.YtlmhdebjmkcanaaDoorAid
import Derived.Lib.SmallJoins
import Derived.ProofKit
import Derived.ChangeOld
namespace Go.Proofs.YtlmhdebjmkcanaaDoor.came
open Go.ChangeShapes Go.WideShapes Go.ChangeAt Go.RowKit Go.Joins
set_option linter.unusedVariables false

set_option maxRecDepth 100000 in
theorem blob_came {H : Type} {enc : TypeId × Value → H} {W : World} {base b0 : Nat} {sp : Nat → Bool} {hd : Bool} {v : Value} {d : DataW H} {p : List MemPlace} (hv : Value.okWide Tryd.prog W .any b0 43 v) (h : DataW.Trod enc Tryd.prog W base sp hd 43 v d p) :
    ∃ (k : Int) (t : ByteArray), v = .agg #[.int .i64 k, .string t] ∧ (t.size : Int) ≤ 9223372036854775807 := by
  obtain ⟨v0, v1, y0, y1, n, rfl, _, _, h0, h1⟩ := open_agg2 Tryd.underlying43 (by kernel_rfl) (by kernel_rfl) hv h
  obtain ⟨a, e0, _, _⟩ := DataW.trod_int Tryd.underlying2 h0
  obtain ⟨b, e1, _, hs⟩ := DataW.trod_string Tryd.underlying9 h1
  simp at e0 e1
  subst e0 e1
  have : b.size ≤ 9223372036854775807 := hs
  exact ⟨a, b, rfl, by omega⟩
end Go.Proofs.YtlmhdebjmkcanaaDoor.came
