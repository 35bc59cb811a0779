/-
  What comes in: a Blob, and an Entry, as the reading of an argument gives them. No condition.
-/
import Derived.Test.YtlmhdebjmkcanabDoorAid
import Derived.Lib.SmallJoins
import Derived.ProofKit
import Derived.ChangeOld
namespace Go.Proofs.YtlmhdebjmkcanabDoor.came
open Go.ChangeShapes Go.WideShapes Go.ChangeAt Go.RowKit Go.Joins
set_option linter.unusedVariables false

set_option maxRecDepth 100000 in
theorem entry_came {H : Type} {enc : TypeId × Value → H} {W : World} {base b0 : Nat} {sp : Nat → Bool} {hd : Bool} {v : Value} {d : DataW H} {p : List MemPlace} (hv : Value.okWide Tryd.prog W .any b0 34 v) (h : DataW.Trod enc Tryd.prog W base sp hd 34 v d p) :
    ∃ (x : ByteArray) (k a n : Int), v = .agg #[.string x, .int .i64 k, .int .i64 a, .int .i64 n] ∧ (x.size : Int) ≤ 9223372036854775807 := by
  obtain ⟨v0, v1, v2, v3, y0, y1, y2, y3, n, rfl, _, _, h0, h1, h2, h3⟩ := open_agg4 Tryd.underlying34 (by kernel_rfl) (by kernel_rfl) hv h
  obtain ⟨x, e0, _, hs⟩ := DataW.trod_string Tryd.underlying9 h0
  obtain ⟨k, e1, _, _⟩ := DataW.trod_int Tryd.underlying2 h1
  obtain ⟨a, e2, _, _⟩ := DataW.trod_int Tryd.underlying2 h2
  obtain ⟨m, e3, _, _⟩ := DataW.trod_int Tryd.underlying2 h3
  simp at e0 e1 e2 e3
  subst e0 e1 e2 e3
  have : x.size ≤ 9223372036854775807 := hs
  exact ⟨x, k, a, m, rfl, by omega⟩
end Go.Proofs.YtlmhdebjmkcanabDoor.came
