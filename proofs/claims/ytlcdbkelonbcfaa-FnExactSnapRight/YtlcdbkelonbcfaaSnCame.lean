/-
  What comes in: a Snap, as the reading of an argument gives it. No condition.
-/
import Derived.Test.YtlcdbkelonbcfaaAid
import Derived.ProofKit
import Derived.ChangeOld
namespace Go.Proofs.Ytlcdbkelonbcfaa.came
open Go.ChangeShapes Go.WideShapes Go.ChangeAt Go.RowKit Go.Joins
set_option linter.unusedVariables false

theorem array3s {α : Type} {cs : Array α} (h : cs.size = 3) : ∃ c0 c1 c2, cs = #[c0, c1, c2] := by
  obtain ⟨l⟩ := cs
  match l, h with
  | [c0, c1, c2], _ => exact ⟨c0, c1, c2, rfl⟩
set_option maxRecDepth 100000 in
theorem snap_came {H : Type} {enc : TypeId × Value → H} {W : World} {base b0 : Nat} {sp : Nat → Bool} {hd : Bool} {v : Value} {d : DataW H} {p : List MemPlace} (hv : Value.okWide Try.prog W .any b0 50 v) (h : DataW.Trod enc Try.prog W base sp hd 50 v d p) :
    ∃ (n : ByteArray) (d : Int) (r : ByteArray), v = .agg #[.string n, .int .i64 d, .string r] ∧ (n.size : Int) ≤ 9223372036854775807 ∧ (r.size : Int) ≤ 9223372036854775807 := by
  obtain ⟨cs, rfl, hsz⟩ := okWide_struct Try.underlying50 hv
  have hC : Try.prog.cellsOf 50 = 3 := by kernel_rfl
  obtain ⟨v0, v1, v2, rfl⟩ := array3s (hsz.trans hC)
  obtain ⟨fuel, hf⟩ := h
  obtain ⟨xs, k, hk, hxy, _, hxl, hf⟩ := DataW.trod_struct Try.underlying50 hf
  match xs, hxl with
  | [y0, y1, y2], _ =>
    have g0 := hf 0 _ rfl
    have g1 := hf 1 _ rfl
    have g2 := hf 2 _ rfl
    have cs9 : Try.prog.cellsOf 9 = 1 := by kernel_rfl
    have cs2 : Try.prog.cellsOf 2 = 1 := by kernel_rfl
    simp [cs9, cs2, Value.cells] at g0 g1 g2
    obtain ⟨z0, e0, _, s0⟩ := DataW.trod_string Try.underlying9 g0
    obtain ⟨z1, e1, _, _⟩ := DataW.trod_int Try.underlying2 g1
    obtain ⟨z2, e2, _, s2⟩ := DataW.trod_string Try.underlying9 g2
    simp at e0 e1 e2
    subst e0 e1 e2
    have t0 : z0.size ≤ 9223372036854775807 := s0
    have t2 : z2.size ≤ 9223372036854775807 := s2
    exact ⟨z0, z1, z2, rfl, by omega, by omega⟩
end Go.Proofs.Ytlcdbkelonbcfaa.came
