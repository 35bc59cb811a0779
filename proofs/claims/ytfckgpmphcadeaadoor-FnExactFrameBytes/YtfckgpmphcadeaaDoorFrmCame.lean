/-
  What comes in: a Frame, as the reading of an argument gives it. No condition.
-/
import Derived.Test.YtfckgpmphcadeaaDoorAid
import Derived.ProofKit
import Derived.ChangeOld
namespace Go.Proofs.YtfckgpmphcadeaaDoor.came
open Go.ChangeShapes Go.WideShapes Go.ChangeAt Go.RowKit Go.Joins
set_option linter.unusedVariables false

theorem array6 {α : Type} {cs : Array α} (h : cs.size = 6) : ∃ c0 c1 c2 c3 c4 c5, cs = #[c0, c1, c2, c3, c4, c5] := by
  obtain ⟨l⟩ := cs
  match l, h with
  | [c0, c1, c2, c3, c4, c5], _ => exact ⟨c0, c1, c2, c3, c4, c5, rfl⟩
set_option maxRecDepth 100000 in
theorem frame_came {H : Type} {enc : TypeId × Value → H} {W : World} {base b0 : Nat} {sp : Nat → Bool} {hd : Bool} {v : Value} {d : DataW H} {p : List MemPlace} (hv : Value.okWide Tryd.prog W .any b0 33 v) (h : DataW.Trod enc Tryd.prog W base sp hd 33 v d p) :
    ∃ (k m i s : Int) (h x : ByteArray), v = .agg #[.int .i64 k, .int .i64 m, .int .i64 i, .int .i64 s, .string h, .string x] ∧ (h.size : Int) ≤ 9223372036854775807 ∧ (x.size : Int) ≤ 9223372036854775807 := by
  obtain ⟨cs, rfl, hsz⟩ := okWide_struct Tryd.underlying33 hv
  have hC : Tryd.prog.cellsOf 33 = 6 := by kernel_rfl
  obtain ⟨v0, v1, v2, v3, v4, v5, rfl⟩ := array6 (hsz.trans hC)
  obtain ⟨fuel, hf⟩ := h
  obtain ⟨xs, k, hk, hxy, _, hxl, hf⟩ := DataW.trod_struct Tryd.underlying33 hf
  match xs, hxl with
  | [y0, y1, y2, y3, y4, y5], _ =>
    have g0 := hf 0 _ rfl
    have g1 := hf 1 _ rfl
    have g2 := hf 2 _ rfl
    have g3 := hf 3 _ rfl
    have g4 := hf 4 _ rfl
    have g5 := hf 5 _ rfl
    have cs9 : Tryd.prog.cellsOf 9 = 1 := by kernel_rfl
    have cs2 : Tryd.prog.cellsOf 2 = 1 := by kernel_rfl
    simp [cs9, cs2, Value.cells] at g0 g1 g2 g3 g4 g5
    obtain ⟨z0, e0, _, _⟩ := DataW.trod_int Tryd.underlying2 g0
    obtain ⟨z1, e1, _, _⟩ := DataW.trod_int Tryd.underlying2 g1
    obtain ⟨z2, e2, _, _⟩ := DataW.trod_int Tryd.underlying2 g2
    obtain ⟨z3, e3, _, _⟩ := DataW.trod_int Tryd.underlying2 g3
    obtain ⟨z4, e4, _, s4⟩ := DataW.trod_string Tryd.underlying9 g4
    obtain ⟨z5, e5, _, s5⟩ := DataW.trod_string Tryd.underlying9 g5
    simp at e0 e1 e2 e3 e4 e5
    subst e0 e1 e2 e3 e4 e5
    have t4 : z4.size ≤ 9223372036854775807 := s4
    have t5 : z5.size ≤ 9223372036854775807 := s5
    exact ⟨z0, z1, z2, z3, z4, z5, rfl, by omega, by omega⟩
end Go.Proofs.YtfckgpmphcadeaaDoor.came
