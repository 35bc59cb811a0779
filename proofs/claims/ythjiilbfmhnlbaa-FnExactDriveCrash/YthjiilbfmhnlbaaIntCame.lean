/-
  What comes in: a slice of int64, as the reading of an argument gives it. No condition.
-/
import Derived.Test.YthjiilbfmhnlbaaIntM
import Derived.ProofKit
import Derived.ChangeOld
namespace Go.Proofs.Ythjiilbfmhnlbaa.came
open Go.ChangeShapes Go.WideShapes Go.ChangeAt Go.RowKit Go.Joins
open Go.Proofs.Ythjiilbfmhnlbaa.row (Rd)
open Go.Proofs.Ythjiilbfmhnlbaa.ints (ix)
set_option linter.unusedVariables false

theorem cells1 : Try.prog.cellsOf 2 = 1 := by kernel_rfl
set_option maxRecDepth 100000 in
theorem ints_came {H : Type} {enc : TypeId × Value → H} {W : World} {base b0 : Nat} {sp : Nat → Bool} {hd : Bool} {v : Value} {d : DataW H} {p : List MemPlace} (hv : Value.okWide Try.prog W .any b0 34 v) (h : DataW.Trod enc Try.prog W base sp hd 34 v d p) :
    ∃ (a : Option Addr) (cap : Nat) (xs : List Int), v = .slice a xs.length cap ∧ Rd W a (ix xs) ∧ (xs.length : Int) ≤ 9223372036854775807 := by
  obtain ⟨a0, len0, cap0, rfl⟩ := okWide_slice Try.underlying34 hv
  obtain ⟨fuel, hf⟩ := h
  rcases open_ints Try.underlying34 Try.underlying2 cells1 hf with ⟨hcs, _⟩ | ⟨x, l, c, zs, hcs, _, hl, hm, hz, _, hcell, hwz⟩
  · simp [Value.cells] at hcs
    obtain ⟨rfl, rfl, rfl⟩ := hcs
    exact ⟨none, 0, [], rfl, Rd.nil W _, by simp⟩
  · simp [Value.cells] at hcs
    obtain ⟨rfl, rfl, rfl⟩ := hcs
    have hz' : len0 ≤ zs.length := by rw [hz]; split <;> omega
    have e : (zs.take len0).length = len0 := by rw [List.length_take]; omega
    refine ⟨_, cap0, zs.take len0, by rw [e], ?_, by rw [e]; have : cap0 ≤ 9223372036854775807 := hm; omega⟩
    intro i u hi
    unfold ix at hi
    rw [List.getElem?_map] at hi
    obtain ⟨z, hz2, rfl⟩ := Option.map_eq_some_iff.1 hi
    have hil : i < len0 := by
      have := (List.getElem?_eq_some_iff.1 hz2).1
      omega
    rw [List.getElem?_take_of_lt hil] at hz2
    obtain ⟨b, off, spot⟩ := x
    have hspot : spot = none := by
      have h0 := hcell 0 (by omega)
      simpa [Addr.add] using World.cell?_spot h0
    subst hspot
    have hc := hcell i (by omega)
    rw [Addr.add_lit] at hc
    refine ⟨b, off, rfl, ?_⟩
    rw [hc]
    simp [List.getD, hz2]
end Go.Proofs.Ythjiilbfmhnlbaa.came
