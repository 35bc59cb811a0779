/-
  What comes in: a slice of bytes, as the reading of an argument gives it. No condition.
-/
import Derived.Test.YtmoojhnblakdhaaGreatZDrwA
import Derived.ProofKit
import Derived.ChangeOld
namespace Go.Proofs.YtmoojhnblakdhaaGreat.came
open Go.ChangeShapes Go.WideShapes Go.ChangeAt Go.RowKit
open Go.Proofs.YtmoojhnblakdhaaGreat.draw (Row)
set_option linter.unusedVariables false

theorem cellsB : Tryz.prog.cellsOf 5 = 1 := by kernel_rfl
set_option maxRecDepth 100000 in
theorem bytes_came {H : Type} {enc : TypeId × Value → H} {W : World} {base b0 : Nat} {sp : Nat → Bool} {hd : Bool} {v : Value} {d : DataW H} {p : List MemPlace} (hv : Value.okWide Tryz.prog W .any b0 22 v) (h : DataW.Trod enc Tryz.prog W base sp hd 22 v d p) :
    ∃ (a : Option Addr) (len cap : Nat), v = .slice a len cap ∧ Row W a len ∧ (len : Int) ≤ 9223372036854775807 := by
  obtain ⟨a0, len0, cap0, rfl⟩ := okWide_slice Tryz.underlying22 hv
  obtain ⟨fuel, hf⟩ := h
  rcases open_ints Tryz.underlying22 Tryz.underlying5 cellsB hf with ⟨hcs, _⟩ | ⟨x, l, c, zs, hcs, _, hl, hm, hz, _, hcell, hwz⟩
  · simp [Value.cells] at hcs
    obtain ⟨rfl, rfl, rfl⟩ := hcs
    exact ⟨none, 0, 0, rfl, fun i hi => by omega, by simp⟩
  · simp [Value.cells] at hcs
    obtain ⟨rfl, rfl, rfl⟩ := hcs
    have hz' : len0 ≤ zs.length := by rw [hz]; split <;> omega
    refine ⟨_, _, _, rfl, fun i hi => ?_, by have : cap0 ≤ 9223372036854775807 := hm; omega⟩
    obtain ⟨b, off, spot⟩ := x
    have hc := hcell i (by omega)
    have hspot : spot = none := by
      have h0 := hcell 0 (by omega)
      simpa [Addr.add] using World.cell?_spot h0
    subst hspot
    have hw : (Lit.int .u8 (zs.getD i 0)).wf = true := hwz _ (by
      have hi' : i < zs.length := by omega
      simp [List.getD, List.getElem?_eq_getElem hi'])
    have hx : 0 ≤ zs.getD i 0 ∧ zs.getD i 0 ≤ 255 := by simpa [Lit.wf, IntKind.min, IntKind.max, IntKind.signed, IntKind.bits] using hw
    refine ⟨b, off, zs.getD i 0, rfl, ?_, hx.1, hx.2⟩
    rw [Addr.add_lit] at hc
    exact hc
end Go.Proofs.YtmoojhnblakdhaaGreat.came
