/-
  What comes in: a slice of int64, and a Hash, as the reading of an argument gives them. No condition.
-/
import Derived.Test.YtkkndkikfphnbaaDoorHashes
import Derived.ChangeOld
namespace Go.Proofs.YtkkndkikfphnbaaDoor.came
open Go.ChangeShapes Go.WideShapes Go.ChangeAt Go.RowKit Go.Joins
open Go.Proofs.YtkkndkikfphnbaaDoor.base Go.Proofs.YtkkndkikfphnbaaDoor.ints
set_option linter.unusedVariables false

theorem cells1 : Tryd.prog.cellsOf 2 = 1 := by kernel_rfl

theorem ints_cells {H : Type} {enc : TypeId × Value → H} {W : World} {base : Nat} {sp : Nat → Bool} {hd : Bool} {fuel : Nat} {v : Value} {x : DataW H × List MemPlace} (hf : DataW.trod enc Tryd.prog W base sp hd fuel 25 [v] = some x) :
    ∃ (a : Option Addr) (cap : Nat) (xs : List Int), v = .slice a xs.length cap ∧ Rd W a xs ∧ (xs.length : Int) ≤ 9223372036854775807 := by
  rcases open_ints Tryd.underlying25 Tryd.underlying2 cells1 hf with ⟨hcs, _⟩ | ⟨x, l, c, zs, hcs, _, hl, hm, hz, _, hcell, hwz⟩
  · simp at hcs
    exact ⟨none, 0, [], hcs, Rd.nil W, by simp⟩
  · simp at hcs
    have hz' : l ≤ zs.length := by rw [hz]; split <;> omega
    have e : (zs.take l).length = l := by rw [List.length_take]; omega
    refine ⟨_, c, zs.take l, by rw [e]; exact hcs, ?_, by rw [e]; have : c ≤ 9223372036854775807 := hm; omega⟩
    intro i z hi
    have hil : i < l := by
      have := (List.getElem?_eq_some_iff.1 hi).1
      omega
    rw [List.getElem?_take_of_lt hil] at hi
    obtain ⟨b, off, spot⟩ := x
    have hspot : spot = none := by
      have h0 := hcell 0 (by omega)
      simpa [Addr.add] using World.cell?_spot h0
    subst hspot
    have hc := hcell i (by omega)
    rw [Addr.add_lit] at hc
    refine ⟨b, off, rfl, ?_⟩
    rw [hc]
    simp [List.getD, hi]

theorem ints_came {H : Type} {enc : TypeId × Value → H} {W : World} {base b0 : Nat} {sp : Nat → Bool} {hd : Bool} {v : Value} {d : DataW H} {p : List MemPlace} (hv : Value.okWide Tryd.prog W .any b0 25 v) (h : DataW.Trod enc Tryd.prog W base sp hd 25 v d p) :
    ∃ (a : Option Addr) (cap : Nat) (xs : List Int), v = .slice a xs.length cap ∧ Rd W a xs ∧ (xs.length : Int) ≤ 9223372036854775807 := by
  obtain ⟨a0, len0, cap0, rfl⟩ := okWide_slice Tryd.underlying25 hv
  obtain ⟨fuel, hf⟩ := h
  exact ints_cells hf

theorem hash_came {H : Type} {enc : TypeId × Value → H} {W : World} {base b0 : Nat} {sp : Nat → Bool} {hd : Bool} {v : Value} {d : DataW H} {p : List MemPlace} (hv : Value.okWide Tryd.prog W .any b0 35 v) (h : DataW.Trod enc Tryd.prog W base sp hd 35 v d p) :
    ∃ (a : Option Addr) (cap : Nat) (xs : List Int) (r : ByteArray) (size : Int), v = sha.hash a xs.length cap r size ∧ Rd W a xs ∧ (xs.length : Int) ≤ 9223372036854775807 ∧ (r.size : Int) ≤ 9223372036854775807 ∧ -9223372036854775808 ≤ size ∧ size ≤ 9223372036854775807 := by
  obtain ⟨v0, v1, v2, y0, y1, y2, n, rfl, _, _, h0, h1, h2⟩ := open_agg3 Tryd.underlying35 (by kernel_rfl) (by kernel_rfl) hv h
  obtain ⟨a, cap, xs, rfl, hr, hl⟩ := ints_cells h0
  obtain ⟨s, e1, _, hs⟩ := DataW.trod_string Tryd.underlying9 h1
  obtain ⟨size, e2, _, hw⟩ := DataW.trod_int Tryd.underlying2 h2
  simp at e1 e2
  subst e1 e2
  have hb : -9223372036854775808 ≤ size ∧ size ≤ 9223372036854775807 := by
    simp [Lit.wf, IntKind.min, IntKind.max, IntKind.bits, IntKind.signed] at hw
    omega
  refine ⟨a, cap, xs, s, size, rfl, hr, hl, ?_, hb.1, hb.2⟩
  have : s.size ≤ 9223372036854775807 := hs
  omega
end Go.Proofs.YtkkndkikfphnbaaDoor.came
