/-
  What comes in: a slice of Files, as the reading of an argument gives it. No condition.
-/
import Derived.Test.YtmmmadehifajlaaDoorRwFile
import Derived.Deep.SlicePairs
import Derived.ProofKit
import Derived.ChangeOld
namespace Go.Proofs.YtmmmadehifajlaaDoor.came
open Go.ChangeShapes Go.WideShapes Go.ChangeAt Go.RowKit Go.Joins
open Go.Proofs.YtmmmadehifajlaaDoor.row (Rd)
open Go.Proofs.YtmmmadehifajlaaDoor.rwFile (cs)
set_option linter.unusedVariables false
set_option linter.unusedSimpArgs false

set_option maxRecDepth 100000 in
theorem files_cells {H : Type} {enc : TypeId × Value → H} {W : World} {base : Nat} {sp : Nat → Bool} {hd : Bool} {fuel : Nat} {v : Value} {x : DataW H × List MemPlace} (hf : DataW.trod enc Tryd.prog W base sp hd fuel 22 [v] = some x) :
    ∃ (a : Option Addr) (c : Nat) (l : List (ByteArray × ByteArray)), v = .slice a l.length c ∧ Rd W a (cs l) ∧ (l.length : Int) ≤ 9223372036854775807 ∧ ∀ b ∈ l, (b.1.size : Int) ≤ 9223372036854775807 ∧ (b.2.size : Int) ≤ 9223372036854775807 := by
  have ce : Tryd.prog.cellsOf 31 = 2 := by kernel_rfl
  rcases Deep.open_slice Tryd.underlying22 hf with ⟨hcs, _⟩ | ⟨x, len, cap, m, n, D, Pl, hcs, _, hl, hm, hmm, _, hx⟩
  · simp at hcs
    subst hcs
    exact ⟨none, 0, [], rfl, Rd.nil _ _, by simp, by simp⟩
  · simp at hcs
    subst hcs
    have hlm : len ≤ m := by rw [hmm]; split <;> omega
    obtain ⟨b, off, spot⟩ := x
    have each : ∀ i, i < len → ∃ q : ByteArray × ByteArray, W.cell? ((⟨b, off, spot⟩ : Addr).add (i * 2)) = some (.string q.1) ∧ W.cell? ((⟨b, off, spot⟩ : Addr).add (i * 2 + 1)) = some (.string q.2) ∧ (q.1.size : Int) ≤ 9223372036854775807 ∧ (q.2.size : Int) ≤ 9223372036854775807 := by
      intro i hi
      obtain ⟨cs', h1, h2⟩ := hx i (by omega)
      rw [ce] at h1
      obtain ⟨_, hlen, hcell⟩ := World.cells?_some h1
      obtain ⟨xs, k, hk, hxy, _, hxl, hf⟩ := DataW.trod_struct Tryd.underlying31 h2
      match xs, hxl, cs', hlen with
      | [y0, y1], _, [v0, v1], _ =>
        have g0 := hf 0 _ rfl
        have g1 := hf 1 _ rfl
        have cs9 : Tryd.prog.cellsOf 9 = 1 := by kernel_rfl
        have cs2 : Tryd.prog.cellsOf 2 = 1 := by kernel_rfl
        simp [cs9, cs2] at g0 g1
        obtain ⟨z0, e0, _, s0⟩ := DataW.trod_string Tryd.underlying9 g0
        obtain ⟨z1, e1, _, s1⟩ := DataW.trod_string Tryd.underlying9 g1
        simp at e0 e1
        subst e0 e1
        have c0 := hcell 0 (by omega)
        have c1 := hcell 1 (by omega)
        rw [Deep.add_add] at c0 c1
        have t0 : z0.size ≤ 9223372036854775807 := s0
        have t1 : z1.size ≤ 9223372036854775807 := s1
        exact ⟨(z0, z1), by simpa using c0, by simpa using c1, by simp only; omega, by simp only; omega⟩
    obtain ⟨q, hq⟩ := Deep.choose_lt each
    refine ⟨some ⟨b, off, spot⟩, cap, (List.range len).map q, by simp, ?_, by simp; have : cap ≤ 9223372036854775807 := hm; omega, ?_⟩
    · intro i u hu
      have hi : i / 2 < len := by
        have h1 := (List.getElem?_eq_some_iff.1 hu).1
        rw [rwFile.cs_len] at h1
        simp at h1
        omega
      have hr : ((List.range len).map q)[i / 2]? = some (q (i / 2)) := by simp [hi]
      obtain ⟨b0', b1'⟩ := rwFile.cs_at _ _ _ hr
      obtain ⟨k0, k1, _⟩ := hq (i / 2) hi
      have hspot : spot = none := by
        have h0 := (hq 0 (by omega)).1
        simpa [Addr.add] using World.cell?_spot h0
      subst hspot
      rw [Addr.add_lit] at k0 k1
      rcases (show i % 2 = 0 ∨ i % 2 = 1 by omega) with h | h
      · have e : i / 2 * 2 = i := by omega
        rw [e] at b0' k0
        rw [b0'] at hu
        obtain rfl := Option.some.inj hu
        exact ⟨b, off, rfl, k0⟩
      · have e : i / 2 * 2 + 1 = i := by omega
        rw [e] at b1' k1
        rw [b1'] at hu
        obtain rfl := Option.some.inj hu
        exact ⟨b, off, rfl, k1⟩
    · intro x hx
      obtain ⟨i, hi, rfl⟩ := List.mem_map.1 hx
      exact (hq i (List.mem_range.1 hi)).2.2

set_option maxRecDepth 100000 in
theorem files_came {H : Type} {enc : TypeId × Value → H} {W : World} {base b0 : Nat} {sp : Nat → Bool} {hd : Bool} {v : Value} {d : DataW H} {p : List MemPlace} (hv : Value.okWide Tryd.prog W .any b0 22 v) (h : DataW.Trod enc Tryd.prog W base sp hd 22 v d p) :
    ∃ (a : Option Addr) (c : Nat) (l : List (ByteArray × ByteArray)), v = .slice a l.length c ∧ Rd W a (cs l) ∧ (l.length : Int) ≤ 9223372036854775807 ∧ ∀ b ∈ l, (b.1.size : Int) ≤ 9223372036854775807 ∧ (b.2.size : Int) ≤ 9223372036854775807 := by
  obtain ⟨a0, len0, cap0, rfl⟩ := okWide_slice Tryd.underlying22 hv
  obtain ⟨fuel, hf⟩ := h
  exact files_cells hf
end Go.Proofs.YtmmmadehifajlaaDoor.came
