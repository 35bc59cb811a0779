/-
  What comes in: a slice of Storeds, a Drive, an Op, as the reading of an argument gives them. No condition.
-/
import Derived.Test.YtlcdbkelonbcfaaRwStored
import Derived.Deep.SlicePairs
import Derived.ProofKit
import Derived.ChangeOld
namespace Go.Proofs.Ytlcdbkelonbcfaa.came
open Go.ChangeShapes Go.WideShapes Go.ChangeAt Go.RowKit Go.Joins
open Go.Proofs.Ytlcdbkelonbcfaa.row (Rd)
open Go.Proofs.Ytlcdbkelonbcfaa.rwStored (cs)
set_option linter.unusedVariables false

set_option maxRecDepth 100000 in
theorem files_cells {H : Type} {enc : TypeId × Value → H} {W : World} {base : Nat} {sp : Nat → Bool} {hd : Bool} {fuel : Nat} {v : Value} {x : DataW H × List MemPlace} (hf : DataW.trod enc Try.prog W base sp hd fuel 85 [v] = some x) :
    ∃ (a : Option Addr) (c : Nat) (l : List (ByteArray × ByteArray × Int)), v = .slice a l.length c ∧ Rd W a (cs l) ∧ (l.length : Int) ≤ 9223372036854775807 ∧ ∀ b ∈ l, (b.1.size : Int) ≤ 9223372036854775807 ∧ (b.2.1.size : Int) ≤ 9223372036854775807 := by
  have ce : Try.prog.cellsOf 140 = 3 := by kernel_rfl
  rcases Deep.open_slice Try.underlying85 hf with ⟨hcs, _⟩ | ⟨x, len, cap, m, n, D, Pl, hcs, _, hl, hm, hmm, _, hx⟩
  · simp at hcs
    subst hcs
    exact ⟨none, 0, [], rfl, Rd.nil _ _, by simp, by simp⟩
  · simp at hcs
    subst hcs
    have hlm : len ≤ m := by rw [hmm]; split <;> omega
    obtain ⟨b, off, spot⟩ := x
    have each : ∀ i, i < len → ∃ q : ByteArray × ByteArray × Int, W.cell? ((⟨b, off, spot⟩ : Addr).add (i * 3)) = some (.string q.1) ∧ W.cell? ((⟨b, off, spot⟩ : Addr).add (i * 3 + 1)) = some (.string q.2.1) ∧ W.cell? ((⟨b, off, spot⟩ : Addr).add (i * 3 + 2)) = some (.int .i64 q.2.2) ∧ (q.1.size : Int) ≤ 9223372036854775807 ∧ (q.2.1.size : Int) ≤ 9223372036854775807 := by
      intro i hi
      obtain ⟨cs', h1, h2⟩ := hx i (by omega)
      rw [ce] at h1
      obtain ⟨_, hlen, hcell⟩ := World.cells?_some h1
      obtain ⟨xs, k, hk, hxy, _, hxl, hf⟩ := DataW.trod_struct Try.underlying140 h2
      match xs, hxl, cs', hlen with
      | [y0, y1, y2], _, [v0, v1, v2], _ =>
        have g0 := hf 0 _ rfl
        have g1 := hf 1 _ rfl
        have g2 := hf 2 _ rfl
        have cs9 : Try.prog.cellsOf 9 = 1 := by kernel_rfl
        have cs2 : Try.prog.cellsOf 2 = 1 := by kernel_rfl
        simp [cs9, cs2] at g0 g1 g2
        obtain ⟨z0, e0, _, s0⟩ := DataW.trod_string Try.underlying9 g0
        obtain ⟨z1, e1, _, s1⟩ := DataW.trod_string Try.underlying9 g1
        obtain ⟨z2, e2, _, _⟩ := DataW.trod_int Try.underlying2 g2
        simp at e0 e1 e2
        subst e0 e1 e2
        have c0 := hcell 0 (by omega)
        have c1 := hcell 1 (by omega)
        have c2 := hcell 2 (by omega)
        rw [Deep.add_add] at c0 c1 c2
        have t0 : z0.size ≤ 9223372036854775807 := s0
        have t1 : z1.size ≤ 9223372036854775807 := s1
        exact ⟨(z0, z1, z2), by simpa using c0, by simpa using c1, by simpa using c2, by simp only; omega, by simp only; omega⟩
    obtain ⟨q, hq⟩ := Deep.choose_lt each
    refine ⟨some ⟨b, off, spot⟩, cap, (List.range len).map q, by simp, ?_, by simp; have : cap ≤ 9223372036854775807 := hm; omega, ?_⟩
    · intro i u hu
      have hi : i / 3 < len := by
        have h1 := (List.getElem?_eq_some_iff.1 hu).1
        rw [rwStored.cs_len] at h1
        simp at h1
        omega
      have hr : ((List.range len).map q)[i / 3]? = some (q (i / 3)) := by simp [hi]
      obtain ⟨b0', b1', b2'⟩ := rwStored.cs_at _ _ _ hr
      obtain ⟨k0, k1, k2, _⟩ := hq (i / 3) hi
      have hspot : spot = none := by
        have h0 := (hq 0 (by omega)).1
        simpa [Addr.add] using World.cell?_spot h0
      subst hspot
      rw [Addr.add_lit] at k0 k1 k2
      have h3 : i % 3 = 0 ∨ i % 3 = 1 ∨ i % 3 = 2 := by omega
      rcases h3 with h | h | h
      · have e : i / 3 * 3 = i := by omega
        rw [e] at b0' k0
        rw [b0'] at hu
        obtain rfl := Option.some.inj hu
        exact ⟨b, off, rfl, k0⟩
      · have e : i / 3 * 3 + 1 = i := by omega
        rw [e] at b1' k1
        rw [b1'] at hu
        obtain rfl := Option.some.inj hu
        exact ⟨b, off, rfl, k1⟩
      · have e : i / 3 * 3 + 2 = i := by omega
        rw [e] at b2' k2
        rw [b2'] at hu
        obtain rfl := Option.some.inj hu
        exact ⟨b, off, rfl, k2⟩
    · intro x hx
      obtain ⟨i, hi, rfl⟩ := List.mem_map.1 hx
      exact (hq i (List.mem_range.1 hi)).2.2.2

set_option maxRecDepth 100000 in
theorem drive_came {H : Type} {enc : TypeId × Value → H} {W : World} {base b0 : Nat} {sp : Nat → Bool} {hd : Bool} {v : Value} {d : DataW H} {p : List MemPlace} (hv : Value.okWide Try.prog W .any b0 87 v) (h : DataW.Trod enc Try.prog W base sp hd 87 v d p) :
    ∃ (a : Option Addr) (c : Nat) (l : List (ByteArray × ByteArray × Int)) (r : Int), v = .agg #[.slice a l.length c, .int .i64 r] ∧ Rd W a (cs l) ∧ (l.length : Int) ≤ 9223372036854775807 ∧ ∀ b ∈ l, (b.1.size : Int) ≤ 9223372036854775807 ∧ (b.2.1.size : Int) ≤ 9223372036854775807 := by
  obtain ⟨v0, v1, y0, y1, n, rfl, _, _, h0, h1⟩ := open_agg2 Try.underlying87 (by kernel_rfl) (by kernel_rfl) hv h
  obtain ⟨a, c, l, rfl, hr, hl, hs⟩ := files_cells h0
  obtain ⟨r, e1, _, _⟩ := DataW.trod_int Try.underlying2 h1
  simp at e1
  subst e1
  exact ⟨a, c, l, r, rfl, hr, hl, hs⟩

end Go.Proofs.Ytlcdbkelonbcfaa.came
