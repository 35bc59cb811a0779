/-
  What comes in: a slice of Blobs, as the reading of an argument gives it. No condition.
-/
import Derived.Test.YtlmhdebjmkcanaaDoorZCellA
import Derived.Deep.SlicePairs
import Derived.ProofKit
import Derived.ChangeOld
namespace Go.Proofs.YtlmhdebjmkcanaaDoor.came
open Go.ChangeShapes Go.WideShapes Go.ChangeAt Go.RowKit Go.Joins
open Go.Proofs.YtlmhdebjmkcanaaDoor.row (bl Rd)
set_option linter.unusedVariables false

set_option maxRecDepth 100000 in
theorem blobs_came {H : Type} {enc : TypeId × Value → H} {W : World} {base b0 : Nat} {sp : Nat → Bool} {hd : Bool} {v : Value} {d : DataW H} {p : List MemPlace} (hv : Value.okWide Tryd.prog W .any b0 47 v) (h : DataW.Trod enc Tryd.prog W base sp hd 47 v d p) :
    ∃ (a : Option Addr) (c : Nat) (l : List (Int × ByteArray)), v = .slice a l.length c ∧ Rd W a (bl l) ∧ (l.length : Int) ≤ 9223372036854775807 ∧ ∀ b ∈ l, (b.2.size : Int) ≤ 9223372036854775807 := by
  obtain ⟨a0, len0, cap0, rfl⟩ := okWide_slice Tryd.underlying47 hv
  obtain ⟨fuel, hf⟩ := h
  rcases Deep.open_slice_pairs Tryd.underlying47 Tryd.underlying43 (by kernel_rfl) rfl rfl (by kernel_rfl) (by kernel_rfl) hf with ⟨hcs, _⟩ | ⟨x, len, cap, m, n, V0, V1, D0, D1, P0, P1, hcs, _, hl, hm, hmm, _, hcell⟩
  · simp [Value.cells] at hcs
    obtain ⟨rfl, rfl, rfl⟩ := hcs
    exact ⟨none, 0, [], rfl, Rd.nil _ _, by simp, by simp⟩
  · simp [Value.cells] at hcs
    obtain ⟨rfl, rfl, rfl⟩ := hcs
    have hlm : len0 ≤ m := by rw [hmm]; split <;> omega
    obtain ⟨b, off, spot⟩ := x
    have each : ∀ i, i < len0 → ∃ q : Int × ByteArray, W.cell? ((⟨b, off, spot⟩ : Addr).add (i * 2)) = some (.int .i64 q.1) ∧ W.cell? ((⟨b, off, spot⟩ : Addr).add (i * 2 + 1)) = some (.string q.2) ∧ (q.2.size : Int) ≤ 9223372036854775807 := by
      intro i hi
      obtain ⟨k0, k1, t0, t1⟩ := hcell i (by omega)
      obtain ⟨z, e0, _, _⟩ := DataW.trod_int Tryd.underlying2 t0
      obtain ⟨y, e1, _, hs⟩ := DataW.trod_string Tryd.underlying9 t1
      simp at e0 e1
      rw [e0] at k0
      rw [e1] at k1
      have : y.size ≤ 9223372036854775807 := hs
      exact ⟨(z, y), k0, k1, by simp only; omega⟩
    obtain ⟨q, hq⟩ := Deep.choose_lt each
    refine ⟨some ⟨b, off, spot⟩, cap0, (List.range len0).map q, by simp, ?_, by simp; have : cap0 ≤ 9223372036854775807 := hm; omega, ?_⟩
    · intro i u hu
      have hi : i / 2 < len0 := by
        have h1 := (List.getElem?_eq_some_iff.1 hu).1
        rw [row.bl_len] at h1
        simp at h1
        omega
      have hr : ((List.range len0).map q)[i / 2]? = some (q (i / 2)) := by simp [hi]
      obtain ⟨b0', b1'⟩ := row.bl_at _ _ _ hr
      obtain ⟨k0, k1, _⟩ := hq (i / 2) hi
      have hspot : spot = none := by
        have h0 := (hq 0 (by omega)).1
        simpa [Addr.add] using World.cell?_spot h0
      subst hspot
      rw [Addr.add_lit] at k0 k1
      rcases Nat.mod_two_eq_zero_or_one i with h | h
      · have e : i / 2 * 2 = i := by omega
        rw [e] at b0' k0
        rw [b0'] at hu
        obtain rfl := Option.some.inj hu
        exact ⟨b, off, rfl, k0⟩
      · have e : i / 2 * 2 + 1 = i := by omega
        rw [e] at b1' k1
        rw [b1'] at hu
        obtain rfl := Option.some.inj hu
        exact ⟨b, off, rfl, k1⟩
    · intro x hx
      obtain ⟨i, hi, rfl⟩ := List.mem_map.1 hx
      exact (hq i (List.mem_range.1 hi)).2.2
end Go.Proofs.YtlmhdebjmkcanaaDoor.came
