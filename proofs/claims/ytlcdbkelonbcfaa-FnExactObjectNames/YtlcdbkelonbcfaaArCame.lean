/-
  What comes in: a slice of Drives, an Array, as the reading of an argument gives them. No condition.
-/
import Derived.Test.YtlcdbkelonbcfaaDrvCame
import Derived.Test.YtlcdbkelonbcfaaArL
namespace Go.Proofs.Ytlcdbkelonbcfaa.came
open Go.ChangeShapes Go.WideShapes Go.ChangeAt Go.RowKit Go.Joins
open Go.Proofs.Ytlcdbkelonbcfaa.row (Rd)
open Go.Proofs.Ytlcdbkelonbcfaa.rwStored (cs)
open Go.Proofs.Ytlcdbkelonbcfaa.arr (Dv dcs dcs_at dcs_len RdA Big)
set_option linter.unusedVariables false

set_option maxRecDepth 100000 in
theorem drives_cells {H : Type} {enc : TypeId × Value → H} {W : World} {base : Nat} {sp : Nat → Bool} {hd : Bool} {fuel : Nat} {v : Value} {x : DataW H × List MemPlace} (hf : DataW.trod enc Try.prog W base sp hd fuel 22 [v] = some x) :
    ∃ (a : Option Addr) (c : Nat) (ds : List Dv), v = .slice a ds.length c ∧ RdA W a ds ∧ (ds.length : Int) ≤ 9223372036854775807 ∧ Big ds := by
  have ce : Try.prog.cellsOf 87 = 2 := by kernel_rfl
  rcases Deep.open_slice Try.underlying22 hf with ⟨hcs, _⟩ | ⟨x, len, cap, m, n, D, Pl, hcs, _, hl, hm, hmm, _, hx⟩
  · simp at hcs
    subst hcs
    exact ⟨none, 0, [], rfl, ⟨Rd.nil _ _, by simp⟩, by simp, by intro d hd; simp at hd⟩
  · simp at hcs
    subst hcs
    have hlm : len ≤ m := by rw [hmm]; split <;> omega
    obtain ⟨b, off, spot⟩ := x
    have each : ∀ i, i < len → ∃ q : Dv, W.cell? ((⟨b, off, spot⟩ : Addr).add (i * 2)) = some (.slice q.1 q.2.2.1.length q.2.1) ∧ W.cell? ((⟨b, off, spot⟩ : Addr).add (i * 2 + 1)) = some (.int .i64 q.2.2.2) ∧ Rd W q.1 (cs q.2.2.1) ∧ (q.2.2.1.length : Int) ≤ 9223372036854775807 ∧ ∀ b ∈ q.2.2.1, (b.1.size : Int) ≤ 9223372036854775807 ∧ (b.2.1.size : Int) ≤ 9223372036854775807 := by
      intro i hi
      obtain ⟨cs', h1, h2⟩ := hx i (by omega)
      rw [ce] at h1
      obtain ⟨_, hlen, hcell⟩ := World.cells?_some h1
      obtain ⟨xs, k, hk, hxy, _, hxl, hf⟩ := DataW.trod_struct Try.underlying87 h2
      match xs, hxl, cs', hlen with
      | [y0, y1], _, [v0, v1], _ =>
        have g0 := hf 0 _ rfl
        have g1 := hf 1 _ rfl
        have cs9 : Try.prog.cellsOf 85 = 1 := by kernel_rfl
        have cs2 : Try.prog.cellsOf 2 = 1 := by kernel_rfl
        simp [cs9, cs2] at g0 g1
        obtain ⟨fa, fc, fl, rfl, hr, hfl, hfs⟩ := files_cells g0
        obtain ⟨z1, e1, _, _⟩ := DataW.trod_int Try.underlying2 g1
        simp at e1
        subst e1
        have c0 := hcell 0 (by omega)
        have c1 := hcell 1 (by omega)
        rw [Deep.add_add] at c0 c1
        exact ⟨(fa, fc, fl, z1), by simpa using c0, by simpa using c1, hr, hfl, hfs⟩
    obtain ⟨q, hq⟩ := Deep.choose_lt each
    refine ⟨some ⟨b, off, spot⟩, cap, (List.range len).map q, by simp, ⟨?_, ?_⟩, by simp; have : cap ≤ 9223372036854775807 := hm; omega, ?_⟩
    · intro i u hu
      have hi : i / 2 < len := by
        have h1 := (List.getElem?_eq_some_iff.1 hu).1
        rw [dcs_len] at h1
        simp at h1
        omega
      have hr : ((List.range len).map q)[i / 2]? = some (q (i / 2)) := by simp [hi]
      obtain ⟨b0', b1'⟩ := dcs_at _ _ _ hr
      obtain ⟨k0, k1, _⟩ := hq (i / 2) hi
      have hspot : spot = none := by
        have h0 := (hq 0 (by omega)).1
        simpa [Addr.add] using World.cell?_spot h0
      subst hspot
      rw [Addr.add_lit] at k0 k1
      have h3 : i % 2 = 0 ∨ i % 2 = 1 := by omega
      rcases h3 with h | h
      · have e : i / 2 * 2 = i := by omega
        rw [e] at b0' k0
        rw [b0'] at hu
        obtain rfl := Option.some.inj hu
        exact ⟨b, off, rfl, k0⟩
      · have e : i / 2 * 2 + 1 = i := by omega
        rw [e] at b1' k1
        rw [b1'] at hu
        obtain rfl := Option.some.inj hu
        exact ⟨b, off, rfl, k1⟩
    · intro d hd
      obtain ⟨i, hi, rfl⟩ := List.mem_map.1 hd
      exact (hq i (List.mem_range.1 hi)).2.2.1
    · intro d hd
      obtain ⟨i, hi, rfl⟩ := List.mem_map.1 hd
      exact (hq i (List.mem_range.1 hi)).2.2.2
set_option maxRecDepth 100000 in
theorem array_came {H : Type} {enc : TypeId × Value → H} {W : World} {base b0 : Nat} {sp : Nat → Bool} {hd : Bool} {v : Value} {d : DataW H} {p : List MemPlace} (hv : Value.okWide Try.prog W .any b0 24 v) (h : DataW.Trod enc Try.prog W base sp hd 24 v d p) :
    ∃ (k m : Int) (a : Option Addr) (c : Nat) (ds : List Dv), v = .agg #[.int .i64 k, .int .i64 m, .slice a ds.length c] ∧ RdA W a ds ∧ (ds.length : Int) ≤ 9223372036854775807 ∧ Big ds := by
  obtain ⟨v0, v1, v2, y0, y1, y2, n, rfl, _, _, h0, h1, h2⟩ := open_agg3 Try.underlying24 (by kernel_rfl) (by kernel_rfl) hv h
  obtain ⟨k, e0, _, _⟩ := DataW.trod_int Try.underlying2 h0
  obtain ⟨m, e1, _, _⟩ := DataW.trod_int Try.underlying2 h1
  simp at e0 e1
  subst e0 e1
  obtain ⟨a, c, ds, rfl, hr, hl, hs⟩ := drives_cells h2
  exact ⟨k, m, a, c, ds, rfl, hr, hl, hs⟩
end Go.Proofs.Ytlcdbkelonbcfaa.came
