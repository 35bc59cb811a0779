/-
  What comes in: a slice of Nodes, as the reading of an argument gives it. No condition.
-/
import Derived.Test.YtmmmadehifajlaaNodL
import Derived.Deep.SlicePairs
import Derived.ProofKit
import Derived.ChangeOld
namespace Go.Proofs.Ytmmmadehifajlaa.came
open Go.ChangeShapes Go.WideShapes Go.ChangeAt Go.RowKit Go.Joins
open Go.Proofs.Ytmmmadehifajlaa.row (Rd)
open Go.Proofs.Ytmmmadehifajlaa.strs (tx strV)
open Go.Proofs.Ytmmmadehifajlaa.nod (Nd Tx ncs ncs_at ncs_len RdN Big)
set_option linter.unusedVariables false

set_option maxRecDepth 100000 in
theorem texts_cells {H : Type} {enc : TypeId × Value → H} {W : World} {base : Nat} {sp : Nat → Bool} {hd : Bool} {fuel : Nat} {v : Value} {x : DataW H × List MemPlace} (hf : DataW.trod enc Try.prog W base sp hd fuel 57 [v] = some x) :
    ∃ (a : Option Addr) (c : Nat) (l : Tx), v = .slice a l.length c ∧ Rd W a (tx l) ∧ (l.length : Int) ≤ 9223372036854775807 ∧ ∀ t ∈ l, (t.size : Int) ≤ 9223372036854775807 := by
  have ce : Try.prog.cellsOf 9 = 1 := by kernel_rfl
  rcases Deep.open_slice Try.underlying57 hf with ⟨hcs, _⟩ | ⟨x, len, cap, m, n, D, Pl, hcs, _, hl, hm, hmm, _, hx⟩
  · simp at hcs
    subst hcs
    exact ⟨none, 0, [], rfl, Rd.nil _ _, by simp, by simp⟩
  · simp at hcs
    subst hcs
    have hlm : len ≤ m := by rw [hmm]; split <;> omega
    obtain ⟨b, off, spot⟩ := x
    have each : ∀ i, i < len → ∃ q : ByteArray, W.cell? ((⟨b, off, spot⟩ : Addr).add i) = some (.string q) ∧ (q.size : Int) ≤ 9223372036854775807 := by
      intro i hi
      obtain ⟨cs', h1, h2⟩ := hx i (by omega)
      rw [ce] at h1
      obtain ⟨_, hlen, hcell⟩ := World.cells?_some h1
      match cs', hlen with
      | [v0], _ =>
        obtain ⟨z0, e0, _, s0⟩ := DataW.trod_string Try.underlying9 h2
        simp at e0
        subst e0
        have c0 := hcell 0 (by omega)
        rw [Deep.add_add] at c0
        have t0 : z0.size ≤ 9223372036854775807 := s0
        exact ⟨z0, by simpa using c0, by omega⟩
    obtain ⟨q, hq⟩ := Deep.choose_lt each
    refine ⟨some ⟨b, off, spot⟩, cap, (List.range len).map q, by simp, ?_, by simp; have : cap ≤ 9223372036854775807 := hm; omega, ?_⟩
    · intro i u hu
      have hi : i < len := by
        have h1 := (List.getElem?_eq_some_iff.1 hu).1
        rw [nod.tx_len] at h1
        simpa using h1
      have hr : ((List.range len).map q)[i]? = some (q i) := by simp [hi]
      have b0' := nod.tx_at hr
      obtain ⟨k0, _⟩ := hq i hi
      have hspot : spot = none := by
        have h0 := (hq 0 (by omega)).1
        simpa [Addr.add] using World.cell?_spot h0
      subst hspot
      rw [Addr.add_lit] at k0
      rw [b0'] at hu
      obtain rfl := Option.some.inj hu
      exact ⟨b, off, rfl, k0⟩
    · intro x hx
      obtain ⟨i, hi, rfl⟩ := List.mem_map.1 hx
      exact (hq i (List.mem_range.1 hi)).2
set_option maxRecDepth 100000 in
theorem nodes_cells {H : Type} {enc : TypeId × Value → H} {W : World} {base : Nat} {sp : Nat → Bool} {hd : Bool} {fuel : Nat} {v : Value} {x : DataW H × List MemPlace} (hf : DataW.trod enc Try.prog W base sp hd fuel 39 [v] = some x) :
    ∃ (a : Option Addr) (c : Nat) (ds : List Nd), v = .slice a ds.length c ∧ RdN W a ds ∧ (ds.length : Int) ≤ 9223372036854775807 ∧ Big ds := by
  have ce : Try.prog.cellsOf 84 = 4 := by kernel_rfl
  rcases Deep.open_slice Try.underlying39 hf with ⟨hcs, _⟩ | ⟨x, len, cap, m, n, D, Pl, hcs, _, hl, hm, hmm, _, hx⟩
  · simp at hcs
    subst hcs
    exact ⟨none, 0, [], rfl, ⟨Rd.nil _ _, by simp⟩, by simp, by intro d hd; simp at hd⟩
  · simp at hcs
    subst hcs
    have hlm : len ≤ m := by rw [hmm]; split <;> omega
    obtain ⟨b, off, spot⟩ := x
    have each : ∀ i, i < len → ∃ q : Nd, W.cell? ((⟨b, off, spot⟩ : Addr).add (i * 4)) = some (.string q.1) ∧ W.cell? ((⟨b, off, spot⟩ : Addr).add (i * 4 + 1)) = some (.bool q.2.1) ∧ W.cell? ((⟨b, off, spot⟩ : Addr).add (i * 4 + 2)) = some (.int .i64 q.2.2.1) ∧ W.cell? ((⟨b, off, spot⟩ : Addr).add (i * 4 + 3)) = some (.slice q.2.2.2.1 q.2.2.2.2.2.length q.2.2.2.2.1) ∧ Rd W q.2.2.2.1 (tx q.2.2.2.2.2) ∧ (q.1.size : Int) ≤ 9223372036854775807 ∧ (q.2.2.2.2.2.length : Int) ≤ 9223372036854775807 ∧ ∀ t ∈ q.2.2.2.2.2, (t.size : Int) ≤ 9223372036854775807 := by
      intro i hi
      obtain ⟨cs', h1, h2⟩ := hx i (by omega)
      rw [ce] at h1
      obtain ⟨_, hlen, hcell⟩ := World.cells?_some h1
      obtain ⟨xs, k, hk, hxy, _, hxl, hf⟩ := DataW.trod_struct Try.underlying84 h2
      match xs, hxl, cs', hlen with
      | [y0, y1, y2, y3], _, [v0, v1, v2, v3], _ =>
        have g0 := hf 0 _ rfl
        have g1 := hf 1 _ rfl
        have g2 := hf 2 _ rfl
        have g3 := hf 3 _ rfl
        have cs9 : Try.prog.cellsOf 9 = 1 := by kernel_rfl
        have csb : Try.prog.cellsOf 4 = 1 := by kernel_rfl
        have cs2 : Try.prog.cellsOf 2 = 1 := by kernel_rfl
        have csr : Try.prog.cellsOf 57 = 1 := by kernel_rfl
        simp [cs9, cs2, csb, csr] at g0 g1 g2 g3
        obtain ⟨z0, e0, _, s0⟩ := DataW.trod_string Try.underlying9 g0
        obtain ⟨z1, e1, _⟩ := DataW.trod_bool Try.underlying4 g1
        obtain ⟨z2, e2, _, _⟩ := DataW.trod_int Try.underlying2 g2
        obtain ⟨fa, fc, fl, rfl, hr, hfl, hfs⟩ := texts_cells g3
        simp at e0 e1 e2
        subst e0 e1 e2
        have c0 := hcell 0 (by omega)
        have c1 := hcell 1 (by omega)
        have c2 := hcell 2 (by omega)
        have c3 := hcell 3 (by omega)
        rw [Deep.add_add] at c0 c1 c2 c3
        have t0 : z0.size ≤ 9223372036854775807 := s0
        exact ⟨(z0, z1, z2, fa, fc, fl), by simpa using c0, by simpa using c1, by simpa using c2, by simpa using c3, hr, by simp only; omega, hfl, hfs⟩
    obtain ⟨q, hq⟩ := Deep.choose_lt each
    refine ⟨some ⟨b, off, spot⟩, cap, (List.range len).map q, by simp, ⟨?_, ?_⟩, by simp; have : cap ≤ 9223372036854775807 := hm; omega, ?_⟩
    · intro i u hu
      have hi : i / 4 < len := by
        have h1 := (List.getElem?_eq_some_iff.1 hu).1
        rw [ncs_len] at h1
        simp at h1
        omega
      have hr : ((List.range len).map q)[i / 4]? = some (q (i / 4)) := by simp [hi]
      obtain ⟨b0', b1', b2', b3'⟩ := ncs_at _ _ _ hr
      obtain ⟨k0, k1, k2, k3, _⟩ := hq (i / 4) hi
      have hspot : spot = none := by
        have h0 := (hq 0 (by omega)).1
        simpa [Addr.add] using World.cell?_spot h0
      subst hspot
      rw [Addr.add_lit] at k0 k1 k2 k3
      rcases (show i % 4 = 0 ∨ i % 4 = 1 ∨ i % 4 = 2 ∨ i % 4 = 3 by omega) with h | h | h | h
      · have e : i / 4 * 4 = i := by omega
        rw [e] at b0' k0
        rw [b0'] at hu
        obtain rfl := Option.some.inj hu
        exact ⟨b, off, rfl, k0⟩
      · have e : i / 4 * 4 + 1 = i := by omega
        rw [e] at b1' k1
        rw [b1'] at hu
        obtain rfl := Option.some.inj hu
        exact ⟨b, off, rfl, k1⟩
      · have e : i / 4 * 4 + 2 = i := by omega
        rw [e] at b2' k2
        rw [b2'] at hu
        obtain rfl := Option.some.inj hu
        exact ⟨b, off, rfl, k2⟩
      · have e : i / 4 * 4 + 3 = i := by omega
        rw [e] at b3' k3
        rw [b3'] at hu
        obtain rfl := Option.some.inj hu
        exact ⟨b, off, rfl, k3⟩
    · intro d hd
      obtain ⟨i, hi, rfl⟩ := List.mem_map.1 hd
      exact (hq i (List.mem_range.1 hi)).2.2.2.2.1
    · intro d hd
      obtain ⟨i, hi, rfl⟩ := List.mem_map.1 hd
      exact (hq i (List.mem_range.1 hi)).2.2.2.2.2
set_option maxRecDepth 100000 in
theorem nodes_came {H : Type} {enc : TypeId × Value → H} {W : World} {base b0 : Nat} {sp : Nat → Bool} {hd : Bool} {v : Value} {d : DataW H} {p : List MemPlace} (hv : Value.okWide Try.prog W .any b0 39 v) (h : DataW.Trod enc Try.prog W base sp hd 39 v d p) :
    ∃ (a : Option Addr) (c : Nat) (ds : List Nd), v = .slice a ds.length c ∧ RdN W a ds ∧ (ds.length : Int) ≤ 9223372036854775807 ∧ Big ds := by
  obtain ⟨a0, len0, cap0, rfl⟩ := okWide_slice Try.underlying39 hv
  obtain ⟨fuel, hf⟩ := h
  exact nodes_cells hf
end Go.Proofs.Ytmmmadehifajlaa.came
