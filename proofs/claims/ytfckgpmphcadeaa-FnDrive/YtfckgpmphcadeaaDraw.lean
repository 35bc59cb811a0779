/-
  The draws' source: what (*l01Src).n answers and leaves: a number within its bounds, and a source in the same block. Conditions: the source lies in one block of its own.
-/
import Derived.Test.YtfckgpmphcadeaaRows
import Derived.Test.YtfckgpmphcadeaaBase
import Derived.RegionTactic
import Derived.BigRegion
namespace Go.Proofs.Ytfckgpmphcadeaa.draw
open Go.RowKit
open Go.Proofs.Ytfckgpmphcadeaa.base
set_option linter.unusedVariables false

/-- the bytes of a slice lie in memory, in a block ahead of g -/
def Elems (w : World) (g : Nat) (a : Option Addr) (len : Nat) : Prop :=
  ∀ i, i < len → ∃ (b off : Nat) (u : Int), a = some ⟨b, off, none⟩ ∧ b < g ∧ w.cell? ⟨b, off + i, none⟩ = some (.int .u8 u) ∧ 0 ≤ u ∧ u ≤ 255

/-- block g holds a source -/
def SrcAt (w : World) (g : Nat) : Prop :=
  ∃ (a : Option Addr) (len cap : Nat) (p m z : Int), w.heap[g]? = some (.cells #[.slice a len cap, .int .i64 p, .int .u64 m, .int .i64 z] 137 (0, 0)) ∧
    0 ≤ p ∧ p ≤ (len : Int) ∧ len ≤ 1048576 ∧ 0 ≤ m ∧ m ≤ 18446744073709551615 ∧ 0 ≤ z ∧ z ≤ 12 ∧ Elems w g a len

theorem src_cell {w : World} {g : Nat} {c : Array Value} {t : TypeId} (h : w.heap[g]? = some (.cells c t (0, 0))) (j : Nat) : w.cell? ⟨g, j, none⟩ = c[j]? := by
  rw [cell_of_row w g j _ t (0, 0) h]

/-- what a source keeps while other blocks come: nothing below the heap's end turned -/
theorem SrcAt.lt {w : World} {g : Nat} (h : SrcAt w g) : g < w.heap.size := by
  obtain ⟨a, len, cap, p, m, z, hh, _⟩ := h
  exact (Array.getElem?_eq_some_iff.1 hh).1
theorem SrcAt.upto {w w' : World} {g : Nat} (h : SrcAt w g) (hb : Below (g + 1) w w') : SrcAt w' g := by
  obtain ⟨a, len, cap, p, m, z, hh, h1, h2, h3, h4, h5, h6, h7, he⟩ := h
  refine ⟨a, len, cap, p, m, z, (hb.block g (by omega)).trans hh, h1, h2, h3, h4, h5, h6, h7, ?_⟩
  intro i hi
  obtain ⟨b, off, u, e1, e2, e3, e4⟩ := he i hi
  exact ⟨b, off, u, e1, e2, (hb.cell (by simp; omega)).trans e3, e4⟩
theorem SrcAt.below {w w' : World} {g : Nat} (h : SrcAt w g) (hb : Below w.heap.size w w') : SrcAt w' g := h.upto (hb.mono h.lt)

theorem Elems.grown {w w' : World} {g : Nat} {a : Option Addr} {len : Nat} (h : Elems w g a len) (hg : w.grownBy w' (some g)) : Elems w' g a len := by
  intro i hi
  obtain ⟨b, off, u, e1, e2, e3, e4⟩ := h i hi
  exact ⟨b, off, u, e1, e2, hg.cell e3 (by simp; omega), e4⟩

set_option maxRecDepth 100000 in
set_option maxHeartbeats 1000000 in
theorem n_one (g : Nat) (most : Int) (w : World) (h : most ≤ 1) :
    Calls Try.prog 63 #[.pointer (some ⟨g, 0, none⟩), .int .i64 most] w fun e w' => e = .returned (.int .i64 0) ∧ w = w' := by
  go_enter Try.func63, Try.ntmps63
  go_wp2
  go_ret
  exact ⟨rfl, rfl⟩

/-- w' is w but for block g, a source with place P and mix M -/
def Kept (w : World) (g : Nat) (a : Option Addr) (len cap : Nat) (z : Int) (w' : World) (P M : Int) : Prop :=
  w.grownBy w' (some g) ∧ w'.heap[g]? = some (.cells #[.slice a len cap, .int .i64 P, .int .u64 M, .int .i64 z] 137 (0, 0))
theorem kept_refl {w : World} {g : Nat} {a : Option Addr} {len cap : Nat} {z P M : Int} (h : w.heap[g]? = some (.cells #[.slice a len cap, .int .i64 P, .int .u64 M, .int .i64 z] 137 (0, 0))) : Kept w g a len cap z w P M :=
  ⟨World.grownBy.refl w _, h⟩
theorem grown_set {w w' : World} {g j : Nat} {v : Value} (h : w.grownBy w' (some g)) : w.grownBy (w'.setCell ⟨g, j, none⟩ v) (some g) :=
  ⟨h.os, h.tape, h.output, by simpa using h.size, fun k hk hne => (Below.heap_setCell _ _ _ _ (by simpa using hne)).trans (h.block k hk hne)⟩
theorem kept_mix {w w' : World} {g : Nat} {a : Option Addr} {len cap : Nat} {z P M M' : Int} (h : Kept w g a len cap z w' P M) : Kept w g a len cap z (w'.setCell ⟨g, 2, none⟩ (.int .u64 M')) P M' :=
  ⟨grown_set h.1, by have e := heap_setCell_same w' g 2 _ _ (.int .u64 M') h.2; simpa using e⟩
theorem kept_at {w w' : World} {g : Nat} {a : Option Addr} {len cap : Nat} {z P P' M : Int} (h : Kept w g a len cap z w' P M) : Kept w g a len cap z (w'.setCell ⟨g, 1, none⟩ (.int .i64 P')) P' M :=
  ⟨grown_set h.1, by have e := heap_setCell_same w' g 1 _ _ (.int .i64 P') h.2; simpa using e⟩
theorem kept_drew {w w' : World} {g : Nat} {a : Option Addr} {len cap : Nat} {z P M : Int} (h : Kept w g a len cap z w' P M) : Kept w g a len cap z w'.drew P M :=
  ⟨⟨h.1.os, h.1.tape, h.1.output, h.1.size, h.1.block⟩, h.2⟩

/-- what n answers and leaves -/
def NPost (w : World) (g : Nat) (a : Option Addr) (len cap : Nat) (z most P : Int) (e : Ending) (w' : World) : Prop :=
  ∃ r M : Int, e = .returned (.int .i64 r) ∧ 0 ≤ r ∧ r < most ∧ 0 ≤ M ∧ M ≤ 18446744073709551615 ∧ Kept w g a len cap z w' P M
theorem npost_mk {w : World} {g : Nat} {a : Option Addr} {len cap : Nat} {z most P r M : Int} {w' : World} (k : Kept w g a len cap z w' P M) (h1 : 0 ≤ r) (h2 : r < most) (h3 : 0 ≤ M) (h4 : M ≤ 18446744073709551615) :
    NPost w g a len cap z most P (.returned (.int .i64 r)) w' := ⟨r, M, rfl, h1, h2, h3, h4, k⟩

theorem r_bd (X most : Int) (h1 : 1 < most) (h2 : most ≤ 9223372036854775807) : 0 ≤ wrap64 ((IntKind.u64.wrap X).tmod most) ∧ wrap64 ((IntKind.u64.wrap X).tmod most) < most := by
  rw [IntKind.wrap_u64, Int.tmod_eq_emod_of_nonneg (by omega)]
  have a1 := Int.emod_nonneg (X % 18446744073709551616) (show most ≠ 0 by omega)
  have a2 := Int.emod_lt_of_pos (X % 18446744073709551616) (show 0 < most by omega)
  generalize X % 18446744073709551616 % most = q at *
  simp only [wrap64]
  omega

theorem set_cell {w : World} {A : Addr} {u v : Value} (h : w.cell? A = some u) : (w.setCell A v).cell? A = some v := World.cell?_setCell_same w A v h

set_option maxRecDepth 100000 in
set_option maxHeartbeats 1000000 in
theorem n_end (g : Nat) (most : Int) (w : World) (a : Option Addr) (len cap : Nat) (m z : Int) (h1 : 1 < most) (h2 : most ≤ 9223372036854775807) (hl : len ≤ 1048576) (hm0 : 0 ≤ m) (hm1 : m ≤ 18446744073709551615)
    (hg : w.heap[g]? = some (.cells #[.slice a len cap, .int .i64 len, .int .u64 m, .int .i64 z] 137 (0, 0))) :
    Calls Try.prog 63 #[.pointer (some ⟨g, 0, none⟩), .int .i64 most] w fun e w' => NPost w g a len cap z most len e w' := by
  have c0 : w.cell? ⟨g, 0, none⟩ = some (.slice a len cap) := src_cell hg 0
  have c1 : w.cell? ⟨g, 1, none⟩ = some (.int .i64 len) := src_cell hg 1
  have c2 : w.cell? ⟨g, 2, none⟩ = some (.int .u64 m) := src_cell hg 2
  have hf : ∀ j, w.frozen? ⟨g, j, none⟩ = false := fun j => frozen_of_row w g j _ _ hg
  have k2 : ∀ x v, ((w.setCell ⟨g, 2, none⟩ x).setCell ⟨g, 2, none⟩ v).cell? ⟨g, 2, none⟩ = some v := fun x v => set_cell (set_cell c2)
  have k3 : ∀ x y v, (((w.setCell ⟨g, 2, none⟩ x).setCell ⟨g, 2, none⟩ y).setCell ⟨g, 2, none⟩ v).cell? ⟨g, 2, none⟩ = some v := fun x y v => set_cell (set_cell (set_cell c2))
  have HG := mkHid hg
  clear hg
  go_enter Try.func63, Try.ntmps63
  go_wp2
  go_region
  go_wp2
  go_region
  go_wp2
  have b1 := bits_lo_u64 BinOp.xor m (IntKind.u64.wrap (m * 8192))
  have b2 := bits_hi_u64 BinOp.xor m (IntKind.u64.wrap (m * 8192))
  generalize bits BinOp.xor IntKind.u64 m (IntKind.u64.wrap (m * 8192)) = M1 at *
  go_region
  go_wp2
  have b3 := bits_lo_u64 BinOp.xor M1 (M1 / 128)
  have b4 := bits_hi_u64 BinOp.xor M1 (M1 / 128)
  generalize bits BinOp.xor IntKind.u64 M1 (M1 / 128) = M2 at *
  go_region
  go_wp2
  go_ret
  exact npost_mk (by repeat (first | exact kept_refl HG.out | apply kept_drew | apply kept_mix)) (r_bd _ most h1 h2).1 (r_bd _ most h1 h2).2 (bits_lo_u64 _ _ _) (bits_hi_u64 _ _ _)

set_option maxRecDepth 100000 in
set_option maxHeartbeats 1000000 in
theorem n_byte (g : Nat) (most : Int) (w : World) (b off len cap P : Nat) (m z u : Int) (h1 : 1 < most) (h2 : most ≤ 9223372036854775807) (hl : len ≤ 1048576) (hP : P < len) (hm0 : 0 ≤ m) (hm1 : m ≤ 18446744073709551615) (hbg : b ≠ g) (hu0 : 0 ≤ u) (hu1 : u ≤ 255)
    (hg : w.heap[g]? = some (.cells #[.slice (some ⟨b, off, none⟩) len cap, .int .i64 P, .int .u64 m, .int .i64 z] 137 (0, 0))) (hcell : w.cell? ⟨b, off + P, none⟩ = some (.int .u8 u)) :
    Calls Try.prog 63 #[.pointer (some ⟨g, 0, none⟩), .int .i64 most] w fun e w' => NPost w g (some ⟨b, off, none⟩) len cap z most ((P : Int) + 1) e w' := by
  have c0 : w.cell? ⟨g, 0, none⟩ = some (.slice (some ⟨b, off, none⟩) len cap) := src_cell hg 0
  have c1 : w.cell? ⟨g, 1, none⟩ = some (.int .i64 P) := src_cell hg 1
  have c2 : w.cell? ⟨g, 2, none⟩ = some (.int .u64 m) := src_cell hg 2
  have hf : ∀ j, w.frozen? ⟨g, j, none⟩ = false := fun j => frozen_of_row w g j _ _ hg
  have d2 : ∀ x, (w.setCell ⟨g, 1, none⟩ x).cell? ⟨g, 2, none⟩ = some (.int .u64 m) := fun x => (World.cell?_setCell_other _ _ _ _ (by simp)).trans c2
  have k1 : ∀ t x, ((w.setCell ⟨g, 1, none⟩ t).setCell ⟨g, 2, none⟩ x).cell? ⟨g, 2, none⟩ = some x := fun t x => set_cell (d2 t)
  have k2 : ∀ t x v, (((w.setCell ⟨g, 1, none⟩ t).setCell ⟨g, 2, none⟩ x).setCell ⟨g, 2, none⟩ v).cell? ⟨g, 2, none⟩ = some v := fun t x v => set_cell (k1 t x)
  have k3 : ∀ t x y v, ((((w.setCell ⟨g, 1, none⟩ t).setCell ⟨g, 2, none⟩ x).setCell ⟨g, 2, none⟩ y).setCell ⟨g, 2, none⟩ v).cell? ⟨g, 2, none⟩ = some v := fun t x y v => set_cell (k2 t x y)
  have hPi : (P : Int) < (len : Int) := by omega
  have HG := mkHid hg
  clear hg
  go_enter Try.func63, Try.ntmps63
  go_wp2
  go_region
  go_wp2
  go_region
  go_wp2
  go_region
  go_wp2
  have b1 := bits_lo_u64 BinOp.xor m (IntKind.u64.wrap (m * 8192))
  have b2 := bits_hi_u64 BinOp.xor m (IntKind.u64.wrap (m * 8192))
  generalize bits BinOp.xor IntKind.u64 m (IntKind.u64.wrap (m * 8192)) = M1 at *
  go_region
  go_wp2
  have b3 := bits_lo_u64 BinOp.xor M1 (M1 / 128)
  have b4 := bits_hi_u64 BinOp.xor M1 (M1 / 128)
  generalize bits BinOp.xor IntKind.u64 M1 (M1 / 128) = M2 at *
  go_region
  go_wp2
  go_ret
  exact npost_mk (by repeat (first | exact kept_refl HG.out | apply kept_drew | apply kept_mix | apply kept_at)) (r_bd _ most h1 h2).1 (r_bd _ most h1 h2).2 (bits_lo_u64 _ _ _) (bits_hi_u64 _ _ _)

/-- a draw of a number: what it answers, and that the source is one again, nothing but its block turned -/
def Drew (w : World) (g : Nat) (most : Int) (e : Ending) (w' : World) : Prop :=
  ∃ r : Int, e = .returned (.int .i64 r) ∧ 0 ≤ r ∧ (1 < most → r < most) ∧ (most ≤ 1 → r = 0) ∧ SrcAt w' g ∧ w.grownBy w' (some g)

theorem n_any (g : Nat) (most : Int) (w : World) (h2 : most ≤ 9223372036854775807) (h : SrcAt w g) :
    Calls Try.prog 63 #[.pointer (some ⟨g, 0, none⟩), .int .i64 most] w fun e w' => Drew w g most e w' := by
  by_cases h1 : most ≤ 1
  · refine (n_one g most w h1).mono ?_
    rintro e w' ⟨rfl, rfl⟩
    exact ⟨0, rfl, by omega, by omega, fun _ => rfl, h, World.grownBy.refl w _⟩
  obtain ⟨a, len, cap, p, m, z, hh, hp0, hp1, hl, hm0, hm1, hz0, hz1, he⟩ := h
  obtain ⟨P, rfl⟩ := Int.eq_ofNat_of_zero_le hp0
  by_cases hP : P < len
  · obtain ⟨b, off, u, rfl, hbg, hcell, hu0, hu1⟩ := he P hP
    refine (n_byte g most w b off len cap P m z u (by omega) h2 hl hP hm0 hm1 (by omega) hu0 hu1 hh hcell).mono ?_
    rintro e w' ⟨r, M, rfl, hr0, hr1, hM0, hM1, k⟩
    exact ⟨r, rfl, hr0, fun _ => hr1, fun hc => absurd hc h1, ⟨_, len, cap, _, M, z, k.2, by omega, by omega, hl, hM0, hM1, hz0, hz1, he.grown k.1⟩, k.1⟩
  · obtain rfl : P = len := by omega
    refine (n_end g most w a P cap m z (by omega) h2 hl hm0 hm1 hh).mono ?_
    rintro e w' ⟨r, M, rfl, hr0, hr1, hM0, hM1, k⟩
    exact ⟨r, rfl, hr0, fun _ => hr1, fun hc => absurd hc h1, ⟨_, P, cap, _, M, z, k.2, by omega, by omega, hl, hM0, hM1, hz0, hz1, he.grown k.1⟩, k.1⟩

end Go.Proofs.Ytfckgpmphcadeaa.draw
