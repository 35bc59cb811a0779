/-
  The draws' source: what (*l01Src).n answers and leaves: a number within its bounds, and a source in the same block. Conditions: the source lies in one block of its own.
  spec.l01Source makes a source in a new block; nothing that was there turns. Condition: the bytes lie in memory and are at most 1,048,576.
  Texts that are drawn: (*l01Src).bytes, one and spoil: what they answer and leave. Conditions: the source lies in one block of its own, and the sizes are small.
  (*l01Src).spoil answers a text of at most one byte more. Conditions: the source lies in one block of its own, the text has at most 1,000,000 bytes.
  A blob that is drawn: (*l01Src).l07Blob: what it answers and leaves. Condition: the source lies in one block of its own.
  spec.l01Dec answers a text. Condition: a small number.
  Blobs that are drawn: (*l01Src).l07Blobs: what it answers and leaves. Condition: the source lies in one block of its own.
-/
import Derived.Test.YtmoojhnblakdhaaGreatRows
import Derived.Test.YtmoojhnblakdhaaGreatBase
import Derived.Test.YtmoojhnblakdhaaGreatAid
import Derived.Test.YtmoojhnblakdhaaGreatZPakC
import Derived.RegionTactic
import Derived.BigRegion
import Derived.Laws.DeepStrings4
import Derived.Deep.RegionHeld3
import Derived.Deep.RegionWith
namespace Go.Proofs.YtmoojhnblakdhaaGreat.draw
open Go.RowKit
open Go.Proofs.YtmoojhnblakdhaaGreat.base
set_option linter.unusedVariables false

/-- the bytes of a slice lie in memory, in a block ahead of g -/
def Elems (w : World) (g : Nat) (a : Option Addr) (len : Nat) : Prop :=
  ∀ i, i < len → ∃ (b off : Nat) (u : Int), a = some ⟨b, off, none⟩ ∧ b < g ∧ w.cell? ⟨b, off + i, none⟩ = some (.int .u8 u) ∧ 0 ≤ u ∧ u ≤ 255

/-- block g holds a source -/
def SrcAt (w : World) (g : Nat) : Prop :=
  ∃ (a : Option Addr) (len cap : Nat) (p m z : Int), w.heap[g]? = some (.cells #[.slice a len cap, .int .i64 p, .int .u64 m, .int .i64 z] 76 (0, 0)) ∧
    0 ≤ p ∧ p ≤ (len : Int) ∧ len ≤ 1048576 ∧ 0 ≤ m ∧ m ≤ 18446744073709551615 ∧ 0 ≤ z ∧ z ≤ 12 ∧ Elems w g a len

theorem src_cell {w : World} {g : Nat} {c : Array Value} {t : TypeId} (h : w.heap[g]? = some (.cells c t (0, 0))) (j : Nat) : w.cell? ⟨g, j, none⟩ = c[j]? := by
  rw [cell_of_row w g j _ t (0, 0) h]

/-- what a source keeps while other blocks come: nothing below the heap's end turned -/
theorem SrcAt.lt {w : World} {g : Nat} (h : SrcAt w g) : g < w.heap.size := by
  obtain ⟨a, len, cap, p, m, z, hh, _⟩ := h
  exact (Array.getElem?_eq_some_iff.1 hh).1
theorem SrcAt.upto {w w' : World} {g : Nat} (h : SrcAt w g) (hb : Below (g + 1) w w') : SrcAt w' g := by
  obtain ⟨a, len, cap, p, m, z, hh, h1, h2, h3, h4, h5, h6, h7, he⟩ := h
  refine ⟨a, len, cap, p, m, z, (hb.block g (by omega)).trans hh, h1, h2, h3, h4, h5, h6, h7, ?_⟩
  intro i hi
  obtain ⟨b, off, u, e1, e2, e3, e4⟩ := he i hi
  exact ⟨b, off, u, e1, e2, (hb.cell (by simp; omega)).trans e3, e4⟩
theorem SrcAt.below {w w' : World} {g : Nat} (h : SrcAt w g) (hb : Below w.heap.size w w') : SrcAt w' g := h.upto (hb.mono h.lt)

theorem Elems.grown {w w' : World} {g : Nat} {a : Option Addr} {len : Nat} (h : Elems w g a len) (hg : w.grownBy w' (some g)) : Elems w' g a len := by
  intro i hi
  obtain ⟨b, off, u, e1, e2, e3, e4⟩ := h i hi
  exact ⟨b, off, u, e1, e2, hg.cell e3 (by simp; omega), e4⟩

set_option maxRecDepth 100000 in
set_option maxHeartbeats 1000000 in
theorem n_one (g : Nat) (most : Int) (w : World) (h : most ≤ 1) :
    Calls Tryz.prog 20 #[.pointer (some ⟨g, 0, none⟩), .int .i64 most] w fun e w' => e = .returned (.int .i64 0) ∧ w = w' := by
  go_enter Tryz.func20, Tryz.ntmps20
  go_wp2
  go_ret
  exact ⟨rfl, rfl⟩

/-- w' is w but for block g, a source with place P and mix M -/
def Kept (w : World) (g : Nat) (a : Option Addr) (len cap : Nat) (z : Int) (w' : World) (P M : Int) : Prop :=
  w.grownBy w' (some g) ∧ w'.heap[g]? = some (.cells #[.slice a len cap, .int .i64 P, .int .u64 M, .int .i64 z] 76 (0, 0))
theorem kept_refl {w : World} {g : Nat} {a : Option Addr} {len cap : Nat} {z P M : Int} (h : w.heap[g]? = some (.cells #[.slice a len cap, .int .i64 P, .int .u64 M, .int .i64 z] 76 (0, 0))) : Kept w g a len cap z w P M :=
  ⟨World.grownBy.refl w _, h⟩
theorem grown_set {w w' : World} {g j : Nat} {v : Value} (h : w.grownBy w' (some g)) : w.grownBy (w'.setCell ⟨g, j, none⟩ v) (some g) :=
  ⟨h.os, h.tape, h.output, by simpa using h.size, fun k hk hne => (Below.heap_setCell _ _ _ _ (by simpa using hne)).trans (h.block k hk hne)⟩
theorem kept_mix {w w' : World} {g : Nat} {a : Option Addr} {len cap : Nat} {z P M M' : Int} (h : Kept w g a len cap z w' P M) : Kept w g a len cap z (w'.setCell ⟨g, 2, none⟩ (.int .u64 M')) P M' :=
  ⟨grown_set h.1, by have e := heap_setCell_same w' g 2 _ _ (.int .u64 M') h.2; simpa using e⟩
theorem kept_at {w w' : World} {g : Nat} {a : Option Addr} {len cap : Nat} {z P P' M : Int} (h : Kept w g a len cap z w' P M) : Kept w g a len cap z (w'.setCell ⟨g, 1, none⟩ (.int .i64 P')) P' M :=
  ⟨grown_set h.1, by have e := heap_setCell_same w' g 1 _ _ (.int .i64 P') h.2; simpa using e⟩
theorem kept_drew {w w' : World} {g : Nat} {a : Option Addr} {len cap : Nat} {z P M : Int} (h : Kept w g a len cap z w' P M) : Kept w g a len cap z w'.drew P M :=
  ⟨⟨h.1.os, h.1.tape, h.1.output, h.1.size, h.1.block⟩, h.2⟩

/-- what n answers and leaves -/
def NPost (w : World) (g : Nat) (a : Option Addr) (len cap : Nat) (z most P : Int) (e : Ending) (w' : World) : Prop :=
  ∃ r M : Int, e = .returned (.int .i64 r) ∧ 0 ≤ r ∧ r < most ∧ 0 ≤ M ∧ M ≤ 18446744073709551615 ∧ Kept w g a len cap z w' P M
theorem npost_mk {w : World} {g : Nat} {a : Option Addr} {len cap : Nat} {z most P r M : Int} {w' : World} (k : Kept w g a len cap z w' P M) (h1 : 0 ≤ r) (h2 : r < most) (h3 : 0 ≤ M) (h4 : M ≤ 18446744073709551615) :
    NPost w g a len cap z most P (.returned (.int .i64 r)) w' := ⟨r, M, rfl, h1, h2, h3, h4, k⟩

theorem r_bd (X most : Int) (h1 : 1 < most) (h2 : most ≤ 9223372036854775807) : 0 ≤ wrap64 ((IntKind.u64.wrap X).tmod most) ∧ wrap64 ((IntKind.u64.wrap X).tmod most) < most := by
  rw [IntKind.wrap_u64, Int.tmod_eq_emod_of_nonneg (by omega)]
  have a1 := Int.emod_nonneg (X % 18446744073709551616) (show most ≠ 0 by omega)
  have a2 := Int.emod_lt_of_pos (X % 18446744073709551616) (show 0 < most by omega)
  generalize X % 18446744073709551616 % most = q at *
  simp only [wrap64]
  omega

theorem set_cell {w : World} {A : Addr} {u v : Value} (h : w.cell? A = some u) : (w.setCell A v).cell? A = some v := World.cell?_setCell_same w A v h

set_option maxRecDepth 100000 in
set_option maxHeartbeats 1000000 in
theorem n_end (g : Nat) (most : Int) (w : World) (a : Option Addr) (len cap : Nat) (m z : Int) (h1 : 1 < most) (h2 : most ≤ 9223372036854775807) (hl : len ≤ 1048576) (hm0 : 0 ≤ m) (hm1 : m ≤ 18446744073709551615)
    (hg : w.heap[g]? = some (.cells #[.slice a len cap, .int .i64 len, .int .u64 m, .int .i64 z] 76 (0, 0))) :
    Calls Tryz.prog 20 #[.pointer (some ⟨g, 0, none⟩), .int .i64 most] w fun e w' => NPost w g a len cap z most len e w' := by
  have c0 : w.cell? ⟨g, 0, none⟩ = some (.slice a len cap) := src_cell hg 0
  have c1 : w.cell? ⟨g, 1, none⟩ = some (.int .i64 len) := src_cell hg 1
  have c2 : w.cell? ⟨g, 2, none⟩ = some (.int .u64 m) := src_cell hg 2
  have hf : ∀ j, w.frozen? ⟨g, j, none⟩ = false := fun j => frozen_of_row w g j _ _ hg
  have k2 : ∀ x v, ((w.setCell ⟨g, 2, none⟩ x).setCell ⟨g, 2, none⟩ v).cell? ⟨g, 2, none⟩ = some v := fun x v => set_cell (set_cell c2)
  have k3 : ∀ x y v, (((w.setCell ⟨g, 2, none⟩ x).setCell ⟨g, 2, none⟩ y).setCell ⟨g, 2, none⟩ v).cell? ⟨g, 2, none⟩ = some v := fun x y v => set_cell (set_cell (set_cell c2))
  have HG := mkHid hg
  clear hg
  go_enter Tryz.func20, Tryz.ntmps20
  go_wp2
  go_region
  go_wp2
  go_region
  go_wp2
  have b1 := bits_lo_u64 BinOp.xor m (IntKind.u64.wrap (m * 8192))
  have b2 := bits_hi_u64 BinOp.xor m (IntKind.u64.wrap (m * 8192))
  generalize bits BinOp.xor IntKind.u64 m (IntKind.u64.wrap (m * 8192)) = M1 at *
  go_region
  go_wp2
  have b3 := bits_lo_u64 BinOp.xor M1 (M1 / 128)
  have b4 := bits_hi_u64 BinOp.xor M1 (M1 / 128)
  generalize bits BinOp.xor IntKind.u64 M1 (M1 / 128) = M2 at *
  go_region
  go_wp2
  go_ret
  exact npost_mk (by repeat (first | exact kept_refl HG.out | apply kept_drew | apply kept_mix)) (r_bd _ most h1 h2).1 (r_bd _ most h1 h2).2 (bits_lo_u64 _ _ _) (bits_hi_u64 _ _ _)

set_option maxRecDepth 100000 in
set_option maxHeartbeats 1000000 in
theorem n_byte (g : Nat) (most : Int) (w : World) (b off len cap P : Nat) (m z u : Int) (h1 : 1 < most) (h2 : most ≤ 9223372036854775807) (hl : len ≤ 1048576) (hP : P < len) (hm0 : 0 ≤ m) (hm1 : m ≤ 18446744073709551615) (hbg : b ≠ g) (hu0 : 0 ≤ u) (hu1 : u ≤ 255)
    (hg : w.heap[g]? = some (.cells #[.slice (some ⟨b, off, none⟩) len cap, .int .i64 P, .int .u64 m, .int .i64 z] 76 (0, 0))) (hcell : w.cell? ⟨b, off + P, none⟩ = some (.int .u8 u)) :
    Calls Tryz.prog 20 #[.pointer (some ⟨g, 0, none⟩), .int .i64 most] w fun e w' => NPost w g (some ⟨b, off, none⟩) len cap z most ((P : Int) + 1) e w' := by
  have c0 : w.cell? ⟨g, 0, none⟩ = some (.slice (some ⟨b, off, none⟩) len cap) := src_cell hg 0
  have c1 : w.cell? ⟨g, 1, none⟩ = some (.int .i64 P) := src_cell hg 1
  have c2 : w.cell? ⟨g, 2, none⟩ = some (.int .u64 m) := src_cell hg 2
  have hf : ∀ j, w.frozen? ⟨g, j, none⟩ = false := fun j => frozen_of_row w g j _ _ hg
  have d2 : ∀ x, (w.setCell ⟨g, 1, none⟩ x).cell? ⟨g, 2, none⟩ = some (.int .u64 m) := fun x => (World.cell?_setCell_other _ _ _ _ (by simp)).trans c2
  have k1 : ∀ t x, ((w.setCell ⟨g, 1, none⟩ t).setCell ⟨g, 2, none⟩ x).cell? ⟨g, 2, none⟩ = some x := fun t x => set_cell (d2 t)
  have k2 : ∀ t x v, (((w.setCell ⟨g, 1, none⟩ t).setCell ⟨g, 2, none⟩ x).setCell ⟨g, 2, none⟩ v).cell? ⟨g, 2, none⟩ = some v := fun t x v => set_cell (k1 t x)
  have k3 : ∀ t x y v, ((((w.setCell ⟨g, 1, none⟩ t).setCell ⟨g, 2, none⟩ x).setCell ⟨g, 2, none⟩ y).setCell ⟨g, 2, none⟩ v).cell? ⟨g, 2, none⟩ = some v := fun t x y v => set_cell (k2 t x y)
  have hPi : (P : Int) < (len : Int) := by omega
  have HG := mkHid hg
  clear hg
  go_enter Tryz.func20, Tryz.ntmps20
  go_wp2
  go_region
  go_wp2
  go_region
  go_wp2
  go_region
  go_wp2
  have b1 := bits_lo_u64 BinOp.xor m (IntKind.u64.wrap (m * 8192))
  have b2 := bits_hi_u64 BinOp.xor m (IntKind.u64.wrap (m * 8192))
  generalize bits BinOp.xor IntKind.u64 m (IntKind.u64.wrap (m * 8192)) = M1 at *
  go_region
  go_wp2
  have b3 := bits_lo_u64 BinOp.xor M1 (M1 / 128)
  have b4 := bits_hi_u64 BinOp.xor M1 (M1 / 128)
  generalize bits BinOp.xor IntKind.u64 M1 (M1 / 128) = M2 at *
  go_region
  go_wp2
  go_ret
  exact npost_mk (by repeat (first | exact kept_refl HG.out | apply kept_drew | apply kept_mix | apply kept_at)) (r_bd _ most h1 h2).1 (r_bd _ most h1 h2).2 (bits_lo_u64 _ _ _) (bits_hi_u64 _ _ _)

/-- a draw of a number: what it answers, and that the source is one again, nothing but its block turned -/
def Drew (w : World) (g : Nat) (most : Int) (e : Ending) (w' : World) : Prop :=
  ∃ r : Int, e = .returned (.int .i64 r) ∧ 0 ≤ r ∧ (1 < most → r < most) ∧ (most ≤ 1 → r = 0) ∧ SrcAt w' g ∧ w.grownBy w' (some g)

theorem n_any (g : Nat) (most : Int) (w : World) (h2 : most ≤ 9223372036854775807) (h : SrcAt w g) :
    Calls Tryz.prog 20 #[.pointer (some ⟨g, 0, none⟩), .int .i64 most] w fun e w' => Drew w g most e w' := by
  by_cases h1 : most ≤ 1
  · refine (n_one g most w h1).mono ?_
    rintro e w' ⟨rfl, rfl⟩
    exact ⟨0, rfl, by omega, by omega, fun _ => rfl, h, World.grownBy.refl w _⟩
  obtain ⟨a, len, cap, p, m, z, hh, hp0, hp1, hl, hm0, hm1, hz0, hz1, he⟩ := h
  obtain ⟨P, rfl⟩ := Int.eq_ofNat_of_zero_le hp0
  by_cases hP : P < len
  · obtain ⟨b, off, u, rfl, hbg, hcell, hu0, hu1⟩ := he P hP
    refine (n_byte g most w b off len cap P m z u (by omega) h2 hl hP hm0 hm1 (by omega) hu0 hu1 hh hcell).mono ?_
    rintro e w' ⟨r, M, rfl, hr0, hr1, hM0, hM1, k⟩
    exact ⟨r, rfl, hr0, fun _ => hr1, fun hc => absurd hc h1, ⟨_, len, cap, _, M, z, k.2, by omega, by omega, hl, hM0, hM1, hz0, hz1, he.grown k.1⟩, k.1⟩
  · obtain rfl : P = len := by omega
    refine (n_end g most w a P cap m z (by omega) h2 hl hm0 hm1 hh).mono ?_
    rintro e w' ⟨r, M, rfl, hr0, hr1, hM0, hM1, k⟩
    exact ⟨r, rfl, hr0, fun _ => hr1, fun hc => absurd hc h1, ⟨_, P, cap, _, M, z, k.2, by omega, by omega, hl, hM0, hM1, hz0, hz1, he.grown k.1⟩, k.1⟩

end Go.Proofs.YtmoojhnblakdhaaGreat.draw
namespace Go.Proofs.YtmoojhnblakdhaaGreat.draw
open Go.RowKit
open Go.Proofs.YtmoojhnblakdhaaGreat.base
set_option linter.unusedVariables false

/-- the bytes of a slice lie in memory -/
def Row (w : World) (a : Option Addr) (len : Nat) : Prop :=
  ∀ i, i < len → ∃ (b off : Nat) (u : Int), a = some ⟨b, off, none⟩ ∧ w.cell? ⟨b, off + i, none⟩ = some (.int .u8 u) ∧ 0 ≤ u ∧ u ≤ 255

theorem Row.below {w w' : World} {a : Option Addr} {len : Nat} (h : Row w a len) (hb : Below w.heap.size w w') : Row w' a len := by
  intro i hi
  obtain ⟨b, off, u, e1, e2, e3⟩ := h i hi
  exact ⟨b, off, u, e1, (hb.cell (World.block_lt_of_cell? w _ e2)).trans e2, e3⟩

theorem kept_size {w w' : World} {g : Nat} {a : Option Addr} {len cap : Nat} {z z' P M : Int} (h : Kept w g a len cap z w' P M) : Kept w g a len cap z' (w'.setCell ⟨g, 3, none⟩ (.int .i64 z')) P M :=
  ⟨grown_set h.1, by have e := heap_setCell_same w' g 3 _ _ (.int .i64 z') h.2; simpa using e⟩

/-- what l01Source answers and leaves -/
def Made (w : World) (e : Ending) (w' : World) : Prop := e = .returned (.pointer (some ⟨w.heap.size, 0, none⟩)) ∧ SrcAt w' w.heap.size ∧ Below w.heap.size w w'

theorem made_mk {w w' : World} {a : Option Addr} {len cap : Nat} {z M : Int} {o : Obj} (hr : Row w a len) (hl : len ≤ 1048576) (k : Kept (w.alloc o) w.heap.size a len cap z w' 0 M) (h3 : 0 ≤ M) (h4 : M ≤ 18446744073709551615) (h5 : 0 ≤ z) (h6 : z ≤ 12) :
    Made w (.returned (.pointer (some ⟨w.heap.size, 0, none⟩))) w' := by
  refine ⟨rfl, ⟨a, len, cap, 0, M, z, k.2, by omega, by omega, hl, h3, h4, h5, h6, ?_⟩, ?_⟩
  · intro i hi
    obtain ⟨b, off, u, e1, e2, e3⟩ := hr i hi
    have hb : b < w.heap.size := World.block_lt_of_cell? w ⟨b, off + i, none⟩ e2
    refine ⟨b, off, u, e1, by omega, ?_, e3⟩
    refine k.1.cell ?_ (by simp; omega)
    rw [World.cell?_alloc_lt _ _ ⟨b, off + i, none⟩ hb]
    exact e2
  · exact ((Below.refl w.heap.size w).alloc (Nat.le_refl _) o).grown k.1 (by simp) (fun k hk => by simp at hk; omega)

theorem wrap_lo (x : Int) : 0 ≤ IntKind.u64.wrap x := by rw [IntKind.wrap_u64]; omega
theorem wrap_hi (x : Int) : IntKind.u64.wrap x ≤ 18446744073709551615 := by rw [IntKind.wrap_u64]; omega

set_option maxRecDepth 100000 in
set_option maxHeartbeats 1000000 in
theorem source_any (a : Option Addr) (len cap : Nat) (w : World) (hl : len ≤ 1048576) (hr : Row w a len) :
    Calls Tryz.prog 17 #[.slice a len cap] w fun e w' => Made w e w' := by
  go_enter Tryz.func17, Tryz.ntmps17
  go_wp2
  go_loopw [4] (fun i wr => ∃ (k : Nat) (M : Int), k ≤ len ∧ k ≤ 64 ∧ i = .int .i64 (k : Int) ∧ 0 ≤ M ∧ M ≤ 18446744073709551615 ∧ Hid (Kept (w.alloc (.cells #[.slice a len cap, .int .i64 0, .int .u64 88172645463325252, .int .i64 0] 76)) w.heap.size a len cap 0 wr 0 M))
    (fun i _ => len - (intOf i).toNat)
  case atStart => exact ⟨0, 88172645463325252, Nat.zero_le _, by omega, rfl, by omega, by omega, mkHid (kept_refl (heap_alloc_new w _))⟩
  case round =>
    obtain ⟨k, M, hk, hk64, rfl, hM0, hM1, hkept⟩ := hrel
    have c2 : wr.cell? ⟨w.heap.size, 2, none⟩ = some (.int .u64 M) := src_cell hkept.out.2 2
    have c3 : wr.cell? ⟨w.heap.size, 3, none⟩ = some (.int .i64 0) := src_cell hkept.out.2 3
    have hf : ∀ j, wr.frozen? ⟨w.heap.size, j, none⟩ = false := fun j => frozen_of_row wr w.heap.size j _ _ hkept.out.2
    have Hr := mkHid hr
    by_cases hgo : k < len ∧ k < 64
    · obtain ⟨hlt, h64⟩ := hgo
      obtain ⟨b, off, u, rfl, e2, hu0, hu1⟩ := hr k hlt
      have hb : b < w.heap.size := World.block_lt_of_cell? w ⟨b, off + k, none⟩ e2
      have hcell : wr.cell? ⟨b, off + k, none⟩ = some (.int .u8 u) := hkept.out.1.cell (by rw [World.cell?_alloc_lt _ _ ⟨b, off + k, none⟩ hb]; exact e2) (by simp; omega)
      have hki : (k : Int) < (len : Int) := by omega
      have hk6 : (k : Int) < 64 := by omega
      clear hr e2
      go_wp2
      go_region
      go_wp2
      go_roundw
      case rel => exact ⟨k + 1, _, by omega, by omega, by go_num, wrap_lo _, wrap_hi _, mkHid (by repeat (first | exact hkept.out | apply kept_drew | apply kept_mix))⟩
      case measure => simp [intOf]; omega
    · have hd : (len : Int) ≤ (k : Int) ∨ ((k : Int) < (len : Int) ∧ 64 ≤ (k : Int)) := by omega
      clear hr hgo
      have ha : 0 ≤ (len : Int) / 20 := by omega
      rcases hd with hd | ⟨hd1, hd2⟩
      · have hz' : (len : Int) / 20 ≤ 12 := by omega
        go_wp2
        go_ret
        exact made_mk Hr.out hl (by repeat (first | exact hkept.out | apply kept_size)) hM0 hM1 ha hz'
      · by_cases hz : 12 < (len : Int) / 20
        · go_wp2
          go_ret
          exact made_mk Hr.out hl (by repeat (first | exact hkept.out | apply kept_size)) hM0 hM1 (by omega) (by omega)
        · have hz' : (len : Int) / 20 ≤ 12 := by omega
          go_wp2
          go_ret
          exact made_mk Hr.out hl (by repeat (first | exact hkept.out | apply kept_size)) hM0 hM1 ha hz'

end Go.Proofs.YtmoojhnblakdhaaGreat.draw
namespace Go.Proofs.YtmoojhnblakdhaaGreat.draw
open Go.RowKit
open Go.Proofs.YtmoojhnblakdhaaGreat.base
set_option linter.unusedVariables false

theorem info5 : (Tryz.prog.info? 5).map (fun i => (i.zero, i.size, i.bytes)) = some (some (.int .u8 0), 1, 1) := by kernel_rfl

theorem grown_trans {w w1 w2 : World} {r : Option Nat} (h : w.grownBy w1 r) (k : w1.grownBy w2 r) : w.grownBy w2 r :=
  ⟨k.os.trans h.os, k.tape.trans h.tape, k.output.trans h.output, Nat.le_trans h.size k.size, fun i hi hne => (k.block i (Nat.lt_of_lt_of_le hi h.size) hne).trans (h.block i hi hne)⟩
/-- new blocks, and writes to rows that are new -/
theorem grown_new {w w1 w2 : World} {r : Option Nat} (h : w.grownBy w1 r) (k : Below w.heap.size w1 w2) : w.grownBy w2 r :=
  ⟨k.os.trans h.os, k.tape.trans h.tape, k.output.trans h.output, Nat.le_trans h.size k.size, fun i hi hne => (k.block i hi).trans (h.block i hi hne)⟩
theorem grown_below {w w1 : World} {g B : Nat} (h : w.grownBy w1 (some g)) (hg : B ≤ g) (hB : B ≤ w.heap.size) : Below B w w1 :=
  ⟨h.os, h.tape, h.output, h.size, fun k hk => h.block k (by omega) (by simp; omega)⟩

/-- a text of n bytes is drawn -/
def DrewText (w : World) (g : Nat) (most : Nat) (e : Ending) (w' : World) : Prop :=
  ∃ t : ByteArray, e = .returned (.string t) ∧ t.size ≤ most ∧ SrcAt w' g ∧ w.grownBy w' (some g)

set_option maxRecDepth 100000 in
set_option maxHeartbeats 1000000 in
theorem bytes_any (g : Nat) (n : Nat) (w : World) (hn : n ≤ 100000) (h : SrcAt w g) :
    Calls Tryz.prog 22 #[.pointer (some ⟨g, 0, none⟩), .int .i64 n] w fun e w' => DrewText w g n e w' := by
  obtain ⟨i0, hi, hz0, hz1, hz2⟩ := info_parts info5
  have hgl := h.lt
  go_enter Tryz.func22, Tryz.ntmps22
  go_wp2_with fail
  go_loopw [5, 6] (fun v i wr => ∃ (k : Nat) (acc : List UInt8), k ≤ n ∧ i = .int .i64 (k : Int) ∧ Hid (acc.length = k) ∧ wr.ownsRow w.heap.size 5 1 v acc.length (acc.map byteV) ∧ Hid (SrcAt wr g ∧ w.grownBy wr (some g)))
    (fun _ i _ => n - (intOf i).toNat)
  case atStart => exact ⟨0, [], Nat.zero_le _, rfl, mkHid rfl, World.ownsRow_made _ _ _ (Nat.le_refl _) (by decide) rfl, mkHid ⟨h.below ((Below.refl _ _).alloc (Nat.le_refl _) _), World.grownBy_alloc _ _ _⟩⟩
  case round =>
    obtain ⟨k, acc, hk, rfl, hlen, hown, hs⟩ := hrel
    have hal : acc.length ≤ 100000 := by have := hlen.out; omega
    by_cases hlt : k < n
    · have hki : (k : Int) < (n : Int) := by omega
      go_wp2_with fail
      refine (n_any g 256 wr (by omega) hs.out.1).mono ?_
      rintro e w1 ⟨r, rfl, hr0, hr1, _, hs1, hg1⟩
      have hr2 : r ≤ 255 := by have := hr1 (by omega); omega
      clear hr1
      have hsz := hs.out.2.size
      have hsz1 := hg1.size
      have hown1 : w1.ownsRow w.heap.size 5 1 u5 acc.length (acc.map byteV) := hown.kept hg1 (by
        rcases hq : u5.ownBlock with _ | q
        · exact .inl rfl
        · exact .inr (by have := (hown.lt q hq).1; simp; omega))
      have HS1 := mkHid hs1
      have HG1 := mkHid (grown_trans hs.out.2 hg1)
      clear hs hg1 hs1 hown h
      go_wp2_with ((at_builtin; refine wpList_append_own _ rfl _ _ 22 rfl w.heap.size 5 i0 (.int .u8 0) 1 1 Tryz.underlying22 hi hz0 hz1 hz2 rfl (by decide) _ _ _ rfl (hown1.alloc _) ⟨w1.heap.size, 0, none⟩ 1 1 [.int .u8 r] rfl rfl ?c1 ?c2 ?c3 ?c4 ?c5 ?_))
      case c1 =>
        intro j u hj
        match j, hj with
        | 0, hj => simp at hj; subst hj; simp [Addr.add]
      case c2 => intro u hu; simp at hu; subst hu; rfl
      case c3 => unfold maxLen; omega
      case c4 => omega
      case c5 => simp; omega
      · intro v' w2 hown' hgrow _
        have r1 := row_more (UInt8.ofNat r.toNat) (by rw [toNat_ofNat (by omega)]; omega) hown'
        have hbl : Below w.heap.size w1 w2 := ((Below.refl w.heap.size w1).alloc (by omega) _).grown hgrow (by simp; omega) (fun k hk => (hown1.lt k hk).1)
        have R2 := mkHid (show SrcAt w2 g ∧ w.grownBy w2 (some g) from ⟨HS1.out.upto (hbl.mono (by omega)), grown_new HG1.out hbl⟩)
        have R3 := mkHid (show (acc ++ [UInt8.ofNat r.toNat]).length = k + 1 by simp [hlen.out])
        clear hown' hgrow hown1 HS1 HG1 hbl hlen
        go_wp2
        go_roundw
        case rel => exact ⟨k + 1, _, by omega, by go_num, R3, r1, R2⟩
        case measure => simp [intOf]; omega
    · obtain ⟨a, m, cap, hv, hconv⟩ := owns_string_any Tryz.underlying22 Tryz.underlying5 Tryz.underlying9 hown
      clear hown h
      subst hv
      go_wp2
      go_ret
      exact ⟨⟨acc.toArray⟩, rfl, by have := hlen.out; simp [ByteArray.size]; omega, hs.out.1, hs.out.2⟩

/-- a yes or no is drawn -/
def DrewBool (w : World) (g : Nat) (e : Ending) (w' : World) : Prop :=
  ∃ b : Bool, e = .returned (.bool b) ∧ SrcAt w' g ∧ w.grownBy w' (some g)

theorem one_any (g : Nat) (n : Int) (w : World) (hn : n ≤ 9223372036854775807) (h : SrcAt w g) :
    Calls Tryz.prog 19 #[.pointer (some ⟨g, 0, none⟩), .int .i64 n] w fun e w' => DrewBool w g e w' := by
  go_enter Tryz.func19, Tryz.ntmps19
  go_wp2_with fail
  refine (n_any g n w hn h).mono ?_
  rintro e w1 ⟨r, rfl, _, _, _, hs1, hg1⟩
  have H := mkHid (And.intro hs1 hg1)
  clear hs1 hg1 h
  go_wp2
  all_goals go_ret
  all_goals exact ⟨_, rfl, H.out.1, H.out.2⟩

end Go.Proofs.YtmoojhnblakdhaaGreat.draw
namespace Go.Proofs.YtmoojhnblakdhaaGreat.draw
open Go.RowKit
open Go.Proofs.YtmoojhnblakdhaaGreat.base
set_option linter.unusedVariables false

theorem drew_mk {w w' : World} {g most : Nat} {t : ByteArray} (hs : t.size ≤ most) (h : SrcAt w' g ∧ w.grownBy w' (some g)) : DrewText w g most (.returned (.string t)) w' := ⟨t, rfl, hs, h.1, h.2⟩
theorem src_drew {w w' : World} {g : Nat} (h : SrcAt w' g ∧ w.grownBy w' (some g)) : SrcAt w'.drew g ∧ w.grownBy w'.drew (some g) :=
  ⟨h.1, ⟨h.2.os, h.2.tape, h.2.output, h.2.size, h.2.block⟩⟩
theorem src_next {w w1 w2 : World} {g : Nat} (h : SrcAt w1 g ∧ w.grownBy w1 (some g)) (hs : SrcAt w2 g) (hg : w1.grownBy w2 (some g)) : SrcAt w2 g ∧ w.grownBy w2 (some g) := ⟨hs, grown_trans h.2 hg⟩
theorem src_alloc {w w1 : World} {g : Nat} (o : Obj) (h : SrcAt w1 g ∧ w.grownBy w1 (some g)) : SrcAt (w1.alloc o) g ∧ w.grownBy (w1.alloc o) (some g) :=
  ⟨h.1.below ((Below.refl _ _).alloc (Nat.le_refl _) _), grown_trans h.2 (World.grownBy_alloc _ _ _)⟩

theorem one_string (w : World) (c : UInt8) : (convert 22 9 (.slice (some ⟨w.heap.size, 0, none⟩) 1 1)).run Tryz.prog (w.alloc (.cells #[.int .u8 (c.toNat : Int)] 5)) = .ok (.string ⟨#[c]⟩) (w.alloc (.cells #[.int .u8 (c.toNat : Int)] 5)) := by
  have h := run_convert_bytes_back (P := Tryz.prog) (w.alloc (.cells #[.int .u8 (c.toNat : Int)] 5)) 22 9 5 ⟨w.heap.size, 0, none⟩ 1 [c] Tryz.underlying22 Tryz.underlying5 Tryz.underlying9 (by
    intro j hj
    obtain rfl : j = 0 := by simpa using hj
    simp [Addr.add])
  simpa using h

theorem one_size (c : UInt8) : (⟨#[c]⟩ : ByteArray).size = 1 := rfl

end Go.Proofs.YtmoojhnblakdhaaGreat.draw
namespace Go.Proofs.YtmoojhnblakdhaaGreat.draw
open Go.RowKit Go.Joins
open Go.Proofs.YtmoojhnblakdhaaGreat.base Go.Proofs.YtmoojhnblakdhaaGreat.blk Go.Proofs.YtmoojhnblakdhaaGreat.aid
set_option linter.unusedVariables false

def DrewBlob (w : World) (g : Nat) (e : Ending) (w' : World) : Prop :=
  ∃ (k : Int) (t : ByteArray), e = .returned (.agg #[.int .i64 k, .string t]) ∧ SrcAt w' g ∧ w.grownBy w' (some g)
def cells2 (k : Int) (t : ByteArray) : Obj := .cells #[.int .i64 k, .string t] 110
theorem blk_grown {w w' : World} {j g : Nat} {o : Obj} (h : w.heap[j]? = some o) (hg : w.grownBy w' (some g)) (hne : j ≠ g) : w'.heap[j]? = some o :=
  (hg.block j (Array.getElem?_eq_some_iff.1 h).1 (by simpa using hne)).trans h

/-- what stands in memory while a blob is drawn -/
structure Bd (w : World) (g C : Nat) (k : Int) (t : ByteArray) (wr : World) : Prop where
  src : SrcAt wr g
  grown : w.grownBy wr (some g)
  res : wr.heap[w.heap.size]? = some (cells2 0 ⟨#[]⟩)
  box : wr.heap[C]? = some (cells2 k t)
  hC : w.heap.size < C
  hg : g < w.heap.size
theorem Bd.draw {w wr w' : World} {g C : Nat} {k : Int} {t : ByteArray} (h : Bd w g C k t wr) (hs : SrcAt w' g) (hg : wr.grownBy w' (some g)) : Bd w g C k t w' :=
  ⟨hs, grown_trans h.grown hg, blk_grown h.res hg (by have := h.hg; omega), blk_grown h.box hg (by have := h.hg; have := h.hC; omega), h.hC, h.hg⟩
theorem Bd.alloc {w wr : World} {g C : Nat} {k : Int} {t : ByteArray} (h : Bd w g C k t wr) (o : Obj) : Bd w g C k t (wr.alloc o) :=
  ⟨h.src.below ((Below.refl _ _).alloc (Nat.le_refl _) _), grown_trans h.grown (World.grownBy_alloc wr o _), blk_old h.res o, blk_old h.box o, h.hC, h.hg⟩
theorem Bd.drew {w wr : World} {g C : Nat} {k : Int} {t : ByteArray} (h : Bd w g C k t wr) : Bd w g C k t wr.drew := ⟨h.src, ⟨h.grown.os, h.grown.tape, h.grown.output, h.grown.size, h.grown.block⟩, h.res, h.box, h.hC, h.hg⟩
theorem src_set {wr : World} {g : Nat} (h : SrcAt wr g) (p : Addr) (v : Value) (hp : g < p.block) : SrcAt (wr.setCell p v) g :=
  h.upto ((Below.refl (g + 1) wr).setCell hp v)
theorem Bd.setAny {w wr : World} {g C : Nat} {k : Int} {t : ByteArray} (h : Bd w g C k t wr) (j : Nat) (v : Value) (k' : Int) (t' : ByteArray) (e : (#[.int .i64 k, .string t] : Array Value).setIfInBounds j v = #[.int .i64 k', .string t']) : Bd w g C k' t' (wr.setCell ⟨C, j, none⟩ v) := by
  have h1 := h.hC
  have h2 := h.hg
  refine ⟨src_set h.src _ _ (by simp; omega), ⟨h.grown.os, h.grown.tape, h.grown.output, by simpa using h.grown.size, fun k hk hne => ?_⟩, blk_set h.res _ _ (by simp; omega), ?_, h1, h2⟩
  · rw [Below.heap_setCell _ _ _ _ (by simp; omega)]
    exact h.grown.block k hk hne
  · have k := block_setCell (i := j) h.box v
    rw [k, e]
    rfl
theorem Bd.fin {w wr : World} {g C : Nat} {k : Int} {t : ByteArray} (h : Bd w g C k t wr) : DrewBlob w g (.returned (.agg #[.int .i64 k, .string t])) ((wr.setCell ⟨w.heap.size, 0, none⟩ (.int .i64 k)).setCell ⟨w.heap.size, 1, none⟩ (.string t)) := by
  have h2 := h.hg
  refine ⟨k, t, rfl, src_set (src_set h.src _ _ (by simpa using h2)) _ _ (by simpa using h2), ⟨h.grown.os, h.grown.tape, h.grown.output, by simpa using h.grown.size, fun k hk hne => ?_⟩⟩
  rw [Below.heap_setCell _ _ _ _ (by simp; omega), Below.heap_setCell _ _ _ _ (by simp; omega)]
  exact h.grown.block k hk hne

theorem made_cell (w : World) (m j : Nat) (h : j < m) (e : TypeId) : (w.alloc (.cells (madeCells #[.int .u8 0] m) e)).cell? ((⟨w.heap.size, 0, none⟩ : Addr).add j) = some (.int .u8 0) := by
  rw [Addr.add_lit]
  simp [madeCells, Nat.mod_one, h]
theorem made_run (m : Nat) (hm : m ≤ 100000) (u : World) : (Instr.makeSlice 22 (.int .i64 (m : Int)) (.int .i64 (m : Int))).run Tryz.prog u = .ok (.slice (some ⟨u.heap.size, 0, none⟩) m m) (u.alloc (.cells (madeCells #[.int .u8 0] m) 5)) := by
  obtain ⟨i0, hi, hz0, hz1, hz2⟩ := info_parts info5
  have h := run_make (P := Tryz.prog) u 22 5 i0 (.int .u8 0) Tryz.underlying22 hi hz0 .i64 .i64 (m : Int) (m : Int) (by omega) (Int.le_refl _) (by rw [hz2]; omega) (by omega)
  have e : (m : Int).toNat = m := by omega
  rw [e] at h
  simpa [hz1, Value.cells] using h
theorem made_text (w3 : World) (m : Nat) : (convert 22 9 (.slice (some ⟨w3.heap.size, 0, none⟩) m m)).run Tryz.prog (w3.alloc (.cells (madeCells #[.int .u8 0] m) 5)) = .ok (.string ⟨(List.replicate m (0 : UInt8)).toArray⟩) (w3.alloc (.cells (madeCells #[.int .u8 0] m) 5)) := by
  have hconv := run_convert_bytes_back (P := Tryz.prog) (w3.alloc (.cells (madeCells #[.int .u8 0] m) 5)) 22 9 5 (⟨w3.heap.size, 0, none⟩ : Addr) m (List.replicate m 0) Tryz.underlying22 Tryz.underlying5 Tryz.underlying9 (fun j hj => by
    rw [List.length_replicate] at hj
    rw [made_cell w3 m j hj 5]
    simp)
  rw [List.length_replicate] at hconv
  exact hconv

set_option maxRecDepth 100000 in
set_option maxHeartbeats 4000000 in
theorem blob_any (g : Nat) (w : World) (h : SrcAt w g) :
    Calls Tryz.prog 70 #[.pointer (some ⟨g, 0, none⟩)] w fun e w' => DrewBlob w g e w' := by
  have hgl := h.lt
  have HN : Hid (∀ wx (m : Int), m ≤ 9223372036854775807 → SrcAt wx g → Calls Tryz.prog 20 #[.pointer (some ⟨g, 0, none⟩), .int .i64 m] wx fun e w' => Drew wx g m e w') := mkHid (fun wx m h1 h2 => n_any g m wx h1 h2)
  have HT : Hid (∀ wx (n : Nat), n ≤ 100000 → SrcAt wx g → Calls Tryz.prog 22 #[.pointer (some ⟨g, 0, none⟩), .int .i64 n] wx fun e w' => DrewText wx g n e w') := mkHid (fun wx n h1 h2 => bytes_any g n wx h1 h2)
  have HO : Hid (∀ wx (n : Int), n ≤ 9223372036854775807 → SrcAt wx g → Calls Tryz.prog 19 #[.pointer (some ⟨g, 0, none⟩), .int .i64 n] wx fun e w' => DrewBool wx g e w') := mkHid (fun wx n h1 h2 => one_any g n wx h1 h2)
  go_enter Tryz.func70, Tryz.ntmps70
  go_wp2_with fail
  have S0 := mkHid (And.intro (h.below (below_alloc1 w (cells2 0 ⟨#[]⟩))) (And.intro (World.grownBy_alloc w (cells2 0 ⟨#[]⟩) (some g)) (blk_new w (cells2 0 ⟨#[]⟩) _ rfl)))
  clear h
  refine (HN.out _ 2 (by omega) S0.out.1).mono ?_
  rintro e w1 ⟨r1, rfl, hr0, hr1, _, hs1, hg1⟩
  have hr1' := hr1 (by omega)
  have S1 := mkHid (And.intro hs1 (And.intro (grown_trans S0.out.2.1 hg1) (blk_grown S0.out.2.2 hg1 (by omega))))
  clear S0 hs1 hg1 hr1
  go_wp2_with fail
  refine (HN.out _ 30 (by omega) S1.out.1).mono ?_
  rintro e w2 ⟨r2, rfl, hq0, hq1, _, hs2, hg2⟩
  have hq1' := hq1 (by omega)
  obtain ⟨m, rfl⟩ := Int.eq_ofNat_of_zero_le hq0
  have S2 := mkHid (And.intro hs2 (And.intro (grown_trans S1.out.2.1 hg2) (blk_grown S1.out.2.2 hg2 (by omega))))
  clear S1 hs2 hg2 hq1
  go_wp2_with fail
  refine (HT.out _ m (by omega) S2.out.1).mono ?_
  rintro e w3 ⟨t0, rfl, ht0, hs3, hg3⟩
  have k3 := blk_grown S2.out.2.2 hg3 (by omega)
  have hC3 : w.heap.size < w3.heap.size := (Array.getElem?_eq_some_iff.1 k3).1
  have S3 : Hid (Bd w g w3.heap.size (1 + r1) t0 (w3.alloc (cells2 (1 + r1) t0))) := mkHid ⟨hs3.below (below_alloc1 w3 _), grown_trans (grown_trans S2.out.2.1 hg3) (World.grownBy_alloc w3 _ _), blk_old k3 _, blk_new w3 _ _ rfl, hC3, hgl⟩
  clear S2 hs3 hg3 k3
  go_wp2_with fail
  unfold cells2 at S3
  generalize w3.alloc (.cells #[.int .i64 (1 + r1), .string t0] 110) = W at *
  have S3' : Hid (Bd w g w3.heap.size (1 + r1) t0 W) := S3
  clear S3
  generalize w3.heap.size = C at *
  obtain ⟨k0, hk0⟩ : ∃ x, x = 1 + r1 := ⟨_, rfl⟩
  rw [← hk0] at S3'
  rw [← hk0]
  clear hk0
  refine (HO.out _ 25 (by omega) S3'.out.src).mono ?_
  rintro e w5 ⟨b, rfl, hs5, hg5⟩
  have S5 := mkHid (S3'.out.draw hs5 hg5)
  clear hs5 hg5 S3'
  cases b with
  | true =>
    go_wp2_with fail
    refine (HN.out _ 5 (by omega) S5.out.src).mono ?_
    rintro e w6 ⟨r, rfl, hr0, hr1, _, hs6, hg6⟩
    have hr1' := hr1 (by omega)
    have S6 := mkHid (S5.out.draw hs6 hg6)
    clear hs6 hg6 S5 hr1
    have d0 : w6.cell? ⟨C, 0, none⟩ = some (.int .i64 k0) := (cel2 S6.out.box).1
    have df : w6.frozen? ⟨C, 0, none⟩ = false := unfrozen S6.out.box 0
    go_wp2_with fail
    have S7 := mkHid (S6.out.setAny 0 (.int .i64 (r - 1)) (r - 1) t0 rfl)
    clear S6 d0 df
    generalize w6.setCell ⟨C, 0, none⟩ (.int .i64 (r - 1)) = W7 at *
    generalize r - 1 = k1 at *
    clear hr0 hr1'
    refine (HO.out _ 60 (by omega) S7.out.src).mono ?_
    rintro e w8 ⟨b, rfl, hs8, hg8⟩
    have S8 := mkHid (S7.out.draw hs8 hg8)
    clear hs8 hg8 S7
    cases b with
    | false =>
      obtain ⟨e0, e1⟩ := cel2 S8.out.box
      obtain ⟨f0, f1⟩ := cel2 S8.out.res
      have ff : ∀ j, w8.frozen? ⟨w.heap.size, j, none⟩ = false := unfrozen S8.out.res
      go_wp2
      exact bodyPost_ret (v := .agg #[.int .i64 (k1), .string t0]) (by simp [results, Tryz.results70, go_sem, f0, f1]) rfl S8.out.fin
    | true =>
      go_wp2_with fail
      refine (HN.out _ 3 (by omega) S8.out.src).mono ?_
      rintro e w9 ⟨r, rfl, hr0, hr1, _, hs9, hg9⟩
      have hr1' := hr1 (by omega)
      obtain ⟨mm, hm⟩ : ∃ m : Nat, 1999 + r = (m : Int) := ⟨(1999 + r).toNat, by omega⟩
      have hm2 : mm ≤ 2001 := by omega
      obtain rfl : r = (mm : Int) - 1999 := by omega
      have hsum : (1999 : Int) + ((mm : Int) - 1999) = (mm : Int) := by omega
      have S9 := mkHid ((S8.out.draw hs9 hg9).alloc (.cells (madeCells #[.int .u8 0] mm) 5))
      clear hs9 hg9 S8 hr1 hm hr1'
      have hmk := made_run mm (by omega)
      have hconv := made_text w9 mm
      obtain ⟨e0, e1⟩ := cel2 S9.out.box
      obtain ⟨f0, f1⟩ := cel2 S9.out.res
      have ff : ∀ j, (w9.alloc (.cells (madeCells #[.int .u8 0] mm) 5)).frozen? ⟨w.heap.size, j, none⟩ = false := unfrozen S9.out.res
      have fe : ∀ j, (w9.alloc (.cells (madeCells #[.int .u8 0] mm) 5)).frozen? ⟨C, j, none⟩ = false := unfrozen S9.out.box
      go_wp2_with fail
      have S10 := mkHid (S9.out.setAny 1 (.string ⟨Array.replicate mm 0⟩) (k1) ⟨Array.replicate mm 0⟩ rfl)
      clear S9 e0 e1 f0 f1 ff fe hmk hconv
      generalize (w9.alloc (.cells (madeCells #[.int .u8 0] mm) 5)).setCell ⟨C, 1, none⟩ (.string ⟨Array.replicate mm 0⟩) = W10 at *
      obtain ⟨f0, f1⟩ := cel2 S10.out.res
      exact bodyPost_ret (v := .agg #[.int .i64 (k1), .string ⟨Array.replicate mm 0⟩]) (by simp [results, Tryz.results70, go_sem, f0, f1]) rfl S10.out.fin
  | false =>
    go_wp2_with fail
    refine (HO.out _ 60 (by omega) S5.out.src).mono ?_
    rintro e w8 ⟨b, rfl, hs8, hg8⟩
    have S8 := mkHid (S5.out.draw hs8 hg8)
    clear hs8 hg8 S5
    cases b with
    | false =>
      obtain ⟨e0, e1⟩ := cel2 S8.out.box
      obtain ⟨f0, f1⟩ := cel2 S8.out.res
      have ff : ∀ j, w8.frozen? ⟨w.heap.size, j, none⟩ = false := unfrozen S8.out.res
      go_wp2
      exact bodyPost_ret (v := .agg #[.int .i64 (k0), .string t0]) (by simp [results, Tryz.results70, go_sem, f0, f1]) rfl S8.out.fin
    | true =>
      go_wp2_with fail
      refine (HN.out _ 3 (by omega) S8.out.src).mono ?_
      rintro e w9 ⟨r, rfl, hr0, hr1, _, hs9, hg9⟩
      have hr1' := hr1 (by omega)
      obtain ⟨mm, hm⟩ : ∃ m : Nat, 1999 + r = (m : Int) := ⟨(1999 + r).toNat, by omega⟩
      have hm2 : mm ≤ 2001 := by omega
      obtain rfl : r = (mm : Int) - 1999 := by omega
      have hsum : (1999 : Int) + ((mm : Int) - 1999) = (mm : Int) := by omega
      have S9 := mkHid ((S8.out.draw hs9 hg9).alloc (.cells (madeCells #[.int .u8 0] mm) 5))
      clear hs9 hg9 S8 hr1 hm hr1'
      have hmk := made_run mm (by omega)
      have hconv := made_text w9 mm
      obtain ⟨e0, e1⟩ := cel2 S9.out.box
      obtain ⟨f0, f1⟩ := cel2 S9.out.res
      have ff : ∀ j, (w9.alloc (.cells (madeCells #[.int .u8 0] mm) 5)).frozen? ⟨w.heap.size, j, none⟩ = false := unfrozen S9.out.res
      have fe : ∀ j, (w9.alloc (.cells (madeCells #[.int .u8 0] mm) 5)).frozen? ⟨C, j, none⟩ = false := unfrozen S9.out.box
      go_wp2_with fail
      have S10 := mkHid (S9.out.setAny 1 (.string ⟨Array.replicate mm 0⟩) (k0) ⟨Array.replicate mm 0⟩ rfl)
      clear S9 e0 e1 f0 f1 ff fe hmk hconv
      generalize (w9.alloc (.cells (madeCells #[.int .u8 0] mm) 5)).setCell ⟨C, 1, none⟩ (.string ⟨Array.replicate mm 0⟩) = W10 at *
      obtain ⟨f0, f1⟩ := cel2 S10.out.res
      exact bodyPost_ret (v := .agg #[.int .i64 (k0), .string ⟨Array.replicate mm 0⟩]) (by simp [results, Tryz.results70, go_sem, f0, f1]) rfl S10.out.fin
end Go.Proofs.YtmoojhnblakdhaaGreat.draw
namespace Go.Proofs.YtmoojhnblakdhaaGreat.draw
open Go.RowKit Go.Joins
open Go.Proofs.YtmoojhnblakdhaaGreat.base Go.Proofs.YtmoojhnblakdhaaGreat.blk Go.Proofs.YtmoojhnblakdhaaGreat.aid
set_option linter.unusedVariables false

def DecPost (w : World) (e : Ending) (w' : World) : Prop := ∃ t : ByteArray, e = .returned (.string t) ∧ t.size ≤ 200 ∧ Below w.heap.size w w'

set_option maxRecDepth 100000 in
set_option maxHeartbeats 1000000 in
theorem dec_any (n : Nat) (w : World) (hn : n ≤ 100) :
    Calls Tryz.prog 39 #[.int .i64 n] w fun e w' => DecPost w e w' := by
  by_cases h0 : n = 0
  · subst h0
    go_enter Tryz.func39, Tryz.ntmps39
    go_wp2
    go_ret
    exact ⟨_, rfl, by decide, Below.refl _ _⟩
  · have hni : ((n : Int) == 0) = false := by simp; omega
    have hn1 : ¬ ((n : Int) < 0) := by omega
    go_enter Tryz.func39, Tryz.ntmps39
    go_wp2_with fail
    go_loopw [0, 4] (fun x v wr => ∃ (k : Nat) (t : ByteArray), x = .int .i64 k ∧ v = .string t ∧ k ≤ 100 ∧ Hid (t.size + k ≤ 200) ∧ Hid (Below w.heap.size w wr))
      (fun x _ _ => (intOf x).toNat)
    case atStart => exact ⟨n, ⟨#[]⟩, rfl, rfl, hn, mkHid (by show 0 + n ≤ 200; omega), mkHid (Below.refl _ _)⟩
    case round =>
      obtain ⟨k, t, rfl, rfl, hk, ht, hB⟩ := hrel
      by_cases hk0 : k = 0
      · subst hk0
        go_wp2
        go_ret
        exact ⟨t, rfl, by have := ht.out; omega, hB.out⟩
      · have hki : ((k : Int) == 0) = false := by simp; omega
        have hki2 : (k : Int) ≤ 100 := by omega
        have hti : (t.size : Int) ≤ 200 := by have := ht.out; omega
        clear hni hn1
        have ec : ((UInt8.ofNat (48 + k % 10)).toNat : Int) = 48 + (k : Int) % 10 := by rw [UInt8.toNat_ofNat']; omega
        have hcv := one_string wr (UInt8.ofNat (48 + k % 10))
        rw [ec] at hcv
        generalize UInt8.ofNat (48 + k % 10) = ch at hcv
        clear ec
        have hadd := fun wx => run_string_add_sum (P := Tryz.prog) wx ⟨#[ch]⟩ t (by have := one_size ch; omega)
        have N1 : Hid ((⟨#[ch]⟩ ++ t : ByteArray).size + k / 10 ≤ 200) := mkHid (by have := ht.out; rw [ByteArray.size_append, one_size]; omega)
        have N2 := mkHid (hB.out.alloc hB.out.size (.cells #[.int .u8 (48 + (k : Int) % 10)] 5))
        clear ht hB
        go_wp2
        exact ⟨⟨k / 10, _, by go_num, rfl, by omega, N1, N2⟩, by simp [intOf]; omega⟩
end Go.Proofs.YtmoojhnblakdhaaGreat.draw
namespace Go.Proofs.YtmoojhnblakdhaaGreat.draw
open Go.RowKit Go.Joins
open Go.Proofs.YtmoojhnblakdhaaGreat.base Go.Proofs.YtmoojhnblakdhaaGreat.blk Go.Proofs.YtmoojhnblakdhaaGreat.aid
open Go.Proofs.YtmoojhnblakdhaaGreat.row (bl Rd Own OwnV appSem app_fold)
open Go.Proofs.YtmoojhnblakdhaaGreat.rdr (appB)
set_option linter.unusedVariables false
attribute [local go_sem ↓] app_fold

/-- blobs are drawn -/
def DrewBlobs (w : World) (g : Nat) (e : Ending) (w' : World) : Prop :=
  ∃ (l : List (Int × ByteArray)) (a : Option Addr) (c : Nat), e = .returned (.slice a l.length c) ∧ l.length ≤ 100 ∧ Rd w' a (bl l) ∧ (∀ b o s, a = some ⟨b, o, s⟩ → w.heap.size ≤ b) ∧ SrcAt w' g ∧ w.grownBy w' (some g)
/-- what stands in memory while blobs are drawn -/
structure Bs (w : World) (g : Nat) (acc : List (Int × ByteArray)) (v : Value) (W : World) : Prop where
  src : SrcAt W g
  grown : w.grownBy W (some g)
  row : W.ownsRow w.heap.size 110 2 v acc.length (bl acc)
  hg : g < w.heap.size
theorem Bs.draw {w W W' : World} {g : Nat} {acc : List (Int × ByteArray)} {v : Value} (h : Bs w g acc v W) (hs : SrcAt W' g) (hg : W.grownBy W' (some g)) : Bs w g acc v W' :=
  ⟨hs, grown_trans h.grown hg, h.row.kept hg (by
    rcases hq : v.ownBlock with _ | q
    · exact .inl rfl
    · exact .inr (by have := (h.row.lt q hq).1; have := h.hg; simp; omega)), h.hg⟩
theorem Bs.next {w W W' : World} {g : Nat} {acc : List (Int × ByteArray)} {v : Value} (h : Bs w g acc v W) (hb : Below W.heap.size W W') : Bs w g acc v W' :=
  h.draw (h.src.below hb) (below_grew hb _)
theorem Bs.app {w W : World} {g : Nat} {acc : List (Int × ByteArray)} {v : Value} (h : Bs w g acc v W) (k : Int) (t : ByteArray) (hl : acc.length ≤ 1000) :
    ∃ q c w2, (appSem #[81, 81] 81 #[v, .slice (some ⟨W.heap.size, 0, none⟩) 1 1]).run Tryz.prog (W.alloc (.cells #[.int .i64 k, .string t] 110)) = .ok (.slice (some ⟨q, 0, none⟩) (acc.length + 1) c) w2 ∧ Bs w g (acc ++ [(k, t)]) (.slice (some ⟨q, 0, none⟩) (acc.length + 1) c) w2 := by
  have hs := h.grown.size
  obtain ⟨q, c, w2, h1, h2, h3⟩ := appB W w.heap.size v acc.length acc k t rfl h.row hs (by omega)
  have hbl : Below w.heap.size W w2 := ((Below.refl w.heap.size W).alloc hs _).grown h3 (by simp; omega) (fun x hx => (h.row.lt x hx).1)
  refine ⟨q, c, w2, h1, h.src.upto (hbl.mono (by have := h.hg; omega)), grown_new h.grown hbl, ?_, h.hg⟩
  have e : (acc ++ [(k, t)]).length = acc.length + 1 := by simp
  rw [e]
  exact h2

theorem Bs.fin {w W : World} {g q c : Nat} {acc : List (Int × ByteArray)} (h : Bs w g acc (.slice (some ⟨q, 0, none⟩) acc.length c) W) (hl : acc.length ≤ 100) : DrewBlobs w g (.returned (.slice (some ⟨q, 0, none⟩) acc.length c)) W :=
  ⟨acc, _, c, rfl, hl, (Own.owns (n := acc.length) (c := c) h.row).rd, fun b o s e => by
    cases e
    exact (h.row.lt q rfl).1, h.src, h.grown⟩

set_option maxRecDepth 100000 in
set_option maxHeartbeats 4000000 in
theorem blobs_any (g : Nat) (w : World) (h : SrcAt w g) :
    Calls Tryz.prog 46 #[.pointer (some ⟨g, 0, none⟩)] w fun e w' => DrewBlobs w g e w' := by
  have hgl := h.lt
  have HN : Hid (∀ wx (m : Int), m ≤ 9223372036854775807 → SrcAt wx g → Calls Tryz.prog 20 #[.pointer (some ⟨g, 0, none⟩), .int .i64 m] wx fun e w' => Drew wx g m e w') := mkHid (fun wx m h1 h2 => n_any g m wx h1 h2)
  have HO : Hid (∀ wx (n : Int), n ≤ 9223372036854775807 → SrcAt wx g → Calls Tryz.prog 19 #[.pointer (some ⟨g, 0, none⟩), .int .i64 n] wx fun e w' => DrewBool wx g e w') := mkHid (fun wx n h1 h2 => one_any g n wx h1 h2)
  have HB : Hid (∀ wx, SrcAt wx g → Calls Tryz.prog 70 #[.pointer (some ⟨g, 0, none⟩)] wx fun e w' => DrewBlob wx g e w') := mkHid (fun wx h2 => blob_any g wx h2)
  have HD : Hid (∀ wx (n : Nat), n ≤ 100 → Calls Tryz.prog 39 #[.int .i64 n] wx fun e w' => DecPost wx e w') := mkHid (fun wx n h1 => dec_any n wx h1)
  go_enter Tryz.func46, Tryz.ntmps46
  go_wp2_with fail
  have S0 : Hid (Bs w g [] (.slice (some ⟨w.heap.size, 0, none⟩) 0 0) (w.alloc (.cells #[] 110))) := mkHid ⟨h.below (below_alloc1 w _), World.grownBy_alloc w _ _, World.ownsRow_made (base := w.heap.size) (size := 2) w #[] 0 (Nat.le_refl _) (by decide) rfl, hgl⟩
  clear h
  refine (HN.out _ 5 (by omega) S0.out.src).mono ?_
  rintro e w1 ⟨r, rfl, hr0, hr1, _, hs1, hg1⟩
  have hr1' := hr1 (by omega)
  obtain ⟨k0, rfl⟩ := Int.eq_ofNat_of_zero_le hr0
  have S1 := mkHid (S0.out.draw hs1 hg1)
  have hk0 : k0 ≤ 5 := by omega
  clear S0 hs1 hg1 hr1 hr0 hr1'
  go_wp2_with fail
  go_loopw [3, 4] (fun v i wr => ∃ (k : Nat) (acc : List (Int × ByteArray)) (q c : Nat), i = .int .i64 k ∧ v = .slice (some ⟨q, 0, none⟩) acc.length c ∧ acc.length + k ≤ 5 ∧ Hid (Bs w g acc (.slice (some ⟨q, 0, none⟩) acc.length c) wr))
    (fun _ i _ => (intOf i).toNat)
  case atStart => exact ⟨k0, [], w.heap.size, 0, rfl, rfl, by simpa using hk0, S1⟩
  case round =>
    clear S1 hk0
    obtain ⟨k, acc, q, c, rfl, rfl, hle, hS⟩ := hrel
    have hacc : (acc.length : Int) ≤ 5 := by omega
    by_cases hk : 0 < k
    · have hki : 0 < (k : Int) := by omega
      have hki2 : (k : Int) ≤ 5 := by omega
      go_wp2_with fail
      refine (HB.out _ hS.out.src).mono ?_
      rintro e w2 ⟨bk, bt, rfl, hs2, hg2⟩
      obtain ⟨q2, c2, w3, hrun, S3⟩ := (hS.out.draw hs2 hg2).app bk bt (by omega)
      have N1 : Hid (Bs w g (acc ++ [(bk, bt)]) (.slice (some ⟨q2, 0, none⟩) (acc ++ [(bk, bt)]).length c2) w3) := mkHid (by simpa using S3)
      clear S3 hS hs2 hg2
      go_wp2
      exact ⟨⟨k - 1, acc ++ [(bk, bt)], q2, c2, by go_num, by simp, by simp; omega, N1⟩, by simp [intOf]; omega⟩
    · obtain rfl : k = 0 := by omega
      cases acc with
      | nil =>
        go_wp2_with fail
        refine (HO.out _ 40 (by omega) hS.out.src).mono ?_
        rintro e w5 ⟨b, rfl, hs5, hg5⟩
        have S5 := mkHid (hS.out.draw hs5 hg5)
        clear hs5 hg5 hS
        cases b with
        | false =>
          go_wp2
          go_ret
          exact S5.out.fin (by first | (simp; done) | omega)
        | true =>
          go_wp2_with fail
          go_loopw [3, 5] (fun v i wr => ∃ (j : Nat) (acc : List (Int × ByteArray)) (q c : Nat), j ≤ acc.length ∧ acc.length ≤ 41 ∧ i = .int .i64 j ∧ v = .slice (some ⟨q, 0, none⟩) acc.length c ∧ Hid (Bs w g acc (.slice (some ⟨q, 0, none⟩) acc.length c) wr))
            (fun v _ _ => 41 - rdr.lenOf v)
          case atStart => exact ⟨0, [], q, c, Nat.zero_le _, by first | (simp; done) | omega, rfl, rfl, S5⟩
          case round =>
            clear S5
            obtain ⟨j, acc', q', c', hj, hlen, rfl, rfl, hS'⟩ := hrel
            have hlen' : (acc'.length : Int) ≤ 41 := by omega
            have hj' : (j : Int) ≤ 41 := by omega
            go_wp2_with fail
            refine (HN.out _ 3 (by omega) hS'.out.src).mono ?_
            rintro e w6 ⟨r, rfl, hr0, hr1, _, hs6, hg6⟩
            have hr1' := hr1 (by omega)
            have S6 := mkHid (hS'.out.draw hs6 hg6)
            clear hs6 hg6 hS' hr1
            by_cases hlt : (acc'.length : Int) < 39 + r
            · go_wp2_with fail
              refine (HD.out _ j (by omega)).mono ?_
              rintro e w7 ⟨t7, rfl, ht7, hb7⟩
              have hy : t7.size + (⟨#[121]⟩ : ByteArray).size ≤ 9223372036854775807 := by show t7.size + 1 ≤ _; omega
              have hadd := fun wx => run_string_add_sum (P := Tryz.prog) wx t7 ⟨#[121]⟩ hy
              obtain ⟨q8, c8, w8, hrun, S8⟩ := (S6.out.next hb7).app 1 (t7 ++ (⟨#[121]⟩ : ByteArray)) (by omega)
              have N1 : Hid (Bs w g (acc' ++ [(1, t7 ++ (⟨#[121]⟩ : ByteArray))]) (.slice (some ⟨q8, 0, none⟩) (acc' ++ [(1, t7 ++ (⟨#[121]⟩ : ByteArray))]).length c8) w8) := mkHid (by simpa using S8)
              have ht7i : (t7.size : Int) ≤ 200 := by omega
              clear S8 S6 hb7 hy
              go_wp2
              exact ⟨⟨j + 1, acc' ++ [(1, t7 ++ (⟨#[121]⟩ : ByteArray))], q8, c8, by simp; omega, by simp; omega, by go_num, by simp, N1⟩, by simp [rdr.lenOf]; omega⟩
            · go_wp2
              go_ret
              exact S6.out.fin (by omega)
      | cons b0 r0 =>
        obtain ⟨bk0, bt0⟩ := b0
        have hpos : 0 < ((((bk0, bt0) :: r0).length : Nat) : Int) := by simp <;> omega
        have hlt6 : ((bk0, bt0) :: r0).length ≤ 5 := by omega
        generalize hgen : (bk0, bt0) :: r0 = acc at *
        have h00 : acc[0]? = some (bk0, bt0) := by rw [← hgen]; rfl
        clear hgen
        go_wp2_with fail
        refine (HO.out _ 15 (by omega) hS.out.src).mono ?_
        rintro e w2 ⟨b, rfl, hs2, hg2⟩
        have S2 := mkHid (hS.out.draw hs2 hg2)
        clear hs2 hg2 hS
        cases b with
        | false =>
          go_wp2_with fail
          refine (HO.out _ 40 (by omega) S2.out.src).mono ?_
          rintro e w5 ⟨b, rfl, hs5, hg5⟩
          have S5 := mkHid (S2.out.draw hs5 hg5)
          clear hs5 hg5 S2
          cases b with
          | false =>
            go_wp2
            go_ret
            exact S5.out.fin (by first | (simp; done) | omega)
          | true =>
            go_wp2_with fail
            go_loopw [3, 5] (fun v i wr => ∃ (j : Nat) (acc : List (Int × ByteArray)) (q c : Nat), j ≤ acc.length ∧ acc.length ≤ 41 ∧ i = .int .i64 j ∧ v = .slice (some ⟨q, 0, none⟩) acc.length c ∧ Hid (Bs w g acc (.slice (some ⟨q, 0, none⟩) acc.length c) wr))
              (fun v _ _ => 41 - rdr.lenOf v)
            case atStart => exact ⟨0, acc, q, c, Nat.zero_le _, by first | (simp; done) | omega, rfl, rfl, S5⟩
            case round =>
              clear S5
              obtain ⟨j, acc', q', c', hj, hlen, rfl, rfl, hS'⟩ := hrel
              have hlen' : (acc'.length : Int) ≤ 41 := by omega
              have hj' : (j : Int) ≤ 41 := by omega
              go_wp2_with fail
              refine (HN.out _ 3 (by omega) hS'.out.src).mono ?_
              rintro e w6 ⟨r, rfl, hr0, hr1, _, hs6, hg6⟩
              have hr1' := hr1 (by omega)
              have S6 := mkHid (hS'.out.draw hs6 hg6)
              clear hs6 hg6 hS' hr1
              by_cases hlt : (acc'.length : Int) < 39 + r
              · go_wp2_with fail
                refine (HD.out _ j (by omega)).mono ?_
                rintro e w7 ⟨t7, rfl, ht7, hb7⟩
                have hy : t7.size + (⟨#[121]⟩ : ByteArray).size ≤ 9223372036854775807 := by show t7.size + 1 ≤ _; omega
                have hadd := fun wx => run_string_add_sum (P := Tryz.prog) wx t7 ⟨#[121]⟩ hy
                obtain ⟨q8, c8, w8, hrun, S8⟩ := (S6.out.next hb7).app 1 (t7 ++ (⟨#[121]⟩ : ByteArray)) (by omega)
                have N1 : Hid (Bs w g (acc' ++ [(1, t7 ++ (⟨#[121]⟩ : ByteArray))]) (.slice (some ⟨q8, 0, none⟩) (acc' ++ [(1, t7 ++ (⟨#[121]⟩ : ByteArray))]).length c8) w8) := mkHid (by simpa using S8)
                have ht7i : (t7.size : Int) ≤ 200 := by omega
                clear S8 S6 hb7 hy
                go_wp2
                exact ⟨⟨j + 1, acc' ++ [(1, t7 ++ (⟨#[121]⟩ : ByteArray))], q8, c8, by simp; omega, by simp; omega, by go_num, by simp, N1⟩, by simp [rdr.lenOf]; omega⟩
              · go_wp2
                go_ret
                exact S6.out.fin (by omega)
        | true =>
          obtain ⟨qq, oo, hqq, c0, c1, _⟩ := (Own.owns (n := acc.length) (c := c) S2.out.row).rd.blob h00
          simp at hqq
          obtain ⟨rfl, rfl⟩ := hqq
          obtain ⟨q2, c2, w3, hrun, S3⟩ := S2.out.app bk0 bt0 (by omega)
          have N1 : Hid (Bs w g (acc ++ [(bk0, bt0)]) (.slice (some ⟨q2, 0, none⟩) (acc ++ [(bk0, bt0)]).length c2) w3) := mkHid (by simpa using S3)
          have hln : (acc ++ [(bk0, bt0)]).length = acc.length + 1 := by simp
          clear S3 S2
          go_wp2_with fail
          rw [← hln]
          have hl2 : (acc ++ [(bk0, bt0)]).length ≤ 6 := by omega
          clear hln hrun c0 c1 h00
          generalize acc ++ [(bk0, bt0)] = acc2 at *
          refine (HO.out _ 40 (by omega) N1.out.src).mono ?_
          rintro e w5 ⟨b, rfl, hs5, hg5⟩
          have S5 := mkHid (N1.out.draw hs5 hg5)
          clear hs5 hg5 N1
          cases b with
          | false =>
            go_wp2
            go_ret
            exact S5.out.fin (by first | (simp; done) | omega)
          | true =>
            go_wp2_with fail
            go_loopw [3, 5] (fun v i wr => ∃ (j : Nat) (acc : List (Int × ByteArray)) (q c : Nat), j ≤ acc.length ∧ acc.length ≤ 41 ∧ i = .int .i64 j ∧ v = .slice (some ⟨q, 0, none⟩) acc.length c ∧ Hid (Bs w g acc (.slice (some ⟨q, 0, none⟩) acc.length c) wr))
              (fun v _ _ => 41 - rdr.lenOf v)
            case atStart => exact ⟨0, acc2, q2, c2, Nat.zero_le _, by first | (simp; done) | omega, rfl, rfl, S5⟩
            case round =>
              clear S5
              obtain ⟨j, acc', q', c', hj, hlen, rfl, rfl, hS'⟩ := hrel
              have hlen' : (acc'.length : Int) ≤ 41 := by omega
              have hj' : (j : Int) ≤ 41 := by omega
              go_wp2_with fail
              refine (HN.out _ 3 (by omega) hS'.out.src).mono ?_
              rintro e w6 ⟨r, rfl, hr0, hr1, _, hs6, hg6⟩
              have hr1' := hr1 (by omega)
              have S6 := mkHid (hS'.out.draw hs6 hg6)
              clear hs6 hg6 hS' hr1
              by_cases hlt : (acc'.length : Int) < 39 + r
              · go_wp2_with fail
                refine (HD.out _ j (by omega)).mono ?_
                rintro e w7 ⟨t7, rfl, ht7, hb7⟩
                have hy : t7.size + (⟨#[121]⟩ : ByteArray).size ≤ 9223372036854775807 := by show t7.size + 1 ≤ _; omega
                have hadd := fun wx => run_string_add_sum (P := Tryz.prog) wx t7 ⟨#[121]⟩ hy
                obtain ⟨q8, c8, w8, hrun, S8⟩ := (S6.out.next hb7).app 1 (t7 ++ (⟨#[121]⟩ : ByteArray)) (by omega)
                have N1 : Hid (Bs w g (acc' ++ [(1, t7 ++ (⟨#[121]⟩ : ByteArray))]) (.slice (some ⟨q8, 0, none⟩) (acc' ++ [(1, t7 ++ (⟨#[121]⟩ : ByteArray))]).length c8) w8) := mkHid (by simpa using S8)
                have ht7i : (t7.size : Int) ≤ 200 := by omega
                clear S8 S6 hb7 hy
                go_wp2
                exact ⟨⟨j + 1, acc' ++ [(1, t7 ++ (⟨#[121]⟩ : ByteArray))], q8, c8, by simp; omega, by simp; omega, by go_num, by simp, N1⟩, by simp [rdr.lenOf]; omega⟩
              · go_wp2
                go_ret
                exact S6.out.fin (by omega)
end Go.Proofs.YtmoojhnblakdhaaGreat.draw
