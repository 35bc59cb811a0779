/-
  The draws' source: what (*l01Src).n answers and leaves: a number within its bounds, and a source in the same block. Conditions: the source lies in one block of its own.
  spec.l01Source makes a source in a new block; nothing that was there turns. Condition: the bytes lie in memory and are at most 1,048,576.
  Texts that are drawn: (*l01Src).bytes, one and spoil: what they answer and leave. Conditions: the source lies in one block of its own, and the sizes are small.
  (*l01Src).spoil answers a text of at most one byte more. Conditions: the source lies in one block of its own, the text has at most 1,000,000 bytes.
  Picks and digits that are drawn, over the texts of Spoil (as Name8 and DecDraw). Condition: the source lies in one block of its own.
  What comes in: a slice of bytes, as the reading of an argument gives it. No condition.
-/
import Derived.Test.YtmmmadehifajlaaRows
import Derived.Test.YtmmmadehifajlaaBase
import Derived.Test.YtmmmadehifajlaaStrs
import Derived.Test.YtmmmadehifajlaaAid
import Derived.RegionTactic
import Derived.BigRegion
import Derived.Laws.DeepStrings4
import Derived.ProofKit
import Derived.ChangeOld
namespace Go.Proofs.Ytmmmadehifajlaa.draw
open Go.RowKit
open Go.Proofs.Ytmmmadehifajlaa.base
set_option linter.unusedVariables false

/-- the bytes of a slice lie in memory, in a block ahead of g -/
def Elems (w : World) (g : Nat) (a : Option Addr) (len : Nat) : Prop :=
  ∀ i, i < len → ∃ (b off : Nat) (u : Int), a = some ⟨b, off, none⟩ ∧ b < g ∧ w.cell? ⟨b, off + i, none⟩ = some (.int .u8 u) ∧ 0 ≤ u ∧ u ≤ 255

/-- block g holds a source -/
def SrcAt (w : World) (g : Nat) : Prop :=
  ∃ (a : Option Addr) (len cap : Nat) (p m z : Int), w.heap[g]? = some (.cells #[.slice a len cap, .int .i64 p, .int .u64 m, .int .i64 z] 90 (0, 0)) ∧
    0 ≤ p ∧ p ≤ (len : Int) ∧ len ≤ 1048576 ∧ 0 ≤ m ∧ m ≤ 18446744073709551615 ∧ 0 ≤ z ∧ z ≤ 12 ∧ Elems w g a len

theorem src_cell {w : World} {g : Nat} {c : Array Value} {t : TypeId} (h : w.heap[g]? = some (.cells c t (0, 0))) (j : Nat) : w.cell? ⟨g, j, none⟩ = c[j]? := by
  rw [cell_of_row w g j _ t (0, 0) h]

/-- what a source keeps while other blocks come: nothing below the heap's end turned -/
theorem SrcAt.lt {w : World} {g : Nat} (h : SrcAt w g) : g < w.heap.size := by
  obtain ⟨a, len, cap, p, m, z, hh, _⟩ := h
  exact (Array.getElem?_eq_some_iff.1 hh).1
theorem SrcAt.upto {w w' : World} {g : Nat} (h : SrcAt w g) (hb : Below (g + 1) w w') : SrcAt w' g := by
  obtain ⟨a, len, cap, p, m, z, hh, h1, h2, h3, h4, h5, h6, h7, he⟩ := h
  refine ⟨a, len, cap, p, m, z, (hb.block g (by omega)).trans hh, h1, h2, h3, h4, h5, h6, h7, ?_⟩
  intro i hi
  obtain ⟨b, off, u, e1, e2, e3, e4⟩ := he i hi
  exact ⟨b, off, u, e1, e2, (hb.cell (by simp; omega)).trans e3, e4⟩
theorem SrcAt.below {w w' : World} {g : Nat} (h : SrcAt w g) (hb : Below w.heap.size w w') : SrcAt w' g := h.upto (hb.mono h.lt)

theorem Elems.grown {w w' : World} {g : Nat} {a : Option Addr} {len : Nat} (h : Elems w g a len) (hg : w.grownBy w' (some g)) : Elems w' g a len := by
  intro i hi
  obtain ⟨b, off, u, e1, e2, e3, e4⟩ := h i hi
  exact ⟨b, off, u, e1, e2, hg.cell e3 (by simp; omega), e4⟩

set_option maxRecDepth 100000 in
set_option maxHeartbeats 1000000 in
theorem n_one (g : Nat) (most : Int) (w : World) (h : most ≤ 1) :
    Calls Try.prog 38 #[.pointer (some ⟨g, 0, none⟩), .int .i64 most] w fun e w' => e = .returned (.int .i64 0) ∧ w = w' := by
  go_enter Try.func38, Try.ntmps38
  go_wp2
  go_ret
  exact ⟨rfl, rfl⟩

/-- w' is w but for block g, a source with place P and mix M -/
def Kept (w : World) (g : Nat) (a : Option Addr) (len cap : Nat) (z : Int) (w' : World) (P M : Int) : Prop :=
  w.grownBy w' (some g) ∧ w'.heap[g]? = some (.cells #[.slice a len cap, .int .i64 P, .int .u64 M, .int .i64 z] 90 (0, 0))
theorem kept_refl {w : World} {g : Nat} {a : Option Addr} {len cap : Nat} {z P M : Int} (h : w.heap[g]? = some (.cells #[.slice a len cap, .int .i64 P, .int .u64 M, .int .i64 z] 90 (0, 0))) : Kept w g a len cap z w P M :=
  ⟨World.grownBy.refl w _, h⟩
theorem grown_set {w w' : World} {g j : Nat} {v : Value} (h : w.grownBy w' (some g)) : w.grownBy (w'.setCell ⟨g, j, none⟩ v) (some g) :=
  ⟨h.os, h.tape, h.output, by simpa using h.size, fun k hk hne => (Below.heap_setCell _ _ _ _ (by simpa using hne)).trans (h.block k hk hne)⟩
theorem kept_mix {w w' : World} {g : Nat} {a : Option Addr} {len cap : Nat} {z P M M' : Int} (h : Kept w g a len cap z w' P M) : Kept w g a len cap z (w'.setCell ⟨g, 2, none⟩ (.int .u64 M')) P M' :=
  ⟨grown_set h.1, by have e := heap_setCell_same w' g 2 _ _ (.int .u64 M') h.2; simpa using e⟩
theorem kept_at {w w' : World} {g : Nat} {a : Option Addr} {len cap : Nat} {z P P' M : Int} (h : Kept w g a len cap z w' P M) : Kept w g a len cap z (w'.setCell ⟨g, 1, none⟩ (.int .i64 P')) P' M :=
  ⟨grown_set h.1, by have e := heap_setCell_same w' g 1 _ _ (.int .i64 P') h.2; simpa using e⟩
theorem kept_drew {w w' : World} {g : Nat} {a : Option Addr} {len cap : Nat} {z P M : Int} (h : Kept w g a len cap z w' P M) : Kept w g a len cap z w'.drew P M :=
  ⟨⟨h.1.os, h.1.tape, h.1.output, h.1.size, h.1.block⟩, h.2⟩

/-- what n answers and leaves -/
def NPost (w : World) (g : Nat) (a : Option Addr) (len cap : Nat) (z most P : Int) (e : Ending) (w' : World) : Prop :=
  ∃ r M : Int, e = .returned (.int .i64 r) ∧ 0 ≤ r ∧ r < most ∧ 0 ≤ M ∧ M ≤ 18446744073709551615 ∧ Kept w g a len cap z w' P M
theorem npost_mk {w : World} {g : Nat} {a : Option Addr} {len cap : Nat} {z most P r M : Int} {w' : World} (k : Kept w g a len cap z w' P M) (h1 : 0 ≤ r) (h2 : r < most) (h3 : 0 ≤ M) (h4 : M ≤ 18446744073709551615) :
    NPost w g a len cap z most P (.returned (.int .i64 r)) w' := ⟨r, M, rfl, h1, h2, h3, h4, k⟩

theorem r_bd (X most : Int) (h1 : 1 < most) (h2 : most ≤ 9223372036854775807) : 0 ≤ wrap64 ((IntKind.u64.wrap X).tmod most) ∧ wrap64 ((IntKind.u64.wrap X).tmod most) < most := by
  rw [IntKind.wrap_u64, Int.tmod_eq_emod_of_nonneg (by omega)]
  have a1 := Int.emod_nonneg (X % 18446744073709551616) (show most ≠ 0 by omega)
  have a2 := Int.emod_lt_of_pos (X % 18446744073709551616) (show 0 < most by omega)
  generalize X % 18446744073709551616 % most = q at *
  simp only [wrap64]
  omega

theorem set_cell {w : World} {A : Addr} {u v : Value} (h : w.cell? A = some u) : (w.setCell A v).cell? A = some v := World.cell?_setCell_same w A v h

set_option maxRecDepth 100000 in
set_option maxHeartbeats 1000000 in
theorem n_end (g : Nat) (most : Int) (w : World) (a : Option Addr) (len cap : Nat) (m z : Int) (h1 : 1 < most) (h2 : most ≤ 9223372036854775807) (hl : len ≤ 1048576) (hm0 : 0 ≤ m) (hm1 : m ≤ 18446744073709551615)
    (hg : w.heap[g]? = some (.cells #[.slice a len cap, .int .i64 len, .int .u64 m, .int .i64 z] 90 (0, 0))) :
    Calls Try.prog 38 #[.pointer (some ⟨g, 0, none⟩), .int .i64 most] w fun e w' => NPost w g a len cap z most len e w' := by
  have c0 : w.cell? ⟨g, 0, none⟩ = some (.slice a len cap) := src_cell hg 0
  have c1 : w.cell? ⟨g, 1, none⟩ = some (.int .i64 len) := src_cell hg 1
  have c2 : w.cell? ⟨g, 2, none⟩ = some (.int .u64 m) := src_cell hg 2
  have hf : ∀ j, w.frozen? ⟨g, j, none⟩ = false := fun j => frozen_of_row w g j _ _ hg
  have k2 : ∀ x v, ((w.setCell ⟨g, 2, none⟩ x).setCell ⟨g, 2, none⟩ v).cell? ⟨g, 2, none⟩ = some v := fun x v => set_cell (set_cell c2)
  have k3 : ∀ x y v, (((w.setCell ⟨g, 2, none⟩ x).setCell ⟨g, 2, none⟩ y).setCell ⟨g, 2, none⟩ v).cell? ⟨g, 2, none⟩ = some v := fun x y v => set_cell (set_cell (set_cell c2))
  have HG := mkHid hg
  clear hg
  go_enter Try.func38, Try.ntmps38
  go_wp2
  go_region
  go_wp2
  go_region
  go_wp2
  have b1 := bits_lo_u64 BinOp.xor m (IntKind.u64.wrap (m * 8192))
  have b2 := bits_hi_u64 BinOp.xor m (IntKind.u64.wrap (m * 8192))
  generalize bits BinOp.xor IntKind.u64 m (IntKind.u64.wrap (m * 8192)) = M1 at *
  go_region
  go_wp2
  have b3 := bits_lo_u64 BinOp.xor M1 (M1 / 128)
  have b4 := bits_hi_u64 BinOp.xor M1 (M1 / 128)
  generalize bits BinOp.xor IntKind.u64 M1 (M1 / 128) = M2 at *
  go_region
  go_wp2
  go_ret
  exact npost_mk (by repeat (first | exact kept_refl HG.out | apply kept_drew | apply kept_mix)) (r_bd _ most h1 h2).1 (r_bd _ most h1 h2).2 (bits_lo_u64 _ _ _) (bits_hi_u64 _ _ _)

set_option maxRecDepth 100000 in
set_option maxHeartbeats 1000000 in
theorem n_byte (g : Nat) (most : Int) (w : World) (b off len cap P : Nat) (m z u : Int) (h1 : 1 < most) (h2 : most ≤ 9223372036854775807) (hl : len ≤ 1048576) (hP : P < len) (hm0 : 0 ≤ m) (hm1 : m ≤ 18446744073709551615) (hbg : b ≠ g) (hu0 : 0 ≤ u) (hu1 : u ≤ 255)
    (hg : w.heap[g]? = some (.cells #[.slice (some ⟨b, off, none⟩) len cap, .int .i64 P, .int .u64 m, .int .i64 z] 90 (0, 0))) (hcell : w.cell? ⟨b, off + P, none⟩ = some (.int .u8 u)) :
    Calls Try.prog 38 #[.pointer (some ⟨g, 0, none⟩), .int .i64 most] w fun e w' => NPost w g (some ⟨b, off, none⟩) len cap z most ((P : Int) + 1) e w' := by
  have c0 : w.cell? ⟨g, 0, none⟩ = some (.slice (some ⟨b, off, none⟩) len cap) := src_cell hg 0
  have c1 : w.cell? ⟨g, 1, none⟩ = some (.int .i64 P) := src_cell hg 1
  have c2 : w.cell? ⟨g, 2, none⟩ = some (.int .u64 m) := src_cell hg 2
  have hf : ∀ j, w.frozen? ⟨g, j, none⟩ = false := fun j => frozen_of_row w g j _ _ hg
  have d2 : ∀ x, (w.setCell ⟨g, 1, none⟩ x).cell? ⟨g, 2, none⟩ = some (.int .u64 m) := fun x => (World.cell?_setCell_other _ _ _ _ (by simp)).trans c2
  have k1 : ∀ t x, ((w.setCell ⟨g, 1, none⟩ t).setCell ⟨g, 2, none⟩ x).cell? ⟨g, 2, none⟩ = some x := fun t x => set_cell (d2 t)
  have k2 : ∀ t x v, (((w.setCell ⟨g, 1, none⟩ t).setCell ⟨g, 2, none⟩ x).setCell ⟨g, 2, none⟩ v).cell? ⟨g, 2, none⟩ = some v := fun t x v => set_cell (k1 t x)
  have k3 : ∀ t x y v, ((((w.setCell ⟨g, 1, none⟩ t).setCell ⟨g, 2, none⟩ x).setCell ⟨g, 2, none⟩ y).setCell ⟨g, 2, none⟩ v).cell? ⟨g, 2, none⟩ = some v := fun t x y v => set_cell (k2 t x y)
  have hPi : (P : Int) < (len : Int) := by omega
  have HG := mkHid hg
  clear hg
  go_enter Try.func38, Try.ntmps38
  go_wp2
  go_region
  go_wp2
  go_region
  go_wp2
  go_region
  go_wp2
  have b1 := bits_lo_u64 BinOp.xor m (IntKind.u64.wrap (m * 8192))
  have b2 := bits_hi_u64 BinOp.xor m (IntKind.u64.wrap (m * 8192))
  generalize bits BinOp.xor IntKind.u64 m (IntKind.u64.wrap (m * 8192)) = M1 at *
  go_region
  go_wp2
  have b3 := bits_lo_u64 BinOp.xor M1 (M1 / 128)
  have b4 := bits_hi_u64 BinOp.xor M1 (M1 / 128)
  generalize bits BinOp.xor IntKind.u64 M1 (M1 / 128) = M2 at *
  go_region
  go_wp2
  go_ret
  exact npost_mk (by repeat (first | exact kept_refl HG.out | apply kept_drew | apply kept_mix | apply kept_at)) (r_bd _ most h1 h2).1 (r_bd _ most h1 h2).2 (bits_lo_u64 _ _ _) (bits_hi_u64 _ _ _)

/-- a draw of a number: what it answers, and that the source is one again, nothing but its block turned -/
def Drew (w : World) (g : Nat) (most : Int) (e : Ending) (w' : World) : Prop :=
  ∃ r : Int, e = .returned (.int .i64 r) ∧ 0 ≤ r ∧ (1 < most → r < most) ∧ (most ≤ 1 → r = 0) ∧ SrcAt w' g ∧ w.grownBy w' (some g)

theorem n_any (g : Nat) (most : Int) (w : World) (h2 : most ≤ 9223372036854775807) (h : SrcAt w g) :
    Calls Try.prog 38 #[.pointer (some ⟨g, 0, none⟩), .int .i64 most] w fun e w' => Drew w g most e w' := by
  by_cases h1 : most ≤ 1
  · refine (n_one g most w h1).mono ?_
    rintro e w' ⟨rfl, rfl⟩
    exact ⟨0, rfl, by omega, by omega, fun _ => rfl, h, World.grownBy.refl w _⟩
  obtain ⟨a, len, cap, p, m, z, hh, hp0, hp1, hl, hm0, hm1, hz0, hz1, he⟩ := h
  obtain ⟨P, rfl⟩ := Int.eq_ofNat_of_zero_le hp0
  by_cases hP : P < len
  · obtain ⟨b, off, u, rfl, hbg, hcell, hu0, hu1⟩ := he P hP
    refine (n_byte g most w b off len cap P m z u (by omega) h2 hl hP hm0 hm1 (by omega) hu0 hu1 hh hcell).mono ?_
    rintro e w' ⟨r, M, rfl, hr0, hr1, hM0, hM1, k⟩
    exact ⟨r, rfl, hr0, fun _ => hr1, fun hc => absurd hc h1, ⟨_, len, cap, _, M, z, k.2, by omega, by omega, hl, hM0, hM1, hz0, hz1, he.grown k.1⟩, k.1⟩
  · obtain rfl : P = len := by omega
    refine (n_end g most w a P cap m z (by omega) h2 hl hm0 hm1 hh).mono ?_
    rintro e w' ⟨r, M, rfl, hr0, hr1, hM0, hM1, k⟩
    exact ⟨r, rfl, hr0, fun _ => hr1, fun hc => absurd hc h1, ⟨_, P, cap, _, M, z, k.2, by omega, by omega, hl, hM0, hM1, hz0, hz1, he.grown k.1⟩, k.1⟩

end Go.Proofs.Ytmmmadehifajlaa.draw
namespace Go.Proofs.Ytmmmadehifajlaa.draw
open Go.RowKit
open Go.Proofs.Ytmmmadehifajlaa.base
set_option linter.unusedVariables false

/-- the bytes of a slice lie in memory -/
def Row (w : World) (a : Option Addr) (len : Nat) : Prop :=
  ∀ i, i < len → ∃ (b off : Nat) (u : Int), a = some ⟨b, off, none⟩ ∧ w.cell? ⟨b, off + i, none⟩ = some (.int .u8 u) ∧ 0 ≤ u ∧ u ≤ 255

theorem Row.below {w w' : World} {a : Option Addr} {len : Nat} (h : Row w a len) (hb : Below w.heap.size w w') : Row w' a len := by
  intro i hi
  obtain ⟨b, off, u, e1, e2, e3⟩ := h i hi
  exact ⟨b, off, u, e1, (hb.cell (World.block_lt_of_cell? w _ e2)).trans e2, e3⟩

theorem kept_size {w w' : World} {g : Nat} {a : Option Addr} {len cap : Nat} {z z' P M : Int} (h : Kept w g a len cap z w' P M) : Kept w g a len cap z' (w'.setCell ⟨g, 3, none⟩ (.int .i64 z')) P M :=
  ⟨grown_set h.1, by have e := heap_setCell_same w' g 3 _ _ (.int .i64 z') h.2; simpa using e⟩

/-- what l01Source answers and leaves -/
def Made (w : World) (e : Ending) (w' : World) : Prop := e = .returned (.pointer (some ⟨w.heap.size, 0, none⟩)) ∧ SrcAt w' w.heap.size ∧ Below w.heap.size w w'

theorem made_mk {w w' : World} {a : Option Addr} {len cap : Nat} {z M : Int} {o : Obj} (hr : Row w a len) (hl : len ≤ 1048576) (k : Kept (w.alloc o) w.heap.size a len cap z w' 0 M) (h3 : 0 ≤ M) (h4 : M ≤ 18446744073709551615) (h5 : 0 ≤ z) (h6 : z ≤ 12) :
    Made w (.returned (.pointer (some ⟨w.heap.size, 0, none⟩))) w' := by
  refine ⟨rfl, ⟨a, len, cap, 0, M, z, k.2, by omega, by omega, hl, h3, h4, h5, h6, ?_⟩, ?_⟩
  · intro i hi
    obtain ⟨b, off, u, e1, e2, e3⟩ := hr i hi
    have hb : b < w.heap.size := World.block_lt_of_cell? w ⟨b, off + i, none⟩ e2
    refine ⟨b, off, u, e1, by omega, ?_, e3⟩
    refine k.1.cell ?_ (by simp; omega)
    rw [World.cell?_alloc_lt _ _ ⟨b, off + i, none⟩ hb]
    exact e2
  · exact ((Below.refl w.heap.size w).alloc (Nat.le_refl _) o).grown k.1 (by simp) (fun k hk => by simp at hk; omega)

theorem wrap_lo (x : Int) : 0 ≤ IntKind.u64.wrap x := by rw [IntKind.wrap_u64]; omega
theorem wrap_hi (x : Int) : IntKind.u64.wrap x ≤ 18446744073709551615 := by rw [IntKind.wrap_u64]; omega

set_option maxRecDepth 100000 in
set_option maxHeartbeats 1000000 in
theorem source_any (a : Option Addr) (len cap : Nat) (w : World) (hl : len ≤ 1048576) (hr : Row w a len) :
    Calls Try.prog 27 #[.slice a len cap] w fun e w' => Made w e w' := by
  go_enter Try.func27, Try.ntmps27
  go_wp2
  go_loopw [4] (fun i wr => ∃ (k : Nat) (M : Int), k ≤ len ∧ k ≤ 64 ∧ i = .int .i64 (k : Int) ∧ 0 ≤ M ∧ M ≤ 18446744073709551615 ∧ Hid (Kept (w.alloc (.cells #[.slice a len cap, .int .i64 0, .int .u64 88172645463325252, .int .i64 0] 90)) w.heap.size a len cap 0 wr 0 M))
    (fun i _ => len - (intOf i).toNat)
  case atStart => exact ⟨0, 88172645463325252, Nat.zero_le _, by omega, rfl, by omega, by omega, mkHid (kept_refl (heap_alloc_new w _))⟩
  case round =>
    obtain ⟨k, M, hk, hk64, rfl, hM0, hM1, hkept⟩ := hrel
    have c2 : wr.cell? ⟨w.heap.size, 2, none⟩ = some (.int .u64 M) := src_cell hkept.out.2 2
    have c3 : wr.cell? ⟨w.heap.size, 3, none⟩ = some (.int .i64 0) := src_cell hkept.out.2 3
    have hf : ∀ j, wr.frozen? ⟨w.heap.size, j, none⟩ = false := fun j => frozen_of_row wr w.heap.size j _ _ hkept.out.2
    have Hr := mkHid hr
    by_cases hgo : k < len ∧ k < 64
    · obtain ⟨hlt, h64⟩ := hgo
      obtain ⟨b, off, u, rfl, e2, hu0, hu1⟩ := hr k hlt
      have hb : b < w.heap.size := World.block_lt_of_cell? w ⟨b, off + k, none⟩ e2
      have hcell : wr.cell? ⟨b, off + k, none⟩ = some (.int .u8 u) := hkept.out.1.cell (by rw [World.cell?_alloc_lt _ _ ⟨b, off + k, none⟩ hb]; exact e2) (by simp; omega)
      have hki : (k : Int) < (len : Int) := by omega
      have hk6 : (k : Int) < 64 := by omega
      clear hr e2
      go_wp2
      go_region
      go_wp2
      go_roundw
      case rel => exact ⟨k + 1, _, by omega, by omega, by go_num, wrap_lo _, wrap_hi _, mkHid (by repeat (first | exact hkept.out | apply kept_drew | apply kept_mix))⟩
      case measure => simp [intOf]; omega
    · have hd : (len : Int) ≤ (k : Int) ∨ ((k : Int) < (len : Int) ∧ 64 ≤ (k : Int)) := by omega
      clear hr hgo
      have ha : 0 ≤ (len : Int) / 20 := by omega
      rcases hd with hd | ⟨hd1, hd2⟩
      · have hz' : (len : Int) / 20 ≤ 12 := by omega
        go_wp2
        go_ret
        exact made_mk Hr.out hl (by repeat (first | exact hkept.out | apply kept_size)) hM0 hM1 ha hz'
      · by_cases hz : 12 < (len : Int) / 20
        · go_wp2
          go_ret
          exact made_mk Hr.out hl (by repeat (first | exact hkept.out | apply kept_size)) hM0 hM1 (by omega) (by omega)
        · have hz' : (len : Int) / 20 ≤ 12 := by omega
          go_wp2
          go_ret
          exact made_mk Hr.out hl (by repeat (first | exact hkept.out | apply kept_size)) hM0 hM1 ha hz'

end Go.Proofs.Ytmmmadehifajlaa.draw
namespace Go.Proofs.Ytmmmadehifajlaa.draw
open Go.RowKit
open Go.Proofs.Ytmmmadehifajlaa.base
set_option linter.unusedVariables false

theorem info5 : (Try.prog.info? 5).map (fun i => (i.zero, i.size, i.bytes)) = some (some (.int .u8 0), 1, 1) := by kernel_rfl

theorem grown_trans {w w1 w2 : World} {r : Option Nat} (h : w.grownBy w1 r) (k : w1.grownBy w2 r) : w.grownBy w2 r :=
  ⟨k.os.trans h.os, k.tape.trans h.tape, k.output.trans h.output, Nat.le_trans h.size k.size, fun i hi hne => (k.block i (Nat.lt_of_lt_of_le hi h.size) hne).trans (h.block i hi hne)⟩
/-- new blocks, and writes to rows that are new -/
theorem grown_new {w w1 w2 : World} {r : Option Nat} (h : w.grownBy w1 r) (k : Below w.heap.size w1 w2) : w.grownBy w2 r :=
  ⟨k.os.trans h.os, k.tape.trans h.tape, k.output.trans h.output, Nat.le_trans h.size k.size, fun i hi hne => (k.block i hi).trans (h.block i hi hne)⟩
theorem grown_below {w w1 : World} {g B : Nat} (h : w.grownBy w1 (some g)) (hg : B ≤ g) (hB : B ≤ w.heap.size) : Below B w w1 :=
  ⟨h.os, h.tape, h.output, h.size, fun k hk => h.block k (by omega) (by simp; omega)⟩

/-- a text of n bytes is drawn -/
def DrewText (w : World) (g : Nat) (most : Nat) (e : Ending) (w' : World) : Prop :=
  ∃ t : ByteArray, e = .returned (.string t) ∧ t.size ≤ most ∧ SrcAt w' g ∧ w.grownBy w' (some g)

/-- a yes or no is drawn -/
def DrewBool (w : World) (g : Nat) (e : Ending) (w' : World) : Prop :=
  ∃ b : Bool, e = .returned (.bool b) ∧ SrcAt w' g ∧ w.grownBy w' (some g)

theorem one_any (g : Nat) (n : Int) (w : World) (hn : n ≤ 9223372036854775807) (h : SrcAt w g) :
    Calls Try.prog 57 #[.pointer (some ⟨g, 0, none⟩), .int .i64 n] w fun e w' => DrewBool w g e w' := by
  go_enter Try.func57, Try.ntmps57
  go_wp2_with fail
  refine (n_any g n w hn h).mono ?_
  rintro e w1 ⟨r, rfl, _, _, _, hs1, hg1⟩
  have H := mkHid (And.intro hs1 hg1)
  clear hs1 hg1 h
  go_wp2
  all_goals go_ret
  all_goals exact ⟨_, rfl, H.out.1, H.out.2⟩

end Go.Proofs.Ytmmmadehifajlaa.draw
namespace Go.Proofs.Ytmmmadehifajlaa.draw
open Go.RowKit
open Go.Proofs.Ytmmmadehifajlaa.base
set_option linter.unusedVariables false

theorem drew_mk {w w' : World} {g most : Nat} {t : ByteArray} (hs : t.size ≤ most) (h : SrcAt w' g ∧ w.grownBy w' (some g)) : DrewText w g most (.returned (.string t)) w' := ⟨t, rfl, hs, h.1, h.2⟩
theorem src_drew {w w' : World} {g : Nat} (h : SrcAt w' g ∧ w.grownBy w' (some g)) : SrcAt w'.drew g ∧ w.grownBy w'.drew (some g) :=
  ⟨h.1, ⟨h.2.os, h.2.tape, h.2.output, h.2.size, h.2.block⟩⟩
theorem src_next {w w1 w2 : World} {g : Nat} (h : SrcAt w1 g ∧ w.grownBy w1 (some g)) (hs : SrcAt w2 g) (hg : w1.grownBy w2 (some g)) : SrcAt w2 g ∧ w.grownBy w2 (some g) := ⟨hs, grown_trans h.2 hg⟩
theorem src_alloc {w w1 : World} {g : Nat} (o : Obj) (h : SrcAt w1 g ∧ w.grownBy w1 (some g)) : SrcAt (w1.alloc o) g ∧ w.grownBy (w1.alloc o) (some g) :=
  ⟨h.1.below ((Below.refl _ _).alloc (Nat.le_refl _) _), grown_trans h.2 (World.grownBy_alloc _ _ _)⟩

theorem one_string (w : World) (c : UInt8) : (convert 22 9 (.slice (some ⟨w.heap.size, 0, none⟩) 1 1)).run Try.prog (w.alloc (.cells #[.int .u8 (c.toNat : Int)] 5)) = .ok (.string ⟨#[c]⟩) (w.alloc (.cells #[.int .u8 (c.toNat : Int)] 5)) := by
  have h := run_convert_bytes_back (P := Try.prog) (w.alloc (.cells #[.int .u8 (c.toNat : Int)] 5)) 22 9 5 ⟨w.heap.size, 0, none⟩ 1 [c] Try.underlying22 Try.underlying5 Try.underlying9 (by
    intro j hj
    obtain rfl : j = 0 := by simpa using hj
    simp [Addr.add])
  simpa using h

theorem one_size (c : UInt8) : (⟨#[c]⟩ : ByteArray).size = 1 := rfl

set_option maxRecDepth 100000 in
set_option maxHeartbeats 2000000 in
theorem spoil_any (g : Nat) (t : ByteArray) (w : World) (ht : t.size ≤ 1000000) (h : SrcAt w g) :
    Calls Try.prog 39 #[.pointer (some ⟨g, 0, none⟩), .string t] w fun e w' => DrewText w g (t.size + 1) e w' := by
  go_enter Try.func39, Try.ntmps39
  go_wp2_with fail
  refine (n_any g _ w (by omega) h).mono ?_
  rintro e w1 ⟨r, rfl, hr0, hr1, hr2, hs1, hg1⟩
  obtain ⟨K, rfl⟩ := Int.eq_ofNat_of_zero_le hr0
  have hK : K ≤ t.size := by
    rcases Nat.eq_zero_or_pos t.size with h0 | h0
    · have := hr2 (by omega); omega
    · have := hr1 (by omega); omega
  have H1 := mkHid (And.intro hs1 hg1)
  clear hr0 hr1 hr2 hs1 hg1 h
  go_wp2_with fail
  refine (n_any g 17 w1 (by omega) H1.out.1).mono ?_
  rintro e w2 ⟨r, rfl, hr0, hr1, hr2, hs2, hg2⟩
  obtain ⟨R, rfl⟩ := Int.eq_ofNat_of_zero_le hr0
  have hR : R < 17 := by have := hr1 (by omega); omega
  have hRi : (R : Int) < 17 := by omega
  have H2 := mkHid (src_next H1.out hs2 hg2)
  clear hr0 hr1 hr2 hs2 hg2 H1
  obtain ⟨ch, hch⟩ : ∃ ch : UInt8, ∀ hx, (⟨#[32, 10, 48, 97, 45, 110, 44, 58, 93, 255, 40, 120, 126, 49, 128, 225, 59]⟩ : ByteArray)[R]'hx = ch := ⟨(⟨#[32, 10, 48, 97, 45, 110, 44, 58, 93, 255, 40, 120, 126, 49, 128, 225, 59]⟩ : ByteArray)[R]'hR, fun _ => rfl⟩
  have hcv := one_string w2 ch
  have H3 := mkHid (src_alloc (.cells #[.int .u8 (ch.toNat : Int)] 5) H2.out)
  clear H2
  have hadd : ∀ (x y : ByteArray) (wx : World), x.size ≤ 2000000 → y.size ≤ 2000000 → (Op.stringOp .add x y).run Try.prog wx = .ok (.string (x ++ y)) wx := fun x y wx h1 h2 => run_string_add_sum (P := Try.prog) wx x y (by omega)
  have hKi : (K : Int) ≤ (t.size : Int) := by omega
  by_cases hKe : K = t.size
  · subst hKe
    go_wp2_with fail
    go_region
    go_wp2
    go_ret
    exact drew_mk (by simp only [ByteArray.size_append, one_size]; omega) (by repeat (first | exact H3.out | apply src_drew))
  · have hKb : ((K : Int) == (t.size : Int)) = false := by simp; omega
    go_wp2_with fail
    refine (one_any g 3 _ (by omega) H3.out.1).mono ?_
    rintro e w3 ⟨b, rfl, hs3, hg3⟩
    have H4 := mkHid (src_next H3.out hs3 hg3)
    clear hs3 hg3 H3 hcv
    cases b
    · go_wp2_with fail
      refine (one_any g 2 _ (by omega) H4.out.1).mono ?_
      rintro e w4 ⟨b, rfl, hs4, hg4⟩
      have H5 := mkHid (src_next H4.out hs4 hg4)
      clear hs4 hg4 H4
      have hK1 : (K : Int) + 1 ≤ (t.size : Int) := by omega
      cases b
      · go_wp2_with fail
        go_region
        go_wp2
        go_ret
        exact drew_mk (by simp only [ByteArray.size_append, ByteArray.size_extract, one_size]; omega) (by repeat (first | exact H5.out | apply src_drew))
      · go_wp2_with fail
        go_region
        go_wp2
        go_ret
        exact drew_mk (by simp only [ByteArray.size_append, ByteArray.size_extract]; omega) (by repeat (first | exact H5.out | apply src_drew))
    · go_wp2_with fail
      go_region
      go_wp2
      go_ret
      exact drew_mk (by simp only [ByteArray.size_append, ByteArray.size_extract, one_size]; omega) (by repeat (first | exact H4.out | apply src_drew))

end Go.Proofs.Ytmmmadehifajlaa.draw
namespace Go.Proofs.Ytmmmadehifajlaa.draw
open Go.RowKit Go.Joins
open Go.Proofs.Ytmmmadehifajlaa.base Go.Proofs.Ytmmmadehifajlaa.blk Go.Proofs.Ytmmmadehifajlaa.aid
open Go.Proofs.Ytmmmadehifajlaa.strs (RdT strV)
set_option linter.unusedVariables false

theorem rdT_lit (w : World) (ts : List ByteArray) (cs : Array Value) (h : cs = (ts.map strV).toArray) : RdT (w.alloc (.cells cs 9)) (some ⟨w.heap.size, 0, none⟩) ts := by
  subst h
  intro i z hz
  refine ⟨w.heap.size, 0, rfl, ?_⟩
  have e : (w.alloc (.cells (ts.map strV).toArray 9)).heap[w.heap.size]? = some (.cells (ts.map strV).toArray 9) := blk_new w _ _ rfl
  rw [Nat.zero_add, cell_of_row _ _ i _ _ _ e]
  simp [hz, strV]
set_option maxRecDepth 100000 in
theorem pick_any (g : Nat) (a : Option Addr) (n c z : Nat) (ts : List ByteArray) (w : World) (h : SrcAt w g) (hr : RdT w a ts) (hn : ts.length = n) (h1 : 1 < n) (h2 : n ≤ 100) (hz : ∀ t ∈ ts, t.size ≤ z) (ha : ∀ b o s, a = some ⟨b, o, s⟩ → b ≠ g) :
    Calls Try.prog 60 #[.pointer (some ⟨g, 0, none⟩), .slice a n c] w fun e w' => DrewText w g z e w' := by
  have HN := mkHid (n_any g n w (by omega) h)
  clear h
  go_enter Try.func60, Try.ntmps60
  go_wp2_with fail
  refine HN.out.mono ?_
  rintro e w1 ⟨r, rfl, hr0, hr1, _, hs1, hg1⟩
  have hr1' := hr1 (by omega)
  obtain ⟨m, rfl⟩ := Int.eq_ofNat_of_zero_le hr0
  have hm : m < ts.length := by omega
  obtain ⟨t, ht⟩ : ∃ t, ts[m]? = some t := ⟨_, List.getElem?_eq_getElem hm⟩
  obtain ⟨b, off, rfl, hc⟩ := hr m t ht
  have hb := ha b off none rfl
  have hc1 : w1.cell? ⟨b, off + m, none⟩ = some (.string t) := hg1.cell hc (by simpa using hb)
  have hts := hz t (List.mem_of_getElem? ht)
  have S1 := mkHid (And.intro hs1 hg1)
  clear hs1 hg1 hr1 HN ht hr hz ha hc hm
  go_wp2
  go_ret
  exact ⟨t, rfl, hts, S1.out.1, S1.out.2⟩
def DecPost (w : World) (e : Ending) (w' : World) : Prop := ∃ t : ByteArray, e = .returned (.string t) ∧ t.size ≤ 200 ∧ Below w.heap.size w w'

set_option maxRecDepth 100000 in
set_option maxHeartbeats 1000000 in
theorem dec_any (n : Nat) (w : World) (hn : n ≤ 100) :
    Calls Try.prog 59 #[.int .i64 n] w fun e w' => DecPost w e w' := by
  by_cases h0 : n = 0
  · subst h0
    go_enter Try.func59, Try.ntmps59
    go_wp2
    go_ret
    exact ⟨_, rfl, by decide, Below.refl _ _⟩
  · have hni : ((n : Int) == 0) = false := by simp; omega
    have hn1 : ¬ ((n : Int) < 0) := by omega
    go_enter Try.func59, Try.ntmps59
    go_wp2_with fail
    go_loopw [0, 4] (fun x v wr => ∃ (k : Nat) (t : ByteArray), x = .int .i64 k ∧ v = .string t ∧ k ≤ 100 ∧ Hid (t.size + k ≤ 200) ∧ Hid (Below w.heap.size w wr))
      (fun x _ _ => (intOf x).toNat)
    case atStart => exact ⟨n, ⟨#[]⟩, rfl, rfl, hn, mkHid (by show 0 + n ≤ 200; omega), mkHid (Below.refl _ _)⟩
    case round =>
      obtain ⟨k, t, rfl, rfl, hk, ht, hB⟩ := hrel
      by_cases hk0 : k = 0
      · subst hk0
        go_wp2
        go_ret
        exact ⟨t, rfl, by have := ht.out; omega, hB.out⟩
      · have hki : ((k : Int) == 0) = false := by simp; omega
        have hki2 : (k : Int) ≤ 100 := by omega
        have hti : (t.size : Int) ≤ 200 := by have := ht.out; omega
        clear hni hn1
        have ec : ((UInt8.ofNat (48 + k % 10)).toNat : Int) = 48 + (k : Int) % 10 := by rw [UInt8.toNat_ofNat']; omega
        have hcv := one_string wr (UInt8.ofNat (48 + k % 10))
        rw [ec] at hcv
        generalize UInt8.ofNat (48 + k % 10) = ch at hcv
        clear ec
        have hadd := fun wx => run_string_add_sum (P := Try.prog) wx ⟨#[ch]⟩ t (by have := one_size ch; omega)
        have N1 : Hid ((⟨#[ch]⟩ ++ t : ByteArray).size + k / 10 ≤ 200) := mkHid (by have := ht.out; rw [ByteArray.size_append, one_size]; omega)
        have N2 := mkHid (hB.out.alloc hB.out.size (.cells #[.int .u8 (48 + (k : Int) % 10)] 5))
        clear ht hB
        go_wp2
        exact ⟨⟨k / 10, _, by go_num, rfl, by omega, N1, N2⟩, by simp [intOf]; omega⟩
end Go.Proofs.Ytmmmadehifajlaa.draw
namespace Go.Proofs.Ytmmmadehifajlaa.came
open Go.ChangeShapes Go.WideShapes Go.ChangeAt Go.RowKit
open Go.Proofs.Ytmmmadehifajlaa.draw (Row)
set_option linter.unusedVariables false

theorem cellsB : Try.prog.cellsOf 5 = 1 := by kernel_rfl
set_option maxRecDepth 100000 in
theorem bytes_came {H : Type} {enc : TypeId × Value → H} {W : World} {base b0 : Nat} {sp : Nat → Bool} {hd : Bool} {v : Value} {d : DataW H} {p : List MemPlace} (hv : Value.okWide Try.prog W .any b0 22 v) (h : DataW.Trod enc Try.prog W base sp hd 22 v d p) :
    ∃ (a : Option Addr) (len cap : Nat), v = .slice a len cap ∧ Row W a len ∧ (len : Int) ≤ 9223372036854775807 := by
  obtain ⟨a0, len0, cap0, rfl⟩ := okWide_slice Try.underlying22 hv
  obtain ⟨fuel, hf⟩ := h
  rcases open_ints Try.underlying22 Try.underlying5 cellsB hf with ⟨hcs, _⟩ | ⟨x, l, c, zs, hcs, _, hl, hm, hz, _, hcell, hwz⟩
  · simp [Value.cells] at hcs
    obtain ⟨rfl, rfl, rfl⟩ := hcs
    exact ⟨none, 0, 0, rfl, fun i hi => by omega, by simp⟩
  · simp [Value.cells] at hcs
    obtain ⟨rfl, rfl, rfl⟩ := hcs
    have hz' : len0 ≤ zs.length := by rw [hz]; split <;> omega
    refine ⟨_, _, _, rfl, fun i hi => ?_, by have : cap0 ≤ 9223372036854775807 := hm; omega⟩
    obtain ⟨b, off, spot⟩ := x
    have hc := hcell i (by omega)
    have hspot : spot = none := by
      have h0 := hcell 0 (by omega)
      simpa [Addr.add] using World.cell?_spot h0
    subst hspot
    have hw : (Lit.int .u8 (zs.getD i 0)).wf = true := hwz _ (by
      have hi' : i < zs.length := by omega
      simp [List.getD, List.getElem?_eq_getElem hi'])
    have hx : 0 ≤ zs.getD i 0 ∧ zs.getD i 0 ≤ 255 := by simpa [Lit.wf, IntKind.min, IntKind.max, IntKind.signed, IntKind.bits] using hw
    refine ⟨b, off, zs.getD i 0, rfl, ?_, hx.1, hx.2⟩
    rw [Addr.add_lit] at hc
    exact hc
end Go.Proofs.Ytmmmadehifajlaa.came
