/-
  spec.l01Source makes a source in a new block; nothing that was there turns. Condition: the bytes lie in memory and are at most 1,048,576.
-/
import Derived.Test.YtfckgpmphcadeaaDraw
namespace Go.Proofs.Ytfckgpmphcadeaa.draw
open Go.RowKit
open Go.Proofs.Ytfckgpmphcadeaa.base
set_option linter.unusedVariables false

/-- the bytes of a slice lie in memory -/
def Row (w : World) (a : Option Addr) (len : Nat) : Prop :=
  ∀ i, i < len → ∃ (b off : Nat) (u : Int), a = some ⟨b, off, none⟩ ∧ w.cell? ⟨b, off + i, none⟩ = some (.int .u8 u) ∧ 0 ≤ u ∧ u ≤ 255

theorem Row.below {w w' : World} {a : Option Addr} {len : Nat} (h : Row w a len) (hb : Below w.heap.size w w') : Row w' a len := by
  intro i hi
  obtain ⟨b, off, u, e1, e2, e3⟩ := h i hi
  exact ⟨b, off, u, e1, (hb.cell (World.block_lt_of_cell? w _ e2)).trans e2, e3⟩

theorem kept_size {w w' : World} {g : Nat} {a : Option Addr} {len cap : Nat} {z z' P M : Int} (h : Kept w g a len cap z w' P M) : Kept w g a len cap z' (w'.setCell ⟨g, 3, none⟩ (.int .i64 z')) P M :=
  ⟨grown_set h.1, by have e := heap_setCell_same w' g 3 _ _ (.int .i64 z') h.2; simpa using e⟩

/-- what l01Source answers and leaves -/
def Made (w : World) (e : Ending) (w' : World) : Prop := e = .returned (.pointer (some ⟨w.heap.size, 0, none⟩)) ∧ SrcAt w' w.heap.size ∧ Below w.heap.size w w'

theorem made_mk {w w' : World} {a : Option Addr} {len cap : Nat} {z M : Int} {o : Obj} (hr : Row w a len) (hl : len ≤ 1048576) (k : Kept (w.alloc o) w.heap.size a len cap z w' 0 M) (h3 : 0 ≤ M) (h4 : M ≤ 18446744073709551615) (h5 : 0 ≤ z) (h6 : z ≤ 12) :
    Made w (.returned (.pointer (some ⟨w.heap.size, 0, none⟩))) w' := by
  refine ⟨rfl, ⟨a, len, cap, 0, M, z, k.2, by omega, by omega, hl, h3, h4, h5, h6, ?_⟩, ?_⟩
  · intro i hi
    obtain ⟨b, off, u, e1, e2, e3⟩ := hr i hi
    have hb : b < w.heap.size := World.block_lt_of_cell? w ⟨b, off + i, none⟩ e2
    refine ⟨b, off, u, e1, by omega, ?_, e3⟩
    refine k.1.cell ?_ (by simp; omega)
    rw [World.cell?_alloc_lt _ _ ⟨b, off + i, none⟩ hb]
    exact e2
  · exact ((Below.refl w.heap.size w).alloc (Nat.le_refl _) o).grown k.1 (by simp) (fun k hk => by simp at hk; omega)

theorem wrap_lo (x : Int) : 0 ≤ IntKind.u64.wrap x := by rw [IntKind.wrap_u64]; omega
theorem wrap_hi (x : Int) : IntKind.u64.wrap x ≤ 18446744073709551615 := by rw [IntKind.wrap_u64]; omega

set_option maxRecDepth 100000 in
set_option maxHeartbeats 1000000 in
theorem source_any (a : Option Addr) (len cap : Nat) (w : World) (hl : len ≤ 1048576) (hr : Row w a len) :
    Calls Try.prog 53 #[.slice a len cap] w fun e w' => Made w e w' := by
  go_enter Try.func53, Try.ntmps53
  go_wp2
  go_loopw [4] (fun i wr => ∃ (k : Nat) (M : Int), k ≤ len ∧ k ≤ 64 ∧ i = .int .i64 (k : Int) ∧ 0 ≤ M ∧ M ≤ 18446744073709551615 ∧ Hid (Kept (w.alloc (.cells #[.slice a len cap, .int .i64 0, .int .u64 88172645463325252, .int .i64 0] 137)) w.heap.size a len cap 0 wr 0 M))
    (fun i _ => len - (intOf i).toNat)
  case atStart => exact ⟨0, 88172645463325252, Nat.zero_le _, by omega, rfl, by omega, by omega, mkHid (kept_refl (heap_alloc_new w _))⟩
  case round =>
    obtain ⟨k, M, hk, hk64, rfl, hM0, hM1, hkept⟩ := hrel
    have c2 : wr.cell? ⟨w.heap.size, 2, none⟩ = some (.int .u64 M) := src_cell hkept.out.2 2
    have c3 : wr.cell? ⟨w.heap.size, 3, none⟩ = some (.int .i64 0) := src_cell hkept.out.2 3
    have hf : ∀ j, wr.frozen? ⟨w.heap.size, j, none⟩ = false := fun j => frozen_of_row wr w.heap.size j _ _ hkept.out.2
    have Hr := mkHid hr
    by_cases hgo : k < len ∧ k < 64
    · obtain ⟨hlt, h64⟩ := hgo
      obtain ⟨b, off, u, rfl, e2, hu0, hu1⟩ := hr k hlt
      have hb : b < w.heap.size := World.block_lt_of_cell? w ⟨b, off + k, none⟩ e2
      have hcell : wr.cell? ⟨b, off + k, none⟩ = some (.int .u8 u) := hkept.out.1.cell (by rw [World.cell?_alloc_lt _ _ ⟨b, off + k, none⟩ hb]; exact e2) (by simp; omega)
      have hki : (k : Int) < (len : Int) := by omega
      have hk6 : (k : Int) < 64 := by omega
      clear hr e2
      go_wp2
      go_region
      go_wp2
      go_roundw
      case rel => exact ⟨k + 1, _, by omega, by omega, by go_num, wrap_lo _, wrap_hi _, mkHid (by repeat (first | exact hkept.out | apply kept_drew | apply kept_mix))⟩
      case measure => simp [intOf]; omega
    · have hd : (len : Int) ≤ (k : Int) ∨ ((k : Int) < (len : Int) ∧ 64 ≤ (k : Int)) := by omega
      clear hr hgo
      have ha : 0 ≤ (len : Int) / 20 := by omega
      rcases hd with hd | ⟨hd1, hd2⟩
      · have hz' : (len : Int) / 20 ≤ 12 := by omega
        go_wp2
        go_ret
        exact made_mk Hr.out hl (by repeat (first | exact hkept.out | apply kept_size)) hM0 hM1 ha hz'
      · by_cases hz : 12 < (len : Int) / 20
        · go_wp2
          go_ret
          exact made_mk Hr.out hl (by repeat (first | exact hkept.out | apply kept_size)) hM0 hM1 (by omega) (by omega)
        · have hz' : (len : Int) / 20 ≤ 12 := by omega
          go_wp2
          go_ret
          exact made_mk Hr.out hl (by repeat (first | exact hkept.out | apply kept_size)) hM0 hM1 ha hz'

end Go.Proofs.Ytfckgpmphcadeaa.draw
