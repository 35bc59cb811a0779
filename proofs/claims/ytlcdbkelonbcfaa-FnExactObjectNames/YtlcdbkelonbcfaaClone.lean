/-
  strings.Clone answers a text of the same bytes; of what was there nothing turns. Condition: the text has at most 1,048,576 bytes.
-/
import Derived.Test.YtlcdbkelonbcfaaRows
import Derived.WalkKit
import Derived.ProofKit
import Derived.Lib.Strings
import Derived.Lib.Walk
import Derived.Lib.BufferWrite
import Derived.Lib.UnsafeStr
import Derived.Laws.MakeOwn
namespace Go.Proofs.Ytlcdbkelonbcfaa.clone
open Go.RowKit
set_option linter.unusedVariables false

theorem info5 : (Try.prog.info? 5).map (fun i => (i.zero, i.size, i.bytes)) = some (some (.int .u8 0), 1, 1) := by kernel_rfl
theorem size5 : (Try.prog.info? 5).map (·.size) = some 1 := by kernel_rfl
theorem cells5 : Try.prog.cellsOf 5 = 1 := by kernel_rfl

set_option maxRecDepth 100000 in
theorem copy_any (s : ByteArray) (w : World) (hs : s.size ≤ 1048576) :
    Calls Try.prog 95 #[.string s] w fun e w' => e = .returned (.string s) ∧ Below w.heap.size w w' := by
  rcases Nat.eq_zero_or_pos s.size with h0 | h0
  · obtain rfl : s = ⟨#[]⟩ := ByteArray.ext (Array.eq_empty_of_size_eq_zero h0)
    go_enter Try.func95, Try.ntmps95
    go_wp2
    go_ret
    exact ⟨rfl, Below.refl _ _⟩
  obtain ⟨i0, hi, hz0, hz1, hz2⟩ := info_parts info5
  have hl : s.size = s.data.toList.length := Lib.size_eq s
  obtain ⟨M, hM⟩ : ∃ M, M = madeCells #[.int .u8 0] s.size := ⟨_, rfl⟩
  have hMs : M.size = s.size := by rw [hM, size_madeCells]
  have hmk : ∀ u : World, (Instr.makeSlice 102 (.int .i64 (s.size : Int)) (.int .i64 (s.size : Int))).run Try.prog u =
      .ok (.slice (some ⟨u.heap.size, 0, none⟩) s.size s.size) (u.alloc (.cells M 5)) := fun u => by
    have h := run_make (P := Try.prog) u 102 5 i0 (.int .u8 0) Try.underlying102 hi hz0 .i64 .i64 (s.size : Int) (s.size : Int) (by omega) (Int.le_refl _) (by rw [hz2]; omega) (by omega)
    have e : (s.size : Int).toNat = s.size := by omega
    rw [e] at h
    rw [hM]
    simpa [hz1, Value.cells] using h
  have hcp := Lib.run_copy_row_string (P := Try.prog) (w.alloc (.cells M 5)) 102 9 3 5 w.heap.size 0 s.size s.size s M 5 Try.underlying102 size5 (heap_alloc_new w _) (Nat.le_refl _) (by omega)
  obtain ⟨Y, hY⟩ : ∃ Y, Y = (M.toList.take 0 ++ Lib.byteCells s.data.toList ++ M.toList.drop (0 + s.size)).toArray := ⟨_, rfl⟩
  rw [← hY] at hcp
  have hYl : Y.toList = Lib.byteCells s.data.toList := by
    rw [hY, List.toList_toArray, List.take_zero, List.nil_append, List.drop_of_length_le (by rw [Array.length_toList]; omega), List.append_nil]
  have hg : ((w.alloc (.cells M 5)).setRow w.heap.size Y).heap[w.heap.size]? = some (.cells Y 5 (0, 0)) := setRow_heap _ _ M _ 5 (0, 0) (heap_alloc_new w _)
  have hYs : Y.size = s.size := by rw [← Array.length_toList, hYl, Lib.byteCells_length, ← hl]
  have hne : s.data.toList ≠ [] := by
    intro e
    have h1 : s.size = 0 := by rw [hl, e]; rfl
    omega
  have hus := Lib.run_unsafeString_row (P := Try.prog) ((w.alloc (.cells M 5)).setRow w.heap.size Y) 142 3 9 5 Try.underlying142 cells5 w.heap.size Y.size (by unfold World.shape?; rw [hg]) s.data.toList hne (by omega) (by omega)
    (fun j x hx => Lib.cells_of_row hg Y.size j _ (by rw [List.take_of_length_le (by rw [Array.length_toList]; exact Nat.le_refl _), hYl]; simp [Lib.byteCells, hx]))
  rw [← hl] at hus
  have hb : Below w.heap.size w ((w.alloc (.cells M 5)).setRow w.heap.size Y) := ((Below.refl _ w).alloc (Nat.le_refl _) _).trans ⟨rfl, rfl, rfl, by simp, fun k hk => setRow_other _ _ _ _ (by omega)⟩
  have HB : Hid (Below w.heap.size w ((w.alloc (.cells M 5)).setRow w.heap.size Y)) := hb
  clear hb hY hM hl hne hYl hYs hMs hg
  go_enter Try.func95, Try.ntmps95
  go_wp2
  go_ret
  exact ⟨rfl, Lib.below_freeze HB.out (p := ⟨w.heap.size, 0, none⟩) (Nat.le_refl _) _⟩

theorem clone_any (s : ByteArray) (w : World) (hs : s.size ≤ 1048576) :
    Calls Try.prog 70 #[.string s] w fun e w' => e = .returned (.string s) ∧ Below w.heap.size w w' := by
  go_enter Try.func70, Try.ntmps70
  go_wp2_with (go_at_call 95; refine (copy_any s _ hs).mono ?_; rintro e w1 ⟨rfl, hb⟩)
  go_ret
  exact ⟨rfl, hb⟩

end Go.Proofs.Ytlcdbkelonbcfaa.clone
