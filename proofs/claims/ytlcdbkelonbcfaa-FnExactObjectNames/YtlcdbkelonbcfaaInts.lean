/-
  Rows of int64 in memory: what laws.toInt64S, szInt64S, eqInt64S, markInt64S and heldInt64S answer and leave. Conditions: at most 1,048,576 numbers; the numbers lie in memory; a row that is written lies in a block of its own.
-/
import Derived.Test.YtlcdbkelonbcfaaRows
import Derived.Test.YtlcdbkelonbcfaaBase
import Derived.Lib.SmallJoins
import Derived.Laws.MakeOwn
namespace Go.Proofs.Ytlcdbkelonbcfaa.ints
open Go.RowKit Go.Joins
open Go.Proofs.Ytlcdbkelonbcfaa.base
set_option linter.unusedVariables false

/-- a number as a cell -/
def intV (z : Int) : Value := .int .i64 z

/-- the numbers of a slice lie in memory -/
def Rd (w : World) (a : Option Addr) (zs : List Int) : Prop :=
  ∀ i z, zs[i]? = some z → ∃ b off, a = some ⟨b, off, none⟩ ∧ w.cell? ⟨b, off + i, none⟩ = some (.int .i64 z)

/-- a row in a block of its own -/
def Own (w : World) (g : Nat) (zs : List Int) : Prop := w.heap[g]? = some (.cells (zs.map intV).toArray 2 (0, 0))

theorem Rd.block {w w' : World} {a : Option Addr} {zs : List Int} (h : Rd w a zs) (hb : ∀ b off, a = some ⟨b, off, none⟩ → b < w.heap.size → w'.heap[b]? = w.heap[b]?) : Rd w' a zs := by
  intro i z hz
  obtain ⟨b, off, e1, e2⟩ := h i z hz
  refine ⟨b, off, e1, ?_⟩
  rw [World.cell?_of_block (w := w) (a := ⟨b, off + i, none⟩) (hb b off e1 (World.block_lt_of_cell? w _ e2))]
  exact e2
theorem Rd.below {w w' : World} {a : Option Addr} {zs : List Int} (h : Rd w a zs) (hb : Below w.heap.size w w') : Rd w' a zs := h.block fun b _ _ hl => hb.block b hl
theorem Rd.drew {w : World} {a : Option Addr} {zs : List Int} (h : Rd w a zs) : Rd w.drew a zs := h
theorem Rd.alloc {w : World} {a : Option Addr} {zs : List Int} (h : Rd w a zs) (o : Obj) : Rd (w.alloc o) a zs := h.below ((Below.refl _ _).alloc (Nat.le_refl _) o)
theorem Rd.nil (w : World) : Rd w none [] := by intro i z h; simp at h

theorem Own.lt {w : World} {g : Nat} {zs : List Int} (h : Own w g zs) : g < w.heap.size := (Array.getElem?_eq_some_iff.1 h).1
theorem Own.below {w w' : World} {g : Nat} {zs : List Int} (h : Own w g zs) (hb : Below w.heap.size w w') : Own w' g zs := (hb.block g h.lt).trans h
theorem Own.cell {w : World} {g : Nat} {zs : List Int} (h : Own w g zs) {i : Nat} {z : Int} (hz : zs[i]? = some z) : w.cell? ⟨g, i, none⟩ = some (.int .i64 z) := by
  rw [cell_of_block h]; simp [hz, intV]
theorem Own.free {w : World} {g : Nat} {zs : List Int} (h : Own w g zs) (i : Nat) : w.frozen? ⟨g, i, none⟩ = false := unfrozen_of_block h i
theorem Own.rd {w : World} {g : Nat} {zs : List Int} (h : Own w g zs) : Rd w (some ⟨g, 0, none⟩) zs := by
  intro i z hz
  exact ⟨g, 0, rfl, by simpa using h.cell hz⟩
theorem Own.set {w : World} {g : Nat} {zs : List Int} (h : Own w g zs) (i : Nat) (z : Int) : Own (w.setCell ⟨g, i, none⟩ (.int .i64 z)) g (zs.set i z) := by
  have e := block_setCell (i := i) h (.int .i64 z)
  unfold Own
  rw [e]
  congr 2
  simp [intV, List.map_set]

theorem Own.other {w : World} {g : Nat} {zs : List Int} (h : Own w g zs) (p : Addr) (v : Value) (hne : g ≠ p.block) : Own (w.setCell p v) g zs := (Below.heap_setCell w p v g hne).trans h

theorem grew_set {w w' : World} {g i : Nat} {v : Value} (h : w.grownBy w' (some g)) : w.grownBy (w'.setCell ⟨g, i, none⟩ v) (some g) :=
  ⟨h.os, h.tape, h.output, by simpa using h.size, fun k hk hne => (Below.heap_setCell w' ⟨g, i, none⟩ v k (fun e => hne (by simp at e; rw [e]))).trans (h.block k hk hne)⟩
theorem grew_refl (w : World) (r : Option Nat) : w.grownBy w r := ⟨rfl, rfl, rfl, Nat.le_refl _, fun _ _ _ => rfl⟩
theorem grew_alloc {w w' : World} {r : Option Nat} (h : w.grownBy w' r) (o : Obj) : w.grownBy (w'.alloc o) r :=
  ⟨h.os, h.tape, h.output, by have := h.size; simp; omega, fun k hk hne => (Below.heap_alloc w' o k (Nat.lt_of_lt_of_le hk h.size)).trans (h.block k hk hne)⟩
theorem grew_trans {a b c : World} {r : Option Nat} (h : a.grownBy b r) (k : b.grownBy c r) : a.grownBy c r :=
  ⟨k.os.trans h.os, k.tape.trans h.tape, k.output.trans h.output, Nat.le_trans h.size k.size, fun i hi hne => (k.block i (Nat.lt_of_lt_of_le hi h.size) hne).trans (h.block i hi hne)⟩

theorem info2 : (Try.prog.info? 2).map (fun i => (i.zero, i.size, i.bytes)) = some (some (.int .i64 0), 1, 8) := by kernel_rfl
theorem info_parts {o : Option TypeInfo} {z : Option Value} {s b : Nat} (h : o.map (fun i => (i.zero, i.size, i.bytes)) = some (z, s, b)) : ∃ i, o = some i ∧ i.zero = z ∧ i.size = s ∧ i.bytes = b := by
  cases o with
  | none => simp at h
  | some i => simp at h; exact ⟨i, rfl, h.1, h.2.1, h.2.2⟩
theorem info2s : (Try.prog.info? 2).map (·.size) = some 1 := by kernel_rfl

theorem made_row (n : Nat) : madeCells #[.int .i64 0] n = ((List.replicate n (0 : Int)).map intV).toArray := by
  apply Array.ext
  · simp [madeCells]
  · intro i h1 h2
    simp [intV, madeCells, Nat.mod_one]

theorem run_make_ints (n : Nat) (hn : n ≤ 1048576) (u : World) : (Instr.makeSlice 180 (.int .i64 (n : Int)) (.int .i64 (n : Int))).run Try.prog u =
    .ok (.slice (some ⟨u.heap.size, 0, none⟩) n n) (u.alloc (.cells ((List.replicate n (0 : Int)).map intV).toArray 2)) := by
  obtain ⟨i0, hi, hz0, hz1, hz2⟩ := info_parts info2
  have h := run_make (P := Try.prog) u 180 2 i0 (.int .i64 0) Try.underlying180 hi hz0 .i64 .i64 (n : Int) (n : Int) (by omega) (Int.le_refl _) (by rw [hz2]; omega) (by omega)
  have e : (n : Int).toNat = n := by omega
  rw [e] at h
  rw [← made_row]
  simpa [hz1, Value.cells] using h

/-- k numbers are there, the rest is 0 -/
def part (zs : List Int) (k : Nat) : List Int := zs.take k ++ List.replicate (zs.length - k) 0
theorem part_zero (zs : List Int) : part zs 0 = List.replicate zs.length 0 := by simp [part]
theorem part_all (zs : List Int) : part zs zs.length = zs := by simp [part]
theorem part_len (zs : List Int) (k : Nat) (hk : k ≤ zs.length) : (part zs k).length = zs.length := by simp [part]; omega
theorem part_next (zs : List Int) (k : Nat) (z : Int) (hk : k < zs.length) (hz : zs[k]? = some z) : (part zs k).set k z = part zs (k + 1) := by
  unfold part
  have e : zs.length - k = (zs.length - (k + 1)) + 1 := by omega
  rw [e, List.replicate_succ, List.set_append_right _ _ (by simp; omega)]
  have e2 : (zs.take k).length = k := by simp; omega
  rw [e2, Nat.sub_self, List.set_cons_zero, List.take_add_one, hz]
  simp

theorem ret_eq {b c : Bool} (h : b = c) : Ending.returned (.bool b) = .returned (.bool c) := by rw [h]

/-- numbers from k on, n of them -/
def from_ (k : Int) (n : Nat) : List Int := (List.range n).map fun (i : Nat) => k + (i : Int)
theorem from_len (k : Int) (n : Nat) : (from_ k n).length = n := by simp [from_]
theorem from_at (k : Int) (n i : Nat) (h : i < n) : (from_ k n)[i]? = some (k + (i : Int)) := by simp [from_, h]
/-- i numbers are marked -/
def marked (k : Int) (zs : List Int) (i : Nat) : List Int := (from_ k zs.length).take i ++ zs.drop i
theorem marked_zero (k : Int) (zs : List Int) : marked k zs 0 = zs := by simp [marked]
theorem marked_all (k : Int) (zs : List Int) : marked k zs zs.length = from_ k zs.length := by
  unfold marked
  rw [List.take_of_length_le (by rw [from_len]; exact Nat.le_refl _)]
  simp
theorem marked_len (k : Int) (zs : List Int) (i : Nat) (h : i ≤ zs.length) : (marked k zs i).length = zs.length := by simp [marked, from_len]; omega
theorem marked_next (k : Int) (zs : List Int) (i : Nat) (h : i < zs.length) : (marked k zs i).set i (k + (i : Int)) = marked k zs (i + 1) := by
  unfold marked
  have e2 : ((from_ k zs.length).take i).length = i := by simp [from_len]; omega
  rw [List.set_append_right _ _ (by rw [e2]; exact Nat.le_refl _), e2, Nat.sub_self, List.drop_eq_getElem_cons h, List.set_cons_zero, List.take_add_one, from_at k _ i h]
  simp

end Go.Proofs.Ytlcdbkelonbcfaa.ints
