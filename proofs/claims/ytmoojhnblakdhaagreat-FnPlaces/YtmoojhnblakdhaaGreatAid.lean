/-
  Small facts on worlds that the texts on packs use. No condition.
-/
import Derived.Test.YtmoojhnblakdhaaGreatBlk
namespace Go.Proofs.YtmoojhnblakdhaaGreat.aid
open Go.RowKit Go.Joins
open Go.Proofs.YtmoojhnblakdhaaGreat.base Go.Proofs.YtmoojhnblakdhaaGreat.blk
set_option linter.unusedVariables false

theorem ret_eq {a b : Value} (h : a = b) : Ending.returned a = Ending.returned b := by rw [h]
theorem re {w w' w1 : World} (h : Below w'.heap.size w' w1) (h1 : w'.os = w.os) (h2 : w'.tape = w.tape) (h3 : w'.output = w.output) (h4 : w'.heap = w.heap) : Below w.heap.size w w1 :=
  ⟨h.os.trans h1, h.tape.trans h2, h.output.trans h3, h4 ▸ h.size, fun k hk => (h.block k (h4.symm ▸ hk)).trans (by rw [h4])⟩
theorem grew_re {w w' w1 : World} {r : Option Nat} (h : w.grownBy w' r) (h1 : w1.os = w'.os) (h2 : w1.tape = w'.tape) (h3 : w1.output = w'.output) (h4 : w1.heap = w'.heap) : w.grownBy w1 r :=
  ⟨h1.trans h.os, h2.trans h.tape, h3.trans h.output, h4.symm ▸ h.size, fun k hk hne => (congrArg (fun x => x[k]?) h4).trans (h.block k hk hne)⟩
theorem grew_from {w w' w1 : World} {r : Option Nat} (h : w'.grownBy w1 r) (h1 : w'.os = w.os) (h2 : w'.tape = w.tape) (h3 : w'.output = w.output) (h4 : w'.heap = w.heap) : w.grownBy w1 r :=
  ⟨h.os.trans h1, h.tape.trans h2, h.output.trans h3, h4 ▸ h.size, fun k hk hne => (h.block k (h4.symm ▸ hk) hne).trans (congrArg (fun x => x[k]?) h4)⟩
theorem grew_refl (w : World) (r : Option Nat) : w.grownBy w r := ⟨rfl, rfl, rfl, Nat.le_refl _, fun _ _ _ => rfl⟩
theorem grew_below {w w' w2 : World} {r : Option Nat} (h : w.grownBy w' r) (hb : Below w'.heap.size w' w2) : w.grownBy w2 r :=
  ⟨hb.os.trans h.os, hb.tape.trans h.tape, hb.output.trans h.output, Nat.le_trans h.size hb.size, fun k hk hne => (hb.block k (Nat.lt_of_lt_of_le hk h.size)).trans (h.block k hk hne)⟩
theorem below_grew {w w' : World} (hb : Below w.heap.size w w') (r : Option Nat) : w.grownBy w' r :=
  ⟨hb.os, hb.tape, hb.output, hb.size, fun k hk _ => hb.block k hk⟩
theorem grew_grew {w w' w2 : World} {r : Option Nat} (h : w.grownBy w' r) (h2 : w'.grownBy w2 r) : w.grownBy w2 r :=
  ⟨h2.os.trans h.os, h2.tape.trans h.tape, h2.output.trans h.output, Nat.le_trans h.size h2.size, fun k hk hne => (h2.block k (Nat.lt_of_lt_of_le hk h.size) hne).trans (h.block k hk hne)⟩
theorem grew_cell (w : World) (g i : Nat) (v : Value) : w.grownBy (w.setCell ⟨g, i, none⟩ v) (some g) :=
  ⟨rfl, rfl, rfl, by simp, fun k hk hne => Below.heap_setCell _ _ _ k (fun e => hne (by simp at e; rw [e]))⟩
/-- what grows in a block that was made from B on leaves all below B as it was -/
theorem below_of_grew {B g : Nat} {w w1 w2 : World} (hb : Below B w w1) (hs : B ≤ w1.heap.size) (hg : w1.grownBy w2 (some g)) (hB : B ≤ g) : Below B w w2 :=
  hb.grown hg hs (fun k hk => by cases hk; exact hB)
theorem cel1 {w : World} {g : Nat} {a : Value} {t : TypeId} {z : Nat × Nat} (h : w.heap[g]? = some (.cells #[a] t z)) : w.cell? ⟨g, 0, none⟩ = some a := by
  simp [World.cell?, h]
theorem cel2 {w : World} {g : Nat} {a b : Value} {t : TypeId} {z : Nat × Nat} (h : w.heap[g]? = some (.cells #[a, b] t z)) : w.cell? ⟨g, 0, none⟩ = some a ∧ w.cell? ⟨g, 1, none⟩ = some b := by
  simp [World.cell?, h]
theorem cel3 {w : World} {g : Nat} {a b c : Value} {t : TypeId} {z : Nat × Nat} (h : w.heap[g]? = some (.cells #[a, b, c] t z)) : w.cell? ⟨g, 0, none⟩ = some a ∧ w.cell? ⟨g, 1, none⟩ = some b ∧ w.cell? ⟨g, 2, none⟩ = some c := by
  simp [World.cell?, h]
theorem cel4 {w : World} {g : Nat} {a b c d : Value} {t : TypeId} {z : Nat × Nat} (h : w.heap[g]? = some (.cells #[a, b, c, d] t z)) : w.cell? ⟨g, 0, none⟩ = some a ∧ w.cell? ⟨g, 1, none⟩ = some b ∧ w.cell? ⟨g, 2, none⟩ = some c ∧ w.cell? ⟨g, 3, none⟩ = some d := by
  simp [World.cell?, h]
theorem unfrozen {w : World} {g : Nat} {cs : Array Value} {t : TypeId} (h : w.heap[g]? = some (.cells cs t)) (j : Nat) : w.frozen? ⟨g, j, none⟩ = false := by
  simp [World.frozen?, h]
theorem below_cell {B g i : Nat} {w w1 : World} (hb : Below B w w1) (hB : B ≤ g) (hs : B ≤ w1.heap.size) (v : Value) : Below B w (w1.setCell ⟨g, i, none⟩ v) := below_of_grew hb hs (grew_cell w1 g i v) hB
theorem below_set3 {B g : Nat} {w w1 : World} (hb : Below B w w1) (hB : B ≤ g) (hs : B ≤ w1.heap.size) (a b c : Value) : Below B w (((w1.setCell ⟨g, 0, none⟩ a).setCell ⟨g, 1, none⟩ b).setCell ⟨g, 2, none⟩ c) :=
  below_cell (below_cell (below_cell hb hB hs a) hB (by simpa using hs) b) hB (by simpa using hs) c
theorem slice_is (s : ByteArray) (a n : Nat) (h : a + n ≤ s.size) (wx : World) : (Instr.slice 9 (.string s) (some (.int .i64 (a : Int))) (some (.int .i64 ((a : Int) + (n : Int)))) none).run Tryz.prog wx = .ok (.string (s.extract a (a + n))) wx := by
  have h1 := run_slice_string (P := Tryz.prog) wx 9 s .i64 .i64 (a : Int) ((a : Int) + (n : Int)) Tryz.underlying9 (by omega) (by omega) (by omega)
  rw [h1]
  congr 3
end Go.Proofs.YtmoojhnblakdhaaGreat.aid
