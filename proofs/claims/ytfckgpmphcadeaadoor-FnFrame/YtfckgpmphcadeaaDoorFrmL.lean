/-
  What laws.szFrame and laws.toFrame answer and leave. Condition: what is left is at most 1,048,576.
-/
import Derived.Test.YtfckgpmphcadeaaDoorAid
namespace Go.Proofs.YtfckgpmphcadeaaDoor.frm
open Go.RowKit Go.Joins
open Go.Proofs.YtfckgpmphcadeaaDoor.base Go.Proofs.YtfckgpmphcadeaaDoor.blk Go.Proofs.YtfckgpmphcadeaaDoor.aid
set_option linter.unusedVariables false

theorem allocs2 (w : World) (o1 o2 : Obj) : Below w.heap.size w ((w.alloc o1).alloc o2) := (below_alloc1 w o1).alloc (by simp) _
theorem allocs3 (w : World) (o1 o2 o3 : Obj) : Below w.heap.size w (((w.alloc o1).alloc o2).alloc o3) := (allocs2 w o1 o2).alloc (by simp; omega) _
set_option maxRecDepth 100000 in
theorem szFrame_any (k m i s : Int) (h x : ByteArray) (z : Int) (w : World) (h1 : (h.size : Int) ≤ 9223372036854775807) (h2 : (x.size : Int) ≤ 9223372036854775807) (hm0 : 0 ≤ z) (hm : z ≤ 1048576) :
    Calls Tryd.prog 13 #[.agg #[.int .i64 k, .int .i64 m, .int .i64 i, .int .i64 s, .string h, .string x], .int .i64 z] w fun e w' => (∃ z, e = .returned (.int .i64 z) ∧ (0 ≤ z → h.size ≤ 1048576 ∧ x.size ≤ 1048576)) ∧ Below w.heap.size w w' := by
  by_cases g1 : z < (h.size : Int)
  · go_enter Tryd.func13, Tryd.ntmps13
    go_wp2
    go_ret
    exact ⟨⟨_, rfl, by omega⟩, below_alloc1 _ _⟩
  by_cases g2 : z - (h.size : Int) < (x.size : Int)
  · go_enter Tryd.func13, Tryd.ntmps13
    go_wp2
    go_ret
    exact ⟨⟨_, rfl, by omega⟩, below_alloc1 _ _⟩
  · have g4 : 0 ≤ z - (h.size : Int) - (x.size : Int) := by omega
    go_enter Tryd.func13, Tryd.ntmps13
    go_wp2
    go_ret
    exact ⟨⟨_, rfl, fun _ => ⟨by omega, by omega⟩⟩, below_alloc1 _ _⟩
set_option maxRecDepth 100000 in
theorem toFrame_any (k m i s : Int) (h x : ByteArray) (w : World) :
    Calls Tryd.prog 14 #[.agg #[.int .i64 k, .int .i64 m, .int .i64 i, .int .i64 s, .string h, .string x]] w fun e w' => e = .returned (.agg #[.int .i64 k, .int .i64 m, .int .i64 i, .int .i64 s, .string h, .string x]) ∧ Below w.heap.size w w' := by
  go_enter Tryd.func14, Tryd.ntmps14
  go_wp2
  exact bodyPost_ret (v := .agg #[.int .i64 k, .int .i64 m, .int .i64 i, .int .i64 s, .string h, .string x]) (by simp [results, Tryd.results14, go_sem]) rfl ⟨rfl, allocs3 _ _ _ _⟩
theorem cel6 {w : World} {g : Nat} {a b c d e f : Value} {t : TypeId} {z : Nat × Nat} (h : w.heap[g]? = some (.cells #[a, b, c, d, e, f] t z)) : w.cell? ⟨g, 0, none⟩ = some a ∧ w.cell? ⟨g, 1, none⟩ = some b ∧ w.cell? ⟨g, 2, none⟩ = some c ∧ w.cell? ⟨g, 3, none⟩ = some d ∧ w.cell? ⟨g, 4, none⟩ = some e ∧ w.cell? ⟨g, 5, none⟩ = some f := by
  simp [World.cell?, h]
end Go.Proofs.YtfckgpmphcadeaaDoor.frm
