/-
  What laws.szSnap and laws.toSnap answer and leave. Condition: what is left is at most 1,048,576.
-/
import Derived.Test.YtlcdbkelonbcfaaAid
namespace Go.Proofs.Ytlcdbkelonbcfaa.snp
open Go.RowKit Go.Joins
open Go.Proofs.Ytlcdbkelonbcfaa.base Go.Proofs.Ytlcdbkelonbcfaa.blk Go.Proofs.Ytlcdbkelonbcfaa.aid
set_option linter.unusedVariables false

theorem allocs2 (w : World) (o1 o2 : Obj) : Below w.heap.size w ((w.alloc o1).alloc o2) := (below_alloc1 w o1).alloc (by simp) _
theorem allocs3 (w : World) (o1 o2 o3 : Obj) : Below w.heap.size w (((w.alloc o1).alloc o2).alloc o3) := (allocs2 w o1 o2).alloc (by simp; omega) _
set_option maxRecDepth 100000 in
theorem szSnap_any (n : ByteArray) (d : Int) (r : ByteArray) (z : Int) (w : World) (h1 : (n.size : Int) ≤ 9223372036854775807) (h2 : (r.size : Int) ≤ 9223372036854775807) (hm0 : 0 ≤ z) (hm : z ≤ 1048576) :
    Calls Try.prog 23 #[.agg #[.string n, .int .i64 d, .string r], .int .i64 z] w fun e w' => (∃ z, e = .returned (.int .i64 z) ∧ (0 ≤ z → n.size ≤ 1048576 ∧ r.size ≤ 1048576)) ∧ Below w.heap.size w w' := by
  by_cases g1 : z < (n.size : Int)
  · go_enter Try.func23, Try.ntmps23
    go_wp2
    go_ret
    exact ⟨⟨_, rfl, by omega⟩, below_alloc1 _ _⟩
  by_cases g2 : z - (n.size : Int) < (r.size : Int)
  · go_enter Try.func23, Try.ntmps23
    go_wp2
    go_ret
    exact ⟨⟨_, rfl, by omega⟩, below_alloc1 _ _⟩
  · have g4 : 0 ≤ z - (n.size : Int) - (r.size : Int) := by omega
    go_enter Try.func23, Try.ntmps23
    go_wp2
    go_ret
    exact ⟨⟨_, rfl, fun _ => ⟨by omega, by omega⟩⟩, below_alloc1 _ _⟩
set_option maxRecDepth 100000 in
theorem toSnap_any (n : ByteArray) (d : Int) (r : ByteArray) (w : World) :
    Calls Try.prog 25 #[.agg #[.string n, .int .i64 d, .string r]] w fun e w' => e = .returned (.agg #[.string n, .int .i64 d, .string r]) ∧ Below w.heap.size w w' := by
  go_enter Try.func25, Try.ntmps25
  go_wp2
  exact bodyPost_ret (v := .agg #[.string n, .int .i64 d, .string r]) (by simp [results, Try.results25, go_sem]) rfl ⟨rfl, allocs3 _ _ _ _⟩
end Go.Proofs.Ytlcdbkelonbcfaa.snp
