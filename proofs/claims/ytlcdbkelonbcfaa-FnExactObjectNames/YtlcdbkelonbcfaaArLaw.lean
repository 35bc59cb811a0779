/-
  laws.FnExactArrayRight answers true at every array, and leaves what was there as it was. No condition.
-/
import Derived.Test.YtlcdbkelonbcfaaArR
namespace Go.Proofs.Ytlcdbkelonbcfaa.arr
open Go.RowKit Go.Joins
open Go.Proofs.Ytlcdbkelonbcfaa.base Go.Proofs.Ytlcdbkelonbcfaa.blk Go.Proofs.Ytlcdbkelonbcfaa.aid
open Go.Proofs.Ytlcdbkelonbcfaa.row (Rd Own OwnV)
open Go.Proofs.Ytlcdbkelonbcfaa.rwStored (cs)
open Go.Proofs.Ytlcdbkelonbcfaa.mem (Mem Mine Off)
set_option linter.unusedVariables false
set_option linter.unusedSimpArgs false

theorem some_le : ∀ (l : List Dv) (d : Dv), d ∈ l → (d.2.2.1.length : Int) ≤ some_ l
  | [], d, h => by simp at h
  | e :: r, d, h => by
    have hp := some_pos r
    unfold some_
    rcases List.mem_cons.1 h with rfl | h
    · omega
    · have := some_le r d h
      omega
theorem rdA_mem {W wx : World} {a : Option Addr} {ds' : List Dv} (h : Mem W [] [] (⟨92, a, dcs ds'⟩ :: mines ds'.reverse) wx) : RdA wx a ds' := by
  have h2 : Mem W [] [] (⟨92, a, dcs ds'⟩ :: (mines ds'.reverse ++ [])) wx := by rw [List.append_nil]; exact h
  exact rdA_of h2 (fun d hd => List.mem_reverse.2 hd)
/-- what stands in memory while the law goes on -/
structure Lx (w : World) (a : Option Addr) (ds : List Dv) (c : Nat) (k m : Int) (wr : World) : Prop where
  below : Below w.heap.size w wr
  b : wr.heap[w.heap.size]? = some (.cells #[.int .i64 k, .int .i64 m, .slice a ds.length c] 24)
  r : RdA wr a ds
theorem Lx.next {w wr w' : World} {a : Option Addr} {ds : List Dv} {c : Nat} {k m : Int} (h : Lx w a ds c k m wr) (hb : Below wr.heap.size wr w') : Lx w a ds c k m w' :=
  ⟨h.below.trans (hb.mono h.below.size), blk_below h.b hb, h.r.below hb⟩
end Go.Proofs.Ytlcdbkelonbcfaa.arr
