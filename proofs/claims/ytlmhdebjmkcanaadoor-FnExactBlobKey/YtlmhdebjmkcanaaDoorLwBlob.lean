/-
  What laws.szBlob, toBlob, eqBlob, szEntry, toEntry, eqEntry, eqBlobOut answer and leave. Conditions: none, or at most 9,223,372,036,854,775,807 bytes.
-/
import Derived.Test.YtlmhdebjmkcanaaDoorAid
import Derived.Test.YtlmhdebjmkcanaaDoorPackP
import Derived.Deep.RegionHeld3
import Derived.Deep.QuietTactic
import Derived.BigQuiet
import Derived.BigRegion
namespace Go.Proofs.YtlmhdebjmkcanaaDoor.lwb
open Go.RowKit Go.Joins
open Go.Proofs.YtlmhdebjmkcanaaDoor.base Go.Proofs.YtlmhdebjmkcanaaDoor.blk Go.Proofs.YtlmhdebjmkcanaaDoor.aid
set_option linter.unusedVariables false

set_option maxRecDepth 100000 in
theorem sz_any (k : Int) (t : ByteArray) (m : Int) (w : World) (ht : (t.size : Int) ≤ 9223372036854775807) (hm : 0 ≤ m) (hm1 : m ≤ 1048576) :
    Calls Tryd.prog 19 #[.agg #[.int .i64 k, .string t], .int .i64 m] w fun e w' => e = .returned (.int .i64 (if m < t.size then -1 else m - t.size)) ∧ Below w.heap.size w w' := by
  go_enter Tryd.func19, Tryd.ntmps19
  by_cases h : m < t.size
  · rw [if_pos h]
    go_wp2
    go_ret
    exact ⟨rfl, below_alloc1 _ _⟩
  · rw [if_neg h]
    go_wp2
    go_ret
    exact ⟨rfl, below_alloc1 _ _⟩

theorem below2 (w : World) (o1 o2 : Obj) : Below w.heap.size w ((w.alloc o1).alloc o2) := (below_alloc1 w o1).alloc (by simp) _
theorem below3 (w : World) (o1 o2 o3 : Obj) : Below w.heap.size w (((w.alloc o1).alloc o2).alloc o3) := (below2 w o1 o2).alloc (by simp; omega) _

set_option maxRecDepth 100000 in
theorem to_any (k : Int) (t : ByteArray) (w : World) :
    Calls Tryd.prog 21 #[.agg #[.int .i64 k, .string t]] w fun e w' => e = .returned (.agg #[.int .i64 k, .string t]) ∧ Below w.heap.size w w' := by
  go_enter Tryd.func21, Tryd.ntmps21
  go_wp2
  exact bodyPost_ret (v := .agg #[.int .i64 k, .string t]) (by simp [results, Tryd.results21, go_sem]) rfl ⟨rfl, below3 _ _ _ _⟩

set_option maxRecDepth 100000 in
theorem eq_same (k : Int) (t : ByteArray) (w : World) :
    Calls Tryd.prog 45 #[.agg #[.int .i64 k, .string t], .agg #[.int .i64 k, .string t]] w fun e w' => e = .returned (.bool true) ∧ Below w.heap.size w w' := by
  have h1 : (k != k) = false := by simp
  have h2 : (!t.toList == t.toList) = false := by simp
  go_enter Tryd.func45, Tryd.ntmps45
  go_wp2
  go_ret
  exact ⟨rfl, below2 _ _ _⟩

end Go.Proofs.YtlmhdebjmkcanaaDoor.lwb
