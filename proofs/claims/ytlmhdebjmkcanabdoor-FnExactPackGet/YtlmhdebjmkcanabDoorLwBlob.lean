/-
  What laws.szBlob, toBlob, eqBlob, szEntry, toEntry, eqEntry, eqBlobOut answer and leave. Conditions: none, or at most 9,223,372,036,854,775,807 bytes.
-/
import Derived.Test.YtlmhdebjmkcanabDoorAid
import Derived.Test.YtlmhdebjmkcanabDoorPackP
import Derived.Deep.RegionHeld3
import Derived.Deep.QuietTactic
import Derived.BigQuiet
import Derived.BigRegion
namespace Go.Proofs.YtlmhdebjmkcanabDoor.lwb
open Go.RowKit Go.Joins
open Go.Proofs.YtlmhdebjmkcanabDoor.base Go.Proofs.YtlmhdebjmkcanabDoor.blk Go.Proofs.YtlmhdebjmkcanabDoor.aid
set_option linter.unusedVariables false

theorem below2 (w : World) (o1 o2 : Obj) : Below w.heap.size w ((w.alloc o1).alloc o2) := (below_alloc1 w o1).alloc (by simp) _
theorem below3 (w : World) (o1 o2 o3 : Obj) : Below w.heap.size w (((w.alloc o1).alloc o2).alloc o3) := (below2 w o1 o2).alloc (by simp; omega) _

set_option maxRecDepth 100000 in
theorem eq_same (k : Int) (t : ByteArray) (w : World) :
    Calls Tryd.prog 37 #[.agg #[.int .i64 k, .string t], .agg #[.int .i64 k, .string t]] w fun e w' => e = .returned (.bool true) ∧ Below w.heap.size w w' := by
  have h1 : (k != k) = false := by simp
  have h2 : (!t.toList == t.toList) = false := by simp
  go_enter Tryd.func37, Tryd.ntmps37
  go_wp2
  go_ret
  exact ⟨rfl, below2 _ _ _⟩

set_option maxRecDepth 100000 in
theorem szE_any (x : ByteArray) (k a n : Int) (m : Int) (w : World) (ht : (x.size : Int) ≤ 9223372036854775807) (hm : 0 ≤ m) (hm1 : m ≤ 1048576) :
    Calls Tryd.prog 16 #[.agg #[.string x, .int .i64 k, .int .i64 a, .int .i64 n], .int .i64 m] w fun e w' => e = .returned (.int .i64 (if m < x.size then -1 else m - x.size)) ∧ Below w.heap.size w w' := by
  go_enter Tryd.func16, Tryd.ntmps16
  by_cases h : m < x.size
  · rw [if_pos h]
    go_wp2
    go_ret
    exact ⟨rfl, below_alloc1 _ _⟩
  · rw [if_neg h]
    go_wp2
    go_ret
    exact ⟨rfl, below_alloc1 _ _⟩

set_option maxRecDepth 100000 in
theorem toE_any (x : ByteArray) (k a n : Int) (w : World) :
    Calls Tryd.prog 18 #[.agg #[.string x, .int .i64 k, .int .i64 a, .int .i64 n]] w fun e w' => e = .returned (.agg #[.string x, .int .i64 k, .int .i64 a, .int .i64 n]) ∧ Below w.heap.size w w' := by
  go_enter Tryd.func18, Tryd.ntmps18
  go_wp2
  exact bodyPost_ret (v := .agg #[.string x, .int .i64 k, .int .i64 a, .int .i64 n]) (by simp [results, Tryd.results18, go_sem]) rfl ⟨rfl, below3 _ _ _ _⟩

set_option maxRecDepth 100000 in
theorem eqE_same (x : ByteArray) (k a n : Int) (w : World) :
    Calls Tryd.prog 30 #[.agg #[.string x, .int .i64 k, .int .i64 a, .int .i64 n], .agg #[.string x, .int .i64 k, .int .i64 a, .int .i64 n]] w fun e w' => e = .returned (.bool true) ∧ Below w.heap.size w w' := by
  have h1 : (k != k) = false := by simp
  have h2 : (!x.toList == x.toList) = false := by simp
  have h3 : (a != a) = false := by simp
  have h4 : (n != n) = false := by simp
  go_enter Tryd.func30, Tryd.ntmps30
  go_wp2
  go_ret
  exact ⟨rfl, below2 _ _ _⟩

set_option maxRecDepth 100000 in
theorem eqO_same (k : Int) (t : ByteArray) (c : Int) (w : World) :
    Calls Tryd.prog 20 #[.agg #[.int .i64 k, .string t, .int .i64 c], .agg #[.int .i64 k, .string t, .int .i64 c]] w fun e w' => e = .returned (.bool true) ∧ Below w.heap.size w w' := by
  have h1 : (c != c) = false := by simp
  have HE := mkHid (fun wx => eq_same k t wx)
  go_enter Tryd.func20, Tryd.ntmps20
  go_wp2_with fail
  refine (HE.out _).mono ?_
  rintro e w1 ⟨rfl, hb1⟩
  have K0 := blk_below (blk_old (blk_new w (.cells #[.int .i64 k, .string t, .int .i64 c] 39) w.heap.size rfl) (.cells #[.int .i64 k, .string t, .int .i64 c] 39)) hb1
  have K1 := blk_below (blk_new (w.alloc (.cells #[.int .i64 k, .string t, .int .i64 c] 39)) (.cells #[.int .i64 k, .string t, .int .i64 c] 39) (w.heap.size + 1) (by simp)) hb1
  have c2 := (cel3 K0).2.2
  have c5 := (cel3 K1).2.2
  have B1 := mkHid (below_allocs (os := [_, _]) hb1)
  clear hb1 K0 K1 HE
  go_wp2
  go_ret
  exact ⟨rfl, B1.out⟩
end Go.Proofs.YtlmhdebjmkcanabDoor.lwb
