/-
  laws.FnExactBlobRight answers true at every blob: impl.BlobRight and spec.BlobRight both ask for a kind of 1 or 2 and at most 2,000 bytes. No condition.
-/
import Derived.Test.YtlmhdebjmkcanaaAid
import Derived.Test.YtlmhdebjmkcanaaKindI
namespace Go.Proofs.Ytlmhdebjmkcanaa.bright
open Go.RowKit Go.Joins
open Go.Proofs.Ytlmhdebjmkcanaa.base Go.Proofs.Ytlmhdebjmkcanaa.blk Go.Proofs.Ytlmhdebjmkcanaa.aid
set_option linter.unusedVariables false

def bRight (b : Int × ByteArray) : Bool := decide ((b.1 = 1 ∨ b.1 = 2) ∧ b.2.size ≤ 2000)
set_option maxRecDepth 100000 in
theorem right_spec (k : Int) (t : ByteArray) (w : World) :
    Calls Try.prog 5 #[.agg #[.int .i64 k, .string t]] w fun e w' => e = .returned (.bool (bRight (k, t))) ∧ Below w.heap.size w w' := by
  go_enter Try.func5, Try.ntmps5
  go_wp2
  all_goals go_ret
  all_goals exact ⟨ret_eq (by simp [bRight, *] <;> omega), below_alloc1 _ _⟩
set_option maxRecDepth 100000 in
theorem right_impl (k : Int) (t : ByteArray) (w : World) :
    Calls Try.prog 7 #[.agg #[.int .i64 k, .string t]] w fun e w' => e = .returned (.bool (bRight (k, t))) ∧ Below w.heap.size w w' := by
  have HK := mkHid (fun wx => kind.kind_any k wx)
  cases hk : kind.kindB k with
  | false =>
    rw [hk] at HK
    have hk2 := mkHid (show ¬ (k = 1 ∨ k = 2) by unfold kind.kindB at hk; simp at hk; omega)
    clear hk
    go_enter Try.func7, Try.ntmps7
    go_wp2_with fail
    refine (HK.out _).mono ?_
    rintro e w1 ⟨rfl, rfl⟩
    go_wp2
    go_ret
    exact ⟨ret_eq (by have := hk2.out; simp [bRight]; omega), below_alloc1 _ _⟩
  | true =>
    rw [hk] at HK
    have hk2 := mkHid (show k = 1 ∨ k = 2 by unfold kind.kindB at hk; simpa using hk)
    clear hk
    go_enter Try.func7, Try.ntmps7
    go_wp2_with fail
    refine (HK.out _).mono ?_
    rintro e w1 ⟨rfl, rfl⟩
    go_wp2
    go_ret
    exact ⟨ret_eq (by have := hk2.out; simp [bRight, this]; omega), below_alloc1 _ _⟩
set_option maxRecDepth 100000 in
theorem sz_any (k : Int) (t : ByteArray) (m : Int) (w : World) (ht : (t.size : Int) ≤ 9223372036854775807) (hm : 0 ≤ m) (hm1 : m ≤ 1048576) :
    Calls Try.prog 4 #[.agg #[.int .i64 k, .string t], .int .i64 m] w fun e w' => e = .returned (.int .i64 (if m < t.size then -1 else m - t.size)) ∧ Below w.heap.size w w' := by
  go_enter Try.func4, Try.ntmps4
  by_cases h : m < t.size
  · rw [if_pos h]
    go_wp2
    go_ret
    exact ⟨rfl, below_alloc1 _ _⟩
  · rw [if_neg h]
    go_wp2
    go_ret
    exact ⟨rfl, below_alloc1 _ _⟩
theorem below2 (w : World) (o1 o2 : Obj) : Below w.heap.size w ((w.alloc o1).alloc o2) := (below_alloc1 w o1).alloc (by simp) _
theorem below3 (w : World) (o1 o2 o3 : Obj) : Below w.heap.size w (((w.alloc o1).alloc o2).alloc o3) := (below2 w o1 o2).alloc (by simp; omega) _
set_option maxRecDepth 100000 in
theorem to_any (k : Int) (t : ByteArray) (w : World) :
    Calls Try.prog 6 #[.agg #[.int .i64 k, .string t]] w fun e w' => e = .returned (.agg #[.int .i64 k, .string t]) ∧ Below w.heap.size w w' := by
  go_enter Try.func6, Try.ntmps6
  go_wp2
  exact bodyPost_ret (v := .agg #[.int .i64 k, .string t]) (by simp [results, Try.results6, go_sem]) rfl ⟨rfl, below3 _ _ _ _⟩

set_option maxRecDepth 100000 in
theorem walk (k : Int) (t : ByteArray) (w : World) (ht : (t.size : Int) ≤ 9223372036854775807) :
    Calls Try.prog 3 #[.agg #[.int .i64 k, .string t]] w fun e w' => e = .returned (.bool true) ∧ Below w.heap.size w w' := by
  have HZ := mkHid (fun wx => sz_any k t 1048576 wx ht (by omega) (by omega))
  have HT := mkHid (fun wx => to_any k t wx)
  have HS := mkHid (fun wx => right_spec k t wx)
  have HI := mkHid (fun wx => right_impl k t wx)
  by_cases h : (1048576 : Int) < t.size
  · rw [if_pos h] at HZ
    go_enter Try.func3, Try.ntmps3
    go_wp2_with fail
    refine (HZ.out _).mono ?_
    rintro e w1 ⟨rfl, hb1⟩
    have B1 := mkHid (below_allocs (os := [_]) hb1)
    clear hb1
    go_wp2
    go_ret
    exact ⟨rfl, B1.out⟩
  · rw [if_neg h] at HZ
    have hz : 0 ≤ (1048576 : Int) - t.size := by omega
    generalize (1048576 : Int) - t.size = z at *
    clear ht
    go_enter Try.func3, Try.ntmps3
    go_wp2_with fail
    refine (HZ.out _).mono ?_
    rintro e w1 ⟨rfl, hb1⟩
    have K1 := mkHid (And.intro (below_allocs (os := [_]) hb1) (blk_below (blk_new w (.cells #[.int .i64 k, .string t] 23) w.heap.size rfl) hb1))
    obtain ⟨c0, c1⟩ := cel2 K1.out.2
    clear hb1 HZ
    go_wp2_with fail
    refine (HT.out _).mono ?_
    rintro e w2 ⟨rfl, hb2⟩
    have K2 := mkHid (And.intro (K1.out.1.trans (hb2.mono K1.out.1.size)) (blk_below K1.out.2 hb2))
    clear hb2 K1 c0 c1
    go_wp2_with fail
    refine (HS.out _).mono ?_
    rintro e w3 ⟨rfl, hb3⟩
    have K3 := mkHid (And.intro (K2.out.1.trans (hb3.mono K2.out.1.size)) (blk_below K2.out.2 hb3))
    obtain ⟨c0, c1⟩ := cel2 K3.out.2
    clear hb3 K2 HS
    go_wp2_with fail
    refine (HT.out _).mono ?_
    rintro e w4 ⟨rfl, hb4⟩
    have K4 := mkHid (K3.out.1.trans (hb4.mono K3.out.1.size))
    clear hb4 K3 c0 c1
    go_wp2_with fail
    refine (HI.out _).mono ?_
    rintro e w5 ⟨rfl, hb5⟩
    have K5 := mkHid (K4.out.trans (hb5.mono K4.out.size))
    clear hb5 K4
    generalize bRight (k, t) = b at *
    have hbb : (b != b) = false := by cases b <;> rfl
    go_wp2
    go_ret
    exact ⟨rfl, K5.out⟩
end Go.Proofs.Ytlmhdebjmkcanaa.bright
