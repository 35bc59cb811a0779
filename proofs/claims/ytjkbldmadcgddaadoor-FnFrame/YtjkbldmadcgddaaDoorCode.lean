/-
  What CodeRight and ShardSize of the specification and of the program answer: plain functions of two numbers.
-/
import Derived.Test.YtjkbldmadcgddaaDoorRows
import Derived.WalkKit
import Derived.ProofKit
import Derived.OpenShut
namespace Go.Proofs.YtjkbldmadcgddaaDoor.code
open Go.RowKit
set_option linter.unusedVariables false

theorem mkHid {P : Prop} (h : P) : Hid P := h
theorem ret_eq {a b : Value} (h : a = b) : Ending.returned a = Ending.returned b := by rw [h]
/-- is a code of k and m right? -/
def codeB (k m : Int) : Bool := decide ((1 ≤ k ∧ k ≤ 8) ∧ (0 ≤ m ∧ m ≤ 6))
/-- may a text have so many bytes? -/
def sizeB (n : Int) : Bool := decide (0 ≤ n ∧ n ≤ 20000)
/-- how many bytes a shard has -/
def shard (k n : Int) : Int := if codeB k 0 = true ∧ sizeB n = true then (n + k - 1).tdiv k else 0

theorem specCode_any (k m : Int) (w : World) : Calls Tryd.prog 37 #[.int .i64 k, .int .i64 m] w fun e w' => e = .returned (.bool (codeB k m)) ∧ w' = w := by
  go_enter Tryd.func37, Tryd.ntmps37
  by_cases h0 : 1 ≤ k <;> by_cases h1 : k ≤ 8 <;> by_cases h2 : 0 ≤ m <;> by_cases h3 : m ≤ 6
  all_goals
    go_wp2
    go_ret
    exact ⟨ret_eq (by simp [codeB]; omega), rfl⟩

theorem implCode_any (k m : Int) (w : World) : Calls Tryd.prog 20 #[.int .i64 k, .int .i64 m] w fun e w' => e = .returned (.bool (codeB k m)) ∧ w' = w := by
  go_enter Tryd.func20, Tryd.ntmps20
  by_cases h0 : 1 ≤ k <;> by_cases h1 : k ≤ 8 <;> by_cases h2 : 0 ≤ m <;> by_cases h3 : m ≤ 6
  all_goals
    go_wp2
    go_ret
    exact ⟨ret_eq (by simp [codeB]; omega), rfl⟩

theorem specSize_any (n : Int) (w : World) : Calls Tryd.prog 47 #[.int .i64 n] w fun e w' => e = .returned (.bool (sizeB n)) ∧ w' = w := by
  go_enter Tryd.func47, Tryd.ntmps47
  by_cases h0 : 0 ≤ n <;> by_cases h1 : n ≤ 20000
  all_goals
    go_wp2
    go_ret
    exact ⟨ret_eq (by simp [sizeB]; omega), rfl⟩

theorem implSize_any (n : Int) (w : World) : Calls Tryd.prog 42 #[.int .i64 n] w fun e w' => e = .returned (.bool (sizeB n)) ∧ w' = w := by
  go_enter Tryd.func42, Tryd.ntmps42
  by_cases h0 : 0 ≤ n <;> by_cases h1 : n ≤ 20000
  all_goals
    go_wp2
    go_ret
    exact ⟨ret_eq (by simp [sizeB]; omega), rfl⟩

theorem quot_bd {k n : Int} (hc : codeB k 0 = true) (hs : sizeB n = true) : 0 ≤ (n + k - 1).tdiv k ∧ (n + k - 1).tdiv k ≤ 20007 ∧ 1 ≤ k ∧ k ≤ 8 ∧ 0 ≤ n ∧ n ≤ 20000 := by
  simp [codeB] at hc
  simp [sizeB] at hs
  have h1 : 0 ≤ n + k - 1 := by omega
  refine ⟨?_, ?_, by omega, by omega, by omega, by omega⟩
  · rw [Int.tdiv_eq_ediv_of_nonneg h1]
    exact Int.ediv_nonneg h1 (by omega)
  · rw [Int.tdiv_eq_ediv_of_nonneg h1]
    have := Int.ediv_le_self k h1
    omega

theorem specShard_any (k n : Int) (w : World) : Calls Tryd.prog 31 #[.int .i64 k, .int .i64 n] w fun e w' => e = .returned (.int .i64 (shard k n)) ∧ w' = w := by
  go_enter Tryd.func31, Tryd.ntmps31
  by_cases hc : codeB k 0 = true
  · by_cases hs : sizeB n = true
    · obtain ⟨q0, q1, k1, k8, n0, n1⟩ := quot_bd hc hs
      have E : shard k n = (n + k - 1).tdiv k := by unfold shard; rw [if_pos ⟨hc, hs⟩]
      go_wp2_with fail
      refine (specCode_any k 0 _).mono ?_
      rintro e w1 ⟨rfl, rfl⟩
      rw [hc]
      go_wp2_with fail
      refine (specSize_any n _).mono ?_
      rintro e w1 ⟨rfl, rfl⟩
      rw [hs]
      go_wp2
      go_ret
      exact ⟨ret_eq (by rw [E]; rfl), rfl⟩
    · have E : shard k n = 0 := by unfold shard; rw [if_neg (fun h => hs h.2)]
      go_wp2_with fail
      refine (specCode_any k 0 _).mono ?_
      rintro e w1 ⟨rfl, rfl⟩
      rw [hc]
      go_wp2_with fail
      refine (specSize_any n _).mono ?_
      rintro e w1 ⟨rfl, rfl⟩
      rw [Bool.eq_false_iff.2 hs]
      go_wp2
      go_ret
      exact ⟨ret_eq (by rw [E]; rfl), rfl⟩
  · have E : shard k n = 0 := by unfold shard; rw [if_neg (fun h => hc h.1)]
    go_wp2_with fail
    refine (specCode_any k 0 _).mono ?_
    rintro e w1 ⟨rfl, rfl⟩
    rw [Bool.eq_false_iff.2 hc]
    go_wp2
    go_ret
    exact ⟨ret_eq (by rw [E]; rfl), rfl⟩

theorem implShard_any (k n : Int) (w : World) : Calls Tryd.prog 21 #[.int .i64 k, .int .i64 n] w fun e w' => e = .returned (.int .i64 (shard k n)) ∧ w' = w := by
  go_enter Tryd.func21, Tryd.ntmps21
  by_cases hc : codeB k 0 = true
  · by_cases hs : sizeB n = true
    · obtain ⟨q0, q1, k1, k8, n0, n1⟩ := quot_bd hc hs
      have E : shard k n = (n + k - 1).tdiv k := by unfold shard; rw [if_pos ⟨hc, hs⟩]
      go_wp2_with fail
      refine (implCode_any k 0 _).mono ?_
      rintro e w1 ⟨rfl, rfl⟩
      rw [hc]
      go_wp2_with fail
      refine (implSize_any n _).mono ?_
      rintro e w1 ⟨rfl, rfl⟩
      rw [hs]
      go_wp2
      go_ret
      exact ⟨ret_eq (by rw [E]; rfl), rfl⟩
    · have E : shard k n = 0 := by unfold shard; rw [if_neg (fun h => hs h.2)]
      go_wp2_with fail
      refine (implCode_any k 0 _).mono ?_
      rintro e w1 ⟨rfl, rfl⟩
      rw [hc]
      go_wp2_with fail
      refine (implSize_any n _).mono ?_
      rintro e w1 ⟨rfl, rfl⟩
      rw [Bool.eq_false_iff.2 hs]
      go_wp2
      go_ret
      exact ⟨ret_eq (by rw [E]; rfl), rfl⟩
  · have E : shard k n = 0 := by unfold shard; rw [if_neg (fun h => hc h.1)]
    go_wp2_with fail
    refine (implCode_any k 0 _).mono ?_
    rintro e w1 ⟨rfl, rfl⟩
    rw [Bool.eq_false_iff.2 hc]
    go_wp2
    go_ret
    exact ⟨ret_eq (by rw [E]; rfl), rfl⟩
end Go.Proofs.YtjkbldmadcgddaaDoor.code
