/-
  What impl.pushByte, isFinger and isByte answer: a byte behind a finger. Conditions: fingers below 2^31, bytes below 256.
-/
import Derived.Test.YtbdkpcgmnppkgaaFingS
namespace Go.Proofs.Ytbdkpcgmnppkgaa.fingI
open Go.RowKit
open Go.Proofs.Ytbdkpcgmnppkgaa.base Go.Proofs.Ytbdkpcgmnppkgaa.fing
set_option linter.unusedVariables false

theorem or_nat (a b : Nat) (ha : a < 9223372036854775808) (hb : b < 9223372036854775808) : bits .or .i64 (a : Int) (b : Int) = ((a ||| b : Nat) : Int) := by
  have hx : a ||| b < 2 ^ 63 := Nat.or_lt_two_pow (by omega) (by omega)
  show IntKind.i64.wrap ((BitVec.ofInt 64 (a : Int) ||| BitVec.ofInt 64 (b : Int)).toNat : Int) = _
  rw [BitVec.toNat_or, ofInt_nat a ha, ofInt_nat b hb]
  simp [IntKind.wrap, IntKind.bits, IntKind.signed]
  omega
theorem apart (n a b : Nat) (hb : b < 2 ^ n) : (a * 2 ^ n ||| b = a * 2 ^ n + b) ∧ (a * 2 ^ n ^^^ b = a * 2 ^ n + b) := by
  have h1 : a * 2 ^ n ||| b = a * 2 ^ n + b := by
    rw [Nat.mul_comm, Nat.two_pow_add_eq_or_of_lt hb]
  refine ⟨h1, ?_⟩
  rw [← h1]
  apply Nat.eq_of_testBit_eq
  intro i
  rw [Nat.testBit_xor, Nat.testBit_or, Nat.mul_comm, Nat.testBit_two_pow_mul]
  by_cases hi : n ≤ i
  · have : b.testBit i = false := Nat.testBit_lt_two_pow (Nat.lt_of_lt_of_le hb (Nat.pow_le_pow_right (by decide) hi))
    rw [this]; simp
  · simp [hi]
theorem reds_low (b : Nat) (hb : b < 2147483648) : reds b 8 = b := by
  have h : ∀ j, j ≤ 8 → reds b j = b := by
    intro j
    induction j with
    | zero => intro _; rfl
    | succ j ih =>
      intro hj
      rw [reds, ih (by omega)]
      unfold red
      have h8 : b < 2 ^ (38 - j) := Nat.lt_of_lt_of_le (show b < 2 ^ 31 from hb) (show 2 ^ 31 ≤ 2 ^ (38 - j) from Nat.pow_le_pow_right (by decide) (by omega))
      rw [Nat.div_eq_of_lt h8]
      simp
  exact h 8 (by omega)
set_option maxRecDepth 100000 in
theorem reds_high : ∀ h, h < 256 → reds (h * 2147483648) 8 = h ^^^ h * 8 := by decide +kernel
/-- what stands above 2^31 comes in again as itself and as 8 times itself -/
theorem reds_push (X : Nat) (hX : X < 549755813888) : reds X 8 = X % 2147483648 ^^^ X / 2147483648 ^^^ X / 2147483648 * 8 := by
  have e : X = X / 2147483648 * 2147483648 ^^^ X % 2147483648 := by
    have h := (apart 31 (X / 2147483648) (X % 2147483648) (Nat.mod_lt _ (by decide))).2
    have e2 : X / 2147483648 * 2 ^ 31 + X % 2147483648 = X := by
      have := Nat.div_add_mod X 2147483648
      omega
    exact (h.trans e2).symm
  have h1 := reds_xor (X / 2147483648 * 2147483648) (X % 2147483648) 8
  rw [← e] at h1
  rw [h1, reds_high _ (by omega), reds_low _ (Nat.mod_lt _ (by decide)), Nat.xor_comm, Nat.xor_assoc]

set_option maxRecDepth 100000 in
theorem push_any (f b : Nat) (w : World) (hf : f < 2147483648) (hb : b < 256) :
    Calls Try.prog 33 #[.int .i64 f, .int .i64 b] w fun e w' => e = .returned (.int .i64 (shift f b : Nat)) ∧ w' = w := by
  obtain ⟨X, hX⟩ : ∃ X, X = f * 256 ^^^ b := ⟨_, rfl⟩
  have hX39 : X < 549755813888 := by rw [hX]; exact xor_lt (n := 39) (by omega) (by omega)
  have hO : bits .or .i64 ((f : Int) * 256) (b : Int) = (X : Int) := by
    have h := or_nat (f * 256) b (by omega) (by omega)
    have e := apart 8 f b hb
    rw [hX, (show f * 256 ^^^ b = f * 256 ||| b from e.2.trans e.1.symm), ← h]
    simp
  have hA : bits .and .i64 (X : Int) 2147483647 = ((X % 2147483648 : Nat) : Int) := by
    have h := and_nat X 2147483647 (by omega) (by omega)
    rw [show X &&& 2147483647 = X % 2147483648 from Nat.and_two_pow_sub_one_eq_mod X 31] at h
    exact h
  have E := mkHid (show shift f b = (X % 2147483648 ^^^ X / 2147483648) ^^^ X / 2147483648 * 8 by unfold shift; rw [← hX, reds_push X hX39])
  obtain ⟨o, ho⟩ : ∃ o, o = X / 2147483648 := ⟨_, rfl⟩
  have hoi : (X : Int) / 2147483648 = (o : Int) := by omega
  have ho2 : (o : Int) ≤ 255 := by omega
  obtain ⟨m, hm⟩ : ∃ m, m = X % 2147483648 := ⟨_, rfl⟩
  have hm2 : m < 2147483648 := by omega
  rw [← hm, ← ho] at E
  rw [← hm] at hA
  have hx1 : bits .xor .i64 (m : Int) (o : Int) = ((m ^^^ o : Nat) : Int) := xor_nat m o (by omega) (by omega)
  have hx2 : bits .xor .i64 ((m ^^^ o : Nat) : Int) ((o : Int) * 8) = ((m ^^^ o ^^^ o * 8 : Nat) : Int) := by
    have h := xor_nat (m ^^^ o) (o * 8) (Nat.lt_of_lt_of_le (xor_lt (n := 31) (by omega) (by omega)) (by decide)) (by omega)
    simpa using h
  clear hX ho hm
  go_enter Try.func33, Try.ntmps33
  go_wp2
  go_ret
  exact ⟨ret_eq (by rw [E.out]; rfl), rfl⟩
theorem isFinger_any (f : Int) (w : World) : Calls Try.prog 35 #[.int .i64 f] w fun e w' => e = .returned (.bool (fingB f)) ∧ w' = w := by
  go_enter Try.func35, Try.ntmps35
  by_cases h0 : 0 ≤ f <;> by_cases h1 : f ≤ 2147483647
  all_goals
    go_wp2
    go_ret
    exact ⟨ret_eq (by simp [fingB]; omega), rfl⟩
theorem isByte_any (b : Int) (w : World) : Calls Try.prog 36 #[.int .i64 b] w fun e w' => e = .returned (.bool (byteB b)) ∧ w' = w := by
  go_enter Try.func36, Try.ntmps36
  by_cases h0 : 0 ≤ b <;> by_cases h1 : b < 256
  all_goals
    go_wp2
    go_ret
    exact ⟨ret_eq (by simp [byteB]; omega), rfl⟩
end Go.Proofs.Ytbdkpcgmnppkgaa.fingI
