/-
  Fingers in plain numbers, and what spec.l06Shift, l06Of, l06Out, Finger, FingerMore and FingerRoll answer. Conditions: fingers below 2^31, bytes below 256.
-/
import Derived.Test.YtbdkpcgmnppkgaaBase
import Derived.Test.YtbdkpcgmnppkgaaRows
import Derived.PlainAid
namespace Go.Proofs.Ytbdkpcgmnppkgaa.fing
open Go.RowKit
open Go.Proofs.Ytbdkpcgmnppkgaa.base
open Go.PlainAid (bt get_bt bt_nonneg bt_le)
set_option linter.unusedVariables false

/-- one power is taken off -/
def red (k f : Nat) : Nat := if f / 2 ^ k % 2 = 1 then f ^^^ (2147483657 * 2 ^ (k - 31)) else f
def reds (f : Nat) : Nat → Nat
  | 0 => f
  | j + 1 => red (38 - j) (reds f j)
/-- a finger and a byte behind it -/
def shift (f b : Nat) : Nat := reds (f * 256 ^^^ b) 8

theorem ret_eq {a b : Value} (h : a = b) : Ending.returned a = Ending.returned b := by rw [h]
theorem ofInt_nat (a : Nat) (ha : a < 9223372036854775808) : (BitVec.ofInt 64 (a : Int)).toNat = a := by
  rw [BitVec.ofInt_natCast, BitVec.toNat_ofNat]; exact Nat.mod_eq_of_lt (by omega)
theorem xor_nat (a b : Nat) (ha : a < 9223372036854775808) (hb : b < 9223372036854775808) : bits .xor .i64 (a : Int) (b : Int) = ((a ^^^ b : Nat) : Int) := by
  have hx : a ^^^ b < 2 ^ 63 := Nat.xor_lt_two_pow (by omega) (by omega)
  show IntKind.i64.wrap ((BitVec.ofInt 64 (a : Int) ^^^ BitVec.ofInt 64 (b : Int)).toNat : Int) = _
  rw [BitVec.toNat_xor, ofInt_nat a ha, ofInt_nat b hb]
  simp [IntKind.wrap, IntKind.bits, IntKind.signed]
  omega
theorem and_nat (a b : Nat) (ha : a < 9223372036854775808) (hb : b < 9223372036854775808) : bits .and .i64 (a : Int) (b : Int) = ((a &&& b : Nat) : Int) := by
  have hx : a &&& b < 2 ^ 63 := Nat.and_lt_two_pow _ (by omega)
  show IntKind.i64.wrap ((BitVec.ofInt 64 (a : Int) &&& BitVec.ofInt 64 (b : Int)).toNat : Int) = _
  rw [BitVec.toNat_and, ofInt_nat a ha, ofInt_nat b hb]
  simp [IntKind.wrap, IntKind.bits, IntKind.signed]
  omega
theorem xor_lt {n a b : Nat} (ha : a < 2 ^ n) (hb : b < 2 ^ n) : a ^^^ b < 2 ^ n := Nat.xor_lt_two_pow ha hb
theorem and_bit (x P : Nat) (h : x < 9223372036854775808) : bits .and .i64 ((x : Int) / (P : Int)) 1 = ((x / P % 2 : Nat) : Int) := by
  have h1 : x / P < 9223372036854775808 := Nat.lt_of_le_of_lt (Nat.div_le_self _ _) h
  have e := and_nat (x / P) 1 h1 (by omega)
  rw [Nat.and_one_is_mod] at e
  rw [← e]
  simp
theorem and_one (x P : Nat) (h : x < 9223372036854775808) (hb : x / P % 2 = 1) : bits .and .i64 ((x : Int) / (P : Int)) 1 = 1 := by
  rw [and_bit x P h, hb]; rfl
theorem and_zero (x P : Nat) (h : x < 9223372036854775808) (hb : ¬ x / P % 2 = 1) : bits .and .i64 ((x : Int) / (P : Int)) 1 = 0 := by
  rw [and_bit x P h, show x / P % 2 = 0 by omega]; rfl

set_option maxRecDepth 100000 in
set_option maxHeartbeats 1000000 in
theorem shift_any (f b : Nat) (w : World) (hf : f < 2147483648) (hb : b < 256) :
    Calls Try.prog 44 #[.int .i64 f, .int .i64 b] w fun e w' => e = .returned (.int .i64 (shift f b : Nat)) ∧ w' = w := by
  obtain ⟨F, hF⟩ : ∃ F, F = f * 256 ^^^ b := ⟨_, rfl⟩
  have hF39 : F < 549755813888 := by rw [hF]; exact xor_lt (n := 39) (by omega) (by omega)
  have hx0 : bits .xor .i64 ((f : Int) * 256) (b : Int) = (F : Int) := by
    rw [hF, ← xor_nat (f * 256) b (by omega) (by omega)]
    simp
  have HF := mkHid hF
  clear hF
  go_enter Try.func44, Try.ntmps44
  go_wp2
  clear hx0
  go_loopw [0, 5] (fun v k wr => ∃ (j x : Nat), j ≤ 8 ∧ k = .int .i64 (38 - (j : Int)) ∧ v = .int .i64 x ∧ Hid (x = reds F j) ∧ x < 549755813888 ∧ wr = w)
    (fun _ k _ => (intOf k - 30).toNat)
  case atStart => exact ⟨0, F, by omega, rfl, rfl, mkHid rfl, hF39, rfl⟩
  case round =>
    obtain ⟨j, x, hj, rfl, rfl, hf, hx39, rfl⟩ := hrel
    by_cases hlt : j < 8
    · have hj8 : j = 0 ∨ j = 1 ∨ j = 2 ∨ j = 3 ∨ j = 4 ∨ j = 5 ∨ j = 6 ∨ j = 7 := by omega
      rcases hj8 with rfl | rfl | rfl | rfl | rfl | rfl | rfl | rfl
      · have hr : reds F 1 = red 38 (reds F 0) := rfl
        have hx : bits .xor .i64 (x : Int) 274877908096 = ((x ^^^ 274877908096 : Nat) : Int) := xor_nat x 274877908096 (by omega) (by omega)
        have hlt2 := xor_lt (n := 39) (show x < 2 ^ 39 by omega) (show 274877908096 < 2 ^ 39 by decide)
        by_cases hb : x / 274877906944 % 2 = 1
        · have ha : bits .and .i64 ((x : Int) / 274877906944) 1 = 1 := and_one x 274877906944 (by omega) hb
          have N1 : Hid (reds F 1 = x ^^^ 274877908096) := mkHid (by rw [hr, ← hf.out]; unfold red; rw [if_pos hb])
          clear hf hr
          go_wp2
          go_roundw
          case rel => exact ⟨1, x ^^^ 274877908096, by omega, rfl, rfl, mkHid N1.out.symm, by omega, by trivial⟩
          case measure => simp [intOf]
        · have ha : bits .and .i64 ((x : Int) / 274877906944) 1 = 0 := and_zero x 274877906944 (by omega) hb
          have N1 : Hid (reds F 1 = x) := mkHid (by rw [hr, ← hf.out]; unfold red; rw [if_neg hb])
          clear hf hr
          go_wp2
          go_roundw
          case rel => exact ⟨1, x, by omega, rfl, rfl, mkHid N1.out.symm, by omega, by trivial⟩
          case measure => simp [intOf]
      · have hr : reds F 2 = red 37 (reds F 1) := rfl
        have hx : bits .xor .i64 (x : Int) 137438954048 = ((x ^^^ 137438954048 : Nat) : Int) := xor_nat x 137438954048 (by omega) (by omega)
        have hlt2 := xor_lt (n := 39) (show x < 2 ^ 39 by omega) (show 137438954048 < 2 ^ 39 by decide)
        by_cases hb : x / 137438953472 % 2 = 1
        · have ha : bits .and .i64 ((x : Int) / 137438953472) 1 = 1 := and_one x 137438953472 (by omega) hb
          have N1 : Hid (reds F 2 = x ^^^ 137438954048) := mkHid (by rw [hr, ← hf.out]; unfold red; rw [if_pos hb])
          clear hf hr
          go_wp2
          go_roundw
          case rel => exact ⟨2, x ^^^ 137438954048, by omega, rfl, rfl, mkHid N1.out.symm, by omega, by trivial⟩
          case measure => simp [intOf]
        · have ha : bits .and .i64 ((x : Int) / 137438953472) 1 = 0 := and_zero x 137438953472 (by omega) hb
          have N1 : Hid (reds F 2 = x) := mkHid (by rw [hr, ← hf.out]; unfold red; rw [if_neg hb])
          clear hf hr
          go_wp2
          go_roundw
          case rel => exact ⟨2, x, by omega, rfl, rfl, mkHid N1.out.symm, by omega, by trivial⟩
          case measure => simp [intOf]
      · have hr : reds F 3 = red 36 (reds F 2) := rfl
        have hx : bits .xor .i64 (x : Int) 68719477024 = ((x ^^^ 68719477024 : Nat) : Int) := xor_nat x 68719477024 (by omega) (by omega)
        have hlt2 := xor_lt (n := 39) (show x < 2 ^ 39 by omega) (show 68719477024 < 2 ^ 39 by decide)
        by_cases hb : x / 68719476736 % 2 = 1
        · have ha : bits .and .i64 ((x : Int) / 68719476736) 1 = 1 := and_one x 68719476736 (by omega) hb
          have N1 : Hid (reds F 3 = x ^^^ 68719477024) := mkHid (by rw [hr, ← hf.out]; unfold red; rw [if_pos hb])
          clear hf hr
          go_wp2
          go_roundw
          case rel => exact ⟨3, x ^^^ 68719477024, by omega, rfl, rfl, mkHid N1.out.symm, by omega, by trivial⟩
          case measure => simp [intOf]
        · have ha : bits .and .i64 ((x : Int) / 68719476736) 1 = 0 := and_zero x 68719476736 (by omega) hb
          have N1 : Hid (reds F 3 = x) := mkHid (by rw [hr, ← hf.out]; unfold red; rw [if_neg hb])
          clear hf hr
          go_wp2
          go_roundw
          case rel => exact ⟨3, x, by omega, rfl, rfl, mkHid N1.out.symm, by omega, by trivial⟩
          case measure => simp [intOf]
      · have hr : reds F 4 = red 35 (reds F 3) := rfl
        have hx : bits .xor .i64 (x : Int) 34359738512 = ((x ^^^ 34359738512 : Nat) : Int) := xor_nat x 34359738512 (by omega) (by omega)
        have hlt2 := xor_lt (n := 39) (show x < 2 ^ 39 by omega) (show 34359738512 < 2 ^ 39 by decide)
        by_cases hb : x / 34359738368 % 2 = 1
        · have ha : bits .and .i64 ((x : Int) / 34359738368) 1 = 1 := and_one x 34359738368 (by omega) hb
          have N1 : Hid (reds F 4 = x ^^^ 34359738512) := mkHid (by rw [hr, ← hf.out]; unfold red; rw [if_pos hb])
          clear hf hr
          go_wp2
          go_roundw
          case rel => exact ⟨4, x ^^^ 34359738512, by omega, rfl, rfl, mkHid N1.out.symm, by omega, by trivial⟩
          case measure => simp [intOf]
        · have ha : bits .and .i64 ((x : Int) / 34359738368) 1 = 0 := and_zero x 34359738368 (by omega) hb
          have N1 : Hid (reds F 4 = x) := mkHid (by rw [hr, ← hf.out]; unfold red; rw [if_neg hb])
          clear hf hr
          go_wp2
          go_roundw
          case rel => exact ⟨4, x, by omega, rfl, rfl, mkHid N1.out.symm, by omega, by trivial⟩
          case measure => simp [intOf]
      · have hr : reds F 5 = red 34 (reds F 4) := rfl
        have hx : bits .xor .i64 (x : Int) 17179869256 = ((x ^^^ 17179869256 : Nat) : Int) := xor_nat x 17179869256 (by omega) (by omega)
        have hlt2 := xor_lt (n := 39) (show x < 2 ^ 39 by omega) (show 17179869256 < 2 ^ 39 by decide)
        by_cases hb : x / 17179869184 % 2 = 1
        · have ha : bits .and .i64 ((x : Int) / 17179869184) 1 = 1 := and_one x 17179869184 (by omega) hb
          have N1 : Hid (reds F 5 = x ^^^ 17179869256) := mkHid (by rw [hr, ← hf.out]; unfold red; rw [if_pos hb])
          clear hf hr
          go_wp2
          go_roundw
          case rel => exact ⟨5, x ^^^ 17179869256, by omega, rfl, rfl, mkHid N1.out.symm, by omega, by trivial⟩
          case measure => simp [intOf]
        · have ha : bits .and .i64 ((x : Int) / 17179869184) 1 = 0 := and_zero x 17179869184 (by omega) hb
          have N1 : Hid (reds F 5 = x) := mkHid (by rw [hr, ← hf.out]; unfold red; rw [if_neg hb])
          clear hf hr
          go_wp2
          go_roundw
          case rel => exact ⟨5, x, by omega, rfl, rfl, mkHid N1.out.symm, by omega, by trivial⟩
          case measure => simp [intOf]
      · have hr : reds F 6 = red 33 (reds F 5) := rfl
        have hx : bits .xor .i64 (x : Int) 8589934628 = ((x ^^^ 8589934628 : Nat) : Int) := xor_nat x 8589934628 (by omega) (by omega)
        have hlt2 := xor_lt (n := 39) (show x < 2 ^ 39 by omega) (show 8589934628 < 2 ^ 39 by decide)
        by_cases hb : x / 8589934592 % 2 = 1
        · have ha : bits .and .i64 ((x : Int) / 8589934592) 1 = 1 := and_one x 8589934592 (by omega) hb
          have N1 : Hid (reds F 6 = x ^^^ 8589934628) := mkHid (by rw [hr, ← hf.out]; unfold red; rw [if_pos hb])
          clear hf hr
          go_wp2
          go_roundw
          case rel => exact ⟨6, x ^^^ 8589934628, by omega, rfl, rfl, mkHid N1.out.symm, by omega, by trivial⟩
          case measure => simp [intOf]
        · have ha : bits .and .i64 ((x : Int) / 8589934592) 1 = 0 := and_zero x 8589934592 (by omega) hb
          have N1 : Hid (reds F 6 = x) := mkHid (by rw [hr, ← hf.out]; unfold red; rw [if_neg hb])
          clear hf hr
          go_wp2
          go_roundw
          case rel => exact ⟨6, x, by omega, rfl, rfl, mkHid N1.out.symm, by omega, by trivial⟩
          case measure => simp [intOf]
      · have hr : reds F 7 = red 32 (reds F 6) := rfl
        have hx : bits .xor .i64 (x : Int) 4294967314 = ((x ^^^ 4294967314 : Nat) : Int) := xor_nat x 4294967314 (by omega) (by omega)
        have hlt2 := xor_lt (n := 39) (show x < 2 ^ 39 by omega) (show 4294967314 < 2 ^ 39 by decide)
        by_cases hb : x / 4294967296 % 2 = 1
        · have ha : bits .and .i64 ((x : Int) / 4294967296) 1 = 1 := and_one x 4294967296 (by omega) hb
          have N1 : Hid (reds F 7 = x ^^^ 4294967314) := mkHid (by rw [hr, ← hf.out]; unfold red; rw [if_pos hb])
          clear hf hr
          go_wp2
          go_roundw
          case rel => exact ⟨7, x ^^^ 4294967314, by omega, rfl, rfl, mkHid N1.out.symm, by omega, by trivial⟩
          case measure => simp [intOf]
        · have ha : bits .and .i64 ((x : Int) / 4294967296) 1 = 0 := and_zero x 4294967296 (by omega) hb
          have N1 : Hid (reds F 7 = x) := mkHid (by rw [hr, ← hf.out]; unfold red; rw [if_neg hb])
          clear hf hr
          go_wp2
          go_roundw
          case rel => exact ⟨7, x, by omega, rfl, rfl, mkHid N1.out.symm, by omega, by trivial⟩
          case measure => simp [intOf]
      · have hr : reds F 8 = red 31 (reds F 7) := rfl
        have hx : bits .xor .i64 (x : Int) 2147483657 = ((x ^^^ 2147483657 : Nat) : Int) := xor_nat x 2147483657 (by omega) (by omega)
        have hlt2 := xor_lt (n := 39) (show x < 2 ^ 39 by omega) (show 2147483657 < 2 ^ 39 by decide)
        by_cases hb : x / 2147483648 % 2 = 1
        · have ha : bits .and .i64 ((x : Int) / 2147483648) 1 = 1 := and_one x 2147483648 (by omega) hb
          have N1 : Hid (reds F 8 = x ^^^ 2147483657) := mkHid (by rw [hr, ← hf.out]; unfold red; rw [if_pos hb])
          clear hf hr
          go_wp2
          go_roundw
          case rel => exact ⟨8, x ^^^ 2147483657, by omega, rfl, rfl, mkHid N1.out.symm, by omega, by trivial⟩
          case measure => simp [intOf]
        · have ha : bits .and .i64 ((x : Int) / 2147483648) 1 = 0 := and_zero x 2147483648 (by omega) hb
          have N1 : Hid (reds F 8 = x) := mkHid (by rw [hr, ← hf.out]; unfold red; rw [if_neg hb])
          clear hf hr
          go_wp2
          go_roundw
          case rel => exact ⟨8, x, by omega, rfl, rfl, mkHid N1.out.symm, by omega, by trivial⟩
          case measure => simp [intOf]
    · obtain rfl : j = 8 := by omega
      have E : Hid (x = shift f b) := mkHid (by rw [hf.out, HF.out]; rfl)
      go_wp2
      go_ret
      exact ⟨ret_eq (by rw [← E.out]; rfl), rfl⟩
end Go.Proofs.Ytbdkpcgmnppkgaa.fing
