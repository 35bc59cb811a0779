/-
  laws.FnExactNameRight answers true at every text: impl.NameRight and spec.NameRight answer alike, both by the plain property 'Right' of the text's bytes.
-/
import Derived.Test.YtmoojhnblakdhaaGreatRows
import Derived.WalkKit
import Derived.ProofKit
import Derived.OpenShut
import Derived.ShutString
namespace Go.Proofs.YtmoojhnblakdhaaGreat.fnExactNameRight
open Go.ChangeShapes Go.WideShapes Go.ChangeAt Go.RowKit
open Go.ChangeMaps (open_string shut_string)
set_option linter.unusedVariables false

theorem own : ownKnob Tryz.prog.godebug = none := by kernel_rfl
theorem mkHid {P : Prop} (h : P) : Hid P := h
def okAt (i : Nat) (c : UInt8) : Prop := (97 ≤ (c.toNat : Int) ∧ (c.toNat : Int) ≤ 122) ∨ (0 < i ∧ ((48 ≤ (c.toNat : Int) ∧ (c.toNat : Int) ≤ 57) ∨ (c.toNat : Int) = 45))
def Right (s : ByteArray) : Prop := 1 ≤ s.size ∧ s.size ≤ 80 ∧ ∀ i (h : i < s.size), okAt i (s[i]'h)

theorem okAt_more {s : ByteArray} {k : Nat} (hlt : k < s.size) (h : ∀ i (hi : i < s.size), i < k → okAt i (s[i]'hi)) (hk : okAt k (s[k]'hlt)) :
    ∀ i (hi : i < s.size), i < k + 1 → okAt i (s[i]'hi) := by
  intro i hi hik
  by_cases e : i = k
  · subst e; exact hk
  · exact h i hi (by omega)

/-- the ending is a bool that is true just if P -/
def Says (P : Prop) (e : Ending) : Prop := ∃ b : Bool, e = .returned (.bool b) ∧ (b = true ↔ P)
theorem says_no {P : Prop} (h : ¬ P) : Says P (.returned (.bool false)) := ⟨false, rfl, by simp [h]⟩
theorem says_yes {P : Prop} (h : P) : Says P (.returned (.bool true)) := ⟨true, rfl, by simp [h]⟩
theorem not_right {s : ByteArray} {k : Nat} (hlt : k < s.size) (h : ¬ okAt k (s[k]'hlt)) : ¬ Right s := fun r => h (r.2.2 k hlt)

set_option maxHeartbeats 400000 in
theorem spec_any (s : ByteArray) (w : World) (hs : s.size ≤ maxLen) :
    Calls Tryz.prog 54 #[.string s] w fun e w' => Says (Right s) e ∧ w' = w := by
  unfold maxLen at hs
  by_cases h1 : s.size < 1
  · go_enter Tryz.func54, Tryz.ntmps54
    go_wp2
    go_ret
    exact ⟨says_no (fun r => by have := r.1; omega), rfl⟩
  by_cases h2 : 80 < s.size
  · go_enter Tryz.func54, Tryz.ntmps54
    go_wp2
    go_ret
    exact ⟨says_no (fun r => by have := r.2.1; omega), rfl⟩
  go_enter Tryz.func54, Tryz.ntmps54
  go_wp2
  go_loop [3] (fun i => ∃ k : Nat, k ≤ s.size ∧ i = .int .i64 k ∧ Hid (∀ i (hi : i < s.size), i < k → okAt i (s[i]'hi))) (fun i => s.size - (intOf i).toNat)
  case atStart => exact ⟨0, Nat.zero_le _, rfl, mkHid (fun i hi h => by omega)⟩
  case round =>
    obtain ⟨k, hk, rfl, hok⟩ := hrel
    by_cases hlt : k < s.size
    · rcases Nat.eq_zero_or_pos k with k0 | k0
      · subst k0
        go_wp2
        all_goals first
          | (go_ret
             refine ⟨says_no (not_right hlt ?_), rfl⟩
             unfold okAt; simp at *; omega)
          | (go_round
             case rel => exact ⟨1, by omega, by go_num, mkHid (okAt_more hlt hok.out (by unfold okAt; simp at *; omega))⟩
             case measure => simp [intOf]; omega)
      have hk0 : ((k : Int) == 0) = false := by simp; omega
      go_wp2
      all_goals first
        | (go_ret
           refine ⟨says_no (not_right hlt ?_), rfl⟩
           unfold okAt; simp at *; omega)
        | (go_round
           case rel => exact ⟨k + 1, by omega, by go_num, mkHid (okAt_more hlt hok.out (by unfold okAt; simp at *; omega))⟩
           case measure => simp [intOf]; omega)
    · go_wp2
      go_ret
      exact ⟨says_yes ⟨by omega, by omega, fun i hi => hok.out i hi (by omega)⟩, rfl⟩

def isLet (c : UInt8) : Bool := decide (97 ≤ (c.toNat : Int) ∧ (c.toNat : Int) ≤ 122)
def isDig (c : UInt8) : Bool := decide (48 ≤ (c.toNat : Int) ∧ (c.toNat : Int) ≤ 57)
theorem ok_let {i : Nat} {c : UInt8} (h : isLet c = true) : okAt i c := by simp [isLet] at h; unfold okAt; omega
theorem ok_dig {i : Nat} {c : UInt8} (hi : 0 < i) (h : isDig c = true) : okAt i c := by simp [isDig] at h; unfold okAt; omega
theorem ok_bar {i : Nat} {c : UInt8} (hi : 0 < i) (h : ((c.toNat : Int) != 45) = false) : okAt i c := by simp at h; unfold okAt; omega
theorem ok_none {i : Nat} {c : UInt8} (h1 : isLet c = false) (h2 : isDig c = false) (h3 : ((c.toNat : Int) != 45) = true) : ¬ okAt i c := by
  simp [isLet, isDig] at *; unfold okAt; omega
theorem ok_first {c : UInt8} (h1 : isLet c = false) : ¬ okAt 0 c := by simp [isLet] at *; unfold okAt; omega

theorem letter_any (c : UInt8) (w : World) :
    Calls Tryz.prog 90 #[.int .u8 c.toNat] w fun e w' => e = .returned (.bool (isLet c)) ∧ w' = w := by
  unfold isLet
  go_enter Tryz.func90, Tryz.ntmps90
  go_wp2
  all_goals go_ret
  all_goals exact ⟨by simp_all; try omega, rfl⟩
theorem digit_any (c : UInt8) (w : World) :
    Calls Tryz.prog 91 #[.int .u8 c.toNat] w fun e w' => e = .returned (.bool (isDig c)) ∧ w' = w := by
  unfold isDig
  go_enter Tryz.func91, Tryz.ntmps91
  go_wp2
  all_goals go_ret
  all_goals exact ⟨by simp_all; try omega, rfl⟩

set_option maxHeartbeats 400000 in
theorem impl_any (s : ByteArray) (w : World) (hs : s.size ≤ maxLen) :
    Calls Tryz.prog 74 #[.string s] w fun e w' => Says (Right s) e ∧ w' = w := by
  unfold maxLen at hs
  by_cases h1 : s.size < 1
  · go_enter Tryz.func74, Tryz.ntmps74
    go_wp2
    go_ret
    exact ⟨says_no (fun r => by have := r.1; omega), rfl⟩
  by_cases h2 : 80 < s.size
  · go_enter Tryz.func74, Tryz.ntmps74
    go_wp2
    go_ret
    exact ⟨says_no (fun r => by have := r.2.1; omega), rfl⟩
  have h0 : 0 < s.size := by omega
  have b1 : decide ((s.size : Int) < 1) = false := by simp; omega
  have b2 : decide (80 < (s.size : Int)) = false := by simp; omega
  cases hA : isLet (s[0]'h0)
  · go_enter Tryz.func74, Tryz.ntmps74
    go_wp2_with (go_at_call 90; refine (letter_any _ _).mono ?_; rintro e w' ⟨rfl, rfl⟩)
    go_ret
    exact ⟨says_no (not_right h0 (ok_first hA)), rfl⟩
  go_enter Tryz.func74, Tryz.ntmps74
  go_wp2_with (go_at_call 90; refine (letter_any _ _).mono ?_; rintro e w' ⟨rfl, rfl⟩)
  have HA := mkHid hA
  clear hA
  go_loop [3] (fun i => ∃ k : Nat, 1 ≤ k ∧ k ≤ s.size ∧ i = .int .i64 k ∧ Hid (∀ i (hi : i < s.size), i < k → okAt i (s[i]'hi))) (fun i => s.size - (intOf i).toNat)
  case atStart => exact ⟨1, by omega, by omega, rfl, mkHid (okAt_more h0 (fun i hi h => by omega) (ok_let HA.out))⟩
  case round =>
    obtain ⟨k, k0, hk, rfl, hok⟩ := hrel
    by_cases hlt : k < s.size
    · cases hL : isLet (s[k]'hlt)
      · cases hD : isDig (s[k]'hlt)
        · cases hB : (((s[k]'hlt).toNat : Int) != 45)
          · go_wp2_with (first | (go_at_call 90; refine (letter_any _ _).mono ?_; rintro e w' ⟨rfl, rfl⟩) | (go_at_call 91; refine (digit_any _ _).mono ?_; rintro e w' ⟨rfl, rfl⟩))
            go_round
            case rel => exact ⟨k + 1, by omega, by omega, by go_num, mkHid (okAt_more hlt hok.out (ok_bar (by omega) hB))⟩
            case measure => simp [intOf]; omega
          · go_wp2_with (first | (go_at_call 90; refine (letter_any _ _).mono ?_; rintro e w' ⟨rfl, rfl⟩) | (go_at_call 91; refine (digit_any _ _).mono ?_; rintro e w' ⟨rfl, rfl⟩))
            go_ret
            exact ⟨says_no (not_right hlt (ok_none hL hD hB)), rfl⟩
        · go_wp2_with (first | (go_at_call 90; refine (letter_any _ _).mono ?_; rintro e w' ⟨rfl, rfl⟩) | (go_at_call 91; refine (digit_any _ _).mono ?_; rintro e w' ⟨rfl, rfl⟩))
          go_round
          case rel => exact ⟨k + 1, by omega, by omega, by go_num, mkHid (okAt_more hlt hok.out (ok_dig (by omega) hD))⟩
          case measure => simp [intOf]; omega
      · go_wp2_with (first | (go_at_call 90; refine (letter_any _ _).mono ?_; rintro e w' ⟨rfl, rfl⟩) | (go_at_call 91; refine (digit_any _ _).mono ?_; rintro e w' ⟨rfl, rfl⟩))
        go_round
        case rel => exact ⟨k + 1, by omega, by omega, by go_num, mkHid (okAt_more hlt hok.out (ok_let hL))⟩
        case measure => simp [intOf]; omega
    · go_wp2
      go_ret
      exact ⟨says_yes ⟨by omega, by omega, fun i hi => hok.out i hi (by omega)⟩, rfl⟩

end Go.Proofs.YtmoojhnblakdhaaGreat.fnExactNameRight
