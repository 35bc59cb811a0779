/-
  laws.FnExactNameRight answers true at every text: impl.NameRight and spec.NameRight answer alike, both by the plain property 'Right' of the text's bytes.
-/
import Derived.Test.YtobojmdgdomgpafRows
import Derived.WalkKit
import Derived.ProofKit
import Derived.OpenShut
import Derived.ShutString
namespace Go.Proofs.Ytobojmdgdomgpaf.fnExactNameRight
open Go.ChangeShapes Go.WideShapes Go.ChangeAt Go.RowKit
open Go.ChangeMaps (open_string shut_string)
set_option linter.unusedVariables false

theorem own : ownKnob Try.prog.godebug = none := by kernel_rfl
theorem mkHid {P : Prop} (h : P) : Hid P := h
def okAt (i : Nat) (c : UInt8) : Prop := (97 ≤ (c.toNat : Int) ∧ (c.toNat : Int) ≤ 122) ∨ (0 < i ∧ ((48 ≤ (c.toNat : Int) ∧ (c.toNat : Int) ≤ 57) ∨ (c.toNat : Int) = 45))
def Right (s : ByteArray) : Prop := 1 ≤ s.size ∧ s.size ≤ 80 ∧ ∀ i (h : i < s.size), okAt i (s[i]'h)

theorem okAt_more {s : ByteArray} {k : Nat} (hlt : k < s.size) (h : ∀ i (hi : i < s.size), i < k → okAt i (s[i]'hi)) (hk : okAt k (s[k]'hlt)) :
    ∀ i (hi : i < s.size), i < k + 1 → okAt i (s[i]'hi) := by
  intro i hi hik
  by_cases e : i = k
  · subst e; exact hk
  · exact h i hi (by omega)

/-- the ending is a bool that is true just if P -/
def Says (P : Prop) (e : Ending) : Prop := ∃ b : Bool, e = .returned (.bool b) ∧ (b = true ↔ P)
theorem says_no {P : Prop} (h : ¬ P) : Says P (.returned (.bool false)) := ⟨false, rfl, by simp [h]⟩
theorem says_yes {P : Prop} (h : P) : Says P (.returned (.bool true)) := ⟨true, rfl, by simp [h]⟩
theorem not_right {s : ByteArray} {k : Nat} (hlt : k < s.size) (h : ¬ okAt k (s[k]'hlt)) : ¬ Right s := fun r => h (r.2.2 k hlt)

set_option maxHeartbeats 400000 in
theorem spec_any (s : ByteArray) (w : World) (hs : s.size ≤ maxLen) :
    Calls Try.prog 10 #[.string s] w fun e w' => Says (Right s) e ∧ w' = w := by
  unfold maxLen at hs
  by_cases h1 : s.size < 1
  · go_enter Try.func10, Try.ntmps10
    go_wp2
    go_ret
    exact ⟨says_no (fun r => by have := r.1; omega), rfl⟩
  by_cases h2 : 80 < s.size
  · go_enter Try.func10, Try.ntmps10
    go_wp2
    go_ret
    exact ⟨says_no (fun r => by have := r.2.1; omega), rfl⟩
  go_enter Try.func10, Try.ntmps10
  go_wp2
  go_loop [3] (fun i => ∃ k : Nat, k ≤ s.size ∧ i = .int .i64 k ∧ Hid (∀ i (hi : i < s.size), i < k → okAt i (s[i]'hi))) (fun i => s.size - (intOf i).toNat)
  case atStart => exact ⟨0, Nat.zero_le _, rfl, mkHid (fun i hi h => by omega)⟩
  case round =>
    obtain ⟨k, hk, rfl, hok⟩ := hrel
    by_cases hlt : k < s.size
    · rcases Nat.eq_zero_or_pos k with k0 | k0
      · subst k0
        go_wp2
        all_goals first
          | (go_ret
             refine ⟨says_no (not_right hlt ?_), rfl⟩
             unfold okAt; simp at *; omega)
          | (go_round
             case rel => exact ⟨1, by omega, by go_num, mkHid (okAt_more hlt hok.out (by unfold okAt; simp at *; omega))⟩
             case measure => simp [intOf]; omega)
      have hk0 : ((k : Int) == 0) = false := by simp; omega
      go_wp2
      all_goals first
        | (go_ret
           refine ⟨says_no (not_right hlt ?_), rfl⟩
           unfold okAt; simp at *; omega)
        | (go_round
           case rel => exact ⟨k + 1, by omega, by go_num, mkHid (okAt_more hlt hok.out (by unfold okAt; simp at *; omega))⟩
           case measure => simp [intOf]; omega)
    · go_wp2
      go_ret
      exact ⟨says_yes ⟨by omega, by omega, fun i hi => hok.out i hi (by omega)⟩, rfl⟩

def isLet (c : UInt8) : Bool := decide (97 ≤ (c.toNat : Int) ∧ (c.toNat : Int) ≤ 122)
def isDig (c : UInt8) : Bool := decide (48 ≤ (c.toNat : Int) ∧ (c.toNat : Int) ≤ 57)
theorem ok_let {i : Nat} {c : UInt8} (h : isLet c = true) : okAt i c := by simp [isLet] at h; unfold okAt; omega
theorem ok_dig {i : Nat} {c : UInt8} (hi : 0 < i) (h : isDig c = true) : okAt i c := by simp [isDig] at h; unfold okAt; omega
theorem ok_bar {i : Nat} {c : UInt8} (hi : 0 < i) (h : ((c.toNat : Int) != 45) = false) : okAt i c := by simp at h; unfold okAt; omega
theorem ok_none {i : Nat} {c : UInt8} (h1 : isLet c = false) (h2 : isDig c = false) (h3 : ((c.toNat : Int) != 45) = true) : ¬ okAt i c := by
  simp [isLet, isDig] at *; unfold okAt; omega
theorem ok_first {c : UInt8} (h1 : isLet c = false) : ¬ okAt 0 c := by simp [isLet] at *; unfold okAt; omega

theorem letter_any (c : UInt8) (w : World) :
    Calls Try.prog 14 #[.int .u8 c.toNat] w fun e w' => e = .returned (.bool (isLet c)) ∧ w' = w := by
  unfold isLet
  go_enter Try.func14, Try.ntmps14
  go_wp2
  all_goals go_ret
  all_goals exact ⟨by simp_all; try omega, rfl⟩
theorem digit_any (c : UInt8) (w : World) :
    Calls Try.prog 15 #[.int .u8 c.toNat] w fun e w' => e = .returned (.bool (isDig c)) ∧ w' = w := by
  unfold isDig
  go_enter Try.func15, Try.ntmps15
  go_wp2
  all_goals go_ret
  all_goals exact ⟨by simp_all; try omega, rfl⟩

set_option maxHeartbeats 400000 in
theorem impl_any (s : ByteArray) (w : World) (hs : s.size ≤ maxLen) :
    Calls Try.prog 11 #[.string s] w fun e w' => Says (Right s) e ∧ w' = w := by
  unfold maxLen at hs
  by_cases h1 : s.size < 1
  · go_enter Try.func11, Try.ntmps11
    go_wp2
    go_ret
    exact ⟨says_no (fun r => by have := r.1; omega), rfl⟩
  by_cases h2 : 80 < s.size
  · go_enter Try.func11, Try.ntmps11
    go_wp2
    go_ret
    exact ⟨says_no (fun r => by have := r.2.1; omega), rfl⟩
  have h0 : 0 < s.size := by omega
  have b1 : decide ((s.size : Int) < 1) = false := by simp; omega
  have b2 : decide (80 < (s.size : Int)) = false := by simp; omega
  cases hA : isLet (s[0]'h0)
  · go_enter Try.func11, Try.ntmps11
    go_wp2_with (go_at_call 14; refine (letter_any _ _).mono ?_; rintro e w' ⟨rfl, rfl⟩)
    go_ret
    exact ⟨says_no (not_right h0 (ok_first hA)), rfl⟩
  go_enter Try.func11, Try.ntmps11
  go_wp2_with (go_at_call 14; refine (letter_any _ _).mono ?_; rintro e w' ⟨rfl, rfl⟩)
  have HA := mkHid hA
  clear hA
  go_loop [3] (fun i => ∃ k : Nat, 1 ≤ k ∧ k ≤ s.size ∧ i = .int .i64 k ∧ Hid (∀ i (hi : i < s.size), i < k → okAt i (s[i]'hi))) (fun i => s.size - (intOf i).toNat)
  case atStart => exact ⟨1, by omega, by omega, rfl, mkHid (okAt_more h0 (fun i hi h => by omega) (ok_let HA.out))⟩
  case round =>
    obtain ⟨k, k0, hk, rfl, hok⟩ := hrel
    by_cases hlt : k < s.size
    · cases hL : isLet (s[k]'hlt)
      · cases hD : isDig (s[k]'hlt)
        · cases hB : (((s[k]'hlt).toNat : Int) != 45)
          · go_wp2_with (first | (go_at_call 14; refine (letter_any _ _).mono ?_; rintro e w' ⟨rfl, rfl⟩) | (go_at_call 15; refine (digit_any _ _).mono ?_; rintro e w' ⟨rfl, rfl⟩))
            go_round
            case rel => exact ⟨k + 1, by omega, by omega, by go_num, mkHid (okAt_more hlt hok.out (ok_bar (by omega) hB))⟩
            case measure => simp [intOf]; omega
          · go_wp2_with (first | (go_at_call 14; refine (letter_any _ _).mono ?_; rintro e w' ⟨rfl, rfl⟩) | (go_at_call 15; refine (digit_any _ _).mono ?_; rintro e w' ⟨rfl, rfl⟩))
            go_ret
            exact ⟨says_no (not_right hlt (ok_none hL hD hB)), rfl⟩
        · go_wp2_with (first | (go_at_call 14; refine (letter_any _ _).mono ?_; rintro e w' ⟨rfl, rfl⟩) | (go_at_call 15; refine (digit_any _ _).mono ?_; rintro e w' ⟨rfl, rfl⟩))
          go_round
          case rel => exact ⟨k + 1, by omega, by omega, by go_num, mkHid (okAt_more hlt hok.out (ok_dig (by omega) hD))⟩
          case measure => simp [intOf]; omega
      · go_wp2_with (first | (go_at_call 14; refine (letter_any _ _).mono ?_; rintro e w' ⟨rfl, rfl⟩) | (go_at_call 15; refine (digit_any _ _).mono ?_; rintro e w' ⟨rfl, rfl⟩))
        go_round
        case rel => exact ⟨k + 1, by omega, by omega, by go_num, mkHid (okAt_more hlt hok.out (ok_let hL))⟩
        case measure => simp [intOf]; omega
    · go_wp2
      go_ret
      exact ⟨says_yes ⟨by omega, by omega, fun i hi => hok.out i hi (by omega)⟩, rfl⟩

theorem both {P : Prop} {a b : Bool} (ha : a = true ↔ P) (hb : b = true ↔ P) : a = b := by
  cases a <;> cases b <;> simp_all

set_option maxHeartbeats 400000 in
theorem walk (a0 : ByteArray) (w0 : a0.size ≤ maxLen) (w : World) :
    Calls Try.prog 5 #[.string a0] w fun e w' => e = .returned (.bool true) ∧ Grown w w' := by
  by_cases hbig : 1048576 < a0.size
  · go_enter Try.func5, Try.ntmps5
    go_wp2
    go_ret
    exact ⟨rfl, Grown.refl _⟩
  go_enter Try.func5, Try.ntmps5
  go_wp2_with fail
  refine (spec_any a0 _ w0).mono ?_
  rintro e w' ⟨⟨b, rfl, hb⟩, rfl⟩
  have HB := mkHid hb
  clear hb
  go_wp2_with fail
  refine (impl_any a0 _ w0).mono ?_
  rintro e w' ⟨⟨b2, rfl, hb2⟩, rfl⟩
  obtain rfl : b2 = b := both hb2 HB.out
  clear hb2 HB
  go_wp2
  go_ret
  exact ⟨rfl, Grown.refl _⟩

set_option maxRecDepth 100000 in
theorem lifted (os : Os) (started : os.Started) (H : Type) (enc : TypeId × Value → H) :
    ReturnsInHanded {} Try.checked os 5 .any (Rows.fnExactNameRightSpec.pre6 enc Try.prog Try.f5 Rows.fnExactNameRightRow.domain false) (Rows.fnExactNameRightSpec.post enc Try.prog Try.f5 false true false false) := by
  refine returnsInHanded_of_change (C := Try.checked) own started (by kernel_rfl) Try.func5
    (ChangeSpec.witness6 (enc := enc) (C := Try.checked) false ⟨#[], #[.string ByteArray.empty], []⟩ 8 (by kernel_rfl) (by kernel_rfl) (by kernel_rfl) (by kernel_rfl)) ?_
  intro W base args ds gs before hval0 hW hcnd _
  have hval : ∀ (j : Nat) t v, Try.f5.params[j]? = some t → args[j]? = some v → Value.okWide Try.prog W .any base t v := hval0
  have hW' := hW
  obtain ⟨p, q, hA0, hV, rfl, hfz, hnd⟩ := hW
  have hA : DataW.TrodAll enc Try.prog W 0 (fun _ => true) true Try.f5.params.toList args.toList ds p := hA0
  rw [Try.params5] at hA hval
  obtain ⟨v0, vs0, d0, ds0, p0, q0, hargs, rfl, rfl, h0, r0⟩ := trodAll_cons hA
  obtain ⟨rfl, rfl, rfl⟩ := trodAll_nil r0
  obtain rfl : args = #[v0] := by cases args; simp_all
  obtain ⟨rfl, rfl⟩ := trodVars_none hV
  obtain ⟨a0, rfl, rfl, rfl, w0⟩ := open_string Try.underlying9 (hval 0 9 v0 rfl rfl) h0
  clear hA0 hval0
  simp only [List.append_nil] at hW'
  refine (walk a0 w0 W).mono fun e W' ⟨he, hg⟩ => ?_
  subst he
  exact ⟨_, rfl, post_of_same (pa := []) (pv := []) hW' (fun _ _ _ => (trodAll_cons_mk (shut_bool Try.underlying4 _) trodAll_mk0)) (fun sp _ => (trodAll_cons_mk (shut_string Try.underlying9 w0) trodAll_mk0)) (fun _ _ => rfl) rfl
    (hg.frame _) hg.2.1 (ok_one (by kernel_rfl) rfl (okWide_bool_mk Try.underlying4 _))⟩

theorem over : Rows.fnExactNameRightRow.holds Try.pinned (OpenSpec.ofChange Rows.fnExactNameRightSpec) :=
  OpenClaim.holds_of_wide 5 Try.f5 rfl rfl rfl rfl rfl rfl rfl ⟨rfl, rfl, rfl, rfl, rfl⟩ rfl rfl rfl rfl rfl (by kernel_rfl) Try.func5 (by kernel_rfl)
    (of_decide_eq_true (by kernel_rfl)) (by unfold Func.isWrapper; first | (rw [if_pos (by decide +kernel)]; kernel_rfl) | (rw [if_neg (by decide +kernel)]; exact ⟨rfl, rfl⟩))
    (fun os started H enc _ => lifted os started H enc)

theorem proved : Rows.FnExactNameRightSaid :=
  over
end Go.Proofs.Ytobojmdgdomgpaf.fnExactNameRight
