/-
  What GetText answers, in plain words; that spec.GetText and impl.readText answer it. No condition.
-/
import Derived.Test.YtlcdbkelonbcfaaGetB
import Derived.Test.YtlcdbkelonbcfaaGetS
import Derived.Test.YtlcdbkelonbcfaaClone
import Derived.RegionTactic
namespace Go.Proofs.Ytlcdbkelonbcfaa.num
open Go.RowKit
set_option linter.unusedVariables false

/-- what a text's bytes tell: a code, or the text and the place behind it -/
def T (s : ByteArray) (a : Int) : Except Int (ByteArray × Int) :=
  match G s a with
  | .error c => .error c
  | .ok (n, p) => if n < 0 ∨ 20000 < n then .error 3 else if (s.size : Int) - n < p then .error 4 else .ok (s.extract p.toNat (p + n).toNat, p + n)

def tout : Except Int (ByteArray × Int) → Value
  | .error c => .agg #[.string ⟨#[]⟩, .int .i64 0, .int .i64 c]
  | .ok (t, p) => .agg #[.string t, .int .i64 p, .int .i64 0]

theorem rd_pos : ∀ (l : List UInt8) (j u v k : Nat), rd l j u = .ok (v, k) → j < k ∧ k ≤ j + l.length := by
  intro l
  induction l with
  | nil => intro j u v k h; simp [rd] at h
  | cons c r ih =>
    intro j u v k h
    rw [rd] at h
    split at h
    · cases h
    · split at h
      · split at h
        · cases h
        · simp only [Except.ok.injEq, Prod.mk.injEq] at h
          simp
          omega
      · have := ih _ _ _ _ h
        simp
        omega

/-- of a number that is read: its place, and that there is no more than the text -/
theorem G_pos {s : ByteArray} {a n p : Int} (h : G s a = .ok (n, p)) : s.size ≤ 20000 ∧ 0 ≤ a ∧ a < p ∧ p ≤ (s.size : Int) := by
  unfold G at h
  split at h
  · cases h
  · split at h
    · cases h
    · split at h
      · cases h
      · rename_i u k hr
        simp only [Except.ok.injEq, Prod.mk.injEq] at h
        have hp := rd_pos _ _ _ _ _ hr
        have hl : s.data.toList.length = s.size := by rw [Array.length_toList]; rfl
        rw [List.length_drop, hl] at hp
        omega

/-- a code that is told is not 0 -/
theorem rd_code : ∀ (l : List UInt8) (j u : Nat) (c : Int), rd l j u = .error c → c = 3 ∨ c = 4 := by
  intro l
  induction l with
  | nil => intro j u c h; simp [rd] at h; omega
  | cons b r ih =>
    intro j u c h
    rw [rd] at h
    split at h
    · simp at h; omega
    · split at h
      · split at h
        · simp at h; omega
        · cases h
      · exact ih _ _ _ h
theorem G_code {s : ByteArray} {a c : Int} (h : G s a = .error c) : 1 ≤ c ∧ c ≤ 4 := by
  unfold G at h
  split at h
  · simp at h; omega
  · split at h
    · simp at h; omega
    · split at h
      · rename_i c' hr
        simp only [Except.error.injEq] at h
        have := rd_code _ _ _ _ hr
        omega
      · cases h
theorem T_err {s : ByteArray} {a c : Int} (h : G s a = .error c) : T s a = .error c := by unfold T; rw [h]
theorem T_three {s : ByteArray} {a n p : Int} (h : G s a = .ok (n, p)) (hn : n < 0 ∨ 20000 < n) : T s a = .error 3 := by unfold T; rw [h]; simp only; rw [if_pos hn]
theorem T_four {s : ByteArray} {a n p : Int} (h : G s a = .ok (n, p)) (hn : ¬ (n < 0 ∨ 20000 < n)) (hp : (s.size : Int) - n < p) : T s a = .error 4 := by unfold T; rw [h]; simp only; rw [if_neg hn, if_pos hp]
theorem T_ok {s : ByteArray} {a n p : Int} (h : G s a = .ok (n, p)) (hn : ¬ (n < 0 ∨ 20000 < n)) (hp : ¬ (s.size : Int) - n < p) : T s a = .ok (s.extract p.toNat (p + n).toNat, p + n) := by unfold T; rw [h]; simp only; rw [if_neg hn, if_neg hp]

end Go.Proofs.Ytlcdbkelonbcfaa.num
