/-
  The record at a place, in plain words: when there is none, and when there is one. Condition: a text of at most 20,000 bytes.
-/
import Derived.Test.YtppjbmmeacmoiaaDoorPackP
namespace Go.Proofs.YtppjbmmeacmoiaaDoor.pack
open Go.RowKit
open Go.Proofs.YtppjbmmeacmoiaaDoor.base
open Go.Proofs.YtppjbmmeacmoiaaDoor.sha (digest)
set_option linter.unusedVariables false

theorem rd_len : ∀ (l : List UInt8) (j u : Nat) (u' m : Nat), num.rd l j u = .ok (u', m) → j < m ∧ m ≤ j + l.length
  | [], j, u, u', m, h => by simp [num.rd] at h
  | c :: r, j, u, u', m, h => by
    unfold num.rd at h
    split at h
    · simp at h
    · split at h
      · split at h
        · simp at h
        · simp at h
          simp
          omega
      · have := rd_len r (j + 1) _ u' m h
        simp
        omega
theorem G_nat {s : ByteArray} {a : Nat} {n p : Int} (h : num.G s a = .ok (n, p)) : ∃ P : Nat, p = P ∧ a < P ∧ P ≤ s.size := by
  unfold num.G at h
  split at h
  · simp at h
  · split at h
    · simp at h
    · rw [Int.toNat_natCast] at h
      cases hr : num.rd (s.data.toList.drop a) 0 0 with
      | error c => rw [hr] at h; simp at h
      | ok x =>
        obtain ⟨u, k⟩ := x
        rw [hr] at h
        simp at h
        have h1 := rd_len _ _ _ _ _ hr
        have hl : s.data.toList.length = s.size := by rw [Array.length_toList]; rfl
        rw [List.length_drop, hl] at h1
        exact ⟨a + k, by omega, by omega, by omega⟩

/-- the key of a record -/
def keyAt (s : ByteArray) (a : Nat) : ByteArray := s.extract (a + 1) (a + 33)
theorem keyAt_size {s : ByteArray} {a : Nat} (h : a + 33 ≤ s.size) : (keyAt s a).size = 32 := by
  unfold keyAt
  simp
  omega
theorem key_right {s : ByteArray} {a : Nat} {b : Int × ByteArray} (h : a + 33 ≤ s.size) (he : bKey b = keyAt s a) : bRight b = true := by
  cases hr : bRight b
  · have h1 := bRight_no hr
    have h2 := keyAt_size h
    rw [← he, h1] at h2
    have h3 : (⟨#[]⟩ : ByteArray).size = 0 := rfl
    omega
  · rfl
theorem rec_short {s : ByteArray} {a : Nat} (h : s.size < a + 33) : recAt s a = none := by
  unfold recAt
  rw [if_pos h]
theorem rec_mark {s : ByteArray} {a : Nat} (h : s.data.toList[a]? ≠ some 66) : recAt s a = none := by
  unfold recAt
  split
  · rfl
  · first | rfl | rw [if_pos h]
theorem rec_err1 {s : ByteArray} {a : Nat} {c : Int} (h : num.G s (a + 33 : Nat) = .error c) : recAt s a = none := by
  unfold recAt
  split
  · rfl
  · split
    · rfl
    · rw [h]
theorem rec_kind {s : ByteArray} {a : Nat} {k p : Int} (h : num.G s (a + 33 : Nat) = .ok (k, p)) (hk : ¬ (k = 1 ∨ k = 2)) : recAt s a = none := by
  unfold recAt
  split
  · rfl
  · split
    · rfl
    · rw [h]
      simp only
      rw [if_pos hk]
theorem rec_err2 {s : ByteArray} {a : Nat} {k p c : Int} (h : num.G s (a + 33 : Nat) = .ok (k, p)) (h2 : num.G s p = .error c) : recAt s a = none := by
  unfold recAt
  split
  · rfl
  · split
    · rfl
    · rw [h]
      simp only
      split
      · rfl
      · rw [h2]
theorem rec_size {s : ByteArray} {a : Nat} {k p n q : Int} (h : num.G s (a + 33 : Nat) = .ok (k, p)) (h2 : num.G s p = .ok (n, q)) (h3 : n < 0 ∨ 2000 < n ∨ (s.size : Int) - n < q) : recAt s a = none := by
  unfold recAt
  split
  · rfl
  · split
    · rfl
    · rw [h]
      simp only
      split
      · rfl
      · rw [h2]
        simp only
        rw [if_pos h3]
theorem rec_key {s : ByteArray} {a : Nat} {k p : Int} {n q : Nat} (h : num.G s (a + 33 : Nat) = .ok (k, p)) (h2 : num.G s p = .ok ((n : Int), (q : Int))) (h3 : bKey (k, s.extract q (q + n)) ≠ keyAt s a) : recAt s a = none := by
  unfold recAt
  split
  · rfl
  · split
    · rfl
    · rw [h]
      simp only
      split
      · rfl
      · rw [h2]
        simp only
        split
        · rfl
        · rw [if_neg]
          have e1 : ((q : Int)).toNat = q := by omega
          have e2 : ((q : Int) + (n : Int)).toNat = q + n := by omega
          rw [e1, e2]
          exact h3
theorem rec_ok {s : ByteArray} {a : Nat} {k p : Int} {n q : Nat} (h0 : a + 33 ≤ s.size) (h1 : s.data.toList[a]? = some 66) (h : num.G s (a + 33 : Nat) = .ok (k, p)) (h2 : num.G s p = .ok ((n : Int), (q : Int))) (hn : q + n ≤ s.size) (h3 : bKey (k, s.extract q (q + n)) = keyAt s a) : recAt s a = some (k, q, n) := by
  have hR := bRight_parts (key_right h0 h3)
  have hz : (s.extract q (q + n)).size = n := by simp; omega
  simp only [hz] at hR
  unfold recAt
  rw [if_neg (by omega), if_neg (by simp [h1]), h]
  simp only
  rw [if_neg (fun hc => hc hR.1), h2]
  simp only
  have e1 : ((q : Int)).toNat = q := by omega
  have e2 : ((q : Int) + (n : Int)).toNat = q + n := by omega
  have e3 : ((n : Int)).toNat = n := by omega
  rw [if_neg (by omega), e1, e2, e3]
  unfold keyAt at h3
  rw [if_pos h3]
/-- what is there, where a record is -/
theorem rec_some {s : ByteArray} {a : Nat} {k : Int} {q n : Nat} (h : recAt s a = some (k, q, n)) : a + 33 ≤ s.size ∧ s.data.toList[a]? = some 66 ∧ a < q + n ∧ q + n ≤ s.size ∧ n ≤ 2000 ∧ (k = 1 ∨ k = 2) ∧ bKey (k, s.extract q (q + n)) = keyAt s a := by
  unfold recAt at h
  split at h
  · simp at h
  rename_i g1
  split at h
  · simp at h
  rename_i g2
  cases h1 : num.G s (a + 33 : Nat) with
  | error c => rw [h1] at h; simp at h
  | ok x =>
    obtain ⟨k', p⟩ := x
    rw [h1] at h
    simp only at h
    split at h
    · simp at h
    rename_i g3
    obtain ⟨P, rfl, p1, p2⟩ := G_nat h1
    cases h2 : num.G s (P : Nat) with
    | error c => rw [h2] at h; simp at h
    | ok y =>
      obtain ⟨n', q'⟩ := y
      rw [h2] at h
      simp only at h
      split at h
      · simp at h
      rename_i g4
      split at h
      · rename_i g5
        obtain ⟨Q, rfl, q1, q2⟩ := G_nat h2
        simp only [Option.some.injEq, Prod.mk.injEq] at h
        obtain ⟨rfl, r1, r2⟩ := h
        have e1 : q = Q := by omega
        have e2 : (n : Int) = n' := by omega
        subst e1 e2
        have e3 : ((q : Int) + (n : Int)).toNat = q + n := by omega
        have e4 : ((q : Int)).toNat = q := by omega
        rw [e3, e4] at g5
        exact ⟨by omega, by simpa using g2, by omega, by omega, by omega, Decidable.not_not.1 g3, g5⟩
      · simp at h
end Go.Proofs.YtppjbmmeacmoiaaDoor.pack
