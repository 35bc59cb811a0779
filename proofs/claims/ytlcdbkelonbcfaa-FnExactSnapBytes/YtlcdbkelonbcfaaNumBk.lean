/-
  Numbers that are read are told by just these bytes; several that stand one behind the other, in plain words. No condition.
-/
import Derived.Test.YtlcdbkelonbcfaaPutNum
import Derived.Test.YtlcdbkelonbcfaaGetP
namespace Go.Proofs.Ytlcdbkelonbcfaa.nbk
open Go.RowKit
open Go.Proofs.Ytlcdbkelonbcfaa.base
set_option linter.unusedVariables false

/-- the bytes of a number that is not below 0 -/
def numB (k : Int) : ByteArray := ⟨(num (2 * k.toNat)).toArray⟩
theorem num_len : ∀ (n u : Nat), u < 128 ^ (n + 1) → (num u).length ≤ n + 1
  | 0, u, h => by rw [num_small (by omega)]; simp
  | n + 1, u, h => by
    by_cases hu : u < 128
    · rw [num_small hu]; simp
    · rw [num_big (by omega)]
      have h1 : u / 128 < 128 ^ (n + 1) := by
        rw [Nat.div_lt_iff_lt_mul (by omega)]
        rw [Nat.pow_succ] at h
        exact h
      have := num_len n (u / 128) h1
      simp
      omega
theorem num_pos (u : Nat) : 1 ≤ (num u).length := by
  by_cases hu : u < 128
  · rw [num_small hu]; simp
  · rw [num_big (by omega)]; simp
theorem numB_len {k : Int} (h1 : k ≤ 12000) : (numB k).size ≤ 3 := by
  have h2 : 2 * k.toNat < 128 ^ (2 + 1) := by have : (128 : Nat) ^ (2 + 1) = 2097152 := by decide
                                              omega
  have := num_len 2 _ h2
  show (num (2 * k.toNat)).toArray.size ≤ 3
  rw [List.size_toArray]
  omega
theorem rd_code : ∀ (l : List UInt8) (j u : Nat) (c : Int), num.rd l j u = .error c → c ≠ 0
  | [], j, u, c, h => by simp [num.rd] at h; omega
  | b :: r, j, u, c, h => by
    unfold num.rd at h
    split at h
    · simp at h; omega
    · split at h
      · split at h
        · simp at h; omega
        · simp at h
      · exact rd_code r _ _ c h
theorem G_code {s : ByteArray} {a : Int} {c : Int} (h : num.G s a = .error c) : c ≠ 0 := by
  unfold num.G at h
  split at h
  · simp at h; omega
  · split at h
    · simp at h; omega
    · cases hr : num.rd (s.data.toList.drop a.toNat) 0 0 with
      | error d => rw [hr] at h; simp at h; subst h; exact rd_code _ _ _ _ hr
      | ok x => rw [hr] at h; simp at h
theorem rd_back : ∀ (l : List UInt8) (j u u' m : Nat), num.rd l j u = .ok (u', m) → ∃ v, l.take (m - j) = base.num v ∧ u' = u + v * 128 ^ j ∧ (0 < j → 0 < v) ∧ j < m ∧ m ≤ j + l.length
  | [], j, u, u', m, h => by simp [num.rd] at h
  | c :: r, j, u, u', m, h => by
    unfold num.rd at h
    split at h
    · cases h
    · split at h
      · rename_i hc
        split at h
        · cases h
        · rename_i h0
          simp only [Except.ok.injEq, Prod.mk.injEq] at h
          obtain ⟨rfl, rfl⟩ := h
          refine ⟨c.toNat, ?_, rfl, fun hj => ?_, by omega, by simp⟩
          · rw [num_small hc]
            simp
          · rcases Nat.eq_zero_or_pos c.toNat with h1 | h1
            · exact absurd ⟨h1, hj⟩ h0
            · exact h1
      · rename_i hc
        obtain ⟨v, h1, h2, h3, h4, h5⟩ := rd_back r (j + 1) _ u' m h
        have hv := h3 (by omega)
        refine ⟨c.toNat % 128 + 128 * v, ?_, ?_, fun _ => by omega, by omega, by simp; omega⟩
        · rw [num_big (by omega)]
          have e1 : (c.toNat % 128 + 128 * v) / 128 = v := by omega
          have e2 : (c.toNat % 128 + 128 * v) % 128 = c.toNat % 128 := by omega
          have hc2 := c.toNat_lt
          have e3 : c.toNat % 128 + 128 = c.toNat := by omega
          rw [e1, e2, e3, ← h1]
          have e4 : m - j = (m - (j + 1)) + 1 := by omega
          rw [e4, List.take_succ_cons]
          simp
        · rw [h2, Nat.pow_succ, Nat.add_mul, Nat.add_assoc]
          congr 1
          congr 1
          rw [Nat.mul_comm 128 v, Nat.mul_assoc, Nat.mul_comm 128]
theorem G_nat {s : ByteArray} {a : Nat} {n p : Int} (h : num.G s a = .ok (n, p)) : ∃ P : Nat, p = P ∧ a < P ∧ P ≤ s.size ∧ (0 ≤ n → s.extract a P = numB n) := by
  unfold num.G at h
  split at h
  · cases h
  · split at h
    · cases h
    · split at h
      · cases h
      · rename_i u k hr
        simp only [Except.ok.injEq, Prod.mk.injEq] at h
        obtain ⟨rfl, rfl⟩ := h
        have e0 : (a : Int).toNat = a := by omega
        rw [e0] at hr
        obtain ⟨v, h1, h2, _, h4, h5⟩ := rd_back _ _ _ _ _ hr
        simp at h1 h2 h5
        refine ⟨a + k, by omega, by omega, by have : s.data.size = s.size := rfl; omega, fun hn => ?_⟩
        subst h2
        unfold num.unfold at hn ⊢
        unfold numB
        split at hn
        · omega
        · rename_i hp
          rw [if_neg hp]
          have e1 : 2 * ((u / 2 : Nat) : Int).toNat = u := by omega
          rw [e1, ← h1]
          apply ByteArray.ext
          apply Array.ext'
          simp [List.extract_eq_take_drop]
/-- n numbers are read from a place on
-/
def rdA (s : ByteArray) : Nat → Nat → List Int → Option (List Int × Nat)
  | 0, p, l => some (l, p)
  | n + 1, p, l => match num.G s p with | .error _ => none | .ok (z, q) => rdA s n q.toNat (l ++ [z])
theorem rdA_err {s : ByteArray} {n p : Nat} {l : List Int} {c : Int} (h : num.G s p = .error c) : rdA s (n + 1) p l = none := by
  rw [rdA, h]
theorem rdA_ok {s : ByteArray} {n p q : Nat} {l : List Int} {z : Int} (h : num.G s p = .ok (z, (q : Int))) : rdA s (n + 1) p l = rdA s n q (l ++ [z]) := by
  rw [rdA, h]
  simp
theorem cat (s : ByteArray) {a b c : Nat} (h1 : a ≤ b) (h2 : b ≤ c) : s.extract a b ++ s.extract b c = s.extract a c := by
  apply ByteArray.ext
  simp
  rw [Nat.min_eq_left h1, Nat.max_eq_right h2]
end Go.Proofs.Ytlcdbkelonbcfaa.nbk
