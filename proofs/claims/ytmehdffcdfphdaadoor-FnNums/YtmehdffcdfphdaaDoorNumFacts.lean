/-
  Plain facts: what is read of a number's bytes, of a text's bytes, and of bytes that end too early. No condition.
-/
import Derived.Test.YtmehdffcdfphdaaDoorPutText
import Derived.Test.YtmehdffcdfphdaaDoorTextI
namespace Go.Proofs.YtmehdffcdfphdaaDoor.numfacts
open Go.RowKit
open Go.Proofs.YtmehdffcdfphdaaDoor.base
open Go.Proofs.YtmehdffcdfphdaaDoor.num (rd unfold G T G_err G_ok T_err T_four T_ok)
open Go.Proofs.YtmehdffcdfphdaaDoor.fnExactPutNum (fold)
open Go.Proofs.YtmehdffcdfphdaaDoor.fnExactPutText (pre)
set_option linter.unusedVariables false

theorem pow9 {u j : Nat} (h : u * 128 ^ j < 18446744073709551616) (h9 : j = 9) : u < 2 := by
  subst h9
  have e : (128 : Nat) ^ 9 = 9223372036854775808 := by decide +kernel
  rw [e] at h
  omega
theorem byte_small {u : Nat} (h : u < 256) : (UInt8.ofNat u).toNat = u := by
  rw [UInt8.toNat_ofNat']
  omega
theorem num_pos (u : Nat) : 0 < (num u).length := by
  rcases Nat.lt_or_ge u 128 with h | h
  · rw [num_small h]; simp
  · rw [num_big h]; simp
theorem num_ne (u : Nat) : num u ≠ [] := by
  intro e
  have h := num_pos u
  rw [e] at h
  simp at h

theorem next_le {u j : Nat} (h : u * 128 ^ j < 18446744073709551616) : u / 128 * 128 ^ (j + 1) < 18446744073709551616 := by
  have e : u / 128 * 128 ^ (j + 1) = 128 * (u / 128) * 128 ^ j := by
    rw [Nat.pow_succ, Nat.mul_comm (128 ^ j) 128, ← Nat.mul_assoc, Nat.mul_comm (u / 128) 128]
  have k : 128 * (u / 128) * 128 ^ j ≤ u * 128 ^ j := Nat.mul_le_mul_right _ (Nat.mul_div_le u 128)
  omega

/-- the bytes of a number, read, tell it, whatever stands behind them -/
theorem rd_num : ∀ (u j v : Nat) (rest : List UInt8), u * 128 ^ j < 18446744073709551616 → (0 < j → 0 < u) → rd (num u ++ rest) j v = .ok (v + u * 128 ^ j, j + (num u).length) := by
  intro u
  induction u using Nat.strongRecOn with
  | _ u ih =>
    intro j v rest hb hp
    have h9 := pow9 hb
    rcases Nat.lt_or_ge u 128 with h | h
    · rw [num_small h]
      have e : [UInt8.ofNat u] ++ rest = UInt8.ofNat u :: rest := rfl
      rw [e, rd, byte_small (by omega), if_neg (by omega), if_pos h, if_neg (by omega)]
      rfl
    · rw [num_big h]
      have e : (UInt8.ofNat (u % 128 + 128) :: num (u / 128)) ++ rest = UInt8.ofNat (u % 128 + 128) :: (num (u / 128) ++ rest) := rfl
      rw [e, rd, byte_small (by omega), if_neg (by omega), if_neg (by omega), ih (u / 128) (by omega) (j + 1) _ rest (next_le hb) (by omega)]
      have e1 : (u % 128 + 128) % 128 = u % 128 := by omega
      have e2 : u / 128 * 128 ^ (j + 1) = 128 * (u / 128) * 128 ^ j := by
        rw [Nat.pow_succ, Nat.mul_comm (128 ^ j) 128, ← Nat.mul_assoc, Nat.mul_comm (u / 128) 128]
      have e3 : u % 128 * 128 ^ j + 128 * (u / 128) * 128 ^ j = u * 128 ^ j := by rw [← Nat.add_mul, Nat.mod_add_div]
      rw [e1, e2, Nat.add_assoc, e3]
      simp only [List.length_cons]
      have e4 : j + 1 + (num (u / 128)).length = j + ((num (u / 128)).length + 1) := by omega
      rw [e4]

/-- of the bytes of a number but the last one nothing is read -/
theorem rd_cut : ∀ (u j v : Nat), u * 128 ^ j < 18446744073709551616 → rd (num u).dropLast j v = .error 4 := by
  intro u
  induction u using Nat.strongRecOn with
  | _ u ih =>
    intro j v hb
    have h9 := pow9 hb
    rcases Nat.lt_or_ge u 128 with h | h
    · rw [num_small h]
      rfl
    · rw [num_big h, List.dropLast_cons_of_ne_nil (num_ne _), rd, byte_small (by omega), if_neg (by omega), if_neg (by omega)]
      exact ih (u / 128) (by omega) (j + 1) _ (next_le hb)

theorem unfold_fold (n : Int) (u : Nat) (h : fold n = (u : Int)) : unfold u = n := by
  unfold fold at h
  unfold unfold
  split at h
  · rw [if_pos (by omega)]; omega
  · rw [if_neg (by omega)]; omega

theorem num_ten (u : Nat) (h : u < 18446744073709551616) : (num u).length ≤ 10 := by
  have key : ∀ (u j : Nat), 0 < u → u * 128 ^ j < 18446744073709551616 → (num u).length + j ≤ 10 := by
    intro u
    induction u using Nat.strongRecOn with
    | _ u ih =>
      intro j h0 hb
      rcases Nat.lt_or_ge u 128 with h | h
      · rw [num_small h]
        have := pow_small hb (by omega)
        simp; omega
      · rw [num_big h]
        have := ih (u / 128) (by omega) (j + 1) (by omega) (next_le hb)
        simp; omega
  rcases Nat.eq_zero_or_pos u with rfl | h0
  · rw [num_small (by omega)]; simp
  · have := key u 0 h0 (by simpa using h); omega

theorem toList_append (a b : ByteArray) : (a ++ b).data.toList = a.data.toList ++ b.data.toList := by simp
theorem len_list (a : ByteArray) : a.data.toList.length = a.size := by rw [Array.length_toList]; rfl
theorem toList_extract (a : ByteArray) (i j : Nat) : (a.extract i j).data.toList = (a.data.toList.take j).drop i := by
  rw [ByteArray.data_extract, Array.toList_extract, List.extract_eq_take_drop, List.drop_take]
theorem dropLast_take (l : List UInt8) : l.take (l.length - 1) = l.dropLast := by rw [List.dropLast_eq_take]

/-- a number between two texts is got, with the place behind it -/
theorem G_num (n : Int) (u : Nat) (hu : fold n = (u : Int)) (hb : u < 18446744073709551616) :
    G ((⟨#[120, 121]⟩ : ByteArray) ++ ⟨(num u).toArray⟩ ++ ⟨#[122]⟩) 2 = .ok (n, ((num u).length : Int) + 2) := by
  have ht := num_ten u hb
  have hs : ((⟨#[120, 121]⟩ : ByteArray) ++ ⟨(num u).toArray⟩ ++ ⟨#[122]⟩).size ≤ 20000 := by
    rw [← len_list, toList_append, toList_append]
    simp
    omega
  have hd : ((⟨#[120, 121]⟩ : ByteArray) ++ ⟨(num u).toArray⟩ ++ ⟨#[122]⟩).data.toList.drop 2 = num u ++ [122] := by
    rw [toList_append, toList_append]
    simp
  have k := rd_num u 0 0 [122] (by simpa using hb) (by omega)
  rw [← hd] at k
  have g := G_ok (a := 2) hs k
  have e : unfold (0 + u * 128 ^ 0) = n := by simpa using unfold_fold n u hu
  rw [e] at g
  have e2 : ((2 : Nat) : Int) + ((0 + (num u).length : Nat) : Int) = ((num u).length : Int) + 2 := by omega
  rw [e2] at g
  exact g

theorem G_cut (u : Nat) (hb : u < 18446744073709551616) (m : Nat) (hm : m = (num u).length - 1) : G ((⟨(num u).toArray⟩ : ByteArray).extract 0 m) 0 = .error 4 := by
  subst hm
  have ht := num_ten u hb
  have hd : ((⟨(num u).toArray⟩ : ByteArray).extract 0 ((num u).length - 1)).data.toList = (num u).dropLast := by
    rw [toList_extract, List.drop_zero, ← dropLast_take]
  have hs : ((⟨(num u).toArray⟩ : ByteArray).extract 0 ((num u).length - 1)).size ≤ 20000 := by
    rw [← len_list, hd, List.length_dropLast]
    omega
  exact G_err (a := 0) hs (by rw [List.drop_zero, hd]; exact rd_cut u 0 0 (by simpa using hb))

theorem pre_list (n : Nat) : (pre n).data.toList = num (2 * n) := by simp [pre]
theorem fold_nat (n : Nat) : fold (n : Int) = ((2 * n : Nat) : Int) := by unfold fold; rw [if_neg (by omega)]; omega

/-- a text behind another byte is got, with the place behind it -/
theorem T_text (t : ByteArray) (h : 1 + (pre t.size ++ t).size ≤ 20000) :
    T ((⟨#[120]⟩ : ByteArray) ++ (pre t.size ++ t)) 1 = .ok (t, ((pre t.size ++ t).size : Int) + 1) := by
  have hl := len_list t
  have hp := pre_list t.size
  have hps : (pre t.size).size = (num (2 * t.size)).length := by rw [← len_list, hp]
  have hsz : (pre t.size ++ t).size = (pre t.size).size + t.size := ByteArray.size_append
  have hL : ((⟨#[120]⟩ : ByteArray) ++ (pre t.size ++ t)).data.toList = 120 :: (num (2 * t.size) ++ t.data.toList) := by
    rw [toList_append, toList_append, hp]
    rfl
  have hS : ((⟨#[120]⟩ : ByteArray) ++ (pre t.size ++ t)).size = 1 + (pre t.size ++ t).size := by rw [ByteArray.size_append]; rfl
  have hd : ((⟨#[120]⟩ : ByteArray) ++ (pre t.size ++ t)).data.toList.drop 1 = num (2 * t.size) ++ t.data.toList := by rw [hL]; rfl
  have k := rd_num (2 * t.size) 0 0 t.data.toList (by simp; omega) (by omega)
  rw [← hd] at k
  have g := G_ok (a := 1) (by omega) k
  have e : unfold (0 + 2 * t.size * 128 ^ 0) = (t.size : Int) := by simpa using unfold_fold (t.size : Int) (2 * t.size) (fold_nat _)
  rw [e] at g
  have r := T_ok g (by omega) (by omega)
  have e3 : (((1 : Nat) : Int) + ((0 + (num (2 * t.size)).length : Nat) : Int)).toNat = 1 + (num (2 * t.size)).length := by omega
  have e4 : (((1 : Nat) : Int) + ((0 + (num (2 * t.size)).length : Nat) : Int) + (t.size : Int)).toNat = 1 + (num (2 * t.size)).length + t.size := by omega
  have e5 : ((1 : Nat) : Int) + ((0 + (num (2 * t.size)).length : Nat) : Int) + (t.size : Int) = ((pre t.size ++ t).size : Int) + 1 := by omega
  rw [e3, e4, e5] at r
  have e6 : ((⟨#[120]⟩ : ByteArray) ++ (pre t.size ++ t)).extract (1 + (num (2 * t.size)).length) (1 + (num (2 * t.size)).length + t.size) = t := by
    refine ByteArray.ext (Array.toList_inj.1 ?_)
    rw [toList_extract, hL, List.take_of_length_le (by simp; omega)]
    have e7 : 1 + (num (2 * t.size)).length = (120 :: num (2 * t.size)).length := by rw [List.length_cons]; omega
    rw [e7, ← List.cons_append, List.drop_left]
  rw [e6] at r
  exact r

/-- of a text's bytes but the last one nothing is got -/
theorem T_cut (t : ByteArray) (h : 1 + (pre t.size ++ t).size ≤ 20000) (m : Nat) (hm : m = (pre t.size ++ t).size - 1) : T ((pre t.size ++ t).extract 0 m) 0 = .error 4 := by
  subst hm
  have hl := len_list t
  have hp := pre_list t.size
  have hps : (pre t.size).size = (num (2 * t.size)).length := by rw [← len_list, hp]
  have hsz : (pre t.size ++ t).size = (pre t.size).size + t.size := ByteArray.size_append
  have hq := num_pos (2 * t.size)
  have hL : ((pre t.size ++ t).extract 0 ((pre t.size ++ t).size - 1)).data.toList = (num (2 * t.size) ++ t.data.toList).dropLast := by
    rw [toList_extract, List.drop_zero, ← dropLast_take, toList_append, hp]
    congr 1
  have hS : ((pre t.size ++ t).extract 0 ((pre t.size ++ t).size - 1)).size = (pre t.size ++ t).size - 1 := by
    rw [← len_list, hL, List.length_dropLast, List.length_append]
    omega
  rcases Nat.eq_zero_or_pos t.size with h0 | h0
  · have et : t.data.toList = [] := List.eq_nil_of_length_eq_zero (by omega)
    rw [et, List.append_nil] at hL
    exact T_err (G_err (a := 0) (by omega) (by rw [List.drop_zero, hL]; exact rd_cut _ 0 0 (by simp; omega)))
  · have ne : t.data.toList ≠ [] := by
      intro e
      rw [e] at hl
      simp at hl
      omega
    rw [List.dropLast_append_of_ne_nil ne] at hL
    have k := rd_num (2 * t.size) 0 0 t.data.toList.dropLast (by simp; omega) (by omega)
    rw [← hL] at k
    have g := G_ok (a := 0) (by omega) k
    have e : unfold (0 + 2 * t.size * 128 ^ 0) = (t.size : Int) := by simpa using unfold_fold (t.size : Int) (2 * t.size) (fold_nat _)
    rw [e] at g
    exact T_four g (by omega) (by omega)

theorem pre_ne (t : ByteArray) : 0 < (pre t.size ++ t).size := by
  rw [ByteArray.size_append]
  have hps : (pre t.size).size = (num (2 * t.size)).length := by rw [← len_list, pre_list]
  have := num_pos (2 * t.size)
  omega

end Go.Proofs.YtmehdffcdfphdaaDoor.numfacts
