/-
  Reading back, in plain words: a number, a text, 32 bytes that stand at a place of a text are read there. Condition: a text of at most 20,000 bytes.
-/
import Derived.Test.YtmmmadehifajlaaRrP
namespace Go.Proofs.Ytmmmadehifajlaa.rbk
open Go.RowKit
open Go.Proofs.Ytmmmadehifajlaa.base
open Go.Proofs.Ytmmmadehifajlaa.num (rd unfold G T)
open Go.Proofs.Ytmmmadehifajlaa.plc (St numS txtS bytS)
set_option linter.unusedVariables false

theorem pow9 {u j : Nat} (h : u * 128 ^ j < 18446744073709551616) (h9 : j = 9) : u < 2 := by
  subst h9
  have e : (128 : Nat) ^ 9 = 9223372036854775808 := by decide +kernel
  rw [e] at h
  omega
theorem byte_small {u : Nat} (h : u < 256) : (UInt8.ofNat u).toNat = u := by
  rw [UInt8.toNat_ofNat']
  omega
theorem next_le {u j : Nat} (h : u * 128 ^ j < 18446744073709551616) : u / 128 * 128 ^ (j + 1) < 18446744073709551616 := by
  have e : u / 128 * 128 ^ (j + 1) = 128 * (u / 128) * 128 ^ j := by
    rw [Nat.pow_succ, Nat.mul_comm (128 ^ j) 128, ← Nat.mul_assoc, Nat.mul_comm (u / 128) 128]
  have k : 128 * (u / 128) * 128 ^ j ≤ u * 128 ^ j := Nat.mul_le_mul_right _ (Nat.mul_div_le u 128)
  omega
/-- the bytes of a number, read, tell it, whatever stands behind them -/
theorem rd_num : ∀ (u j v : Nat) (rest : List UInt8), u * 128 ^ j < 18446744073709551616 → (0 < j → 0 < u) → rd (num u ++ rest) j v = .ok (v + u * 128 ^ j, j + (num u).length) := by
  intro u
  induction u using Nat.strongRecOn with
  | _ u ih =>
    intro j v rest hb hp
    have h9 := pow9 hb
    rcases Nat.lt_or_ge u 128 with h | h
    · rw [num_small h]
      have e : [UInt8.ofNat u] ++ rest = UInt8.ofNat u :: rest := rfl
      rw [e, rd, byte_small (by omega), if_neg (by omega), if_pos h, if_neg (by omega)]
      rfl
    · rw [num_big h]
      have e : (UInt8.ofNat (u % 128 + 128) :: num (u / 128)) ++ rest = UInt8.ofNat (u % 128 + 128) :: (num (u / 128) ++ rest) := rfl
      rw [e, rd, byte_small (by omega), if_neg (by omega), if_neg (by omega), ih (u / 128) (by omega) (j + 1) _ rest (next_le hb) (by omega)]
      have e1 : (u % 128 + 128) % 128 = u % 128 := by omega
      have e2 : u / 128 * 128 ^ (j + 1) = 128 * (u / 128) * 128 ^ j := by
        rw [Nat.pow_succ, Nat.mul_comm (128 ^ j) 128, ← Nat.mul_assoc, Nat.mul_comm (u / 128) 128]
      have e3 : u % 128 * 128 ^ j + 128 * (u / 128) * 128 ^ j = u * 128 ^ j := by rw [← Nat.add_mul, Nat.mod_add_div]
      rw [e1, e2, Nat.add_assoc, e3]
      simp only [List.length_cons]
      have e4 : j + 1 + (num (u / 128)).length = j + ((num (u / 128)).length + 1) := by omega
      rw [e4]
theorem numB_list (k : Int) : (nbk.numB k).data.toList = num (2 * k.toNat) := by simp [nbk.numB]
theorem size_list (s : ByteArray) : s.data.toList.length = s.size := by rw [Array.length_toList]; rfl
theorem drop_len {s : ByteArray} {a : Nat} {xs rest : List UInt8} (h : s.data.toList.drop a = xs ++ rest) (hx : 0 < xs.length) : a + xs.length ≤ s.size := by
  have := congrArg List.length h
  rw [List.length_drop, size_list, List.length_append] at this
  omega
/-- a number is read -/
theorem G_back {s : ByteArray} {a : Nat} {k : Int} {rest : List UInt8} (hs : s.size ≤ 20000) (hk : 0 ≤ k) (hk2 : k ≤ 1000000000) (h : s.data.toList.drop a = (nbk.numB k).data.toList ++ rest) : G s (a : Int) = .ok (k, ((a + (nbk.numB k).data.toList.length : Nat) : Int)) := by
  rw [numB_list] at h ⊢
  have hr := rd_num (2 * k.toNat) 0 0 rest (by simp; omega) (by omega)
  rw [← h] at hr
  have g := num.G_ok (a := a) hs hr
  rw [g]
  congr 2
  · unfold num.unfold
    have e : 0 + 2 * k.toNat * 128 ^ 0 = 2 * k.toNat := by simp
    rw [e, if_neg (by omega)]
    omega
  · omega
theorem num_back {s : ByteArray} {a : Nat} {k : Int} {rest : List UInt8} (hs : s.size ≤ 20000) (hk : 0 ≤ k) (hk2 : k ≤ 1000000000) (h : s.data.toList.drop a = (nbk.numB k).data.toList ++ rest) : numS s (a, false) = (k, (a + (nbk.numB k).data.toList.length, false)) := by
  have g := G_back hs hk hk2 h
  unfold plc.numS
  simp only [Bool.false_eq_true, if_false, g]
  have e : ((a + (nbk.numB k).data.toList.length : Nat) : Int).toNat = a + (nbk.numB k).data.toList.length := by omega
  rw [e]
theorem pre_is (n : Nat) : fnExactPutText.pre n = nbk.numB (n : Int) := by
  unfold fnExactPutText.pre nbk.numB
  simp
theorem drop_more {s : ByteArray} {a : Nat} {xs rest : List UInt8} (h : s.data.toList.drop a = xs ++ rest) : s.data.toList.drop (a + xs.length) = rest := by
  rw [← List.drop_drop, h, List.drop_left]
theorem ext_list (s : ByteArray) (a n : Nat) : (s.extract a (a + n)).data.toList = (s.data.toList.drop a).take n := by
  simp [List.extract_eq_take_drop]
/-- a text is read -/
theorem txt_back {s t : ByteArray} {a : Nat} {rest : List UInt8} (hs : s.size ≤ 20000) (h : s.data.toList.drop a = (fnExactPutText.pre t.size ++ t).data.toList ++ rest) : txtS s (a, false) = (t, (a + (fnExactPutText.pre t.size ++ t).data.toList.length, false)) := by
  have e1 : (fnExactPutText.pre t.size ++ t).data.toList = (nbk.numB (t.size : Int)).data.toList ++ t.data.toList := by rw [pre_is]; exact plc.app_list _ _
  rw [e1] at h ⊢
  have hpos : 0 < ((nbk.numB (t.size : Int)).data.toList ++ t.data.toList).length := by
    rw [List.length_append, numB_list]
    have := nbk.num_pos (2 * (t.size : Int).toNat)
    omega
  have hl := drop_len h hpos
  rw [List.length_append, size_list t] at hl
  have h' := h
  rw [List.append_assoc] at h'
  have g := G_back hs (by omega) (by omega) h'
  have hd := drop_more h'
  rw [List.length_append, size_list t]
  generalize (nbk.numB (t.size : Int)).data.toList.length = L at *
  have hT : T s (a : Int) = .ok (t, ((a + L + t.size : Nat) : Int)) := by
    unfold num.T
    rw [g]
    simp only
    rw [if_neg (by omega), if_neg (by omega)]
    have e2 : ((a + L : Nat) : Int).toNat = a + L := by omega
    have e3 : (((a + L : Nat) : Int) + (t.size : Int)).toNat = a + L + t.size := by omega
    rw [e2, e3]
    congr 2
    apply ByteArray.ext
    apply Array.toList_inj.1
    rw [ext_list, hd, ← size_list t, List.take_left]
  unfold plc.txtS
  simp only [Bool.false_eq_true, if_false, hT]
  have e4 : ((a + L + t.size : Nat) : Int).toNat = a + L + t.size := by omega
  rw [e4, Nat.add_assoc]
/-- 32 bytes are read -/
theorem byt_back {s t : ByteArray} {a : Nat} {rest : List UInt8} (ht : t.size = 32) (h : s.data.toList.drop a = t.data.toList ++ rest) : bytS s (a, false) = (t, (a + 32, false)) := by
  have hl := drop_len h (by rw [size_list]; omega)
  rw [size_list, ht] at hl
  unfold plc.bytS
  rw [if_neg (by simp; omega)]
  congr 1
  apply ByteArray.ext
  apply Array.toList_inj.1
  rw [ext_list, h]
  have : t.data.toList.length = 32 := by rw [size_list, ht]
  rw [← this, List.take_left]
theorem bytS_bad (s : ByteArray) (a : Nat) : bytS s (a, true) = (⟨#[]⟩, (a, true)) := by simp [plc.bytS]
end Go.Proofs.Ytmmmadehifajlaa.rbk
