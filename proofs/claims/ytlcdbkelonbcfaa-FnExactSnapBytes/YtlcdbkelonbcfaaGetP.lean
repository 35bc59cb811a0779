/-
  What GetNum answers, in plain words. No condition.
-/
import Derived.Test.YtlcdbkelonbcfaaRows
import Derived.WalkKit
import Derived.ProofKit
import Derived.OpenShut
import Derived.ShutString
import Derived.Laws.BitsAllLaws
namespace Go.Proofs.Ytlcdbkelonbcfaa.num
open Go.RowKit
set_option linter.unusedVariables false

theorem mkHid {P : Prop} (h : P) : Hid P := h

/-- a number's bytes read: j of them are read already, u is what they tell; a code, or the number as it was folded and how many bytes -/
def rd : List UInt8 → Nat → Nat → Except Int (Nat × Nat)
  | [], _, _ => .error 4
  | c :: r, j, u =>
    if j = 9 ∧ 1 < c.toNat then .error 3
    else if c.toNat < 128 then (if c.toNat = 0 ∧ 0 < j then .error 3 else .ok (u + c.toNat * 128 ^ j, j + 1))
    else rd r (j + 1) (u + c.toNat % 128 * 128 ^ j)

def unfold (u : Nat) : Int := if u % 2 = 1 then -((u / 2 : Nat) : Int) - 1 else ((u / 2 : Nat) : Int)

def G (s : ByteArray) (at_ : Int) : Except Int (Int × Int) :=
  if 20000 < s.size then .error 2 else if at_ < 0 then .error 1 else
    match rd (s.data.toList.drop at_.toNat) 0 0 with
    | .error c => .error c
    | .ok (u, k) => .ok (unfold u, at_ + k)

def out : Except Int (Int × Int) → Value
  | .error c => .agg #[.int .i64 0, .int .i64 0, .int .i64 c]
  | .ok (n, p) => .agg #[.int .i64 n, .int .i64 p, .int .i64 0]

theorem drop_cons (s : ByteArray) (k : Nat) (h : k < s.size) : s.data.toList.drop k = s[k] :: s.data.toList.drop (k + 1) := by
  have hl : s.data.toList.length = s.size := by rw [Array.length_toList]; rfl
  rw [List.drop_eq_getElem_cons (by omega)]
  rfl
theorem drop_nil (s : ByteArray) (k : Nat) (h : s.size ≤ k) : s.data.toList.drop k = [] := by
  have hl : s.data.toList.length = s.size := by rw [Array.length_toList]; rfl
  rw [List.drop_of_length_le (by omega)]

theorem rd_short {s : ByteArray} {k j u : Nat} (h : s.size ≤ k) : rd (s.data.toList.drop k) j u = .error 4 := by
  rw [drop_nil s k h]; rfl
theorem rd_nine {s : ByteArray} {k u : Nat} (h : k < s.size) (hc : 1 < (s[k]).toNat) : rd (s.data.toList.drop k) 9 u = .error 3 := by
  rw [drop_cons s k h, rd, if_pos ⟨rfl, hc⟩]
theorem rd_zero {s : ByteArray} {k j u : Nat} (h : k < s.size) (hc : (s[k]).toNat = 0) (hj : 0 < j) : rd (s.data.toList.drop k) j u = .error 3 := by
  rw [drop_cons s k h, rd, if_neg (by omega), if_pos (by omega), if_pos ⟨hc, hj⟩]
theorem rd_last {s : ByteArray} {k j u : Nat} (h : k < s.size) (h9 : ¬ (j = 9 ∧ 1 < (s[k]).toNat)) (hc : (s[k]).toNat < 128) (h0 : ¬ ((s[k]).toNat = 0 ∧ 0 < j)) :
    rd (s.data.toList.drop k) j u = .ok (u + (s[k]).toNat * 128 ^ j, j + 1) := by
  rw [drop_cons s k h, rd, if_neg h9, if_pos hc, if_neg h0]
theorem rd_more {s : ByteArray} {k j u : Nat} (h : k < s.size) (h9 : j ≠ 9) (hc : 128 ≤ (s[k]).toNat) :
    rd (s.data.toList.drop k) j u = rd (s.data.toList.drop (k + 1)) (j + 1) (u + (s[k]).toNat % 128 * 128 ^ j) := by
  rw [drop_cons s k h, rd, if_neg (by omega), if_neg (by omega)]
theorem G_err {s : ByteArray} {a : Nat} {c : Int} (hs : s.size ≤ 20000) (h : rd (s.data.toList.drop a) 0 0 = .error c) : G s a = .error c := by
  unfold G
  rw [if_neg (by omega), if_neg (by omega), Int.toNat_natCast, h]
theorem G_ok {s : ByteArray} {a u k : Nat} (hs : s.size ≤ 20000) (h : rd (s.data.toList.drop a) 0 0 = .ok (u, k)) : G s a = .ok (unfold u, (a : Int) + k) := by
  unfold G
  rw [if_neg (by omega), if_neg (by omega), Int.toNat_natCast, h]

theorem fin_ok {s : ByteArray} {a U k : Nat} {n p : Int} (hG : G s a = .ok (unfold U, (a : Int) + k)) (hn : n = unfold U) (hp : p = (a : Int) + k) :
    Ending.returned (.agg #[.int .i64 n, .int .i64 p, .int .i64 0]) = .returned (out (G s a)) := by
  rw [hG, hn, hp]
  rfl

/-- what holds at the head of round j -/
def At (s : ByteArray) (a j u : Nat) : Prop := u < 128 ^ j ∧ rd (s.data.toList.drop (a + j)) j u = rd (s.data.toList.drop a) 0 0
theorem at_zero (s : ByteArray) (a : Nat) : At s a 0 0 := ⟨by simp, by simp⟩
theorem at_more {s : ByteArray} {a j u : Nat} (h : At s a j u) (hk : a + j < s.size) (h9 : j ≠ 9) (hc : 128 ≤ (s[a + j]).toNat) : At s a (j + 1) (u + (s[a + j]).toNat % 128 * 128 ^ j) := by
  refine ⟨?_, ?_⟩
  · have h1 := h.1
    have h2 : (s[a + j]).toNat % 128 * 128 ^ j ≤ 127 * 128 ^ j := Nat.mul_le_mul_right _ (by omega)
    rw [Nat.pow_succ]
    omega
  · rw [← h.2, rd_more hk h9 hc]
    rfl

end Go.Proofs.Ytlcdbkelonbcfaa.num
