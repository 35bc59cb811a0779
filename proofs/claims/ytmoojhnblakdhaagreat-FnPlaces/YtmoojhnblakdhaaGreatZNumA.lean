/-
  laws.FnExactPutNum answers true at every number.
  What GetNum answers, in plain words. No condition.
  Numbers that are read are told by just these bytes; several that stand one behind the other, in plain words. No condition.
  laws.FnExactPutText answers true at every text: impl.PutText and spec.PutText both answer the bytes of the text's length and then the text, or, of a text of more than 20,000 bytes, the empty one. No condition.
  The bytes of places in plain words; what PutNum and PutText answer for them. No condition.
-/
import Derived.Test.YtmoojhnblakdhaaGreatRows
import Derived.Test.YtmoojhnblakdhaaGreatBase
import Derived.Test.YtmoojhnblakdhaaGreatZPlsA
import Derived.WalkKit
import Derived.ProofKit
import Derived.OpenShut
import Derived.ShutString
import Derived.Laws.IdiomStrings
import Derived.Laws.BitsAllLaws
namespace Go.Proofs.YtmoojhnblakdhaaGreat.fnExactPutNum
open Go.ChangeShapes Go.WideShapes Go.ChangeAt Go.RowKit
open Go.Proofs.YtmoojhnblakdhaaGreat.base
open Go.ChangeMaps (open_string shut_string)
set_option linter.unusedVariables false

theorem own : ownKnob Tryz.prog.godebug = none := by kernel_rfl
theorem info5 : (Tryz.prog.info? 5).map (fun i => (i.zero, i.size, i.bytes)) = some (some (.int .u8 0), 1, 1) := by kernel_rfl

/-- what both fold a number to -/
def fold (n : Int) : Int := if n < 0 then 2 * (-(n + 1)) + 1 else 2 * n

theorem xor_ones (x : Nat) (h : x < 18446744073709551616) : x ^^^ 18446744073709551615 = 18446744073709551615 - x := by
  have e := congrArg BitVec.toNat (BitVec.xor_allOnes (x := BitVec.ofNat 64 x))
  simpa [BitVec.toNat_xor, BitVec.toNat_not, Nat.mod_eq_of_lt h] using e

theorem fold_bits (n : Int) (h1 : -9223372036854775808 ≤ n) (h2 : n ≤ 9223372036854775807) :
    bits BinOp.xor IntKind.u64 (IntKind.u64.wrap (IntKind.u64.wrap n * 2)) (IntKind.u64.wrap (n / 9223372036854775808)) = fold n := by
  simp only [IntKind.wrap_u64]
  by_cases h : n < 0
  · have e1 : n % 18446744073709551616 * 2 % 18446744073709551616 = 2 * n + 18446744073709551616 := by omega
    have e2 : n / 9223372036854775808 % 18446744073709551616 = 18446744073709551615 := by omega
    rw [e1, e2, u64_xor _ _ (by omega) (by omega) (by omega) (by omega)]
    have e3 : (18446744073709551615 : Int).toNat = 18446744073709551615 := rfl
    rw [e3, xor_ones _ (by omega)]
    unfold fold
    rw [if_pos h]
    omega
  · have e1 : n % 18446744073709551616 * 2 % 18446744073709551616 = 2 * n := by omega
    have e2 : n / 9223372036854775808 % 18446744073709551616 = 0 := by omega
    rw [e1, e2, u64_xor _ _ (by omega) (by omega) (by omega) (by omega)]
    unfold fold
    rw [if_neg h]
    simp
    omega

theorem sfold_any (n : Int) (w : World) (h1 : -9223372036854775808 ≤ n) (h2 : n ≤ 9223372036854775807) :
    Calls Tryz.prog 53 #[.int .i64 n] w fun e w' => e = .returned (.int .u64 (fold n)) ∧ w = w' := by
  by_cases h : n < 0
  · have e : fold n = 2 * (-(n + 1)) + 1 := if_pos h
    rw [e]
    clear e
    go_enter Tryz.func53, Tryz.ntmps53
    go_wp2
    go_ret
    exact ⟨rfl, rfl⟩
  · have e : fold n = 2 * n := if_neg h
    rw [e]
    clear e
    go_enter Tryz.func53, Tryz.ntmps53
    go_wp2
    go_ret
    exact ⟨rfl, rfl⟩
theorem ifold_any (n : Int) (w : World) (h1 : -9223372036854775808 ≤ n) (h2 : n ≤ 9223372036854775807) :
    Calls Tryz.prog 52 #[.int .i64 n] w fun e w' => e = .returned (.int .u64 (fold n)) ∧ w = w' := by
  rw [← fold_bits n h1 h2]
  go_enter Tryz.func52, Tryz.ntmps52
  go_wp2
  go_ret
  exact ⟨rfl, rfl⟩
theorem fold_bd (n : Int) (h1 : -9223372036854775808 ≤ n) (h2 : n ≤ 9223372036854775807) : ∃ u : Nat, fold n = (u : Int) ∧ u < 18446744073709551616 := by
  unfold fold
  split
  · exact ⟨(2 * (-(n + 1)) + 1).toNat, by omega, by omega⟩
  · exact ⟨(2 * n).toNat, by omega, by omega⟩


def Rel (B : Nat) (w : World) (u : Nat) (x v : Value) (wr : World) (u' : Nat) (acc : List UInt8) : Prop :=
  x = .int .u64 u' ∧ acc ++ num u' = num u ∧ u' * 128 ^ acc.length < 18446744073709551616 ∧ wr.ownsRow B 5 1 v acc.length (acc.map byteV) ∧ Below B w wr

set_option maxRecDepth 100000 in
theorem spec_any (n : Int) (w : World) (h1 : -9223372036854775808 ≤ n) (h2 : n ≤ 9223372036854775807) (u : Nat) (hu : fold n = (u : Int)) (hub : u < 18446744073709551616) :
    Calls Tryz.prog 27 #[.int .i64 n] w fun e w' => e = .returned (.string ⟨(num u).toArray⟩) ∧ Below w.heap.size w w' := by
  obtain ⟨i0, hi, hz0, hz1, hz2⟩ := info_parts info5
  go_enter Tryz.func27, Tryz.ntmps27
  go_wp2_with (go_at_call 53; refine (sfold_any _ _ h1 h2).mono ?_; rintro e w' ⟨rfl, rfl⟩)
  clear hu
  go_loopw [3, 4] (fun x v wr => ∃ (u' : Nat) (acc : List UInt8), x = .int .u64 u' ∧ (u' : Int) ≤ 18446744073709551615 ∧ acc.length ≤ 9 ∧ Hid (acc ++ num u' = num u) ∧ Hid (u' * 128 ^ acc.length < 18446744073709551616) ∧ wr.ownsRow w.heap.size 5 1 v acc.length (acc.map byteV) ∧ Below w.heap.size w wr)
    (fun x _ _ => (intOf x).toNat)
  case atStart => exact ⟨u, [], rfl, by omega, by simp, mkHid rfl, mkHid (by simpa using hub), World.ownsRow_made _ _ _ (Nat.le_refl _) (by decide) rfl, (Below.refl _ _).alloc (Nat.le_refl _) _⟩
  case round =>
    clear hub
    obtain ⟨u', acc, rfl, hub', hle, hnum, hpow, hown, hbel⟩ := hrel
    by_cases hlt : 128 ≤ u'
    · go_wp2_with ((at_builtin; refine wpList_append_own _ rfl _ _ 22 rfl w.heap.size 5 i0 (.int .u8 0) 1 1 Tryz.underlying22 hi hz0 hz1 hz2 rfl (by decide) _ _ _ rfl (hown.alloc _) ⟨wr.heap.size, 0, none⟩ 1 1 [.int .u8 (↑u' % 128 + 128)] rfl rfl ?c1 ?c2 ?c3 ?c4 ?c5 ?_))
      case c1 =>
        intro j u hj
        match j, hj with
        | 0, hj => simp at hj; subst hj; simp [Addr.add]
      case c2 => intro u hu; simp at hu; subst hu; rfl
      case c3 => unfold maxLen; omega
      case c4 => omega
      case c5 => have := hbel.size; simp; omega
      · intro v' w1 hown' hgrow _
        have r1 := row_more (UInt8.ofNat (u' % 128 + 128)) (by rw [toNat_ofNat (by omega)]; omega) hown'
        have r2 := below_more rfl hbel hown hgrow
        have r3 : (acc ++ [UInt8.ofNat (u' % 128 + 128)]) ++ num (u' / 128) = num u := by rw [← hnum.out, num_big hlt]; simp
        have r4 := pow_next hpow.out
        have R3 := mkHid r3
        have R4 := mkHid r4
        clear r3 r4 hown' hgrow hown hbel hnum hpow
        go_wp2
        go_roundw
        case rel => exact ⟨u' / 128, _, by go_num, by omega, by simpa using pow_small R4.out (by omega), R3, mkHid (by simpa using R4.out), r1, r2⟩
        case measure => simp [intOf]; omega
    · go_wp2_with ((at_builtin; refine wpList_append_own _ rfl _ _ 22 rfl w.heap.size 5 i0 (.int .u8 0) 1 1 Tryz.underlying22 hi hz0 hz1 hz2 rfl (by decide) _ _ _ rfl (hown.alloc _) ⟨wr.heap.size, 0, none⟩ 1 1 [.int .u8 ↑u'] rfl rfl ?d1 ?d2 ?d3 ?d4 ?d5 ?_))
      case d1 =>
        intro j u hj
        match j, hj with
        | 0, hj => simp at hj; subst hj; simp [Addr.add]
      case d2 => intro u hu; simp at hu; subst hu; rfl
      case d3 => unfold maxLen; omega
      case d4 => omega
      case d5 => have := hbel.size; simp; omega
      · intro v' w1 hown' hgrow _
        have r1 := row_more (UInt8.ofNat u') (by rw [toNat_ofNat (by omega)]) hown'
        have r2 := below_more rfl hbel hown hgrow
        have r3 : acc ++ [UInt8.ofNat u'] = num u := by rw [← hnum.out, num_small (by omega)]
        rw [r3] at r1
        obtain ⟨g, cap, hv, hconv⟩ := owns_string Tryz.underlying22 Tryz.underlying5 Tryz.underlying9 r1 (by rw [← r3]; simp)
        clear r3 hown' hgrow hown hbel hnum hpow r1
        rw [hv]
        clear hv
        go_wp2
        go_ret
        exact ⟨rfl, r2⟩
theorem or_byte (u : Nat) : bits BinOp.or IntKind.u8 ((u : Int) % 256) 128 = ((u % 128 + 128 : Nat) : Int) := by
  rw [u8_or _ _ (by omega) (by omega) (by omega) (by omega)]
  have e : ((u : Int) % 256).toNat = u % 256 := by omega
  have e2 : (128 : Int).toNat = 128 := rfl
  rw [e, e2]
  have h : ∀ x : Fin 256, x.val ||| 128 = x.val % 128 + 128 := by decide +kernel
  have hx := h ⟨u % 256, Nat.mod_lt _ (by omega)⟩
  simp only at hx
  rw [hx]
  omega

set_option maxRecDepth 100000 in
theorem impl_any (n : Int) (w : World) (h1 : -9223372036854775808 ≤ n) (h2 : n ≤ 9223372036854775807) (u : Nat) (hu : fold n = (u : Int)) (hub : u < 18446744073709551616) :
    Calls Tryz.prog 24 #[.int .i64 n] w fun e w' => e = .returned (.string ⟨(num u).toArray⟩) ∧ Below w.heap.size w w' := by
  obtain ⟨i0, hi, hz0, hz1, hz2⟩ := info_parts info5
  go_enter Tryz.func24, Tryz.ntmps24
  go_wp2_with (go_at_call 52; refine (ifold_any _ _ h1 h2).mono ?_; rintro e w' ⟨rfl, rfl⟩)
  clear hu
  go_loopw [3, 4] (fun x v wr => ∃ (u' : Nat) (acc : List UInt8), x = .int .u64 u' ∧ (u' : Int) ≤ 18446744073709551615 ∧ acc.length ≤ 9 ∧ Hid (acc ++ num u' = num u) ∧ Hid (u' * 128 ^ acc.length < 18446744073709551616) ∧ wr.ownsRow w.heap.size 5 1 v acc.length (acc.map byteV) ∧ Below w.heap.size w wr)
    (fun x _ _ => (intOf x).toNat)
  case atStart => exact ⟨u, [], rfl, by omega, by simp, mkHid rfl, mkHid (by simpa using hub), World.ownsRow_nil _ _ _ _, Below.refl _ _⟩
  case round =>
    clear hub
    obtain ⟨u', acc, rfl, hub', hle, hnum, hpow, hown, hbel⟩ := hrel
    by_cases hlt : 128 ≤ u'
    · go_wp2_with ((at_builtin; refine wpList_append_own _ rfl _ _ 22 rfl w.heap.size 5 i0 (.int .u8 0) 1 1 Tryz.underlying22 hi hz0 hz1 hz2 rfl (by decide) _ _ _ rfl (hown.alloc _) ⟨wr.heap.size, 0, none⟩ 1 1 [.int .u8 (bits BinOp.or IntKind.u8 (↑u' % 256) 128)] rfl rfl ?c1 ?c2 ?c3 ?c4 ?c5 ?_))
      case c1 =>
        intro j u hj
        match j, hj with
        | 0, hj => simp at hj; subst hj; simp [Addr.add]
      case c2 => intro u hu; simp at hu; subst hu; rfl
      case c3 => unfold maxLen; omega
      case c4 => omega
      case c5 => have := hbel.size; simp; omega
      · intro v' w1 hown' hgrow _
        have r1 := row_more (UInt8.ofNat (u' % 128 + 128)) (by rw [toNat_ofNat (by omega)]; exact or_byte u') hown'
        have r2 := below_more rfl hbel hown hgrow
        have r3 : (acc ++ [UInt8.ofNat (u' % 128 + 128)]) ++ num (u' / 128) = num u := by rw [← hnum.out, num_big hlt]; simp
        have r4 := pow_next hpow.out
        have R3 := mkHid r3
        have R4 := mkHid r4
        clear r3 r4 hown' hgrow hown hbel hnum hpow
        go_wp2
        go_roundw
        case rel => exact ⟨u' / 128, _, by go_num, by omega, by simpa using pow_small R4.out (by omega), R3, mkHid (by simpa using R4.out), r1, r2⟩
        case measure => simp [intOf]; omega
    · go_wp2_with ((at_builtin; refine wpList_append_own _ rfl _ _ 22 rfl w.heap.size 5 i0 (.int .u8 0) 1 1 Tryz.underlying22 hi hz0 hz1 hz2 rfl (by decide) _ _ _ rfl (hown.alloc _) ⟨wr.heap.size, 0, none⟩ 1 1 [.int .u8 ↑u'] rfl rfl ?d1 ?d2 ?d3 ?d4 ?d5 ?_))
      case d1 =>
        intro j u hj
        match j, hj with
        | 0, hj => simp at hj; subst hj; simp [Addr.add]
      case d2 => intro u hu; simp at hu; subst hu; rfl
      case d3 => unfold maxLen; omega
      case d4 => omega
      case d5 => have := hbel.size; simp; omega
      · intro v' w1 hown' hgrow _
        have r1 := row_more (UInt8.ofNat u') (by rw [toNat_ofNat (by omega)]) hown'
        have r2 := below_more rfl hbel hown hgrow
        have r3 : acc ++ [UInt8.ofNat u'] = num u := by rw [← hnum.out, num_small (by omega)]
        rw [r3] at r1
        obtain ⟨g, cap, hv, hconv⟩ := owns_string Tryz.underlying22 Tryz.underlying5 Tryz.underlying9 r1 (by rw [← r3]; simp)
        clear r3 hown' hgrow hown hbel hnum hpow r1
        rw [hv]
        clear hv
        go_wp2
        go_ret
        exact ⟨rfl, r2⟩

end Go.Proofs.YtmoojhnblakdhaaGreat.fnExactPutNum
namespace Go.Proofs.YtmoojhnblakdhaaGreat.num
open Go.RowKit
set_option linter.unusedVariables false

theorem mkHid {P : Prop} (h : P) : Hid P := h

/-- a number's bytes read: j of them are read already, u is what they tell; a code, or the number as it was folded and how many bytes -/
def rd : List UInt8 → Nat → Nat → Except Int (Nat × Nat)
  | [], _, _ => .error 4
  | c :: r, j, u =>
    if j = 9 ∧ 1 < c.toNat then .error 3
    else if c.toNat < 128 then (if c.toNat = 0 ∧ 0 < j then .error 3 else .ok (u + c.toNat * 128 ^ j, j + 1))
    else rd r (j + 1) (u + c.toNat % 128 * 128 ^ j)

def unfold (u : Nat) : Int := if u % 2 = 1 then -((u / 2 : Nat) : Int) - 1 else ((u / 2 : Nat) : Int)

def G (s : ByteArray) (at_ : Int) : Except Int (Int × Int) :=
  if 20000 < s.size then .error 2 else if at_ < 0 then .error 1 else
    match rd (s.data.toList.drop at_.toNat) 0 0 with
    | .error c => .error c
    | .ok (u, k) => .ok (unfold u, at_ + k)

def out : Except Int (Int × Int) → Value
  | .error c => .agg #[.int .i64 0, .int .i64 0, .int .i64 c]
  | .ok (n, p) => .agg #[.int .i64 n, .int .i64 p, .int .i64 0]

theorem drop_cons (s : ByteArray) (k : Nat) (h : k < s.size) : s.data.toList.drop k = s[k] :: s.data.toList.drop (k + 1) := by
  have hl : s.data.toList.length = s.size := by rw [Array.length_toList]; rfl
  rw [List.drop_eq_getElem_cons (by omega)]
  rfl
theorem drop_nil (s : ByteArray) (k : Nat) (h : s.size ≤ k) : s.data.toList.drop k = [] := by
  have hl : s.data.toList.length = s.size := by rw [Array.length_toList]; rfl
  rw [List.drop_of_length_le (by omega)]

theorem rd_short {s : ByteArray} {k j u : Nat} (h : s.size ≤ k) : rd (s.data.toList.drop k) j u = .error 4 := by
  rw [drop_nil s k h]; rfl
theorem rd_nine {s : ByteArray} {k u : Nat} (h : k < s.size) (hc : 1 < (s[k]).toNat) : rd (s.data.toList.drop k) 9 u = .error 3 := by
  rw [drop_cons s k h, rd, if_pos ⟨rfl, hc⟩]
theorem rd_zero {s : ByteArray} {k j u : Nat} (h : k < s.size) (hc : (s[k]).toNat = 0) (hj : 0 < j) : rd (s.data.toList.drop k) j u = .error 3 := by
  rw [drop_cons s k h, rd, if_neg (by omega), if_pos (by omega), if_pos ⟨hc, hj⟩]
theorem rd_last {s : ByteArray} {k j u : Nat} (h : k < s.size) (h9 : ¬ (j = 9 ∧ 1 < (s[k]).toNat)) (hc : (s[k]).toNat < 128) (h0 : ¬ ((s[k]).toNat = 0 ∧ 0 < j)) :
    rd (s.data.toList.drop k) j u = .ok (u + (s[k]).toNat * 128 ^ j, j + 1) := by
  rw [drop_cons s k h, rd, if_neg h9, if_pos hc, if_neg h0]
theorem rd_more {s : ByteArray} {k j u : Nat} (h : k < s.size) (h9 : j ≠ 9) (hc : 128 ≤ (s[k]).toNat) :
    rd (s.data.toList.drop k) j u = rd (s.data.toList.drop (k + 1)) (j + 1) (u + (s[k]).toNat % 128 * 128 ^ j) := by
  rw [drop_cons s k h, rd, if_neg (by omega), if_neg (by omega)]
theorem G_err {s : ByteArray} {a : Nat} {c : Int} (hs : s.size ≤ 20000) (h : rd (s.data.toList.drop a) 0 0 = .error c) : G s a = .error c := by
  unfold G
  rw [if_neg (by omega), if_neg (by omega), Int.toNat_natCast, h]
theorem G_ok {s : ByteArray} {a u k : Nat} (hs : s.size ≤ 20000) (h : rd (s.data.toList.drop a) 0 0 = .ok (u, k)) : G s a = .ok (unfold u, (a : Int) + k) := by
  unfold G
  rw [if_neg (by omega), if_neg (by omega), Int.toNat_natCast, h]

theorem fin_ok {s : ByteArray} {a U k : Nat} {n p : Int} (hG : G s a = .ok (unfold U, (a : Int) + k)) (hn : n = unfold U) (hp : p = (a : Int) + k) :
    Ending.returned (.agg #[.int .i64 n, .int .i64 p, .int .i64 0]) = .returned (out (G s a)) := by
  rw [hG, hn, hp]
  rfl

/-- what holds at the head of round j -/
def At (s : ByteArray) (a j u : Nat) : Prop := u < 128 ^ j ∧ rd (s.data.toList.drop (a + j)) j u = rd (s.data.toList.drop a) 0 0
theorem at_zero (s : ByteArray) (a : Nat) : At s a 0 0 := ⟨by simp, by simp⟩
theorem at_more {s : ByteArray} {a j u : Nat} (h : At s a j u) (hk : a + j < s.size) (h9 : j ≠ 9) (hc : 128 ≤ (s[a + j]).toNat) : At s a (j + 1) (u + (s[a + j]).toNat % 128 * 128 ^ j) := by
  refine ⟨?_, ?_⟩
  · have h1 := h.1
    have h2 : (s[a + j]).toNat % 128 * 128 ^ j ≤ 127 * 128 ^ j := Nat.mul_le_mul_right _ (by omega)
    rw [Nat.pow_succ]
    omega
  · rw [← h.2, rd_more hk h9 hc]
    rfl

end Go.Proofs.YtmoojhnblakdhaaGreat.num
namespace Go.Proofs.YtmoojhnblakdhaaGreat.nbk
open Go.RowKit
open Go.Proofs.YtmoojhnblakdhaaGreat.base
set_option linter.unusedVariables false

/-- the bytes of a number that is not below 0 -/
def numB (k : Int) : ByteArray := ⟨(num (2 * k.toNat)).toArray⟩
theorem num_len : ∀ (n u : Nat), u < 128 ^ (n + 1) → (num u).length ≤ n + 1
  | 0, u, h => by rw [num_small (by omega)]; simp
  | n + 1, u, h => by
    by_cases hu : u < 128
    · rw [num_small hu]; simp
    · rw [num_big (by omega)]
      have h1 : u / 128 < 128 ^ (n + 1) := by
        rw [Nat.div_lt_iff_lt_mul (by omega)]
        rw [Nat.pow_succ] at h
        exact h
      have := num_len n (u / 128) h1
      simp
      omega
theorem num_pos (u : Nat) : 1 ≤ (num u).length := by
  by_cases hu : u < 128
  · rw [num_small hu]; simp
  · rw [num_big (by omega)]; simp
theorem numB_len {k : Int} (h1 : k ≤ 12000) : (numB k).size ≤ 3 := by
  have h2 : 2 * k.toNat < 128 ^ (2 + 1) := by have : (128 : Nat) ^ (2 + 1) = 2097152 := by decide
                                              omega
  have := num_len 2 _ h2
  show (num (2 * k.toNat)).toArray.size ≤ 3
  rw [List.size_toArray]
  omega
theorem rd_code : ∀ (l : List UInt8) (j u : Nat) (c : Int), num.rd l j u = .error c → c ≠ 0
  | [], j, u, c, h => by simp [num.rd] at h; omega
  | b :: r, j, u, c, h => by
    unfold num.rd at h
    split at h
    · simp at h; omega
    · split at h
      · split at h
        · simp at h; omega
        · simp at h
      · exact rd_code r _ _ c h
theorem G_code {s : ByteArray} {a : Int} {c : Int} (h : num.G s a = .error c) : c ≠ 0 := by
  unfold num.G at h
  split at h
  · simp at h; omega
  · split at h
    · simp at h; omega
    · cases hr : num.rd (s.data.toList.drop a.toNat) 0 0 with
      | error d => rw [hr] at h; simp at h; subst h; exact rd_code _ _ _ _ hr
      | ok x => rw [hr] at h; simp at h
theorem rd_back : ∀ (l : List UInt8) (j u u' m : Nat), num.rd l j u = .ok (u', m) → ∃ v, l.take (m - j) = base.num v ∧ u' = u + v * 128 ^ j ∧ (0 < j → 0 < v) ∧ j < m ∧ m ≤ j + l.length
  | [], j, u, u', m, h => by simp [num.rd] at h
  | c :: r, j, u, u', m, h => by
    unfold num.rd at h
    split at h
    · cases h
    · split at h
      · rename_i hc
        split at h
        · cases h
        · rename_i h0
          simp only [Except.ok.injEq, Prod.mk.injEq] at h
          obtain ⟨rfl, rfl⟩ := h
          refine ⟨c.toNat, ?_, rfl, fun hj => ?_, by omega, by simp⟩
          · rw [num_small hc]
            simp
          · rcases Nat.eq_zero_or_pos c.toNat with h1 | h1
            · exact absurd ⟨h1, hj⟩ h0
            · exact h1
      · rename_i hc
        obtain ⟨v, h1, h2, h3, h4, h5⟩ := rd_back r (j + 1) _ u' m h
        have hv := h3 (by omega)
        refine ⟨c.toNat % 128 + 128 * v, ?_, ?_, fun _ => by omega, by omega, by simp; omega⟩
        · rw [num_big (by omega)]
          have e1 : (c.toNat % 128 + 128 * v) / 128 = v := by omega
          have e2 : (c.toNat % 128 + 128 * v) % 128 = c.toNat % 128 := by omega
          have hc2 := c.toNat_lt
          have e3 : c.toNat % 128 + 128 = c.toNat := by omega
          rw [e1, e2, e3, ← h1]
          have e4 : m - j = (m - (j + 1)) + 1 := by omega
          rw [e4, List.take_succ_cons]
          simp
        · rw [h2, Nat.pow_succ, Nat.add_mul, Nat.add_assoc]
          congr 1
          congr 1
          rw [Nat.mul_comm 128 v, Nat.mul_assoc, Nat.mul_comm 128]
theorem G_nat {s : ByteArray} {a : Nat} {n p : Int} (h : num.G s a = .ok (n, p)) : ∃ P : Nat, p = P ∧ a < P ∧ P ≤ s.size ∧ (0 ≤ n → s.extract a P = numB n) := by
  unfold num.G at h
  split at h
  · cases h
  · split at h
    · cases h
    · split at h
      · cases h
      · rename_i u k hr
        simp only [Except.ok.injEq, Prod.mk.injEq] at h
        obtain ⟨rfl, rfl⟩ := h
        have e0 : (a : Int).toNat = a := by omega
        rw [e0] at hr
        obtain ⟨v, h1, h2, _, h4, h5⟩ := rd_back _ _ _ _ _ hr
        simp at h1 h2 h5
        refine ⟨a + k, by omega, by omega, by have : s.data.size = s.size := rfl; omega, fun hn => ?_⟩
        subst h2
        unfold num.unfold at hn ⊢
        unfold numB
        split at hn
        · omega
        · rename_i hp
          rw [if_neg hp]
          have e1 : 2 * ((u / 2 : Nat) : Int).toNat = u := by omega
          rw [e1, ← h1]
          apply ByteArray.ext
          apply Array.ext'
          simp [List.extract_eq_take_drop]
/-- n numbers are read from a place on
-/
def rdA (s : ByteArray) : Nat → Nat → List Int → Option (List Int × Nat)
  | 0, p, l => some (l, p)
  | n + 1, p, l => match num.G s p with | .error _ => none | .ok (z, q) => rdA s n q.toNat (l ++ [z])
theorem rdA_err {s : ByteArray} {n p : Nat} {l : List Int} {c : Int} (h : num.G s p = .error c) : rdA s (n + 1) p l = none := by
  rw [rdA, h]
theorem rdA_ok {s : ByteArray} {n p q : Nat} {l : List Int} {z : Int} (h : num.G s p = .ok (z, (q : Int))) : rdA s (n + 1) p l = rdA s n q (l ++ [z]) := by
  rw [rdA, h]
  simp
theorem cat (s : ByteArray) {a b c : Nat} (h1 : a ≤ b) (h2 : b ≤ c) : s.extract a b ++ s.extract b c = s.extract a c := by
  apply ByteArray.ext
  simp
  rw [Nat.min_eq_left h1, Nat.max_eq_right h2]
end Go.Proofs.YtmoojhnblakdhaaGreat.nbk
namespace Go.Proofs.YtmoojhnblakdhaaGreat.fnExactPutText
open Go.ChangeShapes Go.WideShapes Go.ChangeAt Go.RowKit
open Go.Proofs.YtmoojhnblakdhaaGreat.base
open Go.ChangeMaps (open_string shut_string)
set_option linter.unusedVariables false

theorem own : ownKnob Tryz.prog.godebug = none := by kernel_rfl

theorem num_len (u : Nat) : (num u).length ≤ u + 1 := by
  induction u using Nat.strongRecOn with
  | _ u ih =>
    rcases Nat.lt_or_ge u 128 with h | h
    · rw [num_small h]; simp
    · rw [num_big h]
      have := ih (u / 128) (by omega)
      simp only [List.length_cons]
      omega

/-- the bytes of a length -/
def pre (n : Nat) : ByteArray := ⟨(num (2 * n)).toArray⟩
theorem pre_size (n : Nat) : (pre n).size ≤ 2 * n + 1 := by
  have h := num_len (2 * n)
  simpa [pre, ByteArray.size] using h

theorem spec_big (s : ByteArray) (w : World) (h : 20000 < s.size) (hs : s.size ≤ 1048576) :
    Calls Tryz.prog 28 #[.string s] w fun e w' => e = .returned (.string ByteArray.empty) ∧ Below w.heap.size w w' := by
  go_enter Tryz.func28, Tryz.ntmps28
  go_wp2
  go_ret
  exact ⟨rfl, Below.refl _ _⟩
theorem spec_any (s : ByteArray) (w : World) (hs : s.size ≤ 20000) :
    Calls Tryz.prog 28 #[.string s] w fun e w' => e = .returned (.string (pre s.size ++ s)) ∧ Below w.heap.size w w' := by
  have hp := pre_size s.size
  have hC : ∀ wx, Calls Tryz.prog 27 #[.int .i64 s.size] wx fun e w' => e = .returned (.string (pre s.size)) ∧ Below wx.heap.size wx w' := fun wx =>
    fnExactPutNum.spec_any s.size wx (by omega) (by omega) (2 * s.size) (by unfold fnExactPutNum.fold; rw [if_neg (by omega)]; omega) (by omega)
  generalize pre s.size = p at *
  have HC := mkHid hC
  clear hC
  have hsum : p.size + s.size ≤ 9223372036854775807 := by omega
  have hadd := fun wx => run_string_add_sum (P := Tryz.prog) wx p s hsum
  go_enter Tryz.func28, Tryz.ntmps28
  go_wp2_with fail
  refine (HC.out _).mono ?_
  rintro e w1 ⟨rfl, hb⟩
  go_wp2
  go_ret
  exact ⟨rfl, hb⟩

theorem impl_big (s : ByteArray) (w : World) (h : 20000 < s.size) (hs : s.size ≤ 1048576) :
    Calls Tryz.prog 25 #[.string s] w fun e w' => e = .returned (.string ByteArray.empty) ∧ Below w.heap.size w w' := by
  go_enter Tryz.func25, Tryz.ntmps25
  go_wp2
  go_ret
  exact ⟨rfl, Below.refl _ _⟩
theorem impl_any (s : ByteArray) (w : World) (hs : s.size ≤ 20000) :
    Calls Tryz.prog 25 #[.string s] w fun e w' => e = .returned (.string (pre s.size ++ s)) ∧ Below w.heap.size w w' := by
  have hp := pre_size s.size
  have hC : ∀ wx, Calls Tryz.prog 24 #[.int .i64 s.size] wx fun e w' => e = .returned (.string (pre s.size)) ∧ Below wx.heap.size wx w' := fun wx =>
    fnExactPutNum.impl_any s.size wx (by omega) (by omega) (2 * s.size) (by unfold fnExactPutNum.fold; rw [if_neg (by omega)]; omega) (by omega)
  generalize pre s.size = p at *
  have HC := mkHid hC
  clear hC
  have hsum : p.size + s.size ≤ 9223372036854775807 := by omega
  have hadd := fun wx => run_string_add_sum (P := Tryz.prog) wx p s hsum
  go_enter Tryz.func25, Tryz.ntmps25
  go_wp2_with fail
  refine (HC.out _).mono ?_
  rintro e w1 ⟨rfl, hb⟩
  go_wp2
  go_ret
  exact ⟨rfl, hb⟩

end Go.Proofs.YtmoojhnblakdhaaGreat.fnExactPutText
namespace Go.Proofs.YtmoojhnblakdhaaGreat.plc
open Go.RowKit Go.Joins
open Go.Proofs.YtmoojhnblakdhaaGreat.base Go.Proofs.YtmoojhnblakdhaaGreat.blk Go.Proofs.YtmoojhnblakdhaaGreat.aid
open Go.Proofs.YtmoojhnblakdhaaGreat.obj (objB objB_small)
set_option linter.unusedVariables false

/-- a place's bytes -/
def recP (p : Pl) : ByteArray := p.1 ++ (fnExactPutText.pre p.2.1.size ++ p.2.1) ++ nbk.numB p.2.2.1 ++ nbk.numB p.2.2.2.1 ++ nbk.numB p.2.2.2.2
def recsP (l : List Pl) : List UInt8 := l.flatMap (fun p => (recP p).data.toList)
/-- the bytes of right places -/
def bytesL (l : List Pl) : List UInt8 := (nbk.numB l.length).data.toList ++ recsP l
def bytesP (l : List Pl) : ByteArray := if placesB l = true then ⟨(bytesL l).toArray⟩ else ⟨#[]⟩
theorem len_list (s : ByteArray) : s.data.toList.length = s.size := by rw [Array.length_toList]; rfl
theorem app_list (s t : ByteArray) : (s ++ t).data.toList = s.data.toList ++ t.data.toList := by
  have : (s ++ t).data = s.data ++ t.data := by simp
  rw [this, Array.toList_append]
theorem plB_small {p : Pl} (h : plB p = true) : p.1.size = 32 ∧ p.2.1.size ≤ 60 ∧ 0 ≤ p.2.2.1 ∧ p.2.2.1 ≤ 2 ∧ 0 ≤ p.2.2.2.1 ∧ p.2.2.2.1 ≤ 12000 ∧ 0 ≤ p.2.2.2.2 ∧ p.2.2.2.2 ≤ 2000 := by
  unfold plB at h
  simp only [Bool.and_eq_true, Bool.or_eq_true, decide_eq_true_eq] at h
  obtain ⟨⟨⟨⟨h1, h2⟩, h3⟩, h4, h5⟩, h6, h7⟩ := h
  exact ⟨h1, objB_small h2, by omega, by omega, h4, h5, h6, h7⟩
theorem recP_size {p : Pl} (h : plB p = true) : (recP p).size ≤ 222 := by
  obtain ⟨h1, h2, h3, h4, h5, h6, h7, h8⟩ := plB_small h
  have e1 := fnExactPutText.pre_size p.2.1.size
  have e2 := nbk.numB_len (k := p.2.2.1) (by omega)
  have e3 := nbk.numB_len (k := p.2.2.2.1) (by omega)
  have e4 := nbk.numB_len (k := p.2.2.2.2) (by omega)
  unfold recP
  simp only [ByteArray.size_append]
  omega
theorem recsP_snoc {l : List Pl} {k : Nat} {x : Pl} (h : l[k]? = some x) : recsP (l.take (k + 1)) = recsP (l.take k) ++ (recP x).data.toList := by
  unfold recsP
  rw [List.take_add_one, h, List.flatMap_append]
  simp
theorem recsP_len : ∀ (l : List Pl), (∀ p ∈ l, plB p = true) → (recsP l).length ≤ 222 * l.length
  | [], _ => by simp [recsP]
  | p :: l, h => by
    have h1 := recsP_len l (fun q hq => h q (List.mem_cons_of_mem _ hq))
    have h2 := recP_size (h p (by simp))
    have e : recsP (p :: l) = (recP p).data.toList ++ recsP l := by simp [recsP]
    rw [e, List.length_append, len_list, List.length_cons]
    omega
theorem num_spec (k : Int) (w : World) (h : 0 ≤ k) (h2 : k ≤ 12000) :
    Calls Tryz.prog 27 #[.int .i64 k] w fun e w' => e = .returned (.string (nbk.numB k)) ∧ Below w.heap.size w w' :=
  fnExactPutNum.spec_any k w (by omega) (by omega) (2 * k.toNat) (by unfold fnExactPutNum.fold; rw [if_neg (by omega)]; omega) (by omega)
theorem num_impl (k : Int) (w : World) (h : 0 ≤ k) (h2 : k ≤ 12000) :
    Calls Tryz.prog 24 #[.int .i64 k] w fun e w' => e = .returned (.string (nbk.numB k)) ∧ Below w.heap.size w w' :=
  fnExactPutNum.impl_any k w (by omega) (by omega) (2 * k.toNat) (by unfold fnExactPutNum.fold; rw [if_neg (by omega)]; omega) (by omega)
end Go.Proofs.YtmoojhnblakdhaaGreat.plc
