/-
  laws.FnExactPutNum answers true at every number.
-/
import Derived.Test.YtlcdbkelonbcfaaRows
import Derived.Test.YtlcdbkelonbcfaaBase
import Derived.WalkKit
import Derived.ProofKit
import Derived.OpenShut
import Derived.ShutString
import Derived.Laws.IdiomStrings
import Derived.Laws.BitsAllLaws
namespace Go.Proofs.Ytlcdbkelonbcfaa.fnExactPutNum
open Go.ChangeShapes Go.WideShapes Go.ChangeAt Go.RowKit
open Go.Proofs.Ytlcdbkelonbcfaa.base
open Go.ChangeMaps (open_string shut_string)
set_option linter.unusedVariables false

theorem own : ownKnob Try.prog.godebug = none := by kernel_rfl
theorem info5 : (Try.prog.info? 5).map (fun i => (i.zero, i.size, i.bytes)) = some (some (.int .u8 0), 1, 1) := by kernel_rfl

/-- what both fold a number to -/
def fold (n : Int) : Int := if n < 0 then 2 * (-(n + 1)) + 1 else 2 * n

theorem xor_ones (x : Nat) (h : x < 18446744073709551616) : x ^^^ 18446744073709551615 = 18446744073709551615 - x := by
  have e := congrArg BitVec.toNat (BitVec.xor_allOnes (x := BitVec.ofNat 64 x))
  simpa [BitVec.toNat_xor, BitVec.toNat_not, Nat.mod_eq_of_lt h] using e

theorem fold_bits (n : Int) (h1 : -9223372036854775808 ≤ n) (h2 : n ≤ 9223372036854775807) :
    bits BinOp.xor IntKind.u64 (IntKind.u64.wrap (IntKind.u64.wrap n * 2)) (IntKind.u64.wrap (n / 9223372036854775808)) = fold n := by
  simp only [IntKind.wrap_u64]
  by_cases h : n < 0
  · have e1 : n % 18446744073709551616 * 2 % 18446744073709551616 = 2 * n + 18446744073709551616 := by omega
    have e2 : n / 9223372036854775808 % 18446744073709551616 = 18446744073709551615 := by omega
    rw [e1, e2, u64_xor _ _ (by omega) (by omega) (by omega) (by omega)]
    have e3 : (18446744073709551615 : Int).toNat = 18446744073709551615 := rfl
    rw [e3, xor_ones _ (by omega)]
    unfold fold
    rw [if_pos h]
    omega
  · have e1 : n % 18446744073709551616 * 2 % 18446744073709551616 = 2 * n := by omega
    have e2 : n / 9223372036854775808 % 18446744073709551616 = 0 := by omega
    rw [e1, e2, u64_xor _ _ (by omega) (by omega) (by omega) (by omega)]
    unfold fold
    rw [if_neg h]
    simp
    omega

theorem sfold_any (n : Int) (w : World) (h1 : -9223372036854775808 ≤ n) (h2 : n ≤ 9223372036854775807) :
    Calls Try.prog 82 #[.int .i64 n] w fun e w' => e = .returned (.int .u64 (fold n)) ∧ w = w' := by
  by_cases h : n < 0
  · have e : fold n = 2 * (-(n + 1)) + 1 := if_pos h
    rw [e]
    clear e
    go_enter Try.func82, Try.ntmps82
    go_wp2
    go_ret
    exact ⟨rfl, rfl⟩
  · have e : fold n = 2 * n := if_neg h
    rw [e]
    clear e
    go_enter Try.func82, Try.ntmps82
    go_wp2
    go_ret
    exact ⟨rfl, rfl⟩
theorem ifold_any (n : Int) (w : World) (h1 : -9223372036854775808 ≤ n) (h2 : n ≤ 9223372036854775807) :
    Calls Try.prog 83 #[.int .i64 n] w fun e w' => e = .returned (.int .u64 (fold n)) ∧ w = w' := by
  rw [← fold_bits n h1 h2]
  go_enter Try.func83, Try.ntmps83
  go_wp2
  go_ret
  exact ⟨rfl, rfl⟩
theorem fold_bd (n : Int) (h1 : -9223372036854775808 ≤ n) (h2 : n ≤ 9223372036854775807) : ∃ u : Nat, fold n = (u : Int) ∧ u < 18446744073709551616 := by
  unfold fold
  split
  · exact ⟨(2 * (-(n + 1)) + 1).toNat, by omega, by omega⟩
  · exact ⟨(2 * n).toNat, by omega, by omega⟩


def Rel (B : Nat) (w : World) (u : Nat) (x v : Value) (wr : World) (u' : Nat) (acc : List UInt8) : Prop :=
  x = .int .u64 u' ∧ acc ++ num u' = num u ∧ u' * 128 ^ acc.length < 18446744073709551616 ∧ wr.ownsRow B 5 1 v acc.length (acc.map byteV) ∧ Below B w wr

set_option maxRecDepth 100000 in
theorem spec_any (n : Int) (w : World) (h1 : -9223372036854775808 ≤ n) (h2 : n ≤ 9223372036854775807) (u : Nat) (hu : fold n = (u : Int)) (hub : u < 18446744073709551616) :
    Calls Try.prog 54 #[.int .i64 n] w fun e w' => e = .returned (.string ⟨(num u).toArray⟩) ∧ Below w.heap.size w w' := by
  obtain ⟨i0, hi, hz0, hz1, hz2⟩ := info_parts info5
  go_enter Try.func54, Try.ntmps54
  go_wp2_with (go_at_call 82; refine (sfold_any _ _ h1 h2).mono ?_; rintro e w' ⟨rfl, rfl⟩)
  clear hu
  go_loopw [3, 4] (fun x v wr => ∃ (u' : Nat) (acc : List UInt8), x = .int .u64 u' ∧ (u' : Int) ≤ 18446744073709551615 ∧ acc.length ≤ 9 ∧ Hid (acc ++ num u' = num u) ∧ Hid (u' * 128 ^ acc.length < 18446744073709551616) ∧ wr.ownsRow w.heap.size 5 1 v acc.length (acc.map byteV) ∧ Below w.heap.size w wr)
    (fun x _ _ => (intOf x).toNat)
  case atStart => exact ⟨u, [], rfl, by omega, by simp, mkHid rfl, mkHid (by simpa using hub), World.ownsRow_made _ _ _ (Nat.le_refl _) (by decide) rfl, (Below.refl _ _).alloc (Nat.le_refl _) _⟩
  case round =>
    clear hub
    obtain ⟨u', acc, rfl, hub', hle, hnum, hpow, hown, hbel⟩ := hrel
    by_cases hlt : 128 ≤ u'
    · go_wp2_with ((at_builtin; refine wpList_append_own _ rfl _ _ 102 rfl w.heap.size 5 i0 (.int .u8 0) 1 1 Try.underlying102 hi hz0 hz1 hz2 rfl (by decide) _ _ _ rfl (hown.alloc _) ⟨wr.heap.size, 0, none⟩ 1 1 [.int .u8 (↑u' % 128 + 128)] rfl rfl ?c1 ?c2 ?c3 ?c4 ?c5 ?_))
      case c1 =>
        intro j u hj
        match j, hj with
        | 0, hj => simp at hj; subst hj; simp [Addr.add]
      case c2 => intro u hu; simp at hu; subst hu; rfl
      case c3 => unfold maxLen; omega
      case c4 => omega
      case c5 => have := hbel.size; simp; omega
      · intro v' w1 hown' hgrow _
        have r1 := row_more (UInt8.ofNat (u' % 128 + 128)) (by rw [toNat_ofNat (by omega)]; omega) hown'
        have r2 := below_more rfl hbel hown hgrow
        have r3 : (acc ++ [UInt8.ofNat (u' % 128 + 128)]) ++ num (u' / 128) = num u := by rw [← hnum.out, num_big hlt]; simp
        have r4 := pow_next hpow.out
        have R3 := mkHid r3
        have R4 := mkHid r4
        clear r3 r4 hown' hgrow hown hbel hnum hpow
        go_wp2
        go_roundw
        case rel => exact ⟨u' / 128, _, by go_num, by omega, by simpa using pow_small R4.out (by omega), R3, mkHid (by simpa using R4.out), r1, r2⟩
        case measure => simp [intOf]; omega
    · go_wp2_with ((at_builtin; refine wpList_append_own _ rfl _ _ 102 rfl w.heap.size 5 i0 (.int .u8 0) 1 1 Try.underlying102 hi hz0 hz1 hz2 rfl (by decide) _ _ _ rfl (hown.alloc _) ⟨wr.heap.size, 0, none⟩ 1 1 [.int .u8 ↑u'] rfl rfl ?d1 ?d2 ?d3 ?d4 ?d5 ?_))
      case d1 =>
        intro j u hj
        match j, hj with
        | 0, hj => simp at hj; subst hj; simp [Addr.add]
      case d2 => intro u hu; simp at hu; subst hu; rfl
      case d3 => unfold maxLen; omega
      case d4 => omega
      case d5 => have := hbel.size; simp; omega
      · intro v' w1 hown' hgrow _
        have r1 := row_more (UInt8.ofNat u') (by rw [toNat_ofNat (by omega)]) hown'
        have r2 := below_more rfl hbel hown hgrow
        have r3 : acc ++ [UInt8.ofNat u'] = num u := by rw [← hnum.out, num_small (by omega)]
        rw [r3] at r1
        obtain ⟨g, cap, hv, hconv⟩ := owns_string Try.underlying102 Try.underlying5 Try.underlying9 r1 (by rw [← r3]; simp)
        clear r3 hown' hgrow hown hbel hnum hpow r1
        rw [hv]
        clear hv
        go_wp2
        go_ret
        exact ⟨rfl, r2⟩
theorem or_byte (u : Nat) : bits BinOp.or IntKind.u8 ((u : Int) % 256) 128 = ((u % 128 + 128 : Nat) : Int) := by
  rw [u8_or _ _ (by omega) (by omega) (by omega) (by omega)]
  have e : ((u : Int) % 256).toNat = u % 256 := by omega
  have e2 : (128 : Int).toNat = 128 := rfl
  rw [e, e2]
  have h : ∀ x : Fin 256, x.val ||| 128 = x.val % 128 + 128 := by decide +kernel
  have hx := h ⟨u % 256, Nat.mod_lt _ (by omega)⟩
  simp only at hx
  rw [hx]
  omega

set_option maxRecDepth 100000 in
theorem impl_any (n : Int) (w : World) (h1 : -9223372036854775808 ≤ n) (h2 : n ≤ 9223372036854775807) (u : Nat) (hu : fold n = (u : Int)) (hub : u < 18446744073709551616) :
    Calls Try.prog 56 #[.int .i64 n] w fun e w' => e = .returned (.string ⟨(num u).toArray⟩) ∧ Below w.heap.size w w' := by
  obtain ⟨i0, hi, hz0, hz1, hz2⟩ := info_parts info5
  go_enter Try.func56, Try.ntmps56
  go_wp2_with (go_at_call 83; refine (ifold_any _ _ h1 h2).mono ?_; rintro e w' ⟨rfl, rfl⟩)
  clear hu
  go_loopw [3, 4] (fun x v wr => ∃ (u' : Nat) (acc : List UInt8), x = .int .u64 u' ∧ (u' : Int) ≤ 18446744073709551615 ∧ acc.length ≤ 9 ∧ Hid (acc ++ num u' = num u) ∧ Hid (u' * 128 ^ acc.length < 18446744073709551616) ∧ wr.ownsRow w.heap.size 5 1 v acc.length (acc.map byteV) ∧ Below w.heap.size w wr)
    (fun x _ _ => (intOf x).toNat)
  case atStart => exact ⟨u, [], rfl, by omega, by simp, mkHid rfl, mkHid (by simpa using hub), World.ownsRow_nil _ _ _ _, Below.refl _ _⟩
  case round =>
    clear hub
    obtain ⟨u', acc, rfl, hub', hle, hnum, hpow, hown, hbel⟩ := hrel
    by_cases hlt : 128 ≤ u'
    · go_wp2_with ((at_builtin; refine wpList_append_own _ rfl _ _ 102 rfl w.heap.size 5 i0 (.int .u8 0) 1 1 Try.underlying102 hi hz0 hz1 hz2 rfl (by decide) _ _ _ rfl (hown.alloc _) ⟨wr.heap.size, 0, none⟩ 1 1 [.int .u8 (bits BinOp.or IntKind.u8 (↑u' % 256) 128)] rfl rfl ?c1 ?c2 ?c3 ?c4 ?c5 ?_))
      case c1 =>
        intro j u hj
        match j, hj with
        | 0, hj => simp at hj; subst hj; simp [Addr.add]
      case c2 => intro u hu; simp at hu; subst hu; rfl
      case c3 => unfold maxLen; omega
      case c4 => omega
      case c5 => have := hbel.size; simp; omega
      · intro v' w1 hown' hgrow _
        have r1 := row_more (UInt8.ofNat (u' % 128 + 128)) (by rw [toNat_ofNat (by omega)]; exact or_byte u') hown'
        have r2 := below_more rfl hbel hown hgrow
        have r3 : (acc ++ [UInt8.ofNat (u' % 128 + 128)]) ++ num (u' / 128) = num u := by rw [← hnum.out, num_big hlt]; simp
        have r4 := pow_next hpow.out
        have R3 := mkHid r3
        have R4 := mkHid r4
        clear r3 r4 hown' hgrow hown hbel hnum hpow
        go_wp2
        go_roundw
        case rel => exact ⟨u' / 128, _, by go_num, by omega, by simpa using pow_small R4.out (by omega), R3, mkHid (by simpa using R4.out), r1, r2⟩
        case measure => simp [intOf]; omega
    · go_wp2_with ((at_builtin; refine wpList_append_own _ rfl _ _ 102 rfl w.heap.size 5 i0 (.int .u8 0) 1 1 Try.underlying102 hi hz0 hz1 hz2 rfl (by decide) _ _ _ rfl (hown.alloc _) ⟨wr.heap.size, 0, none⟩ 1 1 [.int .u8 ↑u'] rfl rfl ?d1 ?d2 ?d3 ?d4 ?d5 ?_))
      case d1 =>
        intro j u hj
        match j, hj with
        | 0, hj => simp at hj; subst hj; simp [Addr.add]
      case d2 => intro u hu; simp at hu; subst hu; rfl
      case d3 => unfold maxLen; omega
      case d4 => omega
      case d5 => have := hbel.size; simp; omega
      · intro v' w1 hown' hgrow _
        have r1 := row_more (UInt8.ofNat u') (by rw [toNat_ofNat (by omega)]) hown'
        have r2 := below_more rfl hbel hown hgrow
        have r3 : acc ++ [UInt8.ofNat u'] = num u := by rw [← hnum.out, num_small (by omega)]
        rw [r3] at r1
        obtain ⟨g, cap, hv, hconv⟩ := owns_string Try.underlying102 Try.underlying5 Try.underlying9 r1 (by rw [← r3]; simp)
        clear r3 hown' hgrow hown hbel hnum hpow r1
        rw [hv]
        clear hv
        go_wp2
        go_ret
        exact ⟨rfl, r2⟩

end Go.Proofs.Ytlcdbkelonbcfaa.fnExactPutNum
