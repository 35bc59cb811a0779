/-
  laws.FnExactPutText answers true at every text: impl.PutText and spec.PutText both answer the bytes of the text's length and then the text, or, of a text of more than 20,000 bytes, the empty one. No condition.
-/
import Derived.Test.YtlcdbkelonbcfaaPutNum
namespace Go.Proofs.Ytlcdbkelonbcfaa.fnExactPutText
open Go.ChangeShapes Go.WideShapes Go.ChangeAt Go.RowKit
open Go.Proofs.Ytlcdbkelonbcfaa.base
open Go.ChangeMaps (open_string shut_string)
set_option linter.unusedVariables false

theorem own : ownKnob Try.prog.godebug = none := by kernel_rfl

theorem num_len (u : Nat) : (num u).length ≤ u + 1 := by
  induction u using Nat.strongRecOn with
  | _ u ih =>
    rcases Nat.lt_or_ge u 128 with h | h
    · rw [num_small h]; simp
    · rw [num_big h]
      have := ih (u / 128) (by omega)
      simp only [List.length_cons]
      omega

/-- the bytes of a length -/
def pre (n : Nat) : ByteArray := ⟨(num (2 * n)).toArray⟩
theorem pre_size (n : Nat) : (pre n).size ≤ 2 * n + 1 := by
  have h := num_len (2 * n)
  simpa [pre, ByteArray.size] using h

theorem spec_big (s : ByteArray) (w : World) (h : 20000 < s.size) (hs : s.size ≤ 1048576) :
    Calls Try.prog 53 #[.string s] w fun e w' => e = .returned (.string ByteArray.empty) ∧ Below w.heap.size w w' := by
  go_enter Try.func53, Try.ntmps53
  go_wp2
  go_ret
  exact ⟨rfl, Below.refl _ _⟩
theorem spec_any (s : ByteArray) (w : World) (hs : s.size ≤ 20000) :
    Calls Try.prog 53 #[.string s] w fun e w' => e = .returned (.string (pre s.size ++ s)) ∧ Below w.heap.size w w' := by
  have hp := pre_size s.size
  have hC : ∀ wx, Calls Try.prog 54 #[.int .i64 s.size] wx fun e w' => e = .returned (.string (pre s.size)) ∧ Below wx.heap.size wx w' := fun wx =>
    fnExactPutNum.spec_any s.size wx (by omega) (by omega) (2 * s.size) (by unfold fnExactPutNum.fold; rw [if_neg (by omega)]; omega) (by omega)
  generalize pre s.size = p at *
  have HC := mkHid hC
  clear hC
  have hsum : p.size + s.size ≤ 9223372036854775807 := by omega
  have hadd := fun wx => run_string_add_sum (P := Try.prog) wx p s hsum
  go_enter Try.func53, Try.ntmps53
  go_wp2_with fail
  refine (HC.out _).mono ?_
  rintro e w1 ⟨rfl, hb⟩
  go_wp2
  go_ret
  exact ⟨rfl, hb⟩

theorem impl_big (s : ByteArray) (w : World) (h : 20000 < s.size) (hs : s.size ≤ 1048576) :
    Calls Try.prog 55 #[.string s] w fun e w' => e = .returned (.string ByteArray.empty) ∧ Below w.heap.size w w' := by
  go_enter Try.func55, Try.ntmps55
  go_wp2
  go_ret
  exact ⟨rfl, Below.refl _ _⟩
theorem impl_any (s : ByteArray) (w : World) (hs : s.size ≤ 20000) :
    Calls Try.prog 55 #[.string s] w fun e w' => e = .returned (.string (pre s.size ++ s)) ∧ Below w.heap.size w w' := by
  have hp := pre_size s.size
  have hC : ∀ wx, Calls Try.prog 56 #[.int .i64 s.size] wx fun e w' => e = .returned (.string (pre s.size)) ∧ Below wx.heap.size wx w' := fun wx =>
    fnExactPutNum.impl_any s.size wx (by omega) (by omega) (2 * s.size) (by unfold fnExactPutNum.fold; rw [if_neg (by omega)]; omega) (by omega)
  generalize pre s.size = p at *
  have HC := mkHid hC
  clear hC
  have hsum : p.size + s.size ≤ 9223372036854775807 := by omega
  have hadd := fun wx => run_string_add_sum (P := Try.prog) wx p s hsum
  go_enter Try.func55, Try.ntmps55
  go_wp2_with fail
  refine (HC.out _).mono ?_
  rintro e w1 ⟨rfl, hb⟩
  go_wp2
  go_ret
  exact ⟨rfl, hb⟩

end Go.Proofs.Ytlcdbkelonbcfaa.fnExactPutText
