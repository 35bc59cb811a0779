/-
  laws.FnExactPutText answers true at every text: impl.PutText and spec.PutText both answer the bytes of the text's length and then the text, or, of a text of more than 20,000 bytes, the empty one. No condition.
-/
import Derived.Test.YtobojmdgdomgpafNum
namespace Go.Proofs.Ytobojmdgdomgpaf.fnExactPutText
open Go.ChangeShapes Go.WideShapes Go.ChangeAt Go.RowKit
open Go.Proofs.Ytobojmdgdomgpaf.base
open Go.ChangeMaps (open_string shut_string)
set_option linter.unusedVariables false

theorem own : ownKnob Try.prog.godebug = none := by kernel_rfl

theorem num_len (u : Nat) : (num u).length ≤ u + 1 := by
  induction u using Nat.strongRecOn with
  | _ u ih =>
    rcases Nat.lt_or_ge u 128 with h | h
    · rw [num_small h]; simp
    · rw [num_big h]
      have := ih (u / 128) (by omega)
      simp only [List.length_cons]
      omega

/-- the bytes of a length -/
def pre (n : Nat) : ByteArray := ⟨(num (2 * n)).toArray⟩
theorem pre_size (n : Nat) : (pre n).size ≤ 2 * n + 1 := by
  have h := num_len (2 * n)
  simpa [pre, ByteArray.size] using h

theorem spec_big (s : ByteArray) (w : World) (h : 20000 < s.size) (hs : s.size ≤ 1048576) :
    Calls Try.prog 8 #[.string s] w fun e w' => e = .returned (.string ByteArray.empty) ∧ Below w.heap.size w w' := by
  go_enter Try.func8, Try.ntmps8
  go_wp2
  go_ret
  exact ⟨rfl, Below.refl _ _⟩
theorem spec_any (s : ByteArray) (w : World) (hs : s.size ≤ 20000) :
    Calls Try.prog 8 #[.string s] w fun e w' => e = .returned (.string (pre s.size ++ s)) ∧ Below w.heap.size w w' := by
  have hp := pre_size s.size
  have hC : ∀ wx, Calls Try.prog 6 #[.int .i64 s.size] wx fun e w' => e = .returned (.string (pre s.size)) ∧ Below wx.heap.size wx w' := fun wx =>
    fnExactPutNum.spec_any s.size wx (by omega) (by omega) (2 * s.size) (by unfold fnExactPutNum.fold; rw [if_neg (by omega)]; omega) (by omega)
  generalize pre s.size = p at *
  have HC := mkHid hC
  clear hC
  have hsum : p.size + s.size ≤ 9223372036854775807 := by omega
  have hadd := fun wx => run_string_add_sum (P := Try.prog) wx p s hsum
  go_enter Try.func8, Try.ntmps8
  go_wp2_with fail
  refine (HC.out _).mono ?_
  rintro e w1 ⟨rfl, hb⟩
  go_wp2
  go_ret
  exact ⟨rfl, hb⟩

theorem impl_big (s : ByteArray) (w : World) (h : 20000 < s.size) (hs : s.size ≤ 1048576) :
    Calls Try.prog 9 #[.string s] w fun e w' => e = .returned (.string ByteArray.empty) ∧ Below w.heap.size w w' := by
  go_enter Try.func9, Try.ntmps9
  go_wp2
  go_ret
  exact ⟨rfl, Below.refl _ _⟩
theorem impl_any (s : ByteArray) (w : World) (hs : s.size ≤ 20000) :
    Calls Try.prog 9 #[.string s] w fun e w' => e = .returned (.string (pre s.size ++ s)) ∧ Below w.heap.size w w' := by
  have hp := pre_size s.size
  have hC : ∀ wx, Calls Try.prog 7 #[.int .i64 s.size] wx fun e w' => e = .returned (.string (pre s.size)) ∧ Below wx.heap.size wx w' := fun wx =>
    fnExactPutNum.impl_any s.size wx (by omega) (by omega) (2 * s.size) (by unfold fnExactPutNum.fold; rw [if_neg (by omega)]; omega) (by omega)
  generalize pre s.size = p at *
  have HC := mkHid hC
  clear hC
  have hsum : p.size + s.size ≤ 9223372036854775807 := by omega
  have hadd := fun wx => run_string_add_sum (P := Try.prog) wx p s hsum
  go_enter Try.func9, Try.ntmps9
  go_wp2_with fail
  refine (HC.out _).mono ?_
  rintro e w1 ⟨rfl, hb⟩
  go_wp2
  go_ret
  exact ⟨rfl, hb⟩

set_option maxHeartbeats 400000 in
theorem walk (a0 : ByteArray) (w0 : a0.size ≤ maxLen) (w : World) :
    Calls Try.prog 4 #[.string a0] w fun e w' => e = .returned (.bool true) ∧ Below w.heap.size w w' := by
  by_cases hbig : 1048576 < a0.size
  · go_enter Try.func4, Try.ntmps4
    go_wp2
    go_ret
    exact ⟨rfl, Below.refl _ _⟩
  obtain ⟨r, hS, hI⟩ : ∃ r : ByteArray, (∀ wx, Calls Try.prog 8 #[.string a0] wx fun e w' => e = .returned (.string r) ∧ Below wx.heap.size wx w') ∧
      (∀ wx, Calls Try.prog 9 #[.string a0] wx fun e w' => e = .returned (.string r) ∧ Below wx.heap.size wx w') := by
    by_cases h : 20000 < a0.size
    · exact ⟨_, fun wx => spec_big a0 wx h (by omega), fun wx => impl_big a0 wx h (by omega)⟩
    · exact ⟨_, fun wx => spec_any a0 wx (by omega), fun wx => impl_any a0 wx (by omega)⟩
  have HS := mkHid hS
  have HI := mkHid hI
  clear hS hI
  go_enter Try.func4, Try.ntmps4
  go_wp2_with fail
  refine (HS.out _).mono ?_
  rintro e w1 ⟨rfl, hb1⟩
  go_wp2_with fail
  refine (HI.out _).mono ?_
  rintro e w2 ⟨rfl, hb2⟩
  have hs := hb1.size
  have hb := hb1.trans (hb2.mono hs)
  clear hb1 hb2 hs
  go_wp2
  go_ret
  exact ⟨rfl, hb⟩

set_option maxRecDepth 100000 in
theorem lifted (os : Os) (started : os.Started) (H : Type) (enc : TypeId × Value → H) :
    ReturnsInHanded {} Try.checked os 4 .any (Rows.fnExactPutTextSpec.pre6 enc Try.prog Try.f4 Rows.fnExactPutTextRow.domain false) (Rows.fnExactPutTextSpec.post enc Try.prog Try.f4 false true false false) := by
  refine returnsInHanded_of_change (C := Try.checked) own started (by kernel_rfl) Try.func4
    (ChangeSpec.witness6 (enc := enc) (C := Try.checked) false ⟨#[], #[.string ByteArray.empty], []⟩ 8 (by kernel_rfl) (by kernel_rfl) (by kernel_rfl) (by kernel_rfl)) ?_
  intro W base args ds gs before hval0 hW hcnd _
  have hval : ∀ (j : Nat) t v, Try.f4.params[j]? = some t → args[j]? = some v → Value.okWide Try.prog W .any base t v := hval0
  have hW' := hW
  obtain ⟨p, q, hA0, hV, rfl, hfz, hnd⟩ := hW
  have hA : DataW.TrodAll enc Try.prog W 0 (fun _ => true) true Try.f4.params.toList args.toList ds p := hA0
  rw [Try.params4] at hA hval
  obtain ⟨v0, vs0, d0, ds0, p0, q0, hargs, rfl, rfl, h0, r0⟩ := trodAll_cons hA
  obtain ⟨rfl, rfl, rfl⟩ := trodAll_nil r0
  obtain rfl : args = #[v0] := by cases args; simp_all
  obtain ⟨rfl, rfl⟩ := trodVars_none hV
  obtain ⟨a0, rfl, rfl, rfl, w0⟩ := open_string Try.underlying9 (hval 0 9 v0 rfl rfl) h0
  clear hA0 hval0
  refine (walk a0 w0 W).mono fun e W' ⟨he, hg⟩ => ?_
  subst he
  exact ⟨_, rfl, _, _, _, [], _, [], hW', trodAll_mk1 (shut_bool Try.underlying4 _), (trodAll_cons_mk (shut_string Try.underlying9 w0) trodAll_mk0), rfl, hg.frame _, fun h => by cases h⟩

theorem over : Rows.fnExactPutTextRow.holds Try.pinned (OpenSpec.ofChange Rows.fnExactPutTextSpec) :=
  OpenClaim.holds_of_wide 4 Try.f4 rfl rfl rfl rfl rfl rfl rfl ⟨rfl, rfl, rfl, rfl, rfl⟩ rfl rfl rfl rfl rfl (by kernel_rfl) Try.func4 (by kernel_rfl)
    (of_decide_eq_true (by kernel_rfl)) (by unfold Func.isWrapper; first | (rw [if_pos (by decide +kernel)]; kernel_rfl) | (rw [if_neg (by decide +kernel)]; exact ⟨rfl, rfl⟩))
    (fun os started H enc _ => lifted os started H enc)

theorem proved : Rows.FnExactPutTextSaid :=
  over
end Go.Proofs.Ytobojmdgdomgpaf.fnExactPutText
