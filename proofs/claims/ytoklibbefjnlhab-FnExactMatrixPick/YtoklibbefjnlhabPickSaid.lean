/-
  FnExactMatrixPickSaid: at every matrix and all rows impl.MatrixPick answers as spec.MatrixPick, in every field, changes nothing that was handed in, and its answer owns its memory. No condition.
-/
import Derived.Test.YtoklibbefjnlhabPickLaw
import Derived.Test.YtoklibbefjnlhabCame
namespace Go.Proofs.Ytoklibbefjnlhab.fnExactMatrixPick
open Go.ChangeShapes Go.WideShapes Go.ChangeAt Go.RowKit Go.Joins
open Go.Proofs.Ytoklibbefjnlhab.base Go.Proofs.Ytoklibbefjnlhab.ints Go.Proofs.Ytoklibbefjnlhab.mats Go.Proofs.Ytoklibbefjnlhab.right Go.Proofs.Ytoklibbefjnlhab.came
set_option linter.unusedVariables false

theorem own : ownKnob Try.prog.godebug = none := by kernel_rfl
theorem laidOut : laidOutB Try.prog = true := by kernel_rfl

set_option maxRecDepth 100000 in
theorem walk (R C : Int) (a : Option Addr) (cap : Nat) (zs : List Int) (b : Option Addr) (capb : Nat) (rs : List Int) (w : World) (hl : (zs.length : Int) ≤ 9223372036854775807) (hlr : (rs.length : Int) ≤ 9223372036854775807) (hr : Rd w a zs) (hrs : Rd w b rs) :
    Calls Try.prog 4 #[mat R C a zs.length cap, .slice b rs.length capb] w fun e w' => e = .returned (.bool true) ∧ Below w.heap.size w w' := by
  by_cases h1 : 1048576 < rs.length
  · have h1i : 1048576 < (rs.length : Int) := by omega
    unfold mat
    clear hr hrs hl
    go_enter Try.func4, Try.ntmps4
    go_wp2
    go_ret
    exact ⟨rfl, below_alloc1 w _⟩
  by_cases h0 : 1048576 < zs.length
  · have h1i : (rs.length : Int) ≤ 1048576 := by omega
    unfold mat
    go_enter Try.func4, Try.ntmps4
    go_wp2_with fail
    refine (szM_any R C a zs.length cap _ _ hl (by omega) (by omega)).mono ?_
    rintro e w1 ⟨rfl, hb1⟩
    rw [if_pos (by omega)]
    have B := mkHid (below_allocs (os := [_]) hb1)
    clear hb1 hr hrs hl
    go_wp2
    go_ret
    exact ⟨rfl, B.out⟩
  · exact walk_in R C a cap zs b capb rs w (by omega) (by omega) hr hrs

set_option maxRecDepth 100000 in
theorem lifted (os : Os) (started : os.Started) (H : Type) (enc : TypeId × Value → H) :
    ReturnsInHanded {} Try.checked os 4 .any (Rows.fnExactMatrixPickSpec.pre6 enc Try.prog Try.f4 Rows.fnExactMatrixPickRow.domain false) (Rows.fnExactMatrixPickSpec.post enc Try.prog Try.f4 false true false false) := by
  refine returnsInHanded_of_change (C := Try.checked) own started (by kernel_rfl) Try.func4
    (ChangeSpec.witness6 (enc := enc) (C := Try.checked) false ⟨#[], #[.agg #[.int .i64 0, .int .i64 0, .slice none 0 0], .slice none 0 0], []⟩ 8 (by kernel_rfl) (by kernel_rfl) (by kernel_rfl) (by kernel_rfl)) ?_
  intro W base args ds gs before hval0 hW hcnd _
  have hval : ∀ (j : Nat) t v, Try.f4.params[j]? = some t → args[j]? = some v → Value.okWide Try.prog W .any base t v := hval0
  have hW' := hW
  obtain ⟨p, q, hA0, hV, rfl, hfz, hnd⟩ := hW
  have hA : DataW.TrodAll enc Try.prog W 0 (fun _ => true) true Try.f4.params.toList args.toList ds p := hA0
  rw [Try.params4] at hA hval
  obtain ⟨v0, vs0, d0, ds0, p0, q0, hargs, rfl, rfl, h0, r0⟩ := trodAll_cons hA
  obtain ⟨v1, vs1, d1, ds1, p1, q1, rfl, rfl, rfl, h1, r1⟩ := trodAll_cons r0
  obtain ⟨rfl, rfl, rfl⟩ := trodAll_nil r1
  obtain rfl : args = #[v0, v1] := by cases args; simp_all
  obtain ⟨rfl, rfl⟩ := trodVars_none hV
  have k0 := h0
  have lt0 : ∀ x ∈ p0, x.block < W.heap.size := by obtain ⟨m, hm⟩ := k0; exact DataW.trod_lt m _ _ _ hm
  have k1 := h1
  have lt1 : ∀ x ∈ p1, x.block < W.heap.size := by obtain ⟨m, hm⟩ := k1; exact DataW.trod_lt m _ _ _ hm
  obtain ⟨R, C, a, cap, zs, rfl, hr, hl⟩ := mat_came (hval 0 24 v0 rfl rfl) h0
  obtain ⟨b, capb, rs, rfl, hrs, hlr⟩ := ints_came (hval 1 22 v1 rfl rfl) h1
  clear hA0 hval0
  refine (walk R C a cap zs b capb rs W hl hlr hr hrs).mono fun e W' ⟨he, bel⟩ => ?_
  subst he
  exact ⟨_, rfl, _, _, _, [], _, [], hW', trodAll_mk1 (shut_bool Try.underlying4 _), (trodAll_cons_mk (Below.trod laidOut (by kernel_rfl) (of_decide_eq_true (by kernel_rfl)) k0 bel lt0) (trodAll_cons_mk (Below.trod laidOut (by kernel_rfl) (of_decide_eq_true (by kernel_rfl)) k1 bel lt1) trodAll_mk0)), rfl, bel.frame _, fun h => by cases h⟩

theorem over : Rows.fnExactMatrixPickRow.holds Try.pinned (OpenSpec.ofChange Rows.fnExactMatrixPickSpec) :=
  OpenClaim.holds_of_wide 4 Try.f4 rfl rfl rfl rfl rfl rfl rfl ⟨rfl, rfl, rfl, rfl, rfl⟩ rfl rfl rfl rfl rfl (by kernel_rfl) Try.func4 (by kernel_rfl)
    (of_decide_eq_true (by kernel_rfl)) (by unfold Func.isWrapper; first | (rw [if_pos (by decide +kernel)]; kernel_rfl) | (rw [if_neg (by decide +kernel)]; exact ⟨rfl, rfl⟩))
    (fun os started H enc _ => lifted os started H enc)

theorem proved : Rows.FnExactMatrixPickSaid := over
end Go.Proofs.Ytoklibbefjnlhab.fnExactMatrixPick
