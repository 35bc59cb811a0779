/-
  laws.FnExactHexRead answers true at every text: impl.HexRead and spec.HexRead both answer the bytes that the digits tell, or code 3 where they tell none, or code 2 of a text of more than 20,000 bytes. No condition.
-/
import Derived.Test.YtobojmdgdomgpagReadI
namespace Go.Proofs.Ytobojmdgdomgpag.fnExactHexRead
open Go.ChangeShapes Go.WideShapes Go.ChangeAt Go.RowKit
open Go.Proofs.Ytobojmdgdomgpag.base
open Go.Proofs.Ytobojmdgdomgpag.fnExactHex (own)
open Go.ChangeMaps (open_string shut_string)
set_option linter.unusedVariables false

theorem eq_any (t : ByteArray) (x y : Int) (w : World) :
    Calls Try.prog 9 #[.agg #[.string t, .int .i64 x, .int .i64 y], .agg #[.string t, .int .i64 x, .int .i64 y]] w fun e w' => e = .returned (.bool true) ∧ Below w.heap.size w w' := by
  go_enter Try.func9, Try.ntmps9
  go_wp2
  go_ret
  exact ⟨rfl, ((Below.refl _ _).alloc (Nat.le_refl _) _).alloc (by simp) _⟩

set_option maxHeartbeats 400000 in
theorem walk (a0 : ByteArray) (w0 : a0.size ≤ maxLen) (w : World) :
    Calls Try.prog 4 #[.string a0] w fun e w' => e = .returned (.bool true) ∧ Below w.heap.size w w' := by
  by_cases hbig : 1048576 < a0.size
  · go_enter Try.func4, Try.ntmps4
    go_wp2
    go_ret
    exact ⟨rfl, Below.refl _ _⟩
  obtain ⟨t, x, y, hS, hI⟩ : ∃ (t : ByteArray) (x y : Int), (∀ wx, Calls Try.prog 7 #[.string a0] wx fun e w' => e = .returned (.agg #[.string t, .int .i64 x, .int .i64 y]) ∧ Below wx.heap.size wx w') ∧
      (∀ wx, Calls Try.prog 8 #[.string a0] wx fun e w' => e = .returned (.agg #[.string t, .int .i64 x, .int .i64 y]) ∧ Below wx.heap.size wx w') := by
    by_cases h : 20000 < a0.size
    · exact ⟨_, _, _, fun wx => spec_big a0 wx h (by omega), fun wx => impl_big a0 wx h (by omega)⟩
    · have hI : ∀ wx, Calls Try.prog 8 #[.string a0] wx fun e w' => e = .returned (out (hexRd a0.data.toList)) ∧ Below wx.heap.size wx w' := by
        intro wx
        rcases Nat.mod_two_eq_zero_or_one a0.size with h2 | h2
        · exact impl_any a0 (a0.size / 2) wx (by omega) (by omega)
        · exact impl_odd a0 wx h2 (by omega)
      have hS := fun wx => spec_any a0 wx (by omega)
      cases hr : hexRd a0.data.toList with
      | none => rw [hr] at hI hS; exact ⟨_, _, _, hS, hI⟩
      | some l => rw [hr] at hI hS; exact ⟨_, _, _, hS, hI⟩
  have HS := mkHid hS
  have HI := mkHid hI
  clear hS hI
  go_enter Try.func4, Try.ntmps4
  go_wp2_with fail
  refine (HS.out _).mono ?_
  rintro e w1 ⟨rfl, hb1⟩
  go_wp2_with fail
  refine (HI.out _).mono ?_
  rintro e w2 ⟨rfl, hb2⟩
  have hs1 := hb1.size
  have hs2 := hb2.size
  simp only [World.size_alloc] at hs2
  have c0 : w2.cell? ⟨w1.heap.size, 0, none⟩ = some (.string t) := (hb2.cell (by simp)).trans (by simp)
  have c1 : w2.cell? ⟨w1.heap.size, 1, none⟩ = some (.int .i64 x) := (hb2.cell (by simp)).trans (by simp)
  have c2 : w2.cell? ⟨w1.heap.size, 2, none⟩ = some (.int .i64 y) := (hb2.cell (by simp)).trans (by simp)
  have hlt : w1.heap.size < w2.heap.size := by omega
  have hb : Below w.heap.size w w2 := (hb1.alloc hs1 _).trans (hb2.mono (by simp; omega))
  have HB := mkHid hb
  clear hb1 hb2 hb
  go_wp2_with fail
  refine (eq_any t x y _).mono ?_
  rintro e w3 ⟨rfl, hb3⟩
  have hbb := (HB.out.alloc (by omega) _).trans (hb3.mono (by simp; omega))
  clear hb3 c0 c1 c2
  go_wp2
  go_ret
  exact ⟨rfl, hbb⟩

set_option maxRecDepth 100000 in
theorem lifted (os : Os) (started : os.Started) (H : Type) (enc : TypeId × Value → H) :
    ReturnsInHanded {} Try.checked os 4 .any (Rows.fnExactHexReadSpec.pre6 enc Try.prog Try.f4 Rows.fnExactHexReadRow.domain false) (Rows.fnExactHexReadSpec.post enc Try.prog Try.f4 false true false false) := by
  refine returnsInHanded_of_change (C := Try.checked) own started (by kernel_rfl) Try.func4
    (ChangeSpec.witness6 (enc := enc) (C := Try.checked) false ⟨#[], #[.string ByteArray.empty], []⟩ 8 (by kernel_rfl) (by kernel_rfl) (by kernel_rfl) (by kernel_rfl)) ?_
  intro W base args ds gs before hval0 hW hcnd _
  have hval : ∀ (j : Nat) t v, Try.f4.params[j]? = some t → args[j]? = some v → Value.okWide Try.prog W .any base t v := hval0
  have hW' := hW
  obtain ⟨p, q, hA0, hV, rfl, hfz, hnd⟩ := hW
  have hA : DataW.TrodAll enc Try.prog W 0 (fun _ => true) true Try.f4.params.toList args.toList ds p := hA0
  rw [Try.params4] at hA hval
  obtain ⟨v0, vs0, d0, ds0, p0, q0, hargs, rfl, rfl, h0, r0⟩ := trodAll_cons hA
  obtain ⟨rfl, rfl, rfl⟩ := trodAll_nil r0
  obtain rfl : args = #[v0] := by cases args; simp_all
  obtain ⟨rfl, rfl⟩ := trodVars_none hV
  obtain ⟨a0, rfl, rfl, rfl, w0⟩ := open_string Try.underlying9 (hval 0 9 v0 rfl rfl) h0
  clear hA0 hval0
  refine (walk a0 w0 W).mono fun e W' ⟨he, hg⟩ => ?_
  subst he
  exact ⟨_, rfl, _, _, _, [], _, [], hW', (trodAll_cons_mk (shut_bool Try.underlying4 _) trodAll_mk0), (trodAll_cons_mk (shut_string Try.underlying9 w0) trodAll_mk0), rfl, hg.frame _, fun h => by cases h⟩

theorem over : Rows.fnExactHexReadRow.holds Try.pinned (OpenSpec.ofChange Rows.fnExactHexReadSpec) :=
  OpenClaim.holds_of_wide 4 Try.f4 rfl rfl rfl rfl rfl rfl rfl ⟨rfl, rfl, rfl, rfl, rfl⟩ rfl rfl rfl rfl rfl (by kernel_rfl) Try.func4 (by kernel_rfl)
    (of_decide_eq_true (by kernel_rfl)) (by unfold Func.isWrapper; first | (rw [if_pos (by decide +kernel)]; kernel_rfl) | (rw [if_neg (by decide +kernel)]; exact ⟨rfl, rfl⟩))
    (fun os started H enc _ => lifted os started H enc)

theorem proved : Rows.FnExactHexReadSaid :=
  over
end Go.Proofs.Ytobojmdgdomgpag.fnExactHexRead
