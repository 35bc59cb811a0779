/-
  What strings.Compare and impl.comparePlaces answer and leave. No condition.
-/
import Derived.Test.YtlcdbkelonbcfaaPlcP
import Derived.Lib.Bytealg
namespace Go.Proofs.Ytlcdbkelonbcfaa.plc
open Go.RowKit Go.Joins
open Go.Proofs.Ytlcdbkelonbcfaa.base Go.Proofs.Ytlcdbkelonbcfaa.blk Go.Proofs.Ytlcdbkelonbcfaa.aid
open Go.Proofs.Ytlcdbkelonbcfaa.ord
set_option linter.unusedVariables false

theorem cel5 {w : World} {g : Nat} {a b c d e : Value} {t : TypeId} {z : Nat × Nat} (h : w.heap[g]? = some (.cells #[a, b, c, d, e] t z)) : w.cell? ⟨g, 0, none⟩ = some a ∧ w.cell? ⟨g, 1, none⟩ = some b ∧ w.cell? ⟨g, 2, none⟩ = some c ∧ w.cell? ⟨g, 3, none⟩ = some d ∧ w.cell? ⟨g, 4, none⟩ = some e := by
  simp [World.cell?, h]
theorem below_drewN {B n : Nat} {w V : World} (h : Below B w V) : Below B w (V.drewN n) := ⟨h.os, h.tape, h.output, h.size, h.block⟩
theorem below_trans {w W V : World} (h : Below w.heap.size w W) (h2 : Below W.heap.size W V) : Below w.heap.size w V := h.trans (h2.mono h.size)
set_option maxRecDepth 100000 in
theorem compareString_any (a b : ByteArray) (w : World) :
    Calls Try.prog 121 #[.string a, .string b] w fun e w' => e = .returned (.int .i64 (cmpB a b)) ∧ w' = w := by
  go_enter Try.func121, Try.ntmps121
  go_wp2
  rw [run_callFunc_extern Try.func128 (by kernel_rfl) (by kernel_rfl) (by kernel_rfl) (e := Extern.BytealgCompare.compare) (by kernel_rfl), Lib.run_compareString]
  simp only [Result.andThen]
  rw [Oper.upon_value]
  go_wp2
  go_ret
  exact ⟨rfl, rfl⟩
set_option maxRecDepth 100000 in
theorem compare_any (a b : ByteArray) (w : World) :
    Calls Try.prog 100 #[.string a, .string b] w fun e w' => e = .returned (.int .i64 (cmpB a b)) ∧ w' = w := by
  go_enter Try.func100, Try.ntmps100
  go_wp2_with (go_at_call 121; refine (compareString_any _ _ _).mono ?_; rintro e w' ⟨rfl, rfl⟩)
  go_ret
  exact ⟨rfl, rfl⟩
def plV (p : Pl) : Value := .agg #[.string p.1, .string p.2.1, .int .i64 p.2.2.1, .int .i64 p.2.2.2.1, .int .i64 p.2.2.2.2]
def plO (p : Pl) : Obj := .cells #[.string p.1, .string p.2.1, .int .i64 p.2.2.1, .int .i64 p.2.2.2.1, .int .i64 p.2.2.2.2] 40
/-- two boxes are laid: its parameters -/
theorem comparePlaces_any (a b : Pl) (w : World) :
    Calls Try.prog 77 #[plV a, plV b] w fun e w' => e = .returned (.int .i64 (cmpP a b)) ∧ w' = (w.alloc (plO a)).alloc (plO b) := by
  obtain ⟨a0, a1, a2, a3, a4⟩ := a
  obtain ⟨b0, b1, b2, b3, b4⟩ := b
  unfold plV plO
  have HC := mkHid (fun wx => compare_any a0 b0 wx)
  have HD := mkHid (fun wx => compare_any a1 b1 wx)
  by_cases h : cmpB a0 b0 = 0
  · have e : cmpP (a0, a1, a2, a3, a4) (b0, b1, b2, b3, b4) = cmpB a1 b1 := by unfold cmpP; rw [if_pos h]
    rw [e]
    rw [h] at HC
    generalize cmpB a1 b1 = z at *
    clear e h
    go_enter Try.func77, Try.ntmps77
    go_wp2_with fail
    refine (HC.out _).mono ?_
    rintro e w1 ⟨rfl, rfl⟩
    go_wp2_with fail
    refine (HD.out _).mono ?_
    rintro e w1 ⟨rfl, rfl⟩
    go_wp2
    go_ret
    exact ⟨rfl, rfl⟩
  · have e : cmpP (a0, a1, a2, a3, a4) (b0, b1, b2, b3, b4) = cmpB a0 b0 := by unfold cmpP; rw [if_neg h]
    rw [e]
    have h0 : (cmpB a0 b0 != 0) = true := by simpa using h
    generalize cmpB a0 b0 = z at *
    clear e
    go_enter Try.func77, Try.ntmps77
    go_wp2_with fail
    refine (HC.out _).mono ?_
    rintro e w1 ⟨rfl, rfl⟩
    go_wp2
    go_ret
    exact ⟨rfl, rfl⟩
end Go.Proofs.Ytlcdbkelonbcfaa.plc
