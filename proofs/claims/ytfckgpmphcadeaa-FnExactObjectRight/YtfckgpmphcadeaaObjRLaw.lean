/-
  laws.FnExactObjectRight answers true at every text, and leaves what was there as it was. No condition.
-/
import Derived.Test.YtfckgpmphcadeaaObjR
namespace Go.Proofs.Ytfckgpmphcadeaa.arr
open Go.RowKit Go.Joins
open Go.Proofs.Ytfckgpmphcadeaa.base Go.Proofs.Ytfckgpmphcadeaa.blk Go.Proofs.Ytfckgpmphcadeaa.aid
set_option linter.unusedVariables false

theorem obj_walk (s : ByteArray) (w : World) (h1 : (s.size : Int) ≤ 9223372036854775807) :
    Calls Try.prog 6 #[.string s] w fun e w' => e = .returned (.bool true) ∧ Below w.heap.size w w' := by
  go_enter Try.func6, Try.ntmps6
  by_cases hb : (1048576 : Int) < (s.size : Int)
  · go_wp2
    go_ret
    exact ⟨rfl, Below.refl _ _⟩
  · have hs : s.size ≤ 1048576 := by omega
    have HS := mkHid (fun wx => objS_any s wx hs)
    have HI := mkHid (fun wx => objI_any s wx hs)
    generalize objB s = b at *
    have hbb : (b != b) = false := by cases b <;> rfl
    go_wp2_with fail
    refine (HS.out _).mono ?_
    rintro e w1 ⟨rfl, rfl⟩
    go_wp2_with fail
    refine (HI.out _).mono ?_
    rintro e w1 ⟨rfl, rfl⟩
    go_wp2
    go_ret
    exact ⟨rfl, Below.refl _ _⟩
end Go.Proofs.Ytfckgpmphcadeaa.arr
