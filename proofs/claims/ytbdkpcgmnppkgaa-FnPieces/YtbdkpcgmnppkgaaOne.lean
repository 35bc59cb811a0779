/-
  A yes or no that is drawn: (*l01Src).one: what it answers and leaves. Condition: the source lies in one block of its own.
-/
import Derived.Test.YtbdkpcgmnppkgaaSource
namespace Go.Proofs.Ytbdkpcgmnppkgaa.draw
open Go.RowKit
open Go.Proofs.Ytbdkpcgmnppkgaa.base
set_option linter.unusedVariables false

/-- a yes or no is drawn -/
def DrewBool (w : World) (g : Nat) (e : Ending) (w' : World) : Prop :=
  ∃ b : Bool, e = .returned (.bool b) ∧ SrcAt w' g ∧ w.grownBy w' (some g)

theorem one_any (g : Nat) (n : Int) (w : World) (hn : n ≤ 9223372036854775807) (h : SrcAt w g) :
    Calls Try.prog 55 #[.pointer (some ⟨g, 0, none⟩), .int .i64 n] w fun e w' => DrewBool w g e w' := by
  go_enter Try.func55, Try.ntmps55
  go_wp2_with fail
  refine (n_any g n w hn h).mono ?_
  rintro e w1 ⟨r, rfl, _, _, _, hs1, hg1⟩
  have H := mkHid (And.intro hs1 hg1)
  clear hs1 hg1 h
  go_wp2
  all_goals go_ret
  all_goals exact ⟨_, rfl, H.out.1, H.out.2⟩

end Go.Proofs.Ytbdkpcgmnppkgaa.draw
