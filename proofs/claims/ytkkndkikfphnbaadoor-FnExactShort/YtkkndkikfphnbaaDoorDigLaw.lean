/-
  laws.FnExactDigest and laws.FnExactShort answer true at every text, where the program's Digest and Short answer as told; nothing that was there turns. Conditions: what the program's two calls answer; the numbers of the rounds are there.
-/
import Derived.Test.YtkkndkikfphnbaaDoorHImpl
namespace Go.Proofs.YtkkndkikfphnbaaDoor.himpl
open Go.RowKit Go.Joins
open Go.Proofs.YtkkndkikfphnbaaDoor.base Go.Proofs.YtkkndkikfphnbaaDoor.ints Go.Proofs.YtkkndkikfphnbaaDoor.blk
open Go.Proofs.YtkkndkikfphnbaaDoor.sha (hRight endH digest short moreH startL GV)
set_option linter.unusedVariables false

set_option maxRecDepth 100000 in
theorem digest_walk (I : IDigest) (t : ByteArray) (w : World) (hG : GV w) (ht : (t.size : Int) ≤ 9223372036854775807) :
    Calls Tryd.prog 4 #[.string t] w fun e w' => e = .returned (.bool true) ∧ Below w.heap.size w w' := by
  go_enter Tryd.func4, Tryd.ntmps4
  by_cases h : 1048576 < (t.size : Int)
  · go_wp2
    go_ret
    exact ⟨rfl, Below.refl _ _⟩
  · have II := mkHid I
    have GG := mkHid hG
    clear I hG
    go_wp2_with fail
    refine (sha.digest_any t _ (by omega)).mono ?_
    rintro e w1 ⟨rfl, hb1⟩
    have B1 := mkHid hb1
    clear hb1
    go_wp2_with fail
    refine (II.out t _ (by omega) (GG.out.at B1.out)).mono ?_
    rintro e w2 ⟨rfl, hb2⟩
    have B2 := mkHid (B1.out.trans (hb2.mono B1.out.size))
    clear hb2
    generalize digest t = d at *
    go_wp2
    go_ret
    exact ⟨rfl, B2.out⟩

set_option maxRecDepth 100000 in
theorem short_walk (I : IShort) (t : ByteArray) (w : World) (hG : GV w) (ht : (t.size : Int) ≤ 9223372036854775807) :
    Calls Tryd.prog 7 #[.string t] w fun e w' => e = .returned (.bool true) ∧ Below w.heap.size w w' := by
  go_enter Tryd.func7, Tryd.ntmps7
  by_cases h : 1048576 < (t.size : Int)
  · go_wp2
    go_ret
    exact ⟨rfl, Below.refl _ _⟩
  · have II := mkHid I
    have GG := mkHid hG
    clear I hG
    go_wp2_with fail
    refine (sha.short_any t _ (by omega)).mono ?_
    rintro e w1 ⟨rfl, hb1⟩
    have B1 := mkHid hb1
    clear hb1
    go_wp2_with fail
    refine (II.out t _ (by omega) (GG.out.at B1.out)).mono ?_
    rintro e w2 ⟨rfl, hb2⟩
    have B2 := mkHid (B1.out.trans (hb2.mono B1.out.size))
    clear hb2
    generalize short t = d at *
    go_wp2
    go_ret
    exact ⟨rfl, B2.out⟩
end Go.Proofs.YtkkndkikfphnbaaDoor.himpl
