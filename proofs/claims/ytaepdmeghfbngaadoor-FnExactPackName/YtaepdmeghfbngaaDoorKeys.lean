/-
  What spec.l05Keys answers and leaves. No condition.
-/
import Derived.Test.YtaepdmeghfbngaaDoorShaP
import Derived.PlainAid
import Derived.Deep.QuietTactic
import Derived.BigQuiet
import Derived.BigRegion
import Derived.Deep.DeepCutAuto
namespace Go.Proofs.YtaepdmeghfbngaaDoor.sha
open Go.RowKit Go.Joins
open Go.Proofs.YtaepdmeghfbngaaDoor.base Go.Proofs.YtaepdmeghfbngaaDoor.word Go.Proofs.YtaepdmeghfbngaaDoor.ints
set_option linter.unusedVariables false

theorem keys_row : (.cells ((List.range 64).map fun i => Value.int .u32 (key i)).toArray 42 (0, 0) : Obj) = .cells (keys.map fun z => Value.int .u32 z).toArray 42 (0, 0) := by kernel_rfl

set_option maxRecDepth 100000 in
theorem keys_any (w : World) : Calls Tryd.prog 26 #[] w fun e w' => e = .returned (.slice (some ⟨w.heap.size, 0, none⟩) 64 64) ∧ w' = w.alloc (rowF .u32 42 64 key) := by
  go_enter Tryd.func26, Tryd.ntmps26
  go_wp2
  go_ret
  exact ⟨rfl, by unfold rowF; rw [keys_row]; rfl⟩

/-- byte i of a text, as a word -/
def b8 (s : ByteArray) (i : Nat) : Int := Go.PlainAid.bt s i % 4294967296
/-- word i of a text -/
def wordAt (s : ByteArray) (i : Nat) : Int := O (O (O (M (b8 s (4 * i)) 16777216) (M (b8 s (4 * i + 1)) 65536)) (M (b8 s (4 * i + 2)) 256)) (b8 s (4 * i + 3))

end Go.Proofs.YtaepdmeghfbngaaDoor.sha
