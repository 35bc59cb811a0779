/-
  What spec.PackScan and spec.PackRead answer and leave, where spec.l07At and spec.PackRight answer as told. Condition: at most 1,048,576 bytes.
-/
import Derived.Test.YtlmhdebjmkcanaaDoorZBlobA
import Derived.Test.YtlmhdebjmkcanaaDoorZRdA
namespace Go.Proofs.YtlmhdebjmkcanaaDoor.pack
open Go.RowKit Go.Joins
open Go.Proofs.YtlmhdebjmkcanaaDoor.base Go.Proofs.YtlmhdebjmkcanaaDoor.blk Go.Proofs.YtlmhdebjmkcanaaDoor.aid
open Go.Proofs.YtlmhdebjmkcanaaDoor.row (bl en Rd Own OwnV appSem app_fold app1)
open Go.Proofs.YtlmhdebjmkcanaaDoor.rdr (SPost appE appB own_v own_ge row_below)
set_option linter.unusedVariables false
attribute [local go_sem ↓] app_fold

theorem at_no {w w' : World} {s : ByteArray} {a : Nat} {e : Ending} (h : recAt s a = none) (hp : APost w s a e w') : ANo w e w' := by
  unfold APost at hp
  rw [h] at hp
  exact hp
theorem at_yes {w w' : World} {s : ByteArray} {a : Nat} {e : Ending} {k : Int} {q n : Nat} (h : recAt s a = some (k, q, n)) (hp : APost w s a e w') : AYes w s a k q n e w' := by
  unfold APost at hp
  rw [h] at hp
  exact hp

end Go.Proofs.YtlmhdebjmkcanaaDoor.pack
