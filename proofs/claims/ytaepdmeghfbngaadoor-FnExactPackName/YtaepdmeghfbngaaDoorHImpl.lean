/-
  What the program's calls of chapter 6 are asked to answer and to leave, as the laws' walks take it. No condition.
-/
import Derived.Test.YtaepdmeghfbngaaDoorDigS
import Derived.Test.YtaepdmeghfbngaaDoorHImplB
namespace Go.Proofs.YtaepdmeghfbngaaDoor.himpl
open Go.RowKit Go.Joins
open Go.Proofs.YtaepdmeghfbngaaDoor.base Go.Proofs.YtaepdmeghfbngaaDoor.ints Go.Proofs.YtaepdmeghfbngaaDoor.blk
open Go.Proofs.YtaepdmeghfbngaaDoor.sha (hRight endH digest short moreH startL GV)
set_option linter.unusedVariables false

def IDigest : Prop := ∀ (t : ByteArray) (w : World), t.size ≤ 1048576 → GV w →
  Calls Tryd.prog 9 #[.string t] w fun e w' => e = .returned (.string (digest t)) ∧ Below w.heap.size w w'
def IEnd : Prop := ∀ (b0 off cap : Nat) (zs : List Int) (r : ByteArray) (size : Int) (w : World), zs.length ≤ 1048576 → Rd w (some ⟨b0, off, none⟩) zs → r.size ≤ 1048576 → -9223372036854775808 ≤ size → size ≤ 9223372036854775807 → GV w →
  Calls Tryd.prog 14 #[sha.hash (some ⟨b0, off, none⟩) zs.length cap r size] w fun e w' => e = .returned (.string (endH zs r size)) ∧ Below w.heap.size w w'
def IMore : Prop := ∀ (b0 off cap : Nat) (zs : List Int) (r t : ByteArray) (size : Int) (w : World), zs.length ≤ 1048576 → Rd w (some ⟨b0, off, none⟩) zs → b0 < w.heap.size → r.size ≤ 1048576 → t.size ≤ 1048576 → -9223372036854775808 ≤ size → size ≤ 9223372036854775807 → GV w →
  Calls Tryd.prog 15 #[sha.hash (some ⟨b0, off, none⟩) zs.length cap r size, .string t] w fun e w' => IPost w (moreH zs r size t) e w'
end Go.Proofs.YtaepdmeghfbngaaDoor.himpl
