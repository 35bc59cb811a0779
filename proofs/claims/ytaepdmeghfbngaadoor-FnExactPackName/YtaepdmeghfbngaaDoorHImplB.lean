/-
  What the program's HashRight and HashBegin are asked to answer and to leave, as the laws' walks take it. No condition.
-/
import Derived.Test.YtaepdmeghfbngaaDoorHRightS
import Derived.Test.YtaepdmeghfbngaaDoorHashes
namespace Go.Proofs.YtaepdmeghfbngaaDoor.himpl
open Go.RowKit Go.Joins
open Go.Proofs.YtaepdmeghfbngaaDoor.base Go.Proofs.YtaepdmeghfbngaaDoor.ints Go.Proofs.YtaepdmeghfbngaaDoor.blk Go.Proofs.YtaepdmeghfbngaaDoor.hashes
open Go.Proofs.YtaepdmeghfbngaaDoor.sha (hRight startL)
set_option linter.unusedVariables false

/-- what is there is new -/
def Fresh (w : World) (a : Option Addr) : Prop := ∀ b o s, a = some ⟨b, o, s⟩ → w.heap.size ≤ b
/-- a Hash of its own is the answer -/
def IPost (w : World) (o : List Int × ByteArray × Int) (e : Ending) (w' : World) : Prop :=
  ∃ a c, e = .returned (sha.hash a o.1.length c o.2.1 o.2.2) ∧ OwnV w' a o.1 ∧ Fresh w a ∧ Below w.heap.size w w'

def IRight : Prop := ∀ (b0 off cap : Nat) (zs : List Int) (r : ByteArray) (size : Int) (w : World), zs.length ≤ 1048576 → Rd w (some ⟨b0, off, none⟩) zs → r.size ≤ 1048576 → -9223372036854775808 ≤ size → size ≤ 9223372036854775807 →
  Calls Tryd.prog 19 #[sha.hash (some ⟨b0, off, none⟩) zs.length cap r size] w fun e w' => e = .returned (.bool (hRight zs r size)) ∧ Below w.heap.size w w'
def IBegin : Prop := ∀ (w : World), Calls Tryd.prog 16 #[] w fun e w' => IPost w (startL, ⟨#[]⟩, 0) e w'
end Go.Proofs.YtaepdmeghfbngaaDoor.himpl
