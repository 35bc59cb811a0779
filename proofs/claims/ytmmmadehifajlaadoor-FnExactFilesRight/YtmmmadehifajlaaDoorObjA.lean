/-
  Names of objects: what spec.NameRight and impl.NameRight, spec.ObjectRight and impl.ObjectRight answer, as a bool. Condition: a name of at most 1,048,576 bytes.
-/
import Derived.Test.YtmmmadehifajlaaDoorNameRight
import Derived.Test.YtmmmadehifajlaaDoorAid
import Derived.Lib.Strings
import Derived.Lib.Slices
import Derived.Lib.Walk
namespace Go.Proofs.YtmmmadehifajlaaDoor.obj
open Go.RowKit Go.Joins
open Go.Proofs.YtmmmadehifajlaaDoor.base Go.Proofs.YtmmmadehifajlaaDoor.blk Go.Proofs.YtmmmadehifajlaaDoor.aid
open Go.Proofs.YtmmmadehifajlaaDoor.fnExactNameRight (Right okAt Says)
set_option linter.unusedVariables false

def okDec (i : Nat) (c : UInt8) : Decidable (okAt i c) := by unfold okAt; exact inferInstance
def nameDec (s : ByteArray) : Decidable (Right s) :=
  haveI : ∀ i c, Decidable (okAt i c) := okDec
  by unfold Right; exact inferInstance
/-- a name is right -/
def nameB (s : ByteArray) : Bool := @decide (Right s) (nameDec s)
theorem nameB_iff (s : ByteArray) : nameB s = true ↔ Right s := ⟨fun h => @of_decide_eq_true (Right s) (nameDec s) h, fun h => @decide_eq_true (Right s) (nameDec s) h⟩
theorem says_name {s : ByteArray} {e : Ending} (h : Says (Right s) e) : e = .returned (.bool (nameB s)) := by
  obtain ⟨b, rfl, hb⟩ := h
  rw [← nameB_iff] at hb
  cases b <;> cases hn : nameB s <;> simp_all
theorem name_spec (s : ByteArray) (w : World) (hs : s.size ≤ 1048576) :
    Calls Tryd.prog 16 #[.string s] w fun e w' => e = .returned (.bool (nameB s)) ∧ w' = w :=
  (fnExactNameRight.spec_any s w (by unfold maxLen; omega)).mono (fun e w' h => ⟨says_name h.1, h.2⟩)
theorem name_impl (s : ByteArray) (w : World) (hs : s.size ≤ 1048576) :
    Calls Tryd.prog 18 #[.string s] w fun e w' => e = .returned (.bool (nameB s)) ∧ w' = w :=
  (fnExactNameRight.impl_any s w (by unfold maxLen; omega)).mono (fun e w' h => ⟨says_name h.1, h.2⟩)
theorem name_small {s : ByteArray} (h : nameB s = true) : 1 ≤ s.size ∧ s.size ≤ 80 := ⟨((nameB_iff s).1 h).1, ((nameB_iff s).1 h).2.1⟩

/-- begins with t- -/
def tagB (s : ByteArray) : Bool := decide (2 ≤ s.size) && ((s.extract 0 2).toList == [116, 45])
/-- an object's name -/
def objB (s : ByteArray) : Bool := nameB s && decide (s.size ≤ 60) && !tagB s

theorem objB_small {s : ByteArray} (h : objB s = true) : s.size ≤ 60 := by
  unfold objB at h
  simp at h
  omega
end Go.Proofs.YtmmmadehifajlaaDoor.obj
