/-
  What spec.l07At is asked to answer and to leave. No condition.
-/
import Derived.Test.YtppjbmmeacmoiaaDoorRecP
import Derived.Test.YtppjbmmeacmoiaaDoorBlobF
namespace Go.Proofs.YtppjbmmeacmoiaaDoor.pack
open Go.RowKit Go.Joins
open Go.Proofs.YtppjbmmeacmoiaaDoor.base Go.Proofs.YtppjbmmeacmoiaaDoor.blk Go.Proofs.YtppjbmmeacmoiaaDoor.aid
set_option linter.unusedVariables false

/-- no record is told -/
def ANo (w : World) (e : Ending) (w' : World) : Prop :=
  ∃ (x : ByteArray) (k p n : Int) (k' : Int) (t : ByteArray) (q : Int), e = .returned (.tuple #[.agg #[.string x, .int .i64 k, .int .i64 p, .int .i64 n], .agg #[.int .i64 k', .string t], .int .i64 q, .bool false]) ∧ Below w.heap.size w w'
def AYes (w : World) (s : ByteArray) (a : Nat) (k : Int) (q n : Nat) (e : Ending) (w' : World) : Prop :=
  e = .returned (.tuple #[.agg #[.string (keyAt s a), .int .i64 k, .int .i64 (q : Int), .int .i64 (n : Int)], .agg #[.int .i64 k, .string (s.extract q (q + n))], .int .i64 ((q + n : Nat) : Int), .bool true]) ∧ Below w.heap.size w w'
def APost (w : World) (s : ByteArray) (a : Nat) (e : Ending) (w' : World) : Prop :=
  match recAt s a with
  | none => ANo w e w'
  | some (k, q, n) => AYes w s a k q n e w'
theorem APost.no {w w' : World} {s : ByteArray} {a : Nat} {e : Ending} (h : recAt s a = none) (hp : ANo w e w') : APost w s a e w' := by
  unfold APost
  rw [h]
  exact hp
theorem APost.yes {w w' : World} {s : ByteArray} {a : Nat} {e : Ending} {k : Int} {q n : Nat} (h : recAt s a = some (k, q, n)) (hp : AYes w s a k q n e w') : APost w s a e w' := by
  unfold APost
  rw [h]
  exact hp

def IAt : Prop := ∀ (s : ByteArray) (a : Nat) (w : World), s.size ≤ 20000 → a ≤ s.size → Calls Tryd.prog 28 #[.string s, .int .i64 a] w (APost w s a)
end Go.Proofs.YtppjbmmeacmoiaaDoor.pack
